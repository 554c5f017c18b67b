/-
  espalierlaw15.begun: it tells true.
-/
import Derived.Test.YtnmcmjgfnncdmabGreatDoorGKit
import Derived.Test.YtnmcmjgfnncdmabGreatDoorGBoth
namespace Go.Proofs.YtnmcmjgfnncdmabGreatDoor.Nd
open Go.RowKit
theorem absGCt : ∀ j, j < 14 → hasCt j = inS (nmQ j) ((guardK.map kdRow)[3]'(by decide)).abs
  | 0, _ => by kernel_rfl
  | 1, _ => by kernel_rfl
  | 2, _ => by kernel_rfl
  | 3, _ => by kernel_rfl
  | 4, _ => by kernel_rfl
  | 5, _ => by kernel_rfl
  | 6, _ => by kernel_rfl
  | 7, _ => by kernel_rfl
  | 8, _ => by kernel_rfl
  | 9, _ => by kernel_rfl
  | 10, _ => by kernel_rfl
  | 11, _ => by kernel_rfl
  | 12, _ => by kernel_rfl
  | 13, _ => by kernel_rfl
  | n + 14, h => absurd h (by omega)
theorem makeGCt {base kb mb : Nat} {lv : Value} (g cp bx : Nat) (w : World) (hkm : KitM w base kb mb guardB (.func (.func 39) #[] #[.pointer (some ⟨bx, 0, none⟩)]) lv (guardK.map kdRow)) (hb : w.heap[bx]? = some (.cells #[.slice (some ⟨g, 0, none⟩) guardK.length cp] 71)) (hk : KRow w g guardK) (w1 : World) (a : Option Addr) (c : Nat) (bs : Nat → Nat) (hxx : Ext w w1) (hh : HandsP w1 a 2 c (fun _ => 202) (fun i => .pointer (some ⟨bs i, 0, none⟩))) :
    Calls Tryz.prog 20 #[.pointer (some ⟨kb, 0, none⟩), .agg #[.string ⟨#[103, 117, 97, 114, 100, 46, 99, 97, 116, 99, 104]⟩, .int .i64 0, .string ⟨#[101]⟩, .slice none 0 0], .slice a 2 c] w1 (MakeR w1 142 ⟨#[103, 117, 97, 114, 100, 46, 99, 97, 116, 99, 104]⟩ ⟨#[101]⟩ 2 bs) :=
  makeK_Ct guardK g cp bx ⟨#[103, 117, 97, 114, 100, 46, 99, 97, 116, 99, 104]⟩ ⟨#[101]⟩ a none 0 0 2 c bs guardK[3] w1 (hkm.later hxx) (by decide) (hxx.block hb) (hk.later hxx) (by kernel_rfl) rfl rfl (by decide) hh (by decide) (by decide) 3 (by kernel_rfl) (by decide) rfl rfl (.inr rfl) (by decide) (.inr (by decide)) (by kernel_rfl) (by decide) absGCt
theorem absGRs : ∀ j, j < 14 → hasRs j = inS (nmQ j) ((guardK.map kdRow)[0]'(by decide)).abs
  | 0, _ => by kernel_rfl
  | 1, _ => by kernel_rfl
  | 2, _ => by kernel_rfl
  | 3, _ => by kernel_rfl
  | 4, _ => by kernel_rfl
  | 5, _ => by kernel_rfl
  | 6, _ => by kernel_rfl
  | 7, _ => by kernel_rfl
  | 8, _ => by kernel_rfl
  | 9, _ => by kernel_rfl
  | 10, _ => by kernel_rfl
  | 11, _ => by kernel_rfl
  | 12, _ => by kernel_rfl
  | 13, _ => by kernel_rfl
  | n + 14, h => absurd h (by omega)
theorem makeGRs {base kb mb : Nat} {lv : Value} (g cp bx : Nat) (w : World) (hkm : KitM w base kb mb guardB (.func (.func 39) #[] #[.pointer (some ⟨bx, 0, none⟩)]) lv (guardK.map kdRow)) (hb : w.heap[bx]? = some (.cells #[.slice (some ⟨g, 0, none⟩) guardK.length cp] 71)) (hk : KRow w g guardK) (w1 : World) (a : Option Addr) (c : Nat) (bs : Nat → Nat) (hxx : Ext w w1) (hh : HandsP w1 a 1 c (fun _ => 202) (fun i => .pointer (some ⟨bs i, 0, none⟩))) :
    Calls Tryz.prog 20 #[.pointer (some ⟨kb, 0, none⟩), .agg #[.string ⟨#[103, 117, 97, 114, 100, 46, 114, 97, 105, 115, 101]⟩, .int .i64 0, .string ⟨#[]⟩, .slice none 0 0], .slice a 1 c] w1 (MakeR w1 131 ⟨#[103, 117, 97, 114, 100, 46, 114, 97, 105, 115, 101]⟩ ⟨#[]⟩ 1 bs) :=
  makeK_Rs guardK g cp bx ⟨#[103, 117, 97, 114, 100, 46, 114, 97, 105, 115, 101]⟩ ⟨#[]⟩ a none 0 0 1 c bs guardK[0] w1 (hkm.later hxx) (by decide) (hxx.block hb) (hk.later hxx) (by kernel_rfl) rfl rfl (by decide) hh (by decide) (by decide) 0 (by kernel_rfl) (by decide) rfl rfl (.inl rfl) (by decide) (.inr (by decide)) (by kernel_rfl) (by decide) absGRs

theorem eq_nil_nil1 (w : World) : (binOp .eql 33 .nilIface .nilIface).run Tryz.prog w = .ok (.bool true) w := by kernel_rfl
theorem prow1 {w : World} {g : Nat} {ty : TypeId} {k0 n0 : Int} {x : ByteArray} (h : w.heap[g]? = some (.cells #[.int .i64 k0, .int .i64 n0, .string x, .slice none 0 0] ty)) (hx : x.size ≤ 140737488351232) : PRow w (some ⟨g, 0, none⟩) [.node k0 n0 x []] := by
  refine .inr ⟨g, 0, rfl, fun j hj => ?_⟩
  match j, hj with
  | 0, _ => exact ⟨fun _ => True, 1, _, _, _, _, ⟨cell_of h rfl, cell_of h rfl, cell_of h rfl, cell_of h rfl⟩, ⟨none, 0, rfl, hx, by decide, .inl rfl⟩⟩
  | n + 1, h => exact absurd h (by simp)
attribute [local go_sem] isCtLazy isCtBinder isRsPure eq_nil_nil1
set_option maxRecDepth 100000 in
set_option maxHeartbeats 4000000 in
theorem begunG_any (w : World) (hl : Laid w) (hm : MaxAt w) : Calls Tryz.prog 5 #[] w fun e w' => e = .returned (.bool true) ∧ Ext w w' := by
  have HK := hid (guardKit_any w hl)
  have HM := hid hm
  clear hl hm
  go_enter Tryz.func5, Tryz.ntmps5
  go_wp2_with fail
  refine HK.out.mono ?_
  rintro e w1 ⟨base, kb, mb, lv', bx, rfl, hkm, ⟨g, cp, htb, hkr⟩, _, hx1⟩
  have X1 := hid hx1
  have HCT := hid (lawMadeG _ kb _ ⟨#[101]⟩ 2 w1 (by decide) (fun w2 a c bs hx hh => makeGCt g cp bx w1 hkm htb hkr w2 a c bs hx hh))
  have HRS := hid (fun w2 (hx2 : Ext w1 w2) => lawMadeG _ kb _ ⟨#[]⟩ 1 w2 (by decide) (fun w3 a c bs hx hh => makeGRs g cp bx w1 hkm htb hkr w3 a c bs (hx2.trans hx) hh))
  clear hx1 hkm htb hkr
  go_wp2_with fail
  refine HCT.out.mono ?_
  rintro e w2 ⟨b1, a1, c1, rfl, hn1, hx2⟩
  have X2 := hid hx2
  clear hx2 hn1
  go_wp2_with fail
  refine (HRS.out _ X2.out).mono ?_
  rintro e w3 ⟨b2, a2, c2, rfl, hn2, hx3⟩
  have X3 := hid (X1.out.trans (X2.out.trans hx3))
  clear hx3 hn2
  go_wp2_with fail
  refine (gw_raise ⟨#[110, 111]⟩ (by decide) _ _ _ (HM.out.later (X3.out.trans (Ext.alloc _ _))) (prow1 (blk0 w3 _) (by decide))).mono ?_
  rintro e w4 ⟨rfl, hx4⟩
  have X4 := hid (X3.out.trans ((Ext.alloc _ _).trans hx4))
  clear hx4
  unfold refX
  go_wp2_with fail
  go_ret
  exact ⟨rfl, X4.out⟩
end Go.Proofs.YtnmcmjgfnncdmabGreatDoor.Nd
