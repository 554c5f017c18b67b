/-
  list.Kit by a contract.
-/
import Derived.Test.YtaafcmmmkalgjaaGreatDoorJCLaw
import Derived.Test.YtaafcmmmkalgjaaGreatDoorLKinds
import Derived.Test.YtaafcmmmkalgjaaGreatDoorLWork
import Derived.Test.YtaafcmmmkalgjaaGreatDoorCTItems
namespace Go.Proofs.YtaafcmmmkalgjaaGreatDoor.Nd
open Go.RowKit
def listPre : List UInt8 := [108, 105, 115, 116]
def listB : ByteArray := ⟨#[108, 105, 115, 116]⟩
theorem listWord : speltB wordI 16 listPre = true := by kernel_rfl
theorem goodL0 : GoodR listPre (kdRow listK[0]) where
  name := ⟨[111, 102], rfl, by kernel_rfl⟩
  nod := by decide
  word := listWord
  size := Nat.le_of_ble_eq_true rfl
  min := by decide
  max := .inl rfl
  text := ⟨by decide, by decide⟩
  names := by decide
  ord := by kernel_rfl
  len := Nat.le_of_ble_eq_true (by kernel_rfl)
theorem hasL0 : (listK[0]).has.size ≤ 4000 ∧ (listK[0]).has.data.toList.all (fun b => decide (b.toNat < 128)) = true := ⟨Nat.le_of_ble_eq_true rfl, by kernel_rfl⟩
theorem goodL1 : GoodR listPre (kdRow listK[1]) where
  name := ⟨[115, 105, 122, 101], rfl, by kernel_rfl⟩
  nod := by decide
  word := listWord
  size := Nat.le_of_ble_eq_true rfl
  min := by decide
  max := .inr ⟨by decide, by decide⟩
  text := ⟨by decide, by decide⟩
  names := by decide
  ord := by kernel_rfl
  len := Nat.le_of_ble_eq_true (by kernel_rfl)
theorem hasL1 : (listK[1]).has.size ≤ 4000 ∧ (listK[1]).has.data.toList.all (fun b => decide (b.toNat < 128)) = true := ⟨Nat.le_of_ble_eq_true rfl, by kernel_rfl⟩
theorem goodL2 : GoodR listPre (kdRow listK[2]) where
  name := ⟨[97, 116], rfl, by kernel_rfl⟩
  nod := by decide
  word := listWord
  size := Nat.le_of_ble_eq_true rfl
  min := by decide
  max := .inr ⟨by decide, by decide⟩
  text := ⟨by decide, by decide⟩
  names := by decide
  ord := by kernel_rfl
  len := Nat.le_of_ble_eq_true (by kernel_rfl)
theorem hasL2 : (listK[2]).has.size ≤ 4000 ∧ (listK[2]).has.data.toList.all (fun b => decide (b.toNat < 128)) = true := ⟨Nat.le_of_ble_eq_true rfl, by kernel_rfl⟩
theorem goodL3 : GoodR listPre (kdRow listK[3]) where
  name := ⟨[106, 111, 105, 110], rfl, by kernel_rfl⟩
  nod := by decide
  word := listWord
  size := Nat.le_of_ble_eq_true rfl
  min := by decide
  max := .inr ⟨by decide, by decide⟩
  text := ⟨by decide, by decide⟩
  names := by decide
  ord := by kernel_rfl
  len := Nat.le_of_ble_eq_true (by kernel_rfl)
theorem hasL3 : (listK[3]).has.size ≤ 4000 ∧ (listK[3]).has.data.toList.all (fun b => decide (b.toNat < 128)) = true := ⟨Nat.le_of_ble_eq_true rfl, by kernel_rfl⟩
theorem goodL4 : GoodR listPre (kdRow listK[4]) where
  name := ⟨[97, 100, 100], rfl, by kernel_rfl⟩
  nod := by decide
  word := listWord
  size := Nat.le_of_ble_eq_true rfl
  min := by decide
  max := .inr ⟨by decide, by decide⟩
  text := ⟨by decide, by decide⟩
  names := by decide
  ord := by kernel_rfl
  len := Nat.le_of_ble_eq_true (by kernel_rfl)
theorem hasL4 : (listK[4]).has.size ≤ 4000 ∧ (listK[4]).has.data.toList.all (fun b => decide (b.toNat < 128)) = true := ⟨Nat.le_of_ble_eq_true rfl, by kernel_rfl⟩
theorem goodL5 : GoodR listPre (kdRow listK[5]) where
  name := ⟨[99, 117, 116], rfl, by kernel_rfl⟩
  nod := by decide
  word := listWord
  size := Nat.le_of_ble_eq_true rfl
  min := by decide
  max := .inr ⟨by decide, by decide⟩
  text := ⟨by decide, by decide⟩
  names := by decide
  ord := by kernel_rfl
  len := Nat.le_of_ble_eq_true (by kernel_rfl)
theorem hasL5 : (listK[5]).has.size ≤ 4000 ∧ (listK[5]).has.data.toList.all (fun b => decide (b.toNat < 128)) = true := ⟨Nat.le_of_ble_eq_true rfl, by kernel_rfl⟩
theorem goodL6 : GoodR listPre (kdRow listK[6]) where
  name := ⟨[116, 117, 114, 110], rfl, by kernel_rfl⟩
  nod := by decide
  word := listWord
  size := Nat.le_of_ble_eq_true rfl
  min := by decide
  max := .inr ⟨by decide, by decide⟩
  text := ⟨by decide, by decide⟩
  names := by decide
  ord := by kernel_rfl
  len := Nat.le_of_ble_eq_true (by kernel_rfl)
theorem hasL6 : (listK[6]).has.size ≤ 4000 ∧ (listK[6]).has.data.toList.all (fun b => decide (b.toNat < 128)) = true := ⟨Nat.le_of_ble_eq_true rfl, by kernel_rfl⟩
theorem goodL7 : GoodR listPre (kdRow listK[7]) where
  name := ⟨[99, 111, 117, 110, 116], rfl, by kernel_rfl⟩
  nod := by decide
  word := listWord
  size := Nat.le_of_ble_eq_true rfl
  min := by decide
  max := .inr ⟨by decide, by decide⟩
  text := ⟨by decide, by decide⟩
  names := by decide
  ord := by kernel_rfl
  len := Nat.le_of_ble_eq_true (by kernel_rfl)
theorem hasL7 : (listK[7]).has.size ≤ 4000 ∧ (listK[7]).has.data.toList.all (fun b => decide (b.toNat < 128)) = true := ⟨Nat.le_of_ble_eq_true rfl, by kernel_rfl⟩
theorem goodL8 : GoodR listPre (kdRow listK[8]) where
  name := ⟨[109, 97, 112], rfl, by kernel_rfl⟩
  nod := by decide
  word := listWord
  size := Nat.le_of_ble_eq_true rfl
  min := by decide
  max := .inr ⟨by decide, by decide⟩
  text := ⟨by decide, by decide⟩
  names := by decide
  ord := by kernel_rfl
  len := Nat.le_of_ble_eq_true (by kernel_rfl)
theorem hasL8 : (listK[8]).has.size ≤ 4000 ∧ (listK[8]).has.data.toList.all (fun b => decide (b.toNat < 128)) = true := ⟨Nat.le_of_ble_eq_true rfl, by kernel_rfl⟩
theorem goodL9 : GoodR listPre (kdRow listK[9]) where
  name := ⟨[107, 101, 101, 112], rfl, by kernel_rfl⟩
  nod := by decide
  word := listWord
  size := Nat.le_of_ble_eq_true rfl
  min := by decide
  max := .inr ⟨by decide, by decide⟩
  text := ⟨by decide, by decide⟩
  names := by decide
  ord := by kernel_rfl
  len := Nat.le_of_ble_eq_true (by kernel_rfl)
theorem hasL9 : (listK[9]).has.size ≤ 4000 ∧ (listK[9]).has.data.toList.all (fun b => decide (b.toNat < 128)) = true := ⟨Nat.le_of_ble_eq_true rfl, by kernel_rfl⟩
theorem listGood : GoodK listPre listK where
  pos := by decide
  lim := by decide
  rows := by
    intro k hk
    obtain ⟨i, hi, rfl⟩ := List.getElem_of_mem hk
    have hl : listK.length = 10 := rfl
    rw [hl] at hi
    match i, hi with
    | 0, _ => exact goodL0
    | 1, _ => exact goodL1
    | 2, _ => exact goodL2
    | 3, _ => exact goodL3
    | 4, _ => exact goodL4
    | 5, _ => exact goodL5
    | 6, _ => exact goodL6
    | 7, _ => exact goodL7
    | 8, _ => exact goodL8
    | 9, _ => exact goodL9
    | n + 10, h => exact absurd h (by omega)
  has := by
    intro k hk
    obtain ⟨i, hi, rfl⟩ := List.getElem_of_mem hk
    have hl : listK.length = 10 := rfl
    rw [hl] at hi
    match i, hi with
    | 0, _ => exact hasL0
    | 1, _ => exact hasL1
    | 2, _ => exact hasL2
    | 3, _ => exact hasL3
    | 4, _ => exact hasL4
    | 5, _ => exact hasL5
    | 6, _ => exact hasL6
    | 7, _ => exact hasL7
    | 8, _ => exact hasL8
    | 9, _ => exact hasL9
    | n + 10, h => exact absurd h (by omega)
  nodup := by decide
  word := listWord

set_option maxRecDepth 100000 in
set_option maxHeartbeats 1000000 in
theorem listKit_any (w : World) (hl : Laid w) : Calls Tryz.prog 14 #[] w (CKitR w listB listK) := by
  have HL := hid hl
  clear hl
  go_enter Tryz.func14, Tryz.ntmps14
  go_wp2_with fail
  refine (kindsL_any w).mono ?_
  rintro e w1 ⟨rfl, hx1⟩
  have X1 := hid hx1
  clear hx1
  rw [listA_agg]
  have hsz : listC.size = 90 := listC_size
  go_wp2_with fail
  rw [storeL w1 _ _ rfl]
  simp only [Result.andThen_ok, Oper.upon_skip]
  have HT := hid (show TabAt (w1.alloc (.cells listC 77)) w1.heap.size listK from ⟨77, by rw [← listC_tab]; exact blk0 _ _⟩)
  go_wp2_with fail
  refine (ckit_any (pre := listPre) listB rfl w1.heap.size listK _ listGood HT.out (HL.out.later (X1.out.trans (Ext.alloc _ _)))).mono ?_
  rintro e w2 ⟨base, kb, mb, lv', bx, rfl, hkm, htab, hb, hx2⟩
  have HKM := hid hkm
  have HTB := hid htab
  have HX2 := hid ((X1.out.trans (Ext.alloc _ _)).trans hx2)
  have HBS := hid (Nat.le_trans (X1.out.trans (Ext.alloc w1 (.cells listC 77))).size hb)
  clear hkm hx2 hb htab
  go_wp2_with fail
  go_ret
  exact ⟨base, kb, mb, lv', bx, rfl, HKM.out, HTB.out, HBS.out, HX2.out⟩
  exact rfl
end Go.Proofs.YtaafcmmmkalgjaaGreatDoor.Nd
/-
  espalierlaw11.begun: it tells true.
-/
namespace Go.Proofs.YtaafcmmmkalgjaaGreatDoor.Nd
open Go.RowKit
theorem makeLEc {base kb mb : Nat} {lv : Value} (g cp bx : Nat) (w : World) (hkm : KitM w base kb mb listB (.func (.func 58) #[] #[.pointer (some ⟨bx, 0, none⟩)]) lv (listK.map kdRow)) (hb : w.heap[bx]? = some (.cells #[.slice (some ⟨g, 0, none⟩) listK.length cp] 80)) (hk : KRow w g listK) (w1 : World) (a : Option Addr) (c : Nat) (bs : Nat → Nat) (hxx : Ext w w1) (hh : HandsP w1 a 2 c (fun _ => 226) (fun i => .pointer (some ⟨bs i, 0, none⟩))) :
    Calls Tryz.prog 32 #[.pointer (some ⟨kb, 0, none⟩), .agg #[.string ⟨#[108, 105, 115, 116, 46, 109, 97, 112]⟩, .int .i64 0, .string ⟨#[120]⟩, .slice none 0 0], .slice a 2 c] w1 (GotR w1 (HeldN w1.heap.size 164 ⟨#[108, 105, 115, 116, 46, 109, 97, 112]⟩ 0 ⟨#[120]⟩ 2 bs)) :=
  jcmake_Ec listK g cp bx ⟨#[108, 105, 115, 116, 46, 109, 97, 112]⟩ ⟨#[120]⟩ 0 a none 0 0 2 c bs listK[8] w1 (hkm.later hxx) (by decide) (hxx.block hb) (hk.later hxx) (by kernel_rfl) rfl rfl (by decide) (by decide) 8 (by kernel_rfl) (by decide) (by decide) hh (by kernel_rfl) (by kernel_rfl) (by decide)

set_option maxRecDepth 100000 in
theorem lnum_any (n : Int) (w : World) : Calls Tryz.prog 16 #[.int .i64 n] w fun e w' => e = .returned (.agg #[.int .i64 3, .int .i64 n, .string ⟨#[]⟩, .slice none 0 0]) ∧ Ext w w' := by
  go_enter Tryz.func16, Tryz.ntmps16
  go_wp2_with fail
  obtain ⟨z0, z1, z2, z3⟩ := four_of (blk0 w (.cells #[.int .i64 3, .int .i64 n, .string ⟨#[]⟩, .slice none 0 0] 30))
  refine bodyPost_ret (v := .agg #[.int .i64 3, .int .i64 n, .string ⟨#[]⟩, .slice none 0 0]) (by simp [results, Tryz.results16, go_sem, z0, z1, z2, z3]) rfl ?_
  exact ⟨rfl, Ext.alloc _ _⟩
set_option maxRecDepth 100000 in
theorem lof_any (a : Option Addr) (l c : Nat) (w : World) : Calls Tryz.prog 17 #[.slice a l c] w fun e w' => e = .returned (.agg #[.int .i64 5, .int .i64 0, .string ⟨#[]⟩, .slice a l c]) ∧ Ext w w' := by
  go_enter Tryz.func17, Tryz.ntmps17
  go_wp2_with fail
  obtain ⟨z0, z1, z2, z3⟩ := four_of (blk0 w (.cells #[.int .i64 5, .int .i64 0, .string ⟨#[]⟩, .slice a l c] 30))
  refine bodyPost_ret (v := .agg #[.int .i64 5, .int .i64 0, .string ⟨#[]⟩, .slice a l c]) (by simp [results, Tryz.results17, go_sem, z0, z1, z2, z3]) rfl ?_
  exact ⟨rfl, Ext.alloc _ _⟩
theorem intRd (K : Nat → Prop) (w : World) (n : Int) : Rd K w 1 (.agg #[.int .i64 3, .int .i64 n, .string ⟨#[]⟩, .slice none 0 0]) (intT n) := ⟨none, 0, rfl, by decide, by decide, .inl rfl⟩
theorem emptyRd (K : Nat → Prop) (w : World) : Rd K w 1 (.agg #[.int .i64 5, .int .i64 0, .string ⟨#[]⟩, .slice none 0 0]) (listT []) := ⟨none, 0, rfl, by decide, by decide, .inl rfl⟩
theorem prowR1 {w : World} {g : Nat} {ty : TypeId} {K : Nat → Prop} {d : Nat} {u0 u1 u2 u3 : Value} {t : T} (h : w.heap[g]? = some (.cells #[u0, u1, u2, u3] ty)) (hr : Rd K w d (.agg #[u0, u1, u2, u3]) t) : PRow w (some ⟨g, 0, none⟩) [t] := by
  refine .inr ⟨g, 0, rfl, fun j hj => ?_⟩
  match j, hj with
  | 0, _ => exact ⟨K, d, _, _, _, _, ⟨cell_of h rfl, cell_of h rfl, cell_of h rfl, cell_of h rfl⟩, hr⟩
  | n + 1, h => exact absurd h (by simp)
theorem prowR2 {w : World} {g : Nat} {ty : TypeId} {K K' : Nat → Prop} {d d' : Nat} {u0 u1 u2 u3 v0 v1 v2 v3 : Value} {t t' : T} (h : w.heap[g]? = some (.cells #[u0, u1, u2, u3, v0, v1, v2, v3] ty)) (hr : Rd K w d (.agg #[u0, u1, u2, u3]) t) (hr' : Rd K' w d' (.agg #[v0, v1, v2, v3]) t') : PRow w (some ⟨g, 0, none⟩) [t, t'] := by
  refine .inr ⟨g, 0, rfl, fun j hj => ?_⟩
  match j, hj with
  | 0, _ => exact ⟨K, d, _, _, _, _, ⟨cell_of h rfl, cell_of h rfl, cell_of h rfl, cell_of h rfl⟩, hr⟩
  | 1, _ => exact ⟨K', d', _, _, _, _, ⟨cell_of h rfl, cell_of h rfl, cell_of h rfl, cell_of h rfl⟩, hr'⟩
  | n + 2, h => exact absurd h (by simp)
theorem twoRd {w : World} {g : Nat} {ty : TypeId} {m n : Int} (h : w.heap[g]? = some (.cells #[.int .i64 3, .int .i64 m, .string ⟨#[]⟩, .slice none 0 0, .int .i64 3, .int .i64 n, .string ⟨#[]⟩, .slice none 0 0] ty)) : Rd (fun _ => True) w 2 (.agg #[.int .i64 5, .int .i64 0, .string ⟨#[]⟩, .slice (some ⟨g, 0, none⟩) 2 2]) (listT [intT m, intT n]) := by
  refine ⟨some ⟨g, 0, none⟩, 2, rfl, by decide, (show 2 * 56 ≤ 140737488351232 by decide), .inr ⟨g, 0, rfl, trivial, fun j hj => ?_⟩⟩
  match j, hj with
  | 0, _ => exact ⟨_, _, _, _, ⟨cell_of h rfl, cell_of h rfl, cell_of h rfl, cell_of h rfl⟩, intRd _ _ _⟩
  | 1, _ => exact ⟨_, _, _, _, ⟨cell_of h rfl, cell_of h rfl, cell_of h rfl, cell_of h rfl⟩, intRd _ _ _⟩
  | n + 2, h => exact absurd h (by simp)
theorem numsLater {w w' : World} {b m : Nat} (h : NumsAt w b m) (hx : Ext w w') : NumsAt w' b m := by
  obtain ⟨cs, h5, h6, h7⟩ := h
  exact ⟨cs, hx.block h5, h6, h7⟩
attribute [local go_sem] isEcLazy isEcBinder isEcStrict
set_option maxRecDepth 100000 in
set_option maxHeartbeats 4000000 in
theorem begunL_any (w : World) (hl : Laid w) (hm : MaxAt w) : Calls Tryz.prog 5 #[] w fun e w' => e = .returned (.bool true) ∧ Ext w w' := by
  have HK := hid (listKit_any w hl)
  have HM := hid hm
  clear hl hm
  go_enter Tryz.func5, Tryz.ntmps5
  go_wp2_with fail
  refine HK.out.mono ?_
  rintro e w1 ⟨base, kb, mb, lv', bx, rfl, hkm, ⟨g, cp, htb, hkr⟩, _, hx1⟩
  have X1 := hid hx1
  have HEC := hid (lawMadeL _ kb _ ⟨#[120]⟩ 2 w1 (by decide) (fun w2 a c bs hx hh => makeLEc g cp bx w1 hkm htb hkr w2 a c bs hx hh))
  clear hx1 hkm htb hkr
  go_wp2_with fail
  refine HEC.out.mono ?_
  rintro e w2 ⟨b1, a1, c1, rfl, hn1, hx2⟩
  have X2 := hid (X1.out.trans hx2)
  clear hx2 hn1
  go_wp2_with fail
  refine (lnum_any 2 _).mono ?_
  rintro e w3 ⟨rfl, hx3⟩
  have X3 := hid (X2.out.trans hx3)
  clear hx3
  go_wp2_with fail
  refine (lwCount 2 _ _ _ (HM.out.later (X3.out.trans (Ext.alloc _ _))) (prowR1 (blk0 w3 _) (intRd (fun _ => True) _ 2))).mono ?_
  rintro e w4 ⟨V, rfl, hv, hx4⟩
  have X4 := hid (X3.out.trans ((Ext.alloc _ _).trans hx4))
  clear hx4
  obtain ⟨bb, rfl, hN⟩ : ∃ bb, V = .tuple #[.iface 81 (.slice (some ⟨bb, 0, none⟩) 2 2), .int .i64 0, .string ⟨#[]⟩] ∧ NumsAt w4 bb 2 := by
    rcases hv with ⟨c0, h, _⟩ | ⟨m, bb, hm, h, hv, hn⟩
    · exact absurd h (by unfold countF; rw [if_neg (by decide), if_neg (by decide)]; intro h; cases h)
    · obtain rfl : m = 2 := by omega
      exact ⟨bb, hv, hn⟩
  have HN := hid hN
  clear hv hN
  go_wp2_with fail
  refine (lof_any none 0 0 _).mono ?_
  rintro e w5 ⟨rfl, hx5⟩
  have Y5 := hid hx5
  have X5 := hid (X4.out.trans hx5)
  clear hx5
  go_wp2_with fail
  refine (lnum_any 0 _).mono ?_
  rintro e w6 ⟨rfl, hx6⟩
  have Y6 := hid (Y5.out.trans hx6)
  have X6 := hid (X5.out.trans hx6)
  clear hx6
  go_wp2_with fail
  refine (lwAt _ _ _ (HM.out.later (X6.out.trans (Ext.alloc _ _))) (prowR2 (blk0 w6 _) (emptyRd (fun _ => True) _) (intRd (fun _ => True) _ 0))).mono ?_
  rintro e w7 ⟨rfl, hx7⟩
  have Y7 := hid (Y6.out.trans ((Ext.alloc _ _).trans hx7))
  have X7 := hid (X6.out.trans ((Ext.alloc _ _).trans hx7))
  clear hx7
  unfold refX
  go_wp2_with fail
  refine (lnum_any 1 _).mono ?_
  rintro e w8 ⟨rfl, hx8⟩
  have Y8 := hid (Y7.out.trans hx8)
  have X8 := hid (X7.out.trans hx8)
  clear hx8
  go_wp2_with fail
  refine (lwSize 1 _ _ _ (HM.out.later (X8.out.trans (Ext.alloc _ _))) (prowR1 (blk0 w8 _) (intRd (fun _ => True) _ 1))).mono ?_
  rintro e w9 ⟨rfl, hx9⟩
  have Y9 := hid (Y8.out.trans ((Ext.alloc _ _).trans hx9))
  have X9 := hid (X8.out.trans ((Ext.alloc _ _).trans hx9))
  clear hx9
  unfold refX
  go_wp2_with fail
  refine (lnum_any 0 _).mono ?_
  rintro e wa ⟨rfl, hxa⟩
  have Ya := hid (Y9.out.trans hxa)
  have Xa := hid (X9.out.trans hxa)
  clear hxa
  go_wp2_with fail
  refine (lnum_any 1 _).mono ?_
  rintro e wb ⟨rfl, hxb⟩
  have Yb := hid (Ya.out.trans hxb)
  have Xb := hid (Xa.out.trans hxb)
  clear hxb
  go_wp2_with fail
  refine (lof_any _ 2 2 _).mono ?_
  rintro e wd ⟨rfl, hxd⟩
  have HT := hid (twoRd (hxd.block (blk0 wb _)))
  have Yd := hid (Yb.out.trans ((Ext.alloc _ _).trans hxd))
  have Xd := hid (Xb.out.trans ((Ext.alloc _ _).trans hxd))
  clear hxd
  have HIS := hid (is_any wd (upT_vrd (m := 2) (numsLater HN.out Yd.out) (by decide)) HT.out (by rw [show upT 2 = listT [intT 0, intT 1] from rfl]; simp [listT, intT, T.nodes, T.nodesL]) (by rw [show upT 2 = listT [intT 0, intT 1] from rfl]; simp [listT, intT, T.deep, T.deepL]))
  rw [show upT 2 = listT [intT 0, intT 1] from rfl, (T.beq_eq _ _).2 rfl] at HIS
  go_wp2_with fail
  refine HIS.out.mono ?_
  rintro e we ⟨rfl, hxe⟩
  have Xe := hid (Xd.out.trans hxe)
  clear hxe
  go_wp2_with fail
  go_ret
  exact ⟨rfl, Xe.out⟩
end Go.Proofs.YtaafcmmmkalgjaaGreatDoor.Nd
