/-
  call.Kit by a contract; espalierlaw13.begun: it tells true.
-/
import Derived.Test.YtnnonlnhgpplhaaGreatDoorBLaw
namespace Go.Proofs.YtnnonlnhgpplhaaGreatDoor.Nd
open Go.RowKit
/-- The kit call. -/
def callK : List Kd := [
  ⟨⟨#[99, 97, 108, 108, 46, 116, 111]⟩, 0, -1, 2, ⟨#[67, 97, 108, 108, 101, 114]⟩, ⟨#[]⟩, 79, none, false⟩,
  ⟨⟨#[99, 97, 108, 108, 46, 98, 121]⟩, 2, 2, 2, ⟨#[66, 105, 110, 100, 101, 114, 32, 67, 97, 108, 108, 101, 114]⟩, ⟨#[]⟩, 80, none, false⟩]
def callC : Array Value := #[.string ⟨#[99, 97, 108, 108, 46, 116, 111]⟩, .int .i64 0, .int .i64 (-1), .int .i64 2, .string ⟨#[67, 97, 108, 108, 101, 114]⟩, .string ⟨#[]⟩, .func (.func 79) #[] #[], .nilFunc, .bool false, .string ⟨#[99, 97, 108, 108, 46, 98, 121]⟩, .int .i64 2, .int .i64 2, .int .i64 2, .string ⟨#[66, 105, 110, 100, 101, 114, 32, 67, 97, 108, 108, 101, 114]⟩, .string ⟨#[]⟩, .func (.func 80) #[] #[], .nilFunc, .bool false]
theorem callC_tab : callC = (tabL callK).toArray := rfl
def callPre : List UInt8 := [99, 97, 108, 108]
def callB : ByteArray := ⟨#[99, 97, 108, 108]⟩
theorem callWord : speltB wordI 16 callPre = true := by kernel_rfl
theorem goodC0 : GoodR callPre (kdRow callK[0]) where
  name := ⟨[116, 111], rfl, by kernel_rfl⟩
  nod := by decide
  word := callWord
  size := Nat.le_of_ble_eq_true rfl
  min := by decide
  max := .inl rfl
  text := ⟨by decide, by decide⟩
  names := by decide
  ord := by kernel_rfl
  len := Nat.le_of_ble_eq_true (by kernel_rfl)
theorem hasC0 : (callK[0]).has.size ≤ 4000 ∧ (callK[0]).has.data.toList.all (fun b => decide (b.toNat < 128)) = true := ⟨Nat.le_of_ble_eq_true rfl, by kernel_rfl⟩
theorem goodC1 : GoodR callPre (kdRow callK[1]) where
  name := ⟨[98, 121], rfl, by kernel_rfl⟩
  nod := by decide
  word := callWord
  size := Nat.le_of_ble_eq_true rfl
  min := by decide
  max := .inr ⟨by decide, by decide⟩
  text := ⟨by decide, by decide⟩
  names := by decide
  ord := by kernel_rfl
  len := Nat.le_of_ble_eq_true (by kernel_rfl)
theorem hasC1 : (callK[1]).has.size ≤ 4000 ∧ (callK[1]).has.data.toList.all (fun b => decide (b.toNat < 128)) = true := ⟨Nat.le_of_ble_eq_true rfl, by kernel_rfl⟩
theorem callGood : GoodK callPre callK where
  pos := by decide
  lim := by decide
  rows := by
    intro k hk
    obtain ⟨i, hi, rfl⟩ := List.getElem_of_mem hk
    have hl : callK.length = 2 := rfl
    rw [hl] at hi
    match i, hi with
    | 0, _ => exact goodC0
    | 1, _ => exact goodC1
    | n + 2, h => exact absurd h (by omega)
  has := by
    intro k hk
    obtain ⟨i, hi, rfl⟩ := List.getElem_of_mem hk
    have hl : callK.length = 2 := rfl
    rw [hl] at hi
    match i, hi with
    | 0, _ => exact hasC0
    | 1, _ => exact hasC1
    | n + 2, h => exact absurd h (by omega)
  nodup := by decide
  word := callWord
set_option maxRecDepth 100000 in
theorem kindsC_any (w : World) : Calls Tryz.prog 43 #[] w fun e w' => e = .returned (.slice (some ⟨w.heap.size, 0, none⟩) 2 2) ∧ w' = w.alloc (.cells callC 90) := by
  have hmf : ∀ (fn : Fn) (first cap : Array Value) (w : World), (Instr.makeFunc fn first cap).run Tryz.prog w = .ok (.func fn first cap) w := fun _ _ _ _ => rfl
  go_enter Tryz.func43, Tryz.ntmps43
  go_wp2_with fail
  go_ret
  exact ⟨rfl, rfl⟩
set_option maxRecDepth 100000 in
theorem callKit_any (w : World) (hl : Laid w) : Calls Tryz.prog 17 #[] w (CKitR w callB callK) := by
  have HL := hid hl
  clear hl
  go_enter Tryz.func17, Tryz.ntmps17
  go_wp2_with fail
  refine (kindsC_any w).mono ?_
  rintro e w1 ⟨rfl, hw1⟩
  have X1 := hid (show Ext w w1 from hw1 ▸ Ext.alloc _ _)
  have HT := hid (show TabAt w1 w.heap.size callK from ⟨90, by rw [← callC_tab]; exact hw1 ▸ blk0 _ _⟩)
  clear hw1
  go_wp2_with fail
  refine (ckit_any (pre := callPre) callB rfl w.heap.size callK _ callGood HT.out (HL.out.later X1.out)).mono ?_
  rintro e w2 ⟨base, kb, mb, lv', bx, rfl, hkm, htab, hb, hx2⟩
  have HKM := hid hkm
  have HTB := hid htab
  have HX2 := hid (X1.out.trans hx2)
  have HBS := hid (Nat.le_trans X1.out.size hb)
  clear hkm hx2 hb htab
  go_wp2_with fail
  go_ret
  exact ⟨base, kb, mb, lv', bx, rfl, HKM.out, HTB.out, HBS.out, HX2.out⟩
theorem absTo : ∀ j, j < 14 → hasTo j = inS (nmQ j) ((callK.map kdRow)[0]'(by decide)).abs
  | 0, _ => by kernel_rfl
  | 1, _ => by kernel_rfl
  | 2, _ => by kernel_rfl
  | 3, _ => by kernel_rfl
  | 4, _ => by kernel_rfl
  | 5, _ => by kernel_rfl
  | 6, _ => by kernel_rfl
  | 7, _ => by kernel_rfl
  | 8, _ => by kernel_rfl
  | 9, _ => by kernel_rfl
  | 10, _ => by kernel_rfl
  | 11, _ => by kernel_rfl
  | 12, _ => by kernel_rfl
  | 13, _ => by kernel_rfl
  | n + 14, h => absurd h (by omega)
/-- Make of the kit call, of a name that fits. -/
theorem makeTo {base kb mb : Nat} {lv : Value} (nk : Nat) (hnk : nk ≤ 1000) (g cp bx : Nat) (x : ByteArray) (hx : speltB nameI 32 x.data.toList = true) (hxs : x.size ≤ 16384) (w : World) (hkm : KitM w base kb mb callB (.func (.func 75) #[] #[.pointer (some ⟨bx, 0, none⟩)]) lv (callK.map kdRow)) (hb : w.heap[bx]? = some (.cells #[.slice (some ⟨g, 0, none⟩) callK.length cp] 94)) (hk : KRow w g callK) (w1 : World) (a : Option Addr) (c : Nat) (bs : Nat → Nat) (hxx : Ext w w1) (hh : HandsP w1 a nk c (fun _ => 328) (fun i => .pointer (some ⟨bs i, 0, none⟩))) :
    Calls Tryz.prog 19 #[.pointer (some ⟨kb, 0, none⟩), .agg #[.string ⟨#[99, 97, 108, 108, 46, 116, 111]⟩, .int .i64 0, .string x, .slice none 0 0], .slice a nk c] w1 (MakeR w1 228 ⟨#[99, 97, 108, 108, 46, 116, 111]⟩ x nk bs) :=
  makeK_To callK g cp bx ⟨#[99, 97, 108, 108, 46, 116, 111]⟩ x a none 0 0 nk c bs callK[0] w1 (hkm.later hxx) (by decide) (hxx.block hb) (hk.later hxx) (by kernel_rfl) rfl rfl (by omega) hh (by decide) (by omega) 0 (by kernel_rfl) (by decide) rfl rfl (.inr rfl) (Int.natCast_nonneg _) (.inl rfl) (by
    show fitQ 2 x = 0
    unfold fitQ takesB
    rw [if_neg (by omega), if_pos rfl, hx]
    rfl) (by decide) absTo
theorem absBy : ∀ j, j < 14 → hasBy j = inS (nmQ j) ((callK.map kdRow)[1]'(by decide)).abs
  | 0, _ => by kernel_rfl
  | 1, _ => by kernel_rfl
  | 2, _ => by kernel_rfl
  | 3, _ => by kernel_rfl
  | 4, _ => by kernel_rfl
  | 5, _ => by kernel_rfl
  | 6, _ => by kernel_rfl
  | 7, _ => by kernel_rfl
  | 8, _ => by kernel_rfl
  | 9, _ => by kernel_rfl
  | 10, _ => by kernel_rfl
  | 11, _ => by kernel_rfl
  | 12, _ => by kernel_rfl
  | 13, _ => by kernel_rfl
  | n + 14, h => absurd h (by omega)
/-- Make of the kit call, of a name that fits. -/
theorem makeBy {base kb mb : Nat} {lv : Value} (g cp bx : Nat) (x : ByteArray) (hx : speltB nameI 32 x.data.toList = true) (hxs : x.size ≤ 16384) (w : World) (hkm : KitM w base kb mb callB (.func (.func 75) #[] #[.pointer (some ⟨bx, 0, none⟩)]) lv (callK.map kdRow)) (hb : w.heap[bx]? = some (.cells #[.slice (some ⟨g, 0, none⟩) callK.length cp] 94)) (hk : KRow w g callK) (w1 : World) (a : Option Addr) (c : Nat) (bs : Nat → Nat) (hxx : Ext w w1) (hh : HandsP w1 a 2 c (fun _ => 328) (fun i => .pointer (some ⟨bs i, 0, none⟩))) :
    Calls Tryz.prog 19 #[.pointer (some ⟨kb, 0, none⟩), .agg #[.string ⟨#[99, 97, 108, 108, 46, 98, 121]⟩, .int .i64 0, .string x, .slice none 0 0], .slice a 2 c] w1 (MakeR w1 231 ⟨#[99, 97, 108, 108, 46, 98, 121]⟩ x 2 bs) :=
  makeK_By callK g cp bx ⟨#[99, 97, 108, 108, 46, 98, 121]⟩ x a none 0 0 2 c bs callK[1] w1 (hkm.later hxx) (by decide) (hxx.block hb) (hk.later hxx) (by kernel_rfl) rfl rfl (by decide) hh (by decide) (by omega) 1 (by kernel_rfl) (by decide) rfl rfl (.inr rfl) (by decide) (.inr (by decide)) (by
    show fitQ 2 x = 0
    unfold fitQ takesB
    rw [if_neg (by omega), if_pos rfl, hx]
    rfl) (by decide) absBy

end Go.Proofs.YtnnonlnhgpplhaaGreatDoor.Nd
/-
  espalierlaw13.begun: it tells true.
-/
namespace Go.Proofs.YtnnonlnhgpplhaaGreatDoor.Nd
open Go.RowKit
theorem mToCalls (b : Nat) (w : World) : (method 535 228 (.pointer (some ⟨b, 0, none⟩)) "Calls").run Tryz.prog w = .ok (250, .pointer (some ⟨b, 0, none⟩)) w := by kernel_rfl

theorem calls_any (b : Nat) (x : ByteArray) (w : World) (h : w.cell? ⟨b, 2, none⟩ = some (.string x)) : Calls Tryz.prog 250 #[.pointer (some ⟨b, 0, none⟩)] w fun e w' => e = .returned (.string x) ∧ w' = w := by
  have HB := hid (bText b x w h)
  have hbl := lt_of_cell h
  clear h
  go_enter Tryz.func250, Tryz.ntmps250
  go_wp2_with fail
  refine HB.out.mono ?_
  rintro e w1 ⟨rfl, rfl⟩
  go_wp2_with fail
  go_ret
  exact ⟨rfl, rfl⟩
theorem callWork_any (op : ByteArray) (a : Option Addr) (n c : Nat) (w : World) : Calls Tryz.prog 39 #[.string op, .slice a n c] w fun e w' => e = .returned (.tuple #[.nilIface, .int .i64 1, .string ⟨#[]⟩]) ∧ w' = w := by
  go_enter Tryz.func39, Tryz.ntmps39
  go_wp2_with fail
  go_ret3
  exact ⟨rfl, rfl⟩
attribute [local go_sem] isByCaller isByBinder isToCaller isToBinder mToCalls
set_option maxRecDepth 100000 in
set_option maxHeartbeats 4000000 in
theorem begunC_any (w : World) (hl : Laid w) : Calls Tryz.prog 15 #[] w fun e w' => e = .returned (.bool true) ∧ Ext w w' := by
  have HK := hid (callKit_any w hl)
  clear hl
  go_enter Tryz.func15, Tryz.ntmps15
  go_wp2_with fail
  refine HK.out.mono ?_
  rintro e w1 ⟨base, kb, mb, lv', bx, rfl, hkm, ⟨g, cp, htb, hkr⟩, _, hx1⟩
  have X1 := hid hx1
  have HBY := hid (lawMadeC _ kb _ ⟨#[120]⟩ 2 w1 (by decide) (fun w2 a c bs hx hh => makeBy g cp bx ⟨#[120]⟩ (by kernel_rfl) (by decide) w1 hkm htb hkr w2 a c bs hx hh))
  have HTO := hid (fun w2 (hx2 : Ext w1 w2) => lawMadeC _ kb _ ⟨#[102]⟩ 0 w2 (by decide) (fun w3 a c bs hx hh => makeTo 0 (by decide) g cp bx ⟨#[102]⟩ (by kernel_rfl) (by decide) w1 hkm htb hkr w3 a c bs (hx2.trans hx) hh))
  clear hx1 hkm htb hkr
  go_wp2_with fail
  refine HBY.out.mono ?_
  rintro e w2 ⟨b1, a1, c1, rfl, hn1, hx2⟩
  have X2 := hid hx2
  clear hx2 hn1
  go_wp2_with fail
  refine (HTO.out _ X2.out).mono ?_
  rintro e w3 ⟨b2, a2, c2, rfl, hn2, hx3⟩
  have X3 := hid (X1.out.trans (X2.out.trans hx3))
  have HC := hid (calls_any b2 _ w3 hn2.cells.2.2.1)
  clear hx3 hn2
  go_wp2_with fail
  refine (callWork_any _ _ _ _ _).mono ?_
  rintro e w4 ⟨rfl, hw4⟩
  rw [hw4]
  clear hw4 w4
  go_wp2_with fail
  refine HC.out.mono ?_
  rintro e w4 ⟨rfl, hw4⟩
  rw [hw4]
  clear hw4 w4
  go_wp2_with fail
  go_ret
  exact ⟨rfl, X3.out⟩
end Go.Proofs.YtnnonlnhgpplhaaGreatDoor.Nd
