/-
  call.Kit by a contract; espalierlaw13.begun: it tells true.
-/
import Derived.Test.YtnmcmjgfnncdmaaGreatDoorZzBLaw
import Derived.Test.YtnmcmjgfnncdmaaGreatDoorZzCFMade
import Derived.BigQuiet
namespace Go.Proofs.YtnmcmjgfnncdmaaGreatDoor.Nd
open Go.RowKit
/-- The kit call. -/
def callK : List Kd := [
  ⟨⟨#[99, 97, 108, 108, 46, 116, 111]⟩, 0, -1, 2, ⟨#[67, 97, 108, 108, 101, 114]⟩, ⟨#[]⟩, 127, none, false⟩,
  ⟨⟨#[99, 97, 108, 108, 46, 98, 121]⟩, 2, 2, 2, ⟨#[66, 105, 110, 100, 101, 114, 32, 67, 97, 108, 108, 101, 114]⟩, ⟨#[]⟩, 128, none, false⟩]
def callC : Array Value := #[.string ⟨#[99, 97, 108, 108, 46, 116, 111]⟩, .int .i64 0, .int .i64 (-1), .int .i64 2, .string ⟨#[67, 97, 108, 108, 101, 114]⟩, .string ⟨#[]⟩, .func (.func 127) #[] #[], .nilFunc, .bool false, .string ⟨#[99, 97, 108, 108, 46, 98, 121]⟩, .int .i64 2, .int .i64 2, .int .i64 2, .string ⟨#[66, 105, 110, 100, 101, 114, 32, 67, 97, 108, 108, 101, 114]⟩, .string ⟨#[]⟩, .func (.func 128) #[] #[], .nilFunc, .bool false]
theorem callC_tab : callC = (tabL callK).toArray := rfl
def callPre : List UInt8 := [99, 97, 108, 108]
def callB : ByteArray := ⟨#[99, 97, 108, 108]⟩
theorem callWord : speltB wordI 16 callPre = true := by kernel_rfl
theorem goodC0 : GoodR callPre (kdRow callK[0]) where
  name := ⟨[116, 111], rfl, by kernel_rfl⟩
  nod := by decide
  word := callWord
  size := Nat.le_of_ble_eq_true rfl
  min := by decide
  max := .inl rfl
  text := ⟨by decide, by decide⟩
  names := by decide
  ord := by kernel_rfl
  len := Nat.le_of_ble_eq_true (by kernel_rfl)
theorem hasC0 : (callK[0]).has.size ≤ 4000 ∧ (callK[0]).has.data.toList.all (fun b => decide (b.toNat < 128)) = true := ⟨Nat.le_of_ble_eq_true rfl, by kernel_rfl⟩
theorem goodC1 : GoodR callPre (kdRow callK[1]) where
  name := ⟨[98, 121], rfl, by kernel_rfl⟩
  nod := by decide
  word := callWord
  size := Nat.le_of_ble_eq_true rfl
  min := by decide
  max := .inr ⟨by decide, by decide⟩
  text := ⟨by decide, by decide⟩
  names := by decide
  ord := by kernel_rfl
  len := Nat.le_of_ble_eq_true (by kernel_rfl)
theorem hasC1 : (callK[1]).has.size ≤ 4000 ∧ (callK[1]).has.data.toList.all (fun b => decide (b.toNat < 128)) = true := ⟨Nat.le_of_ble_eq_true rfl, by kernel_rfl⟩
theorem callGood : GoodK callPre callK where
  pos := by decide
  lim := by decide
  rows := by
    intro k hk
    obtain ⟨i, hi, rfl⟩ := List.getElem_of_mem hk
    have hl : callK.length = 2 := rfl
    rw [hl] at hi
    match i, hi with
    | 0, _ => exact goodC0
    | 1, _ => exact goodC1
    | n + 2, h => exact absurd h (by omega)
  has := by
    intro k hk
    obtain ⟨i, hi, rfl⟩ := List.getElem_of_mem hk
    have hl : callK.length = 2 := rfl
    rw [hl] at hi
    match i, hi with
    | 0, _ => exact hasC0
    | 1, _ => exact hasC1
    | n + 2, h => exact absurd h (by omega)
  nodup := by decide
  word := callWord
set_option maxRecDepth 100000 in
theorem kindsC_any (w : World) : Calls Tryz.prog 61 #[] w fun e w' => e = .returned (.slice (some ⟨w.heap.size, 0, none⟩) 2 2) ∧ w' = w.alloc (.cells callC 100) := by
  have hmf : ∀ (fn : Fn) (first cap : Array Value) (w : World), (Instr.makeFunc fn first cap).run Tryz.prog w = .ok (.func fn first cap) w := fun _ _ _ _ => rfl
  go_enter Tryz.func61, Tryz.ntmps61
  go_wp2_with fail
  go_ret
  exact ⟨rfl, rfl⟩
set_option maxRecDepth 100000 in
theorem callKit_any (w : World) (hl : Laid w) : Calls Tryz.prog 27 #[] w (CKitR w callB callK) := by
  have HL := hid hl
  clear hl
  go_enter Tryz.func27, Tryz.ntmps27
  go_wp2_with fail
  refine (kindsC_any w).mono ?_
  rintro e w1 ⟨rfl, hw1⟩
  have X1 := hid (show Ext w w1 from hw1 ▸ Ext.alloc _ _)
  have HT := hid (show TabAt w1 w.heap.size callK from ⟨100, by rw [← callC_tab]; exact hw1 ▸ blk0 _ _⟩)
  clear hw1
  go_wp2_with fail
  refine (ckit_any (pre := callPre) callB rfl w.heap.size callK _ callGood HT.out (HL.out.later X1.out)).mono ?_
  rintro e w2 ⟨base, kb, mb, lv', bx, rfl, hkm, htab, hb, hx2⟩
  have HKM := hid hkm
  have HTB := hid htab
  have HX2 := hid (X1.out.trans hx2)
  have HBS := hid (Nat.le_trans X1.out.size hb)
  clear hkm hx2 hb htab
  go_wp2_with fail
  go_ret
  exact ⟨base, kb, mb, lv', bx, rfl, HKM.out, HTB.out, HBS.out, HX2.out⟩
theorem absTo : ∀ j, j < 14 → hasTo j = inS (nmQ j) ((callK.map kdRow)[0]'(by decide)).abs
  | 0, _ => by kernel_rfl
  | 1, _ => by kernel_rfl
  | 2, _ => by kernel_rfl
  | 3, _ => by kernel_rfl
  | 4, _ => by kernel_rfl
  | 5, _ => by kernel_rfl
  | 6, _ => by kernel_rfl
  | 7, _ => by kernel_rfl
  | 8, _ => by kernel_rfl
  | 9, _ => by kernel_rfl
  | 10, _ => by kernel_rfl
  | 11, _ => by kernel_rfl
  | 12, _ => by kernel_rfl
  | 13, _ => by kernel_rfl
  | n + 14, h => absurd h (by omega)
/-- Make of the kit call, of a name that fits. -/
theorem makeTo {base kb mb : Nat} {lv : Value} (nk : Nat) (hnk : nk ≤ 1000) (g cp bx : Nat) (x : ByteArray) (hx : speltB nameI 32 x.data.toList = true) (hxs : x.size ≤ 16384) (w : World) (hkm : KitM w base kb mb callB (.func (.func 124) #[] #[.pointer (some ⟨bx, 0, none⟩)]) lv (callK.map kdRow)) (hb : w.heap[bx]? = some (.cells #[.slice (some ⟨g, 0, none⟩) callK.length cp] 104)) (hk : KRow w g callK) (w1 : World) (a : Option Addr) (c : Nat) (bs : Nat → Nat) (hxx : Ext w w1) (hh : HandsP w1 a nk c (fun _ => 388) (fun i => .pointer (some ⟨bs i, 0, none⟩))) :
    Calls Tryz.prog 29 #[.pointer (some ⟨kb, 0, none⟩), .agg #[.string ⟨#[99, 97, 108, 108, 46, 116, 111]⟩, .int .i64 0, .string x, .slice none 0 0], .slice a nk c] w1 (MakeR w1 286 ⟨#[99, 97, 108, 108, 46, 116, 111]⟩ x nk bs) :=
  makeK_To callK g cp bx ⟨#[99, 97, 108, 108, 46, 116, 111]⟩ x a none 0 0 nk c bs callK[0] w1 (hkm.later hxx) (by decide) (hxx.block hb) (hk.later hxx) (by kernel_rfl) rfl rfl (by omega) hh (by decide) (by omega) 0 (by kernel_rfl) (by decide) rfl rfl (.inr rfl) (Int.natCast_nonneg _) (.inl rfl) (by
    show fitQ 2 x = 0
    unfold fitQ takesB
    rw [if_neg (by omega), if_pos rfl, hx]
    rfl) (by decide) absTo
theorem absBy : ∀ j, j < 14 → hasBy j = inS (nmQ j) ((callK.map kdRow)[1]'(by decide)).abs
  | 0, _ => by kernel_rfl
  | 1, _ => by kernel_rfl
  | 2, _ => by kernel_rfl
  | 3, _ => by kernel_rfl
  | 4, _ => by kernel_rfl
  | 5, _ => by kernel_rfl
  | 6, _ => by kernel_rfl
  | 7, _ => by kernel_rfl
  | 8, _ => by kernel_rfl
  | 9, _ => by kernel_rfl
  | 10, _ => by kernel_rfl
  | 11, _ => by kernel_rfl
  | 12, _ => by kernel_rfl
  | 13, _ => by kernel_rfl
  | n + 14, h => absurd h (by omega)
/-- Make of the kit call, of a name that fits. -/
theorem makeBy {base kb mb : Nat} {lv : Value} (g cp bx : Nat) (x : ByteArray) (hx : speltB nameI 32 x.data.toList = true) (hxs : x.size ≤ 16384) (w : World) (hkm : KitM w base kb mb callB (.func (.func 124) #[] #[.pointer (some ⟨bx, 0, none⟩)]) lv (callK.map kdRow)) (hb : w.heap[bx]? = some (.cells #[.slice (some ⟨g, 0, none⟩) callK.length cp] 104)) (hk : KRow w g callK) (w1 : World) (a : Option Addr) (c : Nat) (bs : Nat → Nat) (hxx : Ext w w1) (hh : HandsP w1 a 2 c (fun _ => 388) (fun i => .pointer (some ⟨bs i, 0, none⟩))) :
    Calls Tryz.prog 29 #[.pointer (some ⟨kb, 0, none⟩), .agg #[.string ⟨#[99, 97, 108, 108, 46, 98, 121]⟩, .int .i64 0, .string x, .slice none 0 0], .slice a 2 c] w1 (MakeR w1 289 ⟨#[99, 97, 108, 108, 46, 98, 121]⟩ x 2 bs) :=
  makeK_By callK g cp bx ⟨#[99, 97, 108, 108, 46, 98, 121]⟩ x a none 0 0 2 c bs callK[1] w1 (hkm.later hxx) (by decide) (hxx.block hb) (hk.later hxx) (by kernel_rfl) rfl rfl (by decide) hh (by decide) (by omega) 1 (by kernel_rfl) (by decide) rfl rfl (.inr rfl) (by decide) (.inr (by decide)) (by
    show fitQ 2 x = 0
    unfold fitQ takesB
    rw [if_neg (by omega), if_pos rfl, hx]
    rfl) (by decide) absBy

end Go.Proofs.YtnmcmjgfnncdmaaGreatDoor.Nd
/-
  espalierlaw13.begun: it tells true.
-/
namespace Go.Proofs.YtnmcmjgfnncdmaaGreatDoor.Nd
open Go.RowKit
theorem mToCalls (b : Nat) (w : World) : (method 627 286 (.pointer (some ⟨b, 0, none⟩)) "Calls").run Tryz.prog w = .ok (347, .pointer (some ⟨b, 0, none⟩)) w := by kernel_rfl

theorem calls_any (b : Nat) (x : ByteArray) (w : World) (h : w.cell? ⟨b, 2, none⟩ = some (.string x)) : Calls Tryz.prog 347 #[.pointer (some ⟨b, 0, none⟩)] w fun e w' => e = .returned (.string x) ∧ w' = w := by
  have HB := hid (bText b x w h)
  have hbl := lt_of_cell h
  clear h
  go_enter Tryz.func347, Tryz.ntmps347
  go_wp2_with fail
  refine HB.out.mono ?_
  rintro e w1 ⟨rfl, rfl⟩
  go_wp2_with fail
  go_ret
  exact ⟨rfl, rfl⟩
theorem callWork_any (op : ByteArray) (a : Option Addr) (n c : Nat) (w : World) : Calls Tryz.prog 59 #[.string op, .slice a n c] w fun e w' => e = .returned (.tuple #[.nilIface, .int .i64 1, .string ⟨#[]⟩]) ∧ w' = w := by
  go_enter Tryz.func59, Tryz.ntmps59
  go_wp2_with fail
  go_ret3
  exact ⟨rfl, rfl⟩
attribute [local go_sem] isByCaller isByBinder isToCaller isToBinder mToCalls
set_option maxRecDepth 100000 in
set_option maxHeartbeats 4000000 in
theorem begunC_any (w : World) (hl : Laid w) : Calls Tryz.prog 26 #[] w fun e w' => e = .returned (.bool true) ∧ Ext w w' := by
  have HK := hid (callKit_any w hl)
  clear hl
  go_enter Tryz.func26, Tryz.ntmps26
  go_wp2_with fail
  refine HK.out.mono ?_
  rintro e w1 ⟨base, kb, mb, lv', bx, rfl, hkm, ⟨g, cp, htb, hkr⟩, _, hx1⟩
  have X1 := hid hx1
  have HBY := hid (lawMadeC _ kb _ ⟨#[120]⟩ 2 w1 (by decide) (fun w2 a c bs hx hh => makeBy g cp bx ⟨#[120]⟩ (by kernel_rfl) (by decide) w1 hkm htb hkr w2 a c bs hx hh))
  have HTO := hid (fun w2 (hx2 : Ext w1 w2) => lawMadeC _ kb _ ⟨#[102]⟩ 0 w2 (by decide) (fun w3 a c bs hx hh => makeTo 0 (by decide) g cp bx ⟨#[102]⟩ (by kernel_rfl) (by decide) w1 hkm htb hkr w3 a c bs (hx2.trans hx) hh))
  clear hx1 hkm htb hkr
  go_wp2_with fail
  refine HBY.out.mono ?_
  rintro e w2 ⟨b1, a1, c1, rfl, hn1, hx2⟩
  have X2 := hid hx2
  clear hx2 hn1
  go_wp2_with fail
  refine (HTO.out _ X2.out).mono ?_
  rintro e w3 ⟨b2, a2, c2, rfl, hn2, hx3⟩
  have X3 := hid (X1.out.trans (X2.out.trans hx3))
  have HC := hid (calls_any b2 _ w3 hn2.cells.2.2.1)
  clear hx3 hn2
  go_wp2_with fail
  refine (callWork_any _ _ _ _ _).mono ?_
  rintro e w4 ⟨rfl, hw4⟩
  rw [hw4]
  clear hw4 w4
  go_wp2_with fail
  refine HC.out.mono ?_
  rintro e w4 ⟨rfl, hw4⟩
  rw [hw4]
  clear hw4 w4
  go_wp2_with fail
  go_ret
  exact ⟨rfl, X3.out⟩
end Go.Proofs.YtnmcmjgfnncdmaaGreatDoor.Nd
/-
  espalierlaw13.first and second of the nodes of call; by contracts.
-/
namespace Go.Proofs.YtnmcmjgfnncdmaaGreatDoor.Nd
open Go.RowKit
theorem mByCalls (b : Nat) (w : World) : (method 627 289 (.pointer (some ⟨b, 0, none⟩)) "Calls").run Tryz.prog w = .ok (347, .pointer (some ⟨b, 0, none⟩)) w := by kernel_rfl
theorem mByBinds (b : Nat) (w : World) : (method 627 289 (.pointer (some ⟨b, 0, none⟩)) "Binds").run Tryz.prog w = .ok (348, .pointer (some ⟨b, 0, none⟩)) w := by kernel_rfl
def sayB : ByteArray := ⟨#[98, 105, 110, 100, 101, 114, 32]⟩
def sayC : ByteArray := ⟨#[99, 97, 108, 108, 101, 114, 32]⟩

theorem binds_any (b : Nat) (x : ByteArray) (w : World) (h : w.cell? ⟨b, 2, none⟩ = some (.string x)) : Calls Tryz.prog 348 #[.pointer (some ⟨b, 0, none⟩)] w fun e w' => e = .returned (.tuple #[.string x, .int .i64 1]) ∧ w' = w := by
  have HB := hid (bText b x w h)
  have hbl := lt_of_cell h
  clear h
  go_enter Tryz.func348, Tryz.ntmps348
  go_wp2_with fail
  refine HB.out.mono ?_
  rintro e w1 ⟨rfl, rfl⟩
  go_wp2_with fail
  first | go_ret2 | go_ret
  exact ⟨rfl, rfl⟩
attribute [local go_sem] isByCaller isByBinder isToCaller isToBinder mToCalls mByCalls mByBinds
set_option maxRecDepth 100000 in
theorem firstBy_any (b : Nat) (x : ByteArray) (hx : x.size ≤ 16384) (w : World) (h : w.cell? ⟨b, 2, none⟩ = some (.string x)) : Calls Tryz.prog 31 #[.iface 289 (.pointer (some ⟨b, 0, none⟩))] w fun e w' => e = .returned (.string (sayB ++ x)) ∧ w' = w := by
  have HM := hid (binds_any b x w h)
  have hadd := fun W => run_string_add_sum (P := Tryz.prog) (w := W) ⟨#[98, 105, 110, 100, 101, 114, 32]⟩ x (by rw [show (⟨#[98, 105, 110, 100, 101, 114, 32]⟩ : ByteArray).size = 7 from rfl]; omega)
  have hbl := lt_of_cell h
  clear h
  go_enter Tryz.func31, Tryz.ntmps31
  go_wp2_with fail
  refine HM.out.mono ?_
  rintro e w1 ⟨rfl, rfl⟩
  go_wp2_with fail
  go_ret
  exact ⟨rfl, rfl⟩
set_option maxRecDepth 100000 in
theorem firstTo_any (b : Nat) (x : ByteArray) (hx : x.size ≤ 16384) (w : World) (h : w.cell? ⟨b, 2, none⟩ = some (.string x)) : Calls Tryz.prog 31 #[.iface 286 (.pointer (some ⟨b, 0, none⟩))] w fun e w' => e = .returned (.string (sayC ++ x)) ∧ w' = w := by
  have HM := hid (calls_any b x w h)
  have hadd := fun W => run_string_add_sum (P := Tryz.prog) (w := W) ⟨#[99, 97, 108, 108, 101, 114, 32]⟩ x (by rw [show (⟨#[99, 97, 108, 108, 101, 114, 32]⟩ : ByteArray).size = 7 from rfl]; omega)
  have hbl := lt_of_cell h
  clear h
  go_enter Tryz.func31, Tryz.ntmps31
  go_wp2_with fail
  refine HM.out.mono ?_
  rintro e w1 ⟨rfl, rfl⟩
  go_wp2_with fail
  go_ret
  exact ⟨rfl, rfl⟩
set_option maxRecDepth 100000 in
theorem secondBy_any (b : Nat) (x : ByteArray) (hx : x.size ≤ 16384) (w : World) (h : w.cell? ⟨b, 2, none⟩ = some (.string x)) : Calls Tryz.prog 32 #[.iface 289 (.pointer (some ⟨b, 0, none⟩))] w fun e w' => e = .returned (.string (sayC ++ x)) ∧ w' = w := by
  have HM := hid (calls_any b x w h)
  have hadd := fun W => run_string_add_sum (P := Tryz.prog) (w := W) ⟨#[99, 97, 108, 108, 101, 114, 32]⟩ x (by rw [show (⟨#[99, 97, 108, 108, 101, 114, 32]⟩ : ByteArray).size = 7 from rfl]; omega)
  have hbl := lt_of_cell h
  clear h
  go_enter Tryz.func32, Tryz.ntmps32
  go_wp2_with fail
  refine HM.out.mono ?_
  rintro e w1 ⟨rfl, rfl⟩
  go_wp2_with fail
  go_ret
  exact ⟨rfl, rfl⟩
set_option maxRecDepth 100000 in
theorem secondTo_any (b : Nat) (x : ByteArray) (hx : x.size ≤ 16384) (w : World) (h : w.cell? ⟨b, 2, none⟩ = some (.string x)) : Calls Tryz.prog 32 #[.iface 286 (.pointer (some ⟨b, 0, none⟩))] w fun e w' => e = .returned (.string (sayC ++ x)) ∧ w' = w := by
  have HM := hid (calls_any b x w h)
  have hadd := fun W => run_string_add_sum (P := Tryz.prog) (w := W) ⟨#[99, 97, 108, 108, 101, 114, 32]⟩ x (by rw [show (⟨#[99, 97, 108, 108, 101, 114, 32]⟩ : ByteArray).size = 7 from rfl]; omega)
  have hbl := lt_of_cell h
  clear h
  go_enter Tryz.func32, Tryz.ntmps32
  go_wp2_with fail
  refine HM.out.mono ?_
  rintro e w1 ⟨rfl, rfl⟩
  go_wp2_with fail
  go_ret
  exact ⟨rfl, rfl⟩

end Go.Proofs.YtnmcmjgfnncdmaaGreatDoor.Nd
/-
  CallFirst tells true, whatever the text.
-/
namespace Go.Proofs.YtnmcmjgfnncdmaaGreatDoor.Nd
open Go.RowKit
/-- Make of the kit call, of a name that does not fit. -/
theorem badTo {base kb mb : Nat} {lv : Value} (nk : Nat) (hnk : nk ≤ 1000) (bx : Nat) (x : ByteArray) (hxs : x.size ≤ 140737488351232) (ev : Int) (hev : (ev == 0) = false) (hfq : fitQ 2 x = ev) (w : World) (hkm : KitM w base kb mb callB (.func (.func 124) #[] #[.pointer (some ⟨bx, 0, none⟩)]) lv (callK.map kdRow)) (w1 : World) (a : Option Addr) (c : Nat) (bs : Nat → Nat) (hxx : Ext w w1) (hh : HandsP w1 a nk c (fun _ => 388) (fun i => .pointer (some ⟨bs i, 0, none⟩))) :
    Calls Tryz.prog 29 #[.pointer (some ⟨kb, 0, none⟩), .agg #[.string ⟨#[99, 97, 108, 108, 46, 116, 111]⟩, .int .i64 0, .string x, .slice none 0 0], .slice a nk c] w1 (MakeBad w1 ev) :=
  makeK_bad bx ⟨#[99, 97, 108, 108, 46, 116, 111]⟩ x a none 0 0 nk c bs w1 (hkm.later hxx) (by omega) hh (by decide) hxs 0 (by kernel_rfl) (by decide) rfl rfl (.inr rfl) (Int.natCast_nonneg _) (.inl rfl) ev hev hfq
/-- Make of the kit call, of a name that does not fit. -/
theorem badBy {base kb mb : Nat} {lv : Value} (bx : Nat) (x : ByteArray) (hxs : x.size ≤ 140737488351232) (ev : Int) (hev : (ev == 0) = false) (hfq : fitQ 2 x = ev) (w : World) (hkm : KitM w base kb mb callB (.func (.func 124) #[] #[.pointer (some ⟨bx, 0, none⟩)]) lv (callK.map kdRow)) (w1 : World) (a : Option Addr) (c : Nat) (bs : Nat → Nat) (hxx : Ext w w1) (hh : HandsP w1 a 2 c (fun _ => 388) (fun i => .pointer (some ⟨bs i, 0, none⟩))) :
    Calls Tryz.prog 29 #[.pointer (some ⟨kb, 0, none⟩), .agg #[.string ⟨#[99, 97, 108, 108, 46, 98, 121]⟩, .int .i64 0, .string x, .slice none 0 0], .slice a 2 c] w1 (MakeBad w1 ev) :=
  makeK_bad bx ⟨#[99, 97, 108, 108, 46, 98, 121]⟩ x a none 0 0 2 c bs w1 (hkm.later hxx) (by decide) hh (by decide) hxs 1 (by kernel_rfl) (by decide) rfl rfl (.inr rfl) (by decide) (.inr (by decide)) ev hev hfq
set_option maxRecDepth 100000 in
set_option maxHeartbeats 4000000 in
theorem callFirst_bad12 (x : ByteArray) (w : World) (hl : Laid w) (hxs : x.size ≤ 140737488351232) (hfq : fitQ 2 x = 12) : Calls Tryz.prog 8 #[.string x] w fun e w' => e = .returned (.bool true) ∧ Ext w w' := by
  have HL := hid hl
  have HFQ := hid hfq
  have HXS := hid hxs
  have HBE := hid (begunC_any w hl)
  clear hl hfq hxs
  go_enter Tryz.func8, Tryz.ntmps8
  go_wp2_with fail
  refine HBE.out.mono ?_
  rintro e w1 ⟨rfl, hx1⟩
  have X1 := hid hx1
  clear hx1
  go_wp2_with fail
  refine (callKit_any w1 (HL.out.later X1.out)).mono ?_
  rintro e w2 ⟨base, kb, mb, lv', bx, rfl, hkm, ⟨g, cp, htb, hkr⟩, _, hx2⟩
  have X2 := hid (X1.out.trans hx2)
  have HBY := hid (lawMadeCbad 12 kb _ x 2 w2 (by decide) (fun w3 a c bs hx hh => badBy bx x HXS.out 12 rfl HFQ.out w2 hkm w3 a c bs hx hh))
  have HTO := hid (fun w3 (hx3 : Ext w2 w3) => lawMadeCbad 12 kb _ x 2 w3 (by decide) (fun w4 a c bs hx hh => badTo 2 (by decide) bx x HXS.out 12 rfl HFQ.out w2 hkm w4 a c bs (hx3.trans hx) hh))
  have HMK := hid (fun w3 (hx3 : Ext w2 w3) => badTo 0 (by decide) bx x HXS.out 12 rfl HFQ.out w2 hkm w3 none 0 (fun _ => 0) hx3 (.inl ⟨rfl, rfl, rfl⟩))
  clear hx2 hkm htb hkr
  go_wp2_with fail
  refine HBY.out.mono ?_
  rintro e w3 ⟨rfl, hx3⟩
  have X3 := hid hx3
  clear hx3
  go_wp2_with fail
  refine (HTO.out _ X3.out).mono ?_
  rintro e w4 ⟨rfl, hx4⟩
  have X4 := hid (X3.out.trans hx4)
  clear hx4
  go_wp2_with fail
  first | go_quiet (fail) | go_region
  all_goals
    go_wp2_with fail
    refine (HMK.out _ (X4.out.drewN _)).mono ?_
    rintro e w5 ⟨b, rfl, hc, hx5⟩
    have X5 := hid (X2.out.trans ((X4.out.drewN _).trans hx5))
    have HC := hid hc
    clear hx5 hc
    go_wp2_with fail
    refine (fcode_any b 12 _ HC.out).mono ?_
    rintro e w6 ⟨rfl, hx6⟩
    have X6 := hid (X5.out.trans hx6)
    have HC6 := hid (show w6.cell? ⟨b, 0, none⟩ = some (.int .i64 12) from (hx6.kp (fun _ => True)).cell HC.out trivial)
    clear hx6
    go_wp2_with fail
    go_ret
    exact ⟨rfl, X6.out⟩
set_option maxRecDepth 100000 in
set_option maxHeartbeats 4000000 in
theorem callFirst_bad2 (x : ByteArray) (w : World) (hl : Laid w) (hxs : x.size ≤ 140737488351232) (hfq : fitQ 2 x = 2) : Calls Tryz.prog 8 #[.string x] w fun e w' => e = .returned (.bool true) ∧ Ext w w' := by
  have HL := hid hl
  have HFQ := hid hfq
  have HXS := hid hxs
  have HBE := hid (begunC_any w hl)
  clear hl hfq hxs
  go_enter Tryz.func8, Tryz.ntmps8
  go_wp2_with fail
  refine HBE.out.mono ?_
  rintro e w1 ⟨rfl, hx1⟩
  have X1 := hid hx1
  clear hx1
  go_wp2_with fail
  refine (callKit_any w1 (HL.out.later X1.out)).mono ?_
  rintro e w2 ⟨base, kb, mb, lv', bx, rfl, hkm, ⟨g, cp, htb, hkr⟩, _, hx2⟩
  have X2 := hid (X1.out.trans hx2)
  have HBY := hid (lawMadeCbad 2 kb _ x 2 w2 (by decide) (fun w3 a c bs hx hh => badBy bx x HXS.out 2 rfl HFQ.out w2 hkm w3 a c bs hx hh))
  have HTO := hid (fun w3 (hx3 : Ext w2 w3) => lawMadeCbad 2 kb _ x 2 w3 (by decide) (fun w4 a c bs hx hh => badTo 2 (by decide) bx x HXS.out 2 rfl HFQ.out w2 hkm w4 a c bs (hx3.trans hx) hh))
  have HMK := hid (fun w3 (hx3 : Ext w2 w3) => badTo 0 (by decide) bx x HXS.out 2 rfl HFQ.out w2 hkm w3 none 0 (fun _ => 0) hx3 (.inl ⟨rfl, rfl, rfl⟩))
  clear hx2 hkm htb hkr
  go_wp2_with fail
  refine HBY.out.mono ?_
  rintro e w3 ⟨rfl, hx3⟩
  have X3 := hid hx3
  clear hx3
  go_wp2_with fail
  refine (HTO.out _ X3.out).mono ?_
  rintro e w4 ⟨rfl, hx4⟩
  have X4 := hid (X3.out.trans hx4)
  clear hx4
  go_wp2_with fail
  first | go_quiet (fail) | go_region
  all_goals
    go_wp2_with fail
    refine (HMK.out _ (X4.out.drewN _)).mono ?_
    rintro e w5 ⟨b, rfl, hc, hx5⟩
    have X5 := hid (X2.out.trans ((X4.out.drewN _).trans hx5))
    have HC := hid hc
    clear hx5 hc
    go_wp2_with fail
    refine (fcode_any b 2 _ HC.out).mono ?_
    rintro e w6 ⟨rfl, hx6⟩
    have X6 := hid (X5.out.trans hx6)
    have HC6 := hid (show w6.cell? ⟨b, 0, none⟩ = some (.int .i64 2) from (hx6.kp (fun _ => True)).cell HC.out trivial)
    clear hx6
    go_wp2_with fail
    refine (fcode_any b 2 _ HC6.out).mono ?_
    rintro e w7 ⟨rfl, hx7⟩
    have X7 := hid (X6.out.trans hx7)
    clear hx7
    go_wp2_with fail
    go_ret
    exact ⟨rfl, X7.out⟩
set_option maxRecDepth 100000 in
set_option maxHeartbeats 4000000 in
theorem callFirst_good (x : ByteArray) (w : World) (hl : Laid w) (hx : speltB nameI 32 x.data.toList = true) (hxs : x.size ≤ 16384) : Calls Tryz.prog 8 #[.string x] w fun e w' => e = .returned (.bool true) ∧ Ext w w' := by
  have HL := hid hl
  have HX := hid hx
  have HXS := hid hxs
  have HBE := hid (begunC_any w hl)
  have hadd1 := fun W => run_string_add_sum (P := Tryz.prog) (w := W) ⟨#[98, 105, 110, 100, 101, 114, 32]⟩ x (by rw [show (⟨#[98, 105, 110, 100, 101, 114, 32]⟩ : ByteArray).size = 7 from rfl]; omega)
  have hadd2 := fun W => run_string_add_sum (P := Tryz.prog) (w := W) ⟨#[99, 97, 108, 108, 101, 114, 32]⟩ x (by rw [show (⟨#[99, 97, 108, 108, 101, 114, 32]⟩ : ByteArray).size = 7 from rfl]; omega)
  have heq1 := str_eqb (⟨#[98, 105, 110, 100, 101, 114, 32]⟩ ++ x) (⟨#[98, 105, 110, 100, 101, 114, 32]⟩ ++ x)
  rw [decide_eq_true rfl] at heq1
  have heq2 := str_eqb (⟨#[99, 97, 108, 108, 101, 114, 32]⟩ ++ x) (⟨#[99, 97, 108, 108, 101, 114, 32]⟩ ++ x)
  rw [decide_eq_true rfl] at heq2
  clear hl hx hxs
  go_enter Tryz.func8, Tryz.ntmps8
  go_wp2_with fail
  refine HBE.out.mono ?_
  rintro e w1 ⟨rfl, hx1⟩
  have X1 := hid hx1
  clear hx1
  go_wp2_with fail
  refine (callKit_any w1 (HL.out.later X1.out)).mono ?_
  rintro e w2 ⟨base, kb, mb, lv', bx, rfl, hkm, ⟨g, cp, htb, hkr⟩, _, hx2⟩
  have X2 := hid (X1.out.trans hx2)
  have HBY := hid (lawMadeC _ kb _ x 2 w2 (by decide) (fun w3 a c bs hx hh => makeBy g cp bx x HX.out HXS.out w2 hkm htb hkr w3 a c bs hx hh))
  have HTO := hid (fun w3 (hx3 : Ext w2 w3) => lawMadeC _ kb _ x 2 w3 (by decide) (fun w4 a c bs hx hh => makeTo 2 (by decide) g cp bx x HX.out HXS.out w2 hkm htb hkr w4 a c bs (hx3.trans hx) hh))
  clear hx2 hkm htb hkr
  go_wp2_with fail
  refine HBY.out.mono ?_
  rintro e w3 ⟨b1, a1, c1, rfl, hn1, hx3⟩
  have X3 := hid hx3
  have HN1 := hid hn1
  clear hx3 hn1
  go_wp2_with fail
  refine (HTO.out _ X3.out).mono ?_
  rintro e w4 ⟨b2, a2, c2, rfl, hn2, hx4⟩
  have X4 := hid (X2.out.trans (X3.out.trans hx4))
  have c1' := (HN1.out.later hx4).cells.2.2.1
  have c2' := hn2.cells.2.2.1
  have F1 := hid (fun W (hW : Ext w4 W) => firstBy_any b1 x HXS.out W ((hW.kp (fun _ => True)).cell c1' trivial))
  have S1 := hid (fun W (hW : Ext w4 W) => secondBy_any b1 x HXS.out W ((hW.kp (fun _ => True)).cell c1' trivial))
  have F2 := hid (fun W (hW : Ext w4 W) => firstTo_any b2 x HXS.out W ((hW.kp (fun _ => True)).cell c2' trivial))
  have S2 := hid (fun W (hW : Ext w4 W) => secondTo_any b2 x HXS.out W ((hW.kp (fun _ => True)).cell c2' trivial))
  clear hx4 hn2 c1' c2'
  go_wp2_with fail
  first | go_quiet (fail) | go_region
  all_goals
    go_wp2_with fail
    refine (F1.out _ ((Ext.refl _).drewN _)).mono ?_
    rintro e w5 ⟨rfl, hw5⟩
    rw [hw5]
    clear hw5 w5
    unfold sayB
    go_wp2_with fail
    refine (S1.out _ ((Ext.refl _).drewN _)).mono ?_
    rintro e w5 ⟨rfl, hw5⟩
    rw [hw5]
    clear hw5 w5
    unfold sayC
    go_wp2_with fail
    refine (F2.out _ ((Ext.refl _).drewN _)).mono ?_
    rintro e w5 ⟨rfl, hw5⟩
    rw [hw5]
    clear hw5 w5
    unfold sayC
    go_wp2_with fail
    refine (S2.out _ ((Ext.refl _).drewN _)).mono ?_
    rintro e w5 ⟨rfl, hw5⟩
    rw [hw5]
    clear hw5 w5
    unfold sayC
    go_wp2_with fail
    go_ret
    exact ⟨rfl, X4.out.drewN _⟩
theorem callFirst_true (x : ByteArray) (w : World) (hl : Laid w) (hxs : x.size ≤ 140737488351232) : Calls Tryz.prog 8 #[.string x] w fun e w' => e = .returned (.bool true) ∧ Ext w w' := by
  by_cases hz : 16384 < x.size
  · exact callFirst_bad2 x w hl hxs (by unfold fitQ; rw [if_pos hz])
  · by_cases hs : takesB 2 x = true
    · exact callFirst_good x w hl (by unfold takesB at hs; rwa [if_pos rfl] at hs) (by omega)
    · exact callFirst_bad12 x w hl hxs (by unfold fitQ; rw [if_neg hz, if_neg hs])

end Go.Proofs.YtnmcmjgfnncdmaaGreatDoor.Nd
