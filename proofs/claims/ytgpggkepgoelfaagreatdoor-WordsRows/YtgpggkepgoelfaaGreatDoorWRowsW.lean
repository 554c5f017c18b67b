/-
  WordsRows tells true.
-/
import Derived.Test.YtgpggkepgoelfaaGreatDoorWRRef
import Derived.Test.YtgpggkepgoelfaaGreatDoorWBeg
import Derived.Deep.RegionHeld3
namespace Go.Proofs.YtgpggkepgoelfaaGreatDoor
open Go.RowKit
theorem wordsR_abs : ∀ r ∈ wordsR, r.abs.length ≤ 100 := by decide
theorem wordsR_kind : ∀ r ∈ wordsR, r.kind.size ≤ 4000 := by
  intro r hr
  obtain ⟨i, hi, rfl⟩ := List.getElem_of_mem hr
  have hl : wordsR.length = 9 := rfl
  rw [hl] at hi
  match i, hi with
  | 0, _ => exact Nat.le_of_ble_eq_true rfl
  | 1, _ => exact Nat.le_of_ble_eq_true rfl
  | 2, _ => exact Nat.le_of_ble_eq_true rfl
  | 3, _ => exact Nat.le_of_ble_eq_true rfl
  | 4, _ => exact Nat.le_of_ble_eq_true rfl
  | 5, _ => exact Nat.le_of_ble_eq_true rfl
  | 6, _ => exact Nat.le_of_ble_eq_true rfl
  | 7, _ => exact Nat.le_of_ble_eq_true rfl
  | 8, _ => exact Nat.le_of_ble_eq_true rfl
  | n + 9, h => exact absurd h (by omega)
theorem wordsR_ix : ∀ j, (hj : j < wordsR.length) → kIx wordsR wordsR[j].kind = some j := by
  intro i hi
  have hl : wordsR.length = 9 := rfl
  have hi2 : i < 9 := hi
  match i, hi2 with
  | 0, _ => show kIx wordsR (wordsR[0]).kind = some 0; kernel_rfl
  | 1, _ => show kIx wordsR (wordsR[1]).kind = some 1; kernel_rfl
  | 2, _ => show kIx wordsR (wordsR[2]).kind = some 2; kernel_rfl
  | 3, _ => show kIx wordsR (wordsR[3]).kind = some 3; kernel_rfl
  | 4, _ => show kIx wordsR (wordsR[4]).kind = some 4; kernel_rfl
  | 5, _ => show kIx wordsR (wordsR[5]).kind = some 5; kernel_rfl
  | 6, _ => show kIx wordsR (wordsR[6]).kind = some 6; kernel_rfl
  | 7, _ => show kIx wordsR (wordsR[7]).kind = some 7; kernel_rfl
  | 8, _ => show kIx wordsR (wordsR[8]).kind = some 8; kernel_rfl
  | n + 9, h => exact absurd h (by omega)

set_option maxRecDepth 100000 in
theorem wordsRows_true (w : World) (hm : WAt w) (hl : Laid w) : Calls Tryz.prog 4 #[] w fun e w' => e = .returned (.bool true) ∧ Ext w w' := by
  have HL := hid hl
  have HB := hid (begunW_any w hm hl)
  have HLN := hid (show wordsR.length = 9 from rfl)
  clear hm hl
  go_enter Tryz.func4, Tryz.ntmps4
  go_wp2_with fail
  refine HB.out.mono ?_
  rintro e w1 ⟨rfl, hx1⟩
  have X1 := hid hx1
  clear hx1
  go_wp2_with fail
  refine (wordsKit_any _ (HL.out.later X1.out)).mono ?_
  rintro e w2 ⟨base, kb, mb, lv', bx, rfl, hkm, hb, hx2⟩
  rw [wordsR_eq] at hkm
  unfold wordsB at hkm
  have HKM := hid hkm
  have X2 := hid (X1.out.trans hx2)
  clear hkm hb hx2
  go_wp2_with fail
  refine (refRowsW_any _).mono ?_
  rintro e w3 ⟨ao, c, rfl, hit, hx3⟩
  have HIT := hid hit
  have HLR := hid (lawRows_any ao c w3 (HKM.out.later hx3) (by rw [HLN.out]; decide) wordsR_abs wordsR_kind wordsR_ix hit)
  have X3 := hid (X2.out.trans hx3)
  rw [HLN.out] at HLR ⊢
  clear hit hx3
  go_wp2_with fail
  refine HLR.out.mono ?_
  rintro e w4 ⟨rfl, hx4⟩
  have X4 := hid (X3.out.trans hx4)
  clear hx4
  go_wp2_with fail
  go_ret
  exact ⟨rfl, X4.out⟩
end Go.Proofs.YtgpggkepgoelfaaGreatDoor
