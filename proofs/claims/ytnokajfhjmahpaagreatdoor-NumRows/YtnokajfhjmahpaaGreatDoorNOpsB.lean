/-
  size, product, mul, mod, neg, abs of package num, each by a contract.
-/
import Derived.Test.YtnokajfhjmahpaaGreatDoorNOpsA
namespace Go.Proofs.YtnokajfhjmahpaaGreatDoor
open Go.RowKit
def mulV (a b : Int) : Value := if inR (a * b) then cameV (a * b) else refV 21
def modI (a b : Int) : Int := if a.tmod b ≠ 0 ∧ (a.tmod b < 0) ≠ (b < 0) then a.tmod b + b else a.tmod b
def modW (a b : Int) : Value := if b = 0 then refV 22 else cameV (modI a b)
theorem negU (a : Int) (h1 : -9223372036854775808 ≤ a) (h2 : a < 0) : IntKind.u64.wrap (-IntKind.u64.wrap a) = (a.natAbs : Int) := by
  simp [IntKind.wrap, IntKind.bits, IntKind.signed]
  omega
set_option maxRecDepth 100000 in
theorem size_any (a : Int) (w : World) (ha : inR a) : Calls Tryz.prog 99 #[.int .i64 a] w fun e w' => e = .returned (.int .u64 (a.natAbs : Int)) ∧ w' = w := by
  obtain ⟨h1, h2⟩ := ha
  by_cases h : a < 0
  · go_enter Tryz.func99, Tryz.ntmps99
    go_wp2_with fail
    go_ret
    exact ⟨ret_int (negU a h1 h), rfl⟩
  · go_enter Tryz.func99, Tryz.ntmps99
    go_wp2_with fail
    go_ret
    exact ⟨ret_int (by omega), rfl⟩
theorem mul64_any (x y H L : Nat) (hx : x < 18446744073709551616) (hy : y < 18446744073709551616) (hH : x * y / 18446744073709551616 = H) (hL : x * y % 18446744073709551616 = L) (w : World) : Calls Tryz.prog 18 #[.int .u64 x, .int .u64 y] w fun e w' => e = .returned (.tuple #[.int .u64 H, .int .u64 L]) ∧ w' = w := by
  have := Tryz.bits_Mul64 x y hx hy w
  rw [hH, hL] at this
  exact this
/-- What product answers. -/
def ProdR (a b : Int) (w : World) (e : Ending) (w' : World) : Prop := w' = w ∧ ∃ p ok, e = .returned (.tuple #[.int .i64 p, .bool ok]) ∧ ok = decide (inR (a * b)) ∧ (ok = true → p = a * b)
theorem mul_unlike {a b : Int} (h : (a < 0) ≠ (b < 0)) : a * b = -((a.natAbs * b.natAbs : Nat) : Int) := by
  have e : (a * b).natAbs = a.natAbs * b.natAbs := Int.natAbs_mul a b
  have hs : a * b ≤ 0 := by
    by_cases ha : a < 0
    · have hb : ¬ b < 0 := fun hb => h (by simp [ha, hb])
      exact Int.mul_nonpos_of_nonpos_of_nonneg (by omega) (by omega)
    · have hb : b < 0 := by
        by_cases hb : b < 0
        · exact hb
        · exact absurd (by simp [ha, hb]) h
      exact Int.mul_nonpos_of_nonneg_of_nonpos (by omega) (by omega)
  generalize a.natAbs * b.natAbs = X at *
  generalize a * b = P at *
  omega
theorem mul_like {a b : Int} (h : (a < 0) = (b < 0)) : a * b = ((a.natAbs * b.natAbs : Nat) : Int) := by
  have e : (a * b).natAbs = a.natAbs * b.natAbs := Int.natAbs_mul a b
  have hs : 0 ≤ a * b := by
    by_cases ha : a < 0
    · have hb : b < 0 := by rw [← h]; exact ha
      exact Int.mul_nonneg_of_nonpos_of_nonpos (by omega) (by omega)
    · have hb : ¬ b < 0 := by rw [← h]; exact ha
      exact Int.mul_nonneg (by omega) (by omega)
  generalize a.natAbs * b.natAbs = X at *
  generalize a * b = P at *
  omega
set_option maxRecDepth 100000 in
set_option maxHeartbeats 1000000 in
theorem product_any (a b : Int) (w : World) (ha : inR a) (hb : inR b) : Calls Tryz.prog 82 #[.int .i64 a, .int .i64 b] w (ProdR a b w) := by
  obtain ⟨hxa, hyb⟩ := abs_mul_div a b ha hb
  obtain ⟨H, hH⟩ : ∃ H, a.natAbs * b.natAbs / 18446744073709551616 = H := ⟨_, rfl⟩
  obtain ⟨L, hL⟩ : ∃ L, a.natAbs * b.natAbs % 18446744073709551616 = L := ⟨_, rfl⟩
  have HM := hid (fun w => mul64_any a.natAbs b.natAbs H L hxa hyb hH hL w)
  have HA := hid (fun w => size_any a w ha)
  have HB := hid (fun w => size_any b w hb)
  have HE := hid (show a.natAbs * b.natAbs = H * 18446744073709551616 + L by omega)
  have hL2 : L ≤ 18446744073709551615 := by omega
  have HU := hid (fun h => mul_unlike (a := a) (b := b) h)
  have HK := hid (fun h => mul_like (a := a) (b := b) h)
  clear hH hL hxa hyb ha hb
  generalize a.natAbs = x at *
  generalize b.natAbs = y at *
  go_enter Tryz.func82, Tryz.ntmps82
  go_wp2_with fail
  refine (HA.out _).mono ?_
  rintro e w1 ⟨rfl, rfl⟩
  go_wp2_with fail
  refine (HB.out _).mono ?_
  rintro e w1 ⟨rfl, rfl⟩
  go_wp2_with fail
  refine (HM.out _).mono ?_
  rintro e w1 ⟨rfl, rfl⟩
  by_cases hH0 : H = 0
  · have hz : ((H : Int) != 0) = false := by rw [hH0]; rfl
    have hz' : ((H : Int) == 0) = true := by rw [hH0]; rfl
    have HE2 := hid (show x * y = L by have := HE.out; rw [hH0] at this; omega)
    clear hH0
    by_cases hs : (a < 0) = (b < 0)
    · have HP := hid (HK.out hs)
      have HQ := hid (show a * b = L by rw [HP.out, HE2.out])
      have hs2 : (decide (a < 0) != decide (b < 0)) = false := by simp [hs]
      have hs3 : (decide (a < 0) == decide (b < 0)) = true := by simp [hs]
      clear hs
      have HD := hid (show decide ((L : Int) < 9223372036854775808) = decide (inR (a * b)) by rw [HQ.out]; unfold inR; rw [Bool.eq_iff_iff]; simp; omega)
      have HW := hid (show decide ((L : Int) < 9223372036854775808) = true → wrap64 (L : Int) = a * b from fun h => by rw [HQ.out, IntWalk.wrap64_in _ ⟨by omega, by have := of_decide_eq_true h; omega⟩])
      go_wp2_with fail
      go_ret2
      exact ⟨rfl, _, _, rfl, HD.out, HW.out⟩
    · have HP := hid (HU.out hs)
      have HQ := hid (show a * b = -(L : Int) by rw [HP.out, HE2.out])
      have hs3 : (decide (a < 0) == decide (b < 0)) = false := by
        rw [beq_eq_false_iff_ne]
        intro e
        exact hs (by simpa using e)
      have hs2 : (decide (a < 0) != decide (b < 0)) = true := by unfold bne; rw [hs3]; rfl
      clear hs
      have HD := hid (show decide ((L : Int) ≤ 9223372036854775808) = decide (inR (a * b)) by rw [HQ.out]; unfold inR; rw [Bool.eq_iff_iff]; simp; try omega)
      have HW := hid (show decide ((L : Int) ≤ 9223372036854775808) = true → wrap64 (-wrap64 (L : Int)) = a * b from fun h => by
        have hl := of_decide_eq_true h
        rw [HQ.out]
        by_cases e : L = 9223372036854775808
        · rw [e]; unfold wrap64; decide
        · rw [IntWalk.wrap64_in (L : Int) ⟨by omega, by omega⟩, IntWalk.wrap64_in _ ⟨by omega, by omega⟩])
      go_wp2_with fail
      go_ret2
      exact ⟨rfl, _, _, rfl, HD.out, HW.out⟩
  · have hz : ((H : Int) != 0) = true := by simp; omega
    have hz' : ((H : Int) == 0) = false := by simp; omega
    have HO := hid (show decide (inR (a * b)) = false by
      apply decide_eq_false
      apply out_of_abs
      have e : (a * b).natAbs = x * y := by
        by_cases hs : (a < 0) = (b < 0)
        · rw [HK.out hs, Int.natAbs_natCast]
        · rw [HU.out hs, Int.natAbs_neg, Int.natAbs_natCast]
      rw [e, HE.out]
      have : 1 ≤ H := by omega
      omega)
    clear hH0
    go_wp2_with fail
    go_ret2
    exact ⟨rfl, 0, false, rfl, by rw [HO.out], fun h => by cases h⟩
end Go.Proofs.YtnokajfhjmahpaaGreatDoor
