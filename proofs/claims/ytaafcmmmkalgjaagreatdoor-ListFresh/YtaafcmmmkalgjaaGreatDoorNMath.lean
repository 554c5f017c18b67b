/-
  Numbers of 64 bits: what is over, powers.
-/
import Derived.WalkKit
namespace Go.Proofs.YtaafcmmmkalgjaaGreatDoor
open Go.RowKit
/-- A number of 64 bits. -/
def inR (x : Int) : Prop := -9223372036854775808 ≤ x ∧ x ≤ 9223372036854775807
instance (x : Int) : Decidable (inR x) := by unfold inR; infer_instance
theorem natAbs_two {x : Int} (h : ¬ inR x) : 9223372036854775808 ≤ x.natAbs := by unfold inR at h; omega
theorem out_of_abs {x : Int} (h : 9223372036854775809 ≤ x.natAbs) : ¬ inR x := by unfold inR; omega
theorem one_powI : ∀ n : Nat, (1 : Int) ^ n = 1
  | 0 => rfl
  | n + 1 => by rw [Int.pow_succ, one_powI n]; rfl
theorem small_pow (a : Int) (h1 : -1 ≤ a) (h2 : a ≤ 1) : ∀ n, inR (a ^ n)
  | 0 => by simp [inR]
  | n + 1 => by
    obtain rfl | rfl | rfl : a = -1 ∨ a = 0 ∨ a = 1 := by omega
    · have : ((-1 : Int) ^ (n + 1)).natAbs = 1 := by rw [Int.natAbs_pow]; simp
      unfold inR; omega
    · rw [Int.pow_succ]; simp [inR]
    · rw [one_powI]; simp [inR]
/-- Behind a power that is over all are. -/
theorem pow_out (a : Int) (j n : Nat) (h : j ≤ n) (ho : ¬ inR (a ^ j)) : ¬ inR (a ^ n) := by
  by_cases hs : -1 ≤ a ∧ a ≤ 1
  · exact absurd (small_pow a hs.1 hs.2 j) ho
  · by_cases hj : j = n
    · rw [← hj]; exact ho
    · have h2 : 2 ≤ a.natAbs := by omega
      have hb := natAbs_two ho
      rw [Int.natAbs_pow] at hb
      apply out_of_abs
      rw [Int.natAbs_pow]
      have e1 : a.natAbs ^ (j + 1) ≤ a.natAbs ^ n := Nat.pow_le_pow_right (by omega) (by omega)
      have e2 : a.natAbs ^ (j + 1) = a.natAbs ^ j * a.natAbs := Nat.pow_succ _ _
      have e3 : a.natAbs ^ j * 2 ≤ a.natAbs ^ j * a.natAbs := Nat.mul_le_mul_left _ h2
      omega
/-- Of -1, 0, 1 a power comes round again after two factors. -/
theorem pow_round (a : Int) (h1 : -1 ≤ a) (h2 : a ≤ 1) (n : Nat) (hn : 2 < n) : a ^ (2 - n % 2) = a ^ n := by
  obtain rfl | rfl | rfl : a = -1 ∨ a = 0 ∨ a = 1 := by omega
  · rcases Nat.mod_two_eq_zero_or_one n with h | h
    · obtain ⟨k, rfl⟩ : ∃ k, n = 2 * k := ⟨n / 2, by omega⟩
      rw [h, Int.pow_mul, show (-1 : Int) ^ 2 = 1 from rfl, one_powI]; done
    · obtain ⟨k, rfl⟩ : ∃ k, n = 2 * k + 1 := ⟨n / 2, by omega⟩
      rw [h, Int.pow_succ (n := 2 * k), Int.pow_mul, show (-1 : Int) ^ 2 = 1 from rfl, one_powI]; rfl
  · have e1 : 2 - n % 2 ≠ 0 := by omega
    have e2 : n ≠ 0 := by omega
    rw [Int.zero_pow e1, Int.zero_pow e2]
  · rw [one_powI, one_powI]
theorem abs_mul_div (a b : Int) (ha : inR a) (hb : inR b) : a.natAbs < 18446744073709551616 ∧ b.natAbs < 18446744073709551616 := by unfold inR at ha hb; omega
end Go.Proofs.YtaafcmmmkalgjaaGreatDoor
