/-
  Quotients and rests: the mathematics of NumDivides.
-/
import Derived.Test.YtnokajfhjmahpaaGreatDoorNBeg8
namespace Go.Proofs.YtnokajfhjmahpaaGreatDoor
open Go.RowKit
/-- What quotient and rest are to each other. -/
structure DivF (a b q t m : Int) : Prop where
  q1 : -9223372036854775808 ≤ q
  q2 : q ≤ 9223372036854775807
  p1 : -9223372036854775808 ≤ q * b
  p2 : q * b ≤ 9223372036854775807
  r : a - q * b = t
  t1 : -9223372036854775808 ≤ t
  t2 : t ≤ 9223372036854775807
  sg : t = 0 ∨ ((t < 0) = (a < 0))
  mf : (m = t ∧ (t = 0 ∨ ((t < 0) = (b < 0)))) ∨ (m = t + b ∧ t ≠ 0 ∧ (t < 0) ≠ (b < 0))
  lt : t.natAbs < b.natAbs
theorem divF (a b : Int) (ha : inR a) (hb : inR b) (h0 : b ≠ 0) (hm : ¬ (a = -9223372036854775808 ∧ b = -1)) : DivF a b (a.tdiv b) (a.tmod b) (modI a b) := by
  have hq := tdiv_in a b ha hb h0 hm
  obtain ⟨l1, l2, l3⟩ := tmod_facts a b h0
  have hr : a - a.tdiv b * b = a.tmod b := by have := Int.tdiv_mul_add_tmod a b; omega
  unfold inR at ha hb hq
  have hp : a.tdiv b * b = a - a.tmod b := by omega
  refine ⟨hq.1, hq.2, ?_, ?_, hr, by omega, by omega, ?_, ?_, l1⟩
  · rw [hp]
    by_cases hs : 0 ≤ a
    · have := l2 hs
      have e : (a.tmod b).natAbs = a.natAbs % b.natAbs := Int.natAbs_tmod a b
      have e2 := Nat.mod_le a.natAbs b.natAbs
      omega
    · have := l3 (by omega)
      have e : (a.tmod b).natAbs = a.natAbs % b.natAbs := Int.natAbs_tmod a b
      have e2 := Nat.mod_le a.natAbs b.natAbs
      omega
  · rw [hp]
    by_cases hs : 0 ≤ a
    · have := l2 hs
      omega
    · have := l3 (by omega)
      have e : (a.tmod b).natAbs = a.natAbs % b.natAbs := Int.natAbs_tmod a b
      have e2 := Nat.mod_le a.natAbs b.natAbs
      omega
  · by_cases ht : a.tmod b = 0
    · exact .inl ht
    · refine .inr ?_
      by_cases hs : a < 0
      · have := l3 (by omega)
        simp [hs]; omega
      · have := l2 (by omega)
        simp [hs]; omega
  · unfold modI
    by_cases hc : a.tmod b ≠ 0 ∧ (a.tmod b < 0) ≠ (b < 0)
    · rw [if_pos hc]
      exact .inr ⟨rfl, hc.1, hc.2⟩
    · rw [if_neg hc]
      refine .inl ⟨rfl, ?_⟩
      by_cases ht : a.tmod b = 0
      · exact .inl ht
      · refine .inr (Classical.byContradiction fun h => hc ⟨ht, h⟩)
end Go.Proofs.YtnokajfhjmahpaaGreatDoor
