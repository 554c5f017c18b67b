/-
  The walk of espalierlaw5.SortUnifies: it returns true.
-/
import Derived.Test.YtllbelglilkdpaaDoorSUniM
import Derived.Test.YtllbelglilkdpaaDoorSGivens
import Derived.Test.YtllbelglilkdpaaDoorSBegun
namespace Go.Proofs.YtllbelglilkdpaaDoor
open Go.RowKit
theorem uniL_chain (o : Option (Option (ByteArray × (Nat × ByteArray)))) : ∀ g ∈ uniL o, ∃ n x, g.2 = chain n x := by
  intro g hg
  match o, hg with
  | some (some (k, q)), hg =>
    have : g = (k, chain q.1 q.2) := by simpa [uniL] using hg
    exact ⟨q.1, q.2, by rw [this]⟩
theorem uniL_len (o : Option (Option (ByteArray × (Nat × ByteArray)))) : (uniL o).length ≤ 1 := by
  match o with
  | none => exact Nat.zero_le _
  | some none => exact Nat.zero_le _
  | some (some (k, q)) => exact Nat.le_refl _
theorem ne_zero {E : Int} (h : ¬ E = 0) : (E != 0) = true ∧ (E == 0) = false := ⟨by rw [bne_iff_ne]; exact h, by rw [beq_eq_false_iff_ne]; exact h⟩
theorem mayS_some {t : S} {a : Nat × ByteArray} (h : shp t = some a) : mayS t = 0 := by unfold mayS; rw [h]; rfl
theorem mayS_none {t : S} (h : shp t = none) : mayS t = 14 := by unfold mayS; rw [h]; rfl
theorem uni_each {t u : S} {a b : Nat × ByteArray} {l : List (ByteArray × S)} (ht : shp t = some a) (hu : shp u = some b) (h1 : (apS t l).1 = 0) (h2 : (apS u l).1 = 0) (hs : sameS (apS t l).2 (apS u l).2 = true) :
    (uniT t u).isSome = true ∧ ∀ g ∈ uniL (uniT t u), (apS (.node g.1 []) l).1 = 0 → (apS g.2 l).1 = 0 → sameS (apS (.node g.1 []) l).2 (apS g.2 l).2 = true := by
  have e : uniT t u = uniS a b := by unfold uniT; rw [ht, hu]
  rw [e]
  obtain ⟨h3, h4⟩ := uni_most ht hu h1 h2 hs
  refine ⟨h3, fun g hg => ?_⟩
  cases ho : uniS a b with
  | none => rw [ho] at hg; cases hg
  | some oo =>
    cases oo with
    | none => rw [ho] at hg; cases hg
    | some kq =>
      obtain ⟨k, q⟩ := kq
      rw [ho] at hg
      have : g = (k, chain q.1 q.2) := by simpa [uniL] using hg
      subst this
      exact h4 k q ho
theorem uni_app' {t u : S} {a b : Nat × ByteArray} (ht : shp t = some a) (hu : shp u = some b) (ho : (uniT t u).isSome = true) : apS t (uniL (uniT t u)) = apS u (uniL (uniT t u)) ∧ (apS t (uniL (uniT t u))).1 = 0 ∧ sameS (apS t (uniL (uniT t u))).2 (apS t (uniL (uniT t u))).2 = true := by
  have e : uniT t u = uniS a b := by unfold uniT; rw [ht, hu]
  rw [e] at ho ⊢
  exact uni_app ht hu ho

end Go.Proofs.YtllbelglilkdpaaDoor
