/-
  craft.find by a contract: the first kind of that name in a table, or the zero kind.
-/
import Derived.Test.YtaodkfchmaendaaGreatDoorCData
namespace Go.Proofs.YtaodkfchmaendaaGreatDoor
open Go.RowKit
theorem str_eqb (x y : ByteArray) : (x.toList == y.toList) = decide (x = y) := by
  by_cases h : x = y
  · subst h; simp
  · rw [decide_eq_false h, beq_eq_false_iff_ne]
    intro e
    exact h (toList_inj e)
end Go.Proofs.YtaodkfchmaendaaGreatDoor
