/-
  What the loop of each of the statements holds.
-/
import Derived.Test.YthdmoghooaccgaaEachNone
import Derived.Test.YthdmoghooaccgaaPlays
import Derived.Test.YthdmoghooaccgaaRefAllF
import Derived.Test.YthdmoghooaccgaaRef
import Derived.Test.YthdmoghooaccgaaRefEq
import Derived.Test.YthdmoghooaccgaaPathsMath
import Derived.WalkMore
import Derived.LoopNIn
import Derived.Stop.RegionWithIn
namespace Go.Proofs.Ythdmoghooaccgaa
open Go.RowKit Go.Shelf
attribute [local go_sem] Oper.semAt_some
/-- What the loop of each holds between two rounds. -/
def ecI (ib sv : Nat) (M' : Nat → Prop) (i : Nat) (Z : World) : Prop := (M' = fun q => q = ib) ∧ Z.heap[ib]? = some (.cells #[.int .i64 i] 3) ∧ i ≤ sv
/-- .. where it is left. -/
def ecX (ib sv N : Nat) (c : Code) (M' : Nat → Prop) (Z : World) : Prop := c = .exit 2 ∧ (M' = fun q => q = ib) ∧ Z.heap[ib]? = some (.cells #[.int .i64 ((sv : Int) + 1)] 3) ∧ sv + 1 ≤ N
end Go.Proofs.Ythdmoghooaccgaa
