/-
  Plain values whose numbers are of 64 bits.
-/
import Derived.Test.YtnnonlnhgpplhaaGreatDoorNMath
import Derived.Test.YtnnonlnhgpplhaaGreatDoorBase
namespace Go.Proofs.YtnnonlnhgpplhaaGreatDoor
mutual
/-- The numbers of a plain value are of 64 bits. -/
def T.fitN : T → Prop | .node k n _ ks => (k = 3 → inR n) ∧ T.fitNL ks
def T.fitNL : List T → Prop | [] => True | t :: r => T.fitN t ∧ T.fitNL r
end
end Go.Proofs.YtnnonlnhgpplhaaGreatDoor
