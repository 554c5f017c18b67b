/-
  How many errors a chain has at hand.
-/
import Derived.Test.YtnmcmjgfnncdmaaGreatDoorZzEAsFacts
namespace Go.Proofs.YtnmcmjgfnncdmaaGreatDoor.Er
open Go.RowKit
/-- How many errors a chain has at hand. -/
def leftOf : Value → Nat
  | .iface _ (.agg cs) => (intOf (cs.getD 1 (.int .i64 0))).toNat
  | _ => 0
theorem leftOf_mk (t : TypeId) (e : Value) (n : Int) : leftOf (.iface t (.agg #[e, .int .i64 n])) = n.toNat := rfl

end Go.Proofs.YtnmcmjgfnncdmaaGreatDoor.Er
