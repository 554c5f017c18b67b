/-
  great and Size, each by a contract.
-/
import Derived.Test.YtdikcdefpoolfaaAdd
namespace Go.Proofs.Ytdikcdefpoolfaa
open Go.RowKit
/-- What Size tells. -/
def sizeV (t : T) : Value := if t.small then .tuple #[.int .i64 t.size, .int .i64 t.height, .int .i64 t.bytes] else .tuple #[.int .i64 1025, .int .i64 65, .int .i64 16385]
end Go.Proofs.Ytdikcdefpoolfaa
