/-
  (*measure).add, great, Size, each by a contract.
-/
import Derived.Test.YtdikcdefpoolfaaBase
import Derived.WalkMore
import Derived.Deep.RegionHeld3
import Derived.Deep.Cut
import Derived.BigQuiet
import Derived.Deep.LoopGhost
import Derived.Deep.CutRange
import Derived.Deep.CutBlock
namespace Go.Proofs.Ytdikcdefpoolfaa
open Go.RowKit
end Go.Proofs.Ytdikcdefpoolfaa
