/-
  What an append keeps.
-/
import Derived.Test.YtaodkfchmaendaaGreatDoorBase
import Derived.Laws.OwnMore
import Derived.Maps.AppendAt
import Derived.WalkMore
import Derived.Deep.RegionHeld3
import Derived.Deep.Cut
import Derived.BigQuiet
import Derived.Deep.LoopGhost
import Derived.Deep.CutRange
import Derived.Deep.CutBlock
namespace Go.Proofs.YtaodkfchmaendaaGreatDoor
open Go.RowKit
theorem grown_kp {w w' : World} {row : Option Nat} (h : w.grownBy w' row) : Kp (fun k => row ≠ some k) w w' := ⟨h.os, h.tape, h.output, h.size, fun k hk hK => h.block k hk (fun e => hK e.symm)⟩
end Go.Proofs.YtaodkfchmaendaaGreatDoor
