/-
  Texts that are equal.
-/
import Derived.Test.YtecabbifkcnbeaaGreatDoorHold
import Derived.LoopTactic
namespace Go.Proofs.YtecabbifkcnbeaaGreatDoor
open Go.RowKit
theorem toList_inj {a b : ByteArray} (e : a.toList = b.toList) : a = b := by
  rw [ByteArray.toList_eq, ByteArray.toList_eq] at e
  exact ByteArray.ext (Array.toList_inj.1 e)
theorem data_inj {a b : ByteArray} (e : a.data.toList = b.data.toList) : a = b := ByteArray.ext (Array.toList_inj.1 e)
end Go.Proofs.YtecabbifkcnbeaaGreatDoor
