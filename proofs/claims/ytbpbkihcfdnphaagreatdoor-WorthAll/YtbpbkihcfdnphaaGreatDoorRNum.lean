/-
  The reference's number of the reader by a contract.
-/
import Derived.Test.YtbpbkihcfdnphaaGreatDoorRNumMinus
import Derived.Test.YtbpbkihcfdnphaaGreatDoorRNumPlain
import Derived.Test.YtbpbkihcfdnphaaGreatDoorRNumNought
namespace Go.Proofs.YtbpbkihcfdnphaaGreatDoor
open Go.RowKit
theorem rnum_any (w : World) (b : Nat) (s : ByteArray) (i : Nat) (bd : Int) (d : Nat) (h : RRAt w b s i bd 0) (hi : i < s.size) (hs : s.size ≤ 1048576) : Calls Tryz.prog 58 #[.pointer (some ⟨b, 0, none⟩)] w (RvP w b s bd (d + 1) (numX s i)) := by
  by_cases h1 : nxt s i = 45
  · exact rnum_minus w b s i bd d h hi hs h1
  by_cases h2 : nxt s i = 48
  · exact rnum_nought w b s i bd d h hi hs h2
  · exact rnum_plain w b s i bd d h hi hs h1 h2
end Go.Proofs.YtbpbkihcfdnphaaGreatDoor
