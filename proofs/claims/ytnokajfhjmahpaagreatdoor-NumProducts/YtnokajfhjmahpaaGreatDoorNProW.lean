/-
  espalierlaw8.NumProducts: it tells true.
-/
import Derived.Test.YtnokajfhjmahpaaGreatDoorNProA
import Derived.Test.YtnokajfhjmahpaaGreatDoorNProB
import Derived.Test.YtnokajfhjmahpaaGreatDoorNProC
import Derived.Test.YtnokajfhjmahpaaGreatDoorNProD
namespace Go.Proofs.YtnokajfhjmahpaaGreatDoor
open Go.RowKit
theorem products_true (a b : Int) (n : Nat) (ha : inR a) (hb : inR b) (hn : n ≤ 255) (w : World) (hm : MaxAt w) (hl : Laid w) : Calls Tryz.prog 6 #[.int .i64 a, .int .i64 b, .int .u8 n] w fun e w' => e = .returned (.bool true) ∧ Ext w w' := by
  by_cases hs : (a < 0) = (b < 0)
  · by_cases hin : inR (a * b)
    · exact pro_li a b n ha hb hn w hm hl hs hin
    · exact pro_lo a b n ha hb hn w hm hl hs hin
  · by_cases hin : inR (a * b)
    · exact pro_ui a b n ha hb hn w hm hl hs hin
    · exact pro_uo a b n ha hb hn w hm hl hs hin
end Go.Proofs.YtnokajfhjmahpaaGreatDoor
