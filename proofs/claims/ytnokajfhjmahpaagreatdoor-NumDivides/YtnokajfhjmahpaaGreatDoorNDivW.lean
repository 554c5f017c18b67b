/-
  espalierlaw8.NumDivides: it tells true.
-/
import Derived.Test.YtnokajfhjmahpaaGreatDoorNDivA
import Derived.Test.YtnokajfhjmahpaaGreatDoorNDivB
import Derived.Test.YtnokajfhjmahpaaGreatDoorNDivC
import Derived.Test.YtnokajfhjmahpaaGreatDoorNDivD
namespace Go.Proofs.YtnokajfhjmahpaaGreatDoor
open Go.RowKit
theorem divides_true (a b : Int) (ha : inR a) (hb : inR b) (w : World) (hm : MaxAt w) (hl : Laid w) : Calls Tryz.prog 5 #[.int .i64 a, .int .i64 b] w fun e w' => e = .returned (.bool true) ∧ Ext w w' := by
  by_cases h0 : b = 0
  · exact div_zero a b ha hb w hm hl (by rw [h0]; unfold inR at *; omega) (by rw [h0]; unfold inR at *; omega) h0
  · by_cases hmm : a = -9223372036854775808 ∧ b = -1
    · exact div_least a b ha hb w hm hl (by unfold inR at *; omega) (by unfold inR at *; omega) hmm.1 hmm.2
    · by_cases hA : inR (a + b)
      · by_cases hS : inR (a - b)
        · exact div_ii a b ha hb w hm hl hA hS h0 hmm
        · exact div_io a b ha hb w hm hl hA hS h0 hmm
      · have hS : inR (a - b) := by unfold inR at *; omega
        exact div_oi a b ha hb w hm hl hA hS h0 hmm
end Go.Proofs.YtnokajfhjmahpaaGreatDoor
