/-
  DERIVED. GIVEN WITH THE SEED: THE CARDS: each row of YtnmcmjgfnncdmabGreatDoorRows.lean that lists a variable, with what it lists TIED to the program's text (the seventh form; the later family's looks); each row that meets fmt, with fmt's text TOLD by the authors' own Lean function (tested against real Go, not proved from fmt's source: count such statements apart). THE CARD IS WHAT COUNTS. Prove the row's statement (the work); the ties are given (YtnmcmjgfnncdmabGreatDoorTie.lean); close each card by the builder's one call (the guide's Derived/Test/ToyasCard.lean, 'card_holds'). Laid BY PROGRAM, IN A SANDBOX (cutbox-door.mjs). By AI agents, Wed Nov 11 2026. No macro, syntax, notation, axiom, sorry.
-/
import Derived.Test.YtnmcmjgfnncdmabGreatDoorRows
import GoSem.ClaimSeven
namespace Go.Proofs.YtnmcmjgfnncdmabGreatDoor
namespace Rows

/-- THE TIED CARD OF 'espalierlaw15.GuardWork'. -/
def guardWorkCard : Claim7 := { stood := { row := guardWorkRow, standIns := [], harness := (true, "92bf0efa398fcc63f4d4e8e8f319da26d05994db41a66e6195099e34342bfa30"), looks := true }, kinds := [], alts := [], laidByText := true, laidKinds := [.listed, .data], laidTests := true, laidLooks := .later }
def GuardWorkCardSaid : Prop := Claim7.holds Tryz.pinned (.plain (OpenSpec.ofChange guardWorkSpec)) guardWorkCard

/-- THE TIED CARD OF 'espalierlaw15.GuardChecks'. -/
def guardChecksCard : Claim7 := { stood := { row := guardChecksRow, standIns := [], harness := (true, "92bf0efa398fcc63f4d4e8e8f319da26d05994db41a66e6195099e34342bfa30"), looks := true }, kinds := [], alts := [], laidByText := true, laidKinds := [.listed, .data], laidTests := true, laidLooks := .later }
def GuardChecksCardSaid : Prop := Claim7.holds Tryz.pinned (.plain (OpenSpec.ofChange guardChecksSpec)) guardChecksCard

/-- THE SECOND FORM's CARD OF 'espalierlaw15.GuardWork'. -/
def guardWorkUptoCard : Claim7 := { stood := { row := guardWorkUptoRow, standIns := [], harness := (true, "92bf0efa398fcc63f4d4e8e8f319da26d05994db41a66e6195099e34342bfa30"), looks := true }, kinds := [], alts := [], laidByText := true, laidKinds := [.listed, .data], laidTests := true, laidLooks := .later }
def GuardWorkUptoCardSaid : Prop := Claim7.holds Tryz.pinned (.plain (OpenSpec.upto guardWorkSpec)) guardWorkUptoCard

/-- THE SECOND FORM's CARD OF 'espalierlaw15.GuardChecks'. -/
def guardChecksUptoCard : Claim7 := { stood := { row := guardChecksUptoRow, standIns := [], harness := (true, "92bf0efa398fcc63f4d4e8e8f319da26d05994db41a66e6195099e34342bfa30"), looks := true }, kinds := [], alts := [], laidByText := true, laidKinds := [.listed, .data], laidTests := true, laidLooks := .later }
def GuardChecksUptoCardSaid : Prop := Claim7.holds Tryz.pinned (.plain (OpenSpec.upto guardChecksSpec)) guardChecksUptoCard
end Rows
end Go.Proofs.YtnmcmjgfnncdmabGreatDoor
