/-
  DERIVED. GIVEN WITH THE SEED: THE CARDS: each row of YtflcmdjekmmkkabDoorRows.lean that lists a variable, with what it lists TIED to the program's text (the seventh form; the later family's looks); each row that meets fmt, with fmt's text TOLD by the authors' own Lean function (tested against real Go, not proved from fmt's source: count such statements apart). THE CARD IS WHAT COUNTS. Prove the row's statement (the work); the ties are given (YtflcmdjekmmkkabDoorTie.lean); close each card by the builder's one call (the guide's Derived/Test/ToyasCard.lean, 'card_holds'). Laid BY PROGRAM, IN A SANDBOX (cutbox-door.mjs). By AI agents, Wed Nov 11 2026. No macro, syntax, notation, axiom, sorry.
-/
import Derived.Test.YtflcmdjekmmkkabDoorRows
import GoSem.ClaimSeven
namespace Go.Proofs.YtflcmdjekmmkkabDoor
namespace Rows

/-- THE TIED CARD OF 'espalierlaw1.FaultRing'. -/
def faultRingCard : Claim7 := { stood := { row := faultRingRow, standIns := [], harness := (true, "3cb053983901c2519288230a632717fc62aaabab2a91a2db154f86c00b9a6b90"), looks := true }, kinds := [], alts := [], laidByText := true, laidKinds := [.handle], laidTests := true, laidLooks := .later }
def FaultRingCardSaid : Prop := Claim7.holds Tryd.pinned (.plain (OpenSpec.ofChange faultRingSpec)) faultRingCard

/-- THE SECOND FORM's CARD OF 'espalierlaw1.FaultRing'. -/
def faultRingUptoCard : Claim7 := { stood := { row := faultRingUptoRow, standIns := [], harness := (true, "3cb053983901c2519288230a632717fc62aaabab2a91a2db154f86c00b9a6b90"), looks := true }, kinds := [], alts := [], laidByText := true, laidKinds := [.handle], laidTests := true, laidLooks := .later }
def FaultRingUptoCardSaid : Prop := Claim7.holds Tryd.pinned (.plain (OpenSpec.upto faultRingSpec)) faultRingUptoCard
end Rows
end Go.Proofs.YtflcmdjekmmkkabDoor
