/-
  DERIVED. GIVEN WITH THE SEED: THE CARDS: each row of YtaafcmmmkalgjaaGreatDoorRows.lean that lists a variable, with what it lists TIED to the program's text (the seventh form; the later family's looks); each row that meets fmt, with fmt's text TOLD by the authors' own Lean function (tested against real Go, not proved from fmt's source: count such statements apart). THE CARD IS WHAT COUNTS. Prove the row's statement (the work); the ties are given (YtaafcmmmkalgjaaGreatDoorTie.lean); close each card by the builder's one call (the guide's Derived/Test/ToyasCard.lean, 'card_holds'). Laid BY PROGRAM, IN A SANDBOX (cutbox-door.mjs). By AI agents, Wed Nov 11 2026. No macro, syntax, notation, axiom, sorry.
-/
import Derived.Test.YtaafcmmmkalgjaaGreatDoorRows
import GoSem.ClaimSeven
namespace Go.Proofs.YtaafcmmmkalgjaaGreatDoor
namespace Rows

/-- THE TIED CARD OF 'espalierlaw11.ListFresh'. -/
def listFreshCard : Claim7 := { stood := { row := listFreshRow, standIns := [], harness := (true, "82c502729d3ee80e19221c1c8389988b4bcabc8646b96f22eecbfba1ec196387"), looks := true }, kinds := [], alts := [], laidByText := true, laidKinds := [.listed, .data], laidTests := true, laidLooks := .later }
def ListFreshCardSaid : Prop := Claim7.holds Tryz.pinned (.plain (OpenSpec.ofChange listFreshSpec)) listFreshCard

/-- THE TIED CARD OF 'espalierlaw11.ListApart'. -/
def listApartCard : Claim7 := { stood := { row := listApartRow, standIns := [], harness := (true, "82c502729d3ee80e19221c1c8389988b4bcabc8646b96f22eecbfba1ec196387"), looks := true }, kinds := [], alts := [], laidByText := true, laidKinds := [.listed, .data], laidTests := true, laidLooks := .later }
def ListApartCardSaid : Prop := Claim7.holds Tryz.pinned (.plain (OpenSpec.ofChange listApartSpec)) listApartCard

/-- THE SECOND FORM's CARD OF 'espalierlaw11.ListFresh'. -/
def listFreshUptoCard : Claim7 := { stood := { row := listFreshUptoRow, standIns := [], harness := (true, "82c502729d3ee80e19221c1c8389988b4bcabc8646b96f22eecbfba1ec196387"), looks := true }, kinds := [], alts := [], laidByText := true, laidKinds := [.listed, .data], laidTests := true, laidLooks := .later }
def ListFreshUptoCardSaid : Prop := Claim7.holds Tryz.pinned (.plain (OpenSpec.upto listFreshSpec)) listFreshUptoCard

/-- THE SECOND FORM's CARD OF 'espalierlaw11.ListApart'. -/
def listApartUptoCard : Claim7 := { stood := { row := listApartUptoRow, standIns := [], harness := (true, "82c502729d3ee80e19221c1c8389988b4bcabc8646b96f22eecbfba1ec196387"), looks := true }, kinds := [], alts := [], laidByText := true, laidKinds := [.listed, .data], laidTests := true, laidLooks := .later }
def ListApartUptoCardSaid : Prop := Claim7.holds Tryz.pinned (.plain (OpenSpec.upto listApartSpec)) listApartUptoCard
end Rows
end Go.Proofs.YtaafcmmmkalgjaaGreatDoor
