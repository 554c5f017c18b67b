/-
  DERIVED. GIVEN WITH THE SEED: THE CARDS: each row of YtecabbifkcnbeaaGreatDoorRows.lean that lists a variable, with what it lists TIED to the program's text (the seventh form; the later family's looks); each row that meets fmt, with fmt's text TOLD by the authors' own Lean function (tested against real Go, not proved from fmt's source: count such statements apart). THE CARD IS WHAT COUNTS. Prove the row's statement (the work); the ties are given (YtecabbifkcnbeaaGreatDoorTie.lean); close each card by the builder's one call (the guide's Derived/Test/ToyasCard.lean, 'card_holds'). Laid BY PROGRAM, IN A SANDBOX (cutbox-door.mjs). By AI agents, Wed Nov 11 2026. No macro, syntax, notation, axiom, sorry.
-/
import Derived.Test.YtecabbifkcnbeaaGreatDoorRows
import GoSem.ClaimSeven
namespace Go.Proofs.YtecabbifkcnbeaaGreatDoor
namespace Rows

/-- THE TIED CARD OF 'espalierlaw10.WordsWork'. -/
def wordsWorkCard : Claim7 := { stood := { row := wordsWorkRow, standIns := [], harness := (true, "52a1546cba209d61c2bacfdf0d8bdb4224e5f1da33ff4b48af56541f9999999d"), looks := true }, kinds := [], alts := [], laidByText := true, laidKinds := [.data, .data, .data, .sentinel, .sentinel, .listed, .data], laidTests := true, laidLooks := .later }
def WordsWorkCardSaid : Prop := Claim7.holds Tryz.pinned (.plain (OpenSpec.ofChange wordsWorkSpec)) wordsWorkCard

/-- THE TIED CARD OF 'espalierlaw11.ListWork'. -/
def listWorkCard : Claim7 := { stood := { row := listWorkRow, standIns := [], harness := (true, "52a1546cba209d61c2bacfdf0d8bdb4224e5f1da33ff4b48af56541f9999999d"), looks := true }, kinds := [], alts := [], laidByText := true, laidKinds := [.listed, .data], laidTests := true, laidLooks := .later }
def ListWorkCardSaid : Prop := Claim7.holds Tryz.pinned (.plain (OpenSpec.ofChange listWorkSpec)) listWorkCard

/-- THE TIED CARD OF 'espalierlaw11.ListParts'. -/
def listPartsCard : Claim7 := { stood := { row := listPartsRow, standIns := [], harness := (true, "52a1546cba209d61c2bacfdf0d8bdb4224e5f1da33ff4b48af56541f9999999d"), looks := true }, kinds := [], alts := [], laidByText := true, laidKinds := [.listed, .data], laidTests := true, laidLooks := .later }
def ListPartsCardSaid : Prop := Claim7.holds Tryz.pinned (.plain (OpenSpec.ofChange listPartsSpec)) listPartsCard

/-- THE SECOND FORM's CARD OF 'espalierlaw10.WordsWork'. -/
def wordsWorkUptoCard : Claim7 := { stood := { row := wordsWorkUptoRow, standIns := [], harness := (true, "52a1546cba209d61c2bacfdf0d8bdb4224e5f1da33ff4b48af56541f9999999d"), looks := true }, kinds := [], alts := [], laidByText := true, laidKinds := [.data, .data, .data, .sentinel, .sentinel, .listed, .data], laidTests := true, laidLooks := .later }
def WordsWorkUptoCardSaid : Prop := Claim7.holds Tryz.pinned (.plain (OpenSpec.upto wordsWorkSpec)) wordsWorkUptoCard

/-- THE SECOND FORM's CARD OF 'espalierlaw11.ListWork'. -/
def listWorkUptoCard : Claim7 := { stood := { row := listWorkUptoRow, standIns := [], harness := (true, "52a1546cba209d61c2bacfdf0d8bdb4224e5f1da33ff4b48af56541f9999999d"), looks := true }, kinds := [], alts := [], laidByText := true, laidKinds := [.listed, .data], laidTests := true, laidLooks := .later }
def ListWorkUptoCardSaid : Prop := Claim7.holds Tryz.pinned (.plain (OpenSpec.upto listWorkSpec)) listWorkUptoCard

/-- THE SECOND FORM's CARD OF 'espalierlaw11.ListParts'. -/
def listPartsUptoCard : Claim7 := { stood := { row := listPartsUptoRow, standIns := [], harness := (true, "52a1546cba209d61c2bacfdf0d8bdb4224e5f1da33ff4b48af56541f9999999d"), looks := true }, kinds := [], alts := [], laidByText := true, laidKinds := [.listed, .data], laidTests := true, laidLooks := .later }
def ListPartsUptoCardSaid : Prop := Claim7.holds Tryz.pinned (.plain (OpenSpec.upto listPartsSpec)) listPartsUptoCard
end Rows
end Go.Proofs.YtecabbifkcnbeaaGreatDoor
