/-
  DERIVED. GIVEN WITH THE SEED: THE CARDS: each row of YtnmcmjgfnncdmaaGreatDoorRows.lean that lists a variable, with what it lists TIED to the program's text (the seventh form; the later family's looks); each row that meets fmt, with fmt's text TOLD by the authors' own Lean function (tested against real Go, not proved from fmt's source: count such statements apart). THE CARD IS WHAT COUNTS. Prove the row's statement (the work); the ties are given (YtnmcmjgfnncdmaaGreatDoorTie.lean); close each card by the builder's one call (the guide's Derived/Test/ToyasCard.lean, 'card_holds'). Laid BY PROGRAM, IN A SANDBOX (cutbox-door.mjs). By AI agents, Wed Nov 11 2026. No macro, syntax, notation, axiom, sorry.
-/
import Derived.Test.YtnmcmjgfnncdmaaGreatDoorRows
import GoSem.ClaimSeven
namespace Go.Proofs.YtnmcmjgfnncdmaaGreatDoor
namespace Rows

/-- THE TIED CARD OF 'espalierlaw9.TruthWork'. -/
def truthWorkCard : Claim7 := { stood := { row := truthWorkRow, standIns := [], harness := (true, "27111192a1d547bd11d555cdf7827f3ee8cc52acc625798689fc138a5533c6eb"), looks := true }, kinds := [], alts := [], laidByText := true, laidKinds := [.listed, .data], laidTests := true, laidLooks := .later }
def TruthWorkCardSaid : Prop := Claim7.holds Tryz.pinned (.plain (OpenSpec.ofChange truthWorkSpec)) truthWorkCard

/-- THE TIED CARD OF 'espalierlaw10.WordsWork'. -/
def wordsWorkCard : Claim7 := { stood := { row := wordsWorkRow, standIns := [], harness := (true, "27111192a1d547bd11d555cdf7827f3ee8cc52acc625798689fc138a5533c6eb"), looks := true }, kinds := [], alts := [], laidByText := true, laidKinds := [.data, .data, .data, .sentinel, .sentinel, .listed, .data], laidTests := true, laidLooks := .later }
def WordsWorkCardSaid : Prop := Claim7.holds Tryz.pinned (.plain (OpenSpec.ofChange wordsWorkSpec)) wordsWorkCard

/-- THE TIED CARD OF 'espalierlaw11.ListWork'. -/
def listWorkCard : Claim7 := { stood := { row := listWorkRow, standIns := [], harness := (true, "27111192a1d547bd11d555cdf7827f3ee8cc52acc625798689fc138a5533c6eb"), looks := true }, kinds := [], alts := [], laidByText := true, laidKinds := [.listed, .data], laidTests := true, laidLooks := .later }
def ListWorkCardSaid : Prop := Claim7.holds Tryz.pinned (.plain (OpenSpec.ofChange listWorkSpec)) listWorkCard

/-- THE TIED CARD OF 'espalierlaw11.ListParts'. -/
def listPartsCard : Claim7 := { stood := { row := listPartsRow, standIns := [], harness := (true, "27111192a1d547bd11d555cdf7827f3ee8cc52acc625798689fc138a5533c6eb"), looks := true }, kinds := [], alts := [], laidByText := true, laidKinds := [.listed, .data], laidTests := true, laidLooks := .later }
def ListPartsCardSaid : Prop := Claim7.holds Tryz.pinned (.plain (OpenSpec.ofChange listPartsSpec)) listPartsCard

/-- THE TIED CARD OF 'espalierlaw11.ListCount'. -/
def listCountCard : Claim7 := { stood := { row := listCountRow, standIns := [], harness := (true, "27111192a1d547bd11d555cdf7827f3ee8cc52acc625798689fc138a5533c6eb"), looks := true }, kinds := [], alts := [], laidByText := true, laidKinds := [.listed, .data], laidTests := true, laidLooks := .later }
def ListCountCardSaid : Prop := Claim7.holds Tryz.pinned (.plain (OpenSpec.ofChange listCountSpec)) listCountCard

/-- THE TIED CARD OF 'espalierlaw13.CallFirst'. -/
def callFirstCard : Claim7 := { stood := { row := callFirstRow, standIns := [], harness := (true, "27111192a1d547bd11d555cdf7827f3ee8cc52acc625798689fc138a5533c6eb"), looks := true }, kinds := [], alts := [], laidByText := true, laidKinds := [.handle, .listed, .data], laidTests := true, laidLooks := .later }
def CallFirstCardSaid : Prop := Claim7.holds Tryz.pinned (.plain (OpenSpec.ofChange callFirstSpec)) callFirstCard

/-- THE SECOND FORM's CARD OF 'espalierlaw9.TruthWork'. -/
def truthWorkUptoCard : Claim7 := { stood := { row := truthWorkUptoRow, standIns := [], harness := (true, "27111192a1d547bd11d555cdf7827f3ee8cc52acc625798689fc138a5533c6eb"), looks := true }, kinds := [], alts := [], laidByText := true, laidKinds := [.listed, .data], laidTests := true, laidLooks := .later }
def TruthWorkUptoCardSaid : Prop := Claim7.holds Tryz.pinned (.plain (OpenSpec.upto truthWorkSpec)) truthWorkUptoCard

/-- THE SECOND FORM's CARD OF 'espalierlaw10.WordsWork'. -/
def wordsWorkUptoCard : Claim7 := { stood := { row := wordsWorkUptoRow, standIns := [], harness := (true, "27111192a1d547bd11d555cdf7827f3ee8cc52acc625798689fc138a5533c6eb"), looks := true }, kinds := [], alts := [], laidByText := true, laidKinds := [.data, .data, .data, .sentinel, .sentinel, .listed, .data], laidTests := true, laidLooks := .later }
def WordsWorkUptoCardSaid : Prop := Claim7.holds Tryz.pinned (.plain (OpenSpec.upto wordsWorkSpec)) wordsWorkUptoCard

/-- THE SECOND FORM's CARD OF 'espalierlaw11.ListWork'. -/
def listWorkUptoCard : Claim7 := { stood := { row := listWorkUptoRow, standIns := [], harness := (true, "27111192a1d547bd11d555cdf7827f3ee8cc52acc625798689fc138a5533c6eb"), looks := true }, kinds := [], alts := [], laidByText := true, laidKinds := [.listed, .data], laidTests := true, laidLooks := .later }
def ListWorkUptoCardSaid : Prop := Claim7.holds Tryz.pinned (.plain (OpenSpec.upto listWorkSpec)) listWorkUptoCard

/-- THE SECOND FORM's CARD OF 'espalierlaw11.ListParts'. -/
def listPartsUptoCard : Claim7 := { stood := { row := listPartsUptoRow, standIns := [], harness := (true, "27111192a1d547bd11d555cdf7827f3ee8cc52acc625798689fc138a5533c6eb"), looks := true }, kinds := [], alts := [], laidByText := true, laidKinds := [.listed, .data], laidTests := true, laidLooks := .later }
def ListPartsUptoCardSaid : Prop := Claim7.holds Tryz.pinned (.plain (OpenSpec.upto listPartsSpec)) listPartsUptoCard

/-- THE SECOND FORM's CARD OF 'espalierlaw11.ListCount'. -/
def listCountUptoCard : Claim7 := { stood := { row := listCountUptoRow, standIns := [], harness := (true, "27111192a1d547bd11d555cdf7827f3ee8cc52acc625798689fc138a5533c6eb"), looks := true }, kinds := [], alts := [], laidByText := true, laidKinds := [.listed, .data], laidTests := true, laidLooks := .later }
def ListCountUptoCardSaid : Prop := Claim7.holds Tryz.pinned (.plain (OpenSpec.upto listCountSpec)) listCountUptoCard

/-- THE SECOND FORM's CARD OF 'espalierlaw13.CallFirst'. -/
def callFirstUptoCard : Claim7 := { stood := { row := callFirstUptoRow, standIns := [], harness := (true, "27111192a1d547bd11d555cdf7827f3ee8cc52acc625798689fc138a5533c6eb"), looks := true }, kinds := [], alts := [], laidByText := true, laidKinds := [.handle, .listed, .data], laidTests := true, laidLooks := .later }
def CallFirstUptoCardSaid : Prop := Claim7.holds Tryz.pinned (.plain (OpenSpec.upto callFirstSpec)) callFirstUptoCard
end Rows
end Go.Proofs.YtnmcmjgfnncdmaaGreatDoor
