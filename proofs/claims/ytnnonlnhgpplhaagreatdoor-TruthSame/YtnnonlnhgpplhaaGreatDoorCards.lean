/-
  DERIVED. GIVEN WITH THE SEED: THE CARDS: each row of YtnnonlnhgpplhaaGreatDoorRows.lean that lists a variable, with what it lists TIED to the program's text (the seventh form; the later family's looks); each row that meets fmt, with fmt's text TOLD by the authors' own Lean function (tested against real Go, not proved from fmt's source: count such statements apart). THE CARD IS WHAT COUNTS. Prove the row's statement (the work); the ties are given (YtnnonlnhgpplhaaGreatDoorTie.lean); close each card by the builder's one call (the guide's Derived/Test/ToyasCard.lean, 'card_holds'). Laid BY PROGRAM, IN A SANDBOX (cutbox-door.mjs). By AI agents, Wed Nov 11 2026. No macro, syntax, notation, axiom, sorry.
-/
import Derived.Test.YtnnonlnhgpplhaaGreatDoorRows
import GoSem.ClaimSeven
namespace Go.Proofs.YtnnonlnhgpplhaaGreatDoor
namespace Rows

/-- THE TIED CARD OF 'espalierlaw9.TruthWork'. -/
def truthWorkCard : Claim7 := { stood := { row := truthWorkRow, standIns := [], harness := (true, "292a1dba0694266e787de1b4437d47e196f6956de550fe38a9f04578924ce597"), looks := true }, kinds := [], alts := [], laidByText := true, laidKinds := [.listed, .data], laidTests := true, laidLooks := .later }
def TruthWorkCardSaid : Prop := Claim7.holds Tryz.pinned (.plain (OpenSpec.ofChange truthWorkSpec)) truthWorkCard

/-- THE TIED CARD OF 'espalierlaw9.TruthSame'. -/
def truthSameCard : Claim7 := { stood := { row := truthSameRow, standIns := [], harness := (true, "292a1dba0694266e787de1b4437d47e196f6956de550fe38a9f04578924ce597"), looks := true }, kinds := [], alts := [], laidByText := true, laidKinds := [.listed, .data], laidTests := true, laidLooks := .later }
def TruthSameCardSaid : Prop := Claim7.holds Tryz.pinned (.plain (OpenSpec.ofChange truthSameSpec)) truthSameCard

/-- THE TIED CARD OF 'espalierlaw13.CallWork'. -/
def callWorkCard : Claim7 := { stood := { row := callWorkRow, standIns := [], harness := (true, "292a1dba0694266e787de1b4437d47e196f6956de550fe38a9f04578924ce597"), looks := true }, kinds := [], alts := [], laidByText := true, laidKinds := [.listed, .data], laidTests := true, laidLooks := .later }
def CallWorkCardSaid : Prop := Claim7.holds Tryz.pinned (.plain (OpenSpec.ofChange callWorkSpec)) callWorkCard

/-- THE TIED CARD OF 'espalierlaw13.CallFirst'. -/
def callFirstCard : Claim7 := { stood := { row := callFirstRow, standIns := [], harness := (true, "292a1dba0694266e787de1b4437d47e196f6956de550fe38a9f04578924ce597"), looks := true }, kinds := [], alts := [], laidByText := true, laidKinds := [.handle, .listed, .data], laidTests := true, laidLooks := .later }
def CallFirstCardSaid : Prop := Claim7.holds Tryz.pinned (.plain (OpenSpec.ofChange callFirstSpec)) callFirstCard

/-- THE TIED CARD OF 'espalierlaw11.ListParts'. -/
def listPartsCard : Claim7 := { stood := { row := listPartsRow, standIns := [], harness := (true, "292a1dba0694266e787de1b4437d47e196f6956de550fe38a9f04578924ce597"), looks := true }, kinds := [], alts := [], laidByText := true, laidKinds := [.listed, .data], laidTests := true, laidLooks := .later }
def ListPartsCardSaid : Prop := Claim7.holds Tryz.pinned (.plain (OpenSpec.ofChange listPartsSpec)) listPartsCard

/-- THE TIED CARD OF 'espalierlaw11.ListCount'. -/
def listCountCard : Claim7 := { stood := { row := listCountRow, standIns := [], harness := (true, "292a1dba0694266e787de1b4437d47e196f6956de550fe38a9f04578924ce597"), looks := true }, kinds := [], alts := [], laidByText := true, laidKinds := [.listed, .data], laidTests := true, laidLooks := .later }
def ListCountCardSaid : Prop := Claim7.holds Tryz.pinned (.plain (OpenSpec.ofChange listCountSpec)) listCountCard

/-- THE SECOND FORM's CARD OF 'espalierlaw9.TruthWork'. -/
def truthWorkUptoCard : Claim7 := { stood := { row := truthWorkUptoRow, standIns := [], harness := (true, "292a1dba0694266e787de1b4437d47e196f6956de550fe38a9f04578924ce597"), looks := true }, kinds := [], alts := [], laidByText := true, laidKinds := [.listed, .data], laidTests := true, laidLooks := .later }
def TruthWorkUptoCardSaid : Prop := Claim7.holds Tryz.pinned (.plain (OpenSpec.upto truthWorkSpec)) truthWorkUptoCard

/-- THE SECOND FORM's CARD OF 'espalierlaw9.TruthSame'. -/
def truthSameUptoCard : Claim7 := { stood := { row := truthSameUptoRow, standIns := [], harness := (true, "292a1dba0694266e787de1b4437d47e196f6956de550fe38a9f04578924ce597"), looks := true }, kinds := [], alts := [], laidByText := true, laidKinds := [.listed, .data], laidTests := true, laidLooks := .later }
def TruthSameUptoCardSaid : Prop := Claim7.holds Tryz.pinned (.plain (OpenSpec.upto truthSameSpec)) truthSameUptoCard

/-- THE SECOND FORM's CARD OF 'espalierlaw13.CallWork'. -/
def callWorkUptoCard : Claim7 := { stood := { row := callWorkUptoRow, standIns := [], harness := (true, "292a1dba0694266e787de1b4437d47e196f6956de550fe38a9f04578924ce597"), looks := true }, kinds := [], alts := [], laidByText := true, laidKinds := [.listed, .data], laidTests := true, laidLooks := .later }
def CallWorkUptoCardSaid : Prop := Claim7.holds Tryz.pinned (.plain (OpenSpec.upto callWorkSpec)) callWorkUptoCard

/-- THE SECOND FORM's CARD OF 'espalierlaw13.CallFirst'. -/
def callFirstUptoCard : Claim7 := { stood := { row := callFirstUptoRow, standIns := [], harness := (true, "292a1dba0694266e787de1b4437d47e196f6956de550fe38a9f04578924ce597"), looks := true }, kinds := [], alts := [], laidByText := true, laidKinds := [.handle, .listed, .data], laidTests := true, laidLooks := .later }
def CallFirstUptoCardSaid : Prop := Claim7.holds Tryz.pinned (.plain (OpenSpec.upto callFirstSpec)) callFirstUptoCard

/-- THE SECOND FORM's CARD OF 'espalierlaw11.ListParts'. -/
def listPartsUptoCard : Claim7 := { stood := { row := listPartsUptoRow, standIns := [], harness := (true, "292a1dba0694266e787de1b4437d47e196f6956de550fe38a9f04578924ce597"), looks := true }, kinds := [], alts := [], laidByText := true, laidKinds := [.listed, .data], laidTests := true, laidLooks := .later }
def ListPartsUptoCardSaid : Prop := Claim7.holds Tryz.pinned (.plain (OpenSpec.upto listPartsSpec)) listPartsUptoCard

/-- THE SECOND FORM's CARD OF 'espalierlaw11.ListCount'. -/
def listCountUptoCard : Claim7 := { stood := { row := listCountUptoRow, standIns := [], harness := (true, "292a1dba0694266e787de1b4437d47e196f6956de550fe38a9f04578924ce597"), looks := true }, kinds := [], alts := [], laidByText := true, laidKinds := [.listed, .data], laidTests := true, laidLooks := .later }
def ListCountUptoCardSaid : Prop := Claim7.holds Tryz.pinned (.plain (OpenSpec.upto listCountSpec)) listCountUptoCard
end Rows
end Go.Proofs.YtnnonlnhgpplhaaGreatDoor
