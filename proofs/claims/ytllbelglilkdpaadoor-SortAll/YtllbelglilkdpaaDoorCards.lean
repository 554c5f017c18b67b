/-
  DERIVED. GIVEN WITH THE SEED: THE CARDS: each row of YtllbelglilkdpaaDoorRows.lean that lists a variable, with what it lists TIED to the program's text (the seventh form; the later family's looks); each row that meets fmt, with fmt's text TOLD by the authors' own Lean function (tested against real Go, not proved from fmt's source: count such statements apart). THE CARD IS WHAT COUNTS. Prove the row's statement (the work); the ties are given (YtllbelglilkdpaaDoorTie.lean); close each card by the builder's one call (the guide's Derived/Test/ToyasCard.lean, 'card_holds'). Laid BY PROGRAM, IN A SANDBOX (cutbox-door.mjs). By AI agents, Wed Nov 11 2026. No macro, syntax, notation, axiom, sorry.
-/
import Derived.Test.YtllbelglilkdpaaDoorRows
import GoSem.ClaimSeven
namespace Go.Proofs.YtllbelglilkdpaaDoor
namespace Rows

/-- THE TIED CARD OF 'espalierlaw5.SortAll'. -/
def sortAllCard : Claim7 := { stood := { row := sortAllRow, standIns := [], harness := (true, "0d6dc656acca132e63a2d40672bb8d912ff785b2ff7b2d1e7c04984c99560b1f"), looks := false }, kinds := [], alts := [], laidByText := true, laidKinds := [.data, .data, .data], laidTests := true, laidLooks := .later }
def SortAllCardSaid : Prop := Claim7.holds Tryd.pinned (.plain (OpenSpec.ofChange sortAllSpec)) sortAllCard

/-- THE TIED CARD OF 'espalierlaw5.SortThere'. -/
def sortThereCard : Claim7 := { stood := { row := sortThereRow, standIns := [], harness := (true, "0d6dc656acca132e63a2d40672bb8d912ff785b2ff7b2d1e7c04984c99560b1f"), looks := false }, kinds := [], alts := [], laidByText := true, laidKinds := [.data, .data, .data], laidTests := true, laidLooks := .later }
def SortThereCardSaid : Prop := Claim7.holds Tryd.pinned (.plain (OpenSpec.ofChange sortThereSpec)) sortThereCard

/-- THE TIED CARD OF 'espalierlaw5.SortUnifies'. -/
def sortUnifiesCard : Claim7 := { stood := { row := sortUnifiesRow, standIns := [], harness := (true, "0d6dc656acca132e63a2d40672bb8d912ff785b2ff7b2d1e7c04984c99560b1f"), looks := false }, kinds := [], alts := [], laidByText := true, laidKinds := [.data, .data, .data], laidTests := true, laidLooks := .later }
def SortUnifiesCardSaid : Prop := Claim7.holds Tryd.pinned (.plain (OpenSpec.ofChange sortUnifiesSpec)) sortUnifiesCard

/-- THE TIED CARD OF 'espalierlaw5.SortValues'. -/
def sortValuesCard : Claim7 := { stood := { row := sortValuesRow, standIns := [], harness := (true, "0d6dc656acca132e63a2d40672bb8d912ff785b2ff7b2d1e7c04984c99560b1f"), looks := false }, kinds := [], alts := [], laidByText := true, laidKinds := [.data, .data, .data], laidTests := true, laidLooks := .later }
def SortValuesCardSaid : Prop := Claim7.holds Tryd.pinned (.plain (OpenSpec.ofChange sortValuesSpec)) sortValuesCard

/-- THE SECOND FORM's CARD OF 'espalierlaw5.SortAll'. -/
def sortAllUptoCard : Claim7 := { stood := { row := sortAllUptoRow, standIns := [], harness := (true, "0d6dc656acca132e63a2d40672bb8d912ff785b2ff7b2d1e7c04984c99560b1f"), looks := false }, kinds := [], alts := [], laidByText := true, laidKinds := [.data, .data, .data], laidTests := true, laidLooks := .later }
def SortAllUptoCardSaid : Prop := Claim7.holds Tryd.pinned (.plain (OpenSpec.upto sortAllSpec)) sortAllUptoCard

/-- THE SECOND FORM's CARD OF 'espalierlaw5.SortThere'. -/
def sortThereUptoCard : Claim7 := { stood := { row := sortThereUptoRow, standIns := [], harness := (true, "0d6dc656acca132e63a2d40672bb8d912ff785b2ff7b2d1e7c04984c99560b1f"), looks := false }, kinds := [], alts := [], laidByText := true, laidKinds := [.data, .data, .data], laidTests := true, laidLooks := .later }
def SortThereUptoCardSaid : Prop := Claim7.holds Tryd.pinned (.plain (OpenSpec.upto sortThereSpec)) sortThereUptoCard

/-- THE SECOND FORM's CARD OF 'espalierlaw5.SortUnifies'. -/
def sortUnifiesUptoCard : Claim7 := { stood := { row := sortUnifiesUptoRow, standIns := [], harness := (true, "0d6dc656acca132e63a2d40672bb8d912ff785b2ff7b2d1e7c04984c99560b1f"), looks := false }, kinds := [], alts := [], laidByText := true, laidKinds := [.data, .data, .data], laidTests := true, laidLooks := .later }
def SortUnifiesUptoCardSaid : Prop := Claim7.holds Tryd.pinned (.plain (OpenSpec.upto sortUnifiesSpec)) sortUnifiesUptoCard

/-- THE SECOND FORM's CARD OF 'espalierlaw5.SortValues'. -/
def sortValuesUptoCard : Claim7 := { stood := { row := sortValuesUptoRow, standIns := [], harness := (true, "0d6dc656acca132e63a2d40672bb8d912ff785b2ff7b2d1e7c04984c99560b1f"), looks := false }, kinds := [], alts := [], laidByText := true, laidKinds := [.data, .data, .data], laidTests := true, laidLooks := .later }
def SortValuesUptoCardSaid : Prop := Claim7.holds Tryd.pinned (.plain (OpenSpec.upto sortValuesSpec)) sortValuesUptoCard
end Rows
end Go.Proofs.YtllbelglilkdpaaDoor
