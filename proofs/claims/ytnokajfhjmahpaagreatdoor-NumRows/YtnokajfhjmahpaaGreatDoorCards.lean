/-
  DERIVED. GIVEN WITH THE SEED: THE CARDS: each row of YtnokajfhjmahpaaGreatDoorRows.lean that lists a variable, with what it lists TIED to the program's text (the seventh form; the later family's looks); each row that meets fmt, with fmt's text TOLD by the authors' own Lean function (tested against real Go, not proved from fmt's source: count such statements apart). THE CARD IS WHAT COUNTS. Prove the row's statement (the work); the ties are given (YtnokajfhjmahpaaGreatDoorTie.lean); close each card by the builder's one call (the guide's Derived/Test/ToyasCard.lean, 'card_holds'). Laid BY PROGRAM, IN A SANDBOX (cutbox-door.mjs). By AI agents, Wed Nov 11 2026. No macro, syntax, notation, axiom, sorry.
-/
import Derived.Test.YtnokajfhjmahpaaGreatDoorRows
import GoSem.ClaimSeven
namespace Go.Proofs.YtnokajfhjmahpaaGreatDoor
namespace Rows

/-- THE TIED CARD OF 'espalierlaw8.NumRows'. -/
def numRowsCard : Claim7 := { stood := { row := numRowsRow, standIns := [], harness := (true, "25c50c647f0253844b70bab7c52f2129bf584a212c64a878ceb662ff0750e548"), looks := true }, kinds := [], alts := [], laidByText := true, laidKinds := [.listed, .data], laidTests := true, laidLooks := .later }
def NumRowsCardSaid : Prop := Claim7.holds Tryz.pinned (.plain (OpenSpec.ofChange numRowsSpec)) numRowsCard

/-- THE TIED CARD OF 'espalierlaw8.NumWork'. -/
def numWorkCard : Claim7 := { stood := { row := numWorkRow, standIns := [], harness := (true, "25c50c647f0253844b70bab7c52f2129bf584a212c64a878ceb662ff0750e548"), looks := true }, kinds := [], alts := [], laidByText := true, laidKinds := [.listed, .data], laidTests := true, laidLooks := .later }
def NumWorkCardSaid : Prop := Claim7.holds Tryz.pinned (.plain (OpenSpec.ofChange numWorkSpec)) numWorkCard

/-- THE TIED CARD OF 'espalierlaw8.NumDivides'. -/
def numDividesCard : Claim7 := { stood := { row := numDividesRow, standIns := [], harness := (true, "25c50c647f0253844b70bab7c52f2129bf584a212c64a878ceb662ff0750e548"), looks := true }, kinds := [], alts := [], laidByText := true, laidKinds := [.listed, .data], laidTests := true, laidLooks := .later }
def NumDividesCardSaid : Prop := Claim7.holds Tryz.pinned (.plain (OpenSpec.ofChange numDividesSpec)) numDividesCard

/-- THE TIED CARD OF 'espalierlaw8.NumProducts'. -/
def numProductsCard : Claim7 := { stood := { row := numProductsRow, standIns := [], harness := (true, "25c50c647f0253844b70bab7c52f2129bf584a212c64a878ceb662ff0750e548"), looks := true }, kinds := [], alts := [], laidByText := true, laidKinds := [.listed, .data], laidTests := true, laidLooks := .later }
def NumProductsCardSaid : Prop := Claim7.holds Tryz.pinned (.plain (OpenSpec.ofChange numProductsSpec)) numProductsCard

/-- THE TIED CARD OF 'espalierlaw8.NumOrder'. -/
def numOrderCard : Claim7 := { stood := { row := numOrderRow, standIns := [], harness := (true, "25c50c647f0253844b70bab7c52f2129bf584a212c64a878ceb662ff0750e548"), looks := true }, kinds := [], alts := [], laidByText := true, laidKinds := [.listed, .data], laidTests := true, laidLooks := .later }
def NumOrderCardSaid : Prop := Claim7.holds Tryz.pinned (.plain (OpenSpec.ofChange numOrderSpec)) numOrderCard

/-- THE SECOND FORM's CARD OF 'espalierlaw8.NumRows'. -/
def numRowsUptoCard : Claim7 := { stood := { row := numRowsUptoRow, standIns := [], harness := (true, "25c50c647f0253844b70bab7c52f2129bf584a212c64a878ceb662ff0750e548"), looks := true }, kinds := [], alts := [], laidByText := true, laidKinds := [.listed, .data], laidTests := true, laidLooks := .later }
def NumRowsUptoCardSaid : Prop := Claim7.holds Tryz.pinned (.plain (OpenSpec.upto numRowsSpec)) numRowsUptoCard

/-- THE SECOND FORM's CARD OF 'espalierlaw8.NumWork'. -/
def numWorkUptoCard : Claim7 := { stood := { row := numWorkUptoRow, standIns := [], harness := (true, "25c50c647f0253844b70bab7c52f2129bf584a212c64a878ceb662ff0750e548"), looks := true }, kinds := [], alts := [], laidByText := true, laidKinds := [.listed, .data], laidTests := true, laidLooks := .later }
def NumWorkUptoCardSaid : Prop := Claim7.holds Tryz.pinned (.plain (OpenSpec.upto numWorkSpec)) numWorkUptoCard

/-- THE SECOND FORM's CARD OF 'espalierlaw8.NumDivides'. -/
def numDividesUptoCard : Claim7 := { stood := { row := numDividesUptoRow, standIns := [], harness := (true, "25c50c647f0253844b70bab7c52f2129bf584a212c64a878ceb662ff0750e548"), looks := true }, kinds := [], alts := [], laidByText := true, laidKinds := [.listed, .data], laidTests := true, laidLooks := .later }
def NumDividesUptoCardSaid : Prop := Claim7.holds Tryz.pinned (.plain (OpenSpec.upto numDividesSpec)) numDividesUptoCard

/-- THE SECOND FORM's CARD OF 'espalierlaw8.NumProducts'. -/
def numProductsUptoCard : Claim7 := { stood := { row := numProductsUptoRow, standIns := [], harness := (true, "25c50c647f0253844b70bab7c52f2129bf584a212c64a878ceb662ff0750e548"), looks := true }, kinds := [], alts := [], laidByText := true, laidKinds := [.listed, .data], laidTests := true, laidLooks := .later }
def NumProductsUptoCardSaid : Prop := Claim7.holds Tryz.pinned (.plain (OpenSpec.upto numProductsSpec)) numProductsUptoCard

/-- THE SECOND FORM's CARD OF 'espalierlaw8.NumOrder'. -/
def numOrderUptoCard : Claim7 := { stood := { row := numOrderUptoRow, standIns := [], harness := (true, "25c50c647f0253844b70bab7c52f2129bf584a212c64a878ceb662ff0750e548"), looks := true }, kinds := [], alts := [], laidByText := true, laidKinds := [.listed, .data], laidTests := true, laidLooks := .later }
def NumOrderUptoCardSaid : Prop := Claim7.holds Tryz.pinned (.plain (OpenSpec.upto numOrderSpec)) numOrderUptoCard
end Rows
end Go.Proofs.YtnokajfhjmahpaaGreatDoor
