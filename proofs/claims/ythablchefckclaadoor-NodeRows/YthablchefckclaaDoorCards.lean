/-
  DERIVED. GIVEN WITH THE SEED: THE CARDS: each row of YthablchefckclaaDoorRows.lean that lists a variable, with what it lists TIED to the program's text (the seventh form; the later family's looks); each row that meets fmt, with fmt's text TOLD by the authors' own Lean function (tested against real Go, not proved from fmt's source: count such statements apart). THE CARD IS WHAT COUNTS. Prove the row's statement (the work); the ties are given (YthablchefckclaaDoorTie.lean); close each card by the builder's one call (the guide's Derived/Test/ToyasCard.lean, 'card_holds'). Laid BY PROGRAM, IN A SANDBOX (cutbox-door.mjs). By AI agents, Wed Nov 11 2026. No macro, syntax, notation, axiom, sorry.
-/
import Derived.Test.YthablchefckclaaDoorRows
import GoSem.ClaimSeven
namespace Go.Proofs.YthablchefckclaaDoor
namespace Rows

/-- THE TIED CARD OF 'espalierlaw6.NodeRows'. -/
def nodeRowsCard : Claim7 := { stood := { row := nodeRowsRow, standIns := [], harness := (true, "892744ebbaad672144b121d478d9298e673ca1dfd108b65f6067e1c8106da050"), looks := true }, kinds := [], alts := [], laidByText := true, laidKinds := [.listed, .data], laidTests := true, laidLooks := .later }
def NodeRowsCardSaid : Prop := Claim7.holds Tryd.pinned (.plain (OpenSpec.ofChange nodeRowsSpec)) nodeRowsCard

/-- THE SECOND FORM's CARD OF 'espalierlaw6.NodeRows'. -/
def nodeRowsUptoCard : Claim7 := { stood := { row := nodeRowsUptoRow, standIns := [], harness := (true, "892744ebbaad672144b121d478d9298e673ca1dfd108b65f6067e1c8106da050"), looks := true }, kinds := [], alts := [], laidByText := true, laidKinds := [.listed, .data], laidTests := true, laidLooks := .later }
def NodeRowsUptoCardSaid : Prop := Claim7.holds Tryd.pinned (.plain (OpenSpec.upto nodeRowsSpec)) nodeRowsUptoCard
end Rows
end Go.Proofs.YthablchefckclaaDoor
