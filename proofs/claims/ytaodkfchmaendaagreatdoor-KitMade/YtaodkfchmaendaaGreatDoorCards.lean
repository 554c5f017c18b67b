/-
  DERIVED. GIVEN WITH THE SEED: THE CARDS: each row of YtaodkfchmaendaaGreatDoorRows.lean that lists a variable, with what it lists TIED to the program's text (the seventh form; the later family's looks); each row that meets fmt, with fmt's text TOLD by the authors' own Lean function (tested against real Go, not proved from fmt's source: count such statements apart). THE CARD IS WHAT COUNTS. Prove the row's statement (the work); the ties are given (YtaodkfchmaendaaGreatDoorTie.lean); close each card by the builder's one call (the guide's Derived/Test/ToyasCard.lean, 'card_holds'). Laid BY PROGRAM, IN A SANDBOX (cutbox-door.mjs). By AI agents, Wed Nov 11 2026. No macro, syntax, notation, axiom, sorry.
-/
import Derived.Test.YtaodkfchmaendaaGreatDoorRows
import GoSem.ClaimSeven
namespace Go.Proofs.YtaodkfchmaendaaGreatDoor
namespace Rows

/-- THE TIED CARD OF 'espalierlaw7.KitNone'. -/
def kitNoneCard : Claim7 := { stood := { row := kitNoneRow, standIns := [], harness := (true, "65acb0c178bf0ad71a865f14bc93fe2d0cbe8b339095a55da57436e114c973f4"), looks := true }, kinds := [], alts := [], laidByText := true, laidKinds := [.handle, .listed, .data], laidTests := true, laidLooks := .later }
def KitNoneCardSaid : Prop := Claim7.holds Tryz.pinned (.plain (OpenSpec.ofChange kitNoneSpec)) kitNoneCard

/-- THE TIED CARD OF 'espalierlaw7.KitAll'. -/
def kitAllCard : Claim7 := { stood := { row := kitAllRow, standIns := [], harness := (true, "65acb0c178bf0ad71a865f14bc93fe2d0cbe8b339095a55da57436e114c973f4"), looks := true }, kinds := [], alts := [], laidByText := true, laidKinds := [.handle, .listed, .data], laidTests := true, laidLooks := .later }
def KitAllCardSaid : Prop := Claim7.holds Tryz.pinned (.plain (OpenSpec.ofChange kitAllSpec)) kitAllCard

/-- THE TIED CARD OF 'espalierlaw7.KitMade'. -/
def kitMadeCard : Claim7 := { stood := { row := kitMadeRow, standIns := [], harness := (true, "65acb0c178bf0ad71a865f14bc93fe2d0cbe8b339095a55da57436e114c973f4"), looks := true }, kinds := [], alts := [], laidByText := true, laidKinds := [.handle, .listed, .data], laidTests := true, laidLooks := .later }
def KitMadeCardSaid : Prop := Claim7.holds Tryz.pinned (.plain (OpenSpec.ofChange kitMadeSpec)) kitMadeCard

/-- THE TIED CARD OF 'espalierlaw7.KitBase'. -/
def kitBaseCard : Claim7 := { stood := { row := kitBaseRow, standIns := [], harness := (true, "65acb0c178bf0ad71a865f14bc93fe2d0cbe8b339095a55da57436e114c973f4"), looks := true }, kinds := [], alts := [], laidByText := true, laidKinds := [.handle, .listed, .data], laidTests := true, laidLooks := .later }
def KitBaseCardSaid : Prop := Claim7.holds Tryz.pinned (.plain (OpenSpec.ofChange kitBaseSpec)) kitBaseCard

/-- THE TIED CARD OF 'espalierlaw7.KitApart'. -/
def kitApartCard : Claim7 := { stood := { row := kitApartRow, standIns := [], harness := (true, "65acb0c178bf0ad71a865f14bc93fe2d0cbe8b339095a55da57436e114c973f4"), looks := true }, kinds := [], alts := [], laidByText := true, laidKinds := [.handle, .listed, .data], laidTests := true, laidLooks := .later }
def KitApartCardSaid : Prop := Claim7.holds Tryz.pinned (.plain (OpenSpec.ofChange kitApartSpec)) kitApartCard

/-- THE TIED CARD OF 'espalierlaw7.KitWrong'. -/
def kitWrongCard : Claim7 := { stood := { row := kitWrongRow, standIns := [], harness := (true, "65acb0c178bf0ad71a865f14bc93fe2d0cbe8b339095a55da57436e114c973f4"), looks := true }, kinds := [], alts := [], laidByText := true, laidKinds := [.handle, .listed, .data], laidTests := true, laidLooks := .later }
def KitWrongCardSaid : Prop := Claim7.holds Tryz.pinned (.plain (OpenSpec.ofChange kitWrongSpec)) kitWrongCard

/-- THE SECOND FORM's CARD OF 'espalierlaw7.KitNone'. -/
def kitNoneUptoCard : Claim7 := { stood := { row := kitNoneUptoRow, standIns := [], harness := (true, "65acb0c178bf0ad71a865f14bc93fe2d0cbe8b339095a55da57436e114c973f4"), looks := true }, kinds := [], alts := [], laidByText := true, laidKinds := [.handle, .listed, .data], laidTests := true, laidLooks := .later }
def KitNoneUptoCardSaid : Prop := Claim7.holds Tryz.pinned (.plain (OpenSpec.upto kitNoneSpec)) kitNoneUptoCard

/-- THE SECOND FORM's CARD OF 'espalierlaw7.KitAll'. -/
def kitAllUptoCard : Claim7 := { stood := { row := kitAllUptoRow, standIns := [], harness := (true, "65acb0c178bf0ad71a865f14bc93fe2d0cbe8b339095a55da57436e114c973f4"), looks := true }, kinds := [], alts := [], laidByText := true, laidKinds := [.handle, .listed, .data], laidTests := true, laidLooks := .later }
def KitAllUptoCardSaid : Prop := Claim7.holds Tryz.pinned (.plain (OpenSpec.upto kitAllSpec)) kitAllUptoCard

/-- THE SECOND FORM's CARD OF 'espalierlaw7.KitMade'. -/
def kitMadeUptoCard : Claim7 := { stood := { row := kitMadeUptoRow, standIns := [], harness := (true, "65acb0c178bf0ad71a865f14bc93fe2d0cbe8b339095a55da57436e114c973f4"), looks := true }, kinds := [], alts := [], laidByText := true, laidKinds := [.handle, .listed, .data], laidTests := true, laidLooks := .later }
def KitMadeUptoCardSaid : Prop := Claim7.holds Tryz.pinned (.plain (OpenSpec.upto kitMadeSpec)) kitMadeUptoCard

/-- THE SECOND FORM's CARD OF 'espalierlaw7.KitBase'. -/
def kitBaseUptoCard : Claim7 := { stood := { row := kitBaseUptoRow, standIns := [], harness := (true, "65acb0c178bf0ad71a865f14bc93fe2d0cbe8b339095a55da57436e114c973f4"), looks := true }, kinds := [], alts := [], laidByText := true, laidKinds := [.handle, .listed, .data], laidTests := true, laidLooks := .later }
def KitBaseUptoCardSaid : Prop := Claim7.holds Tryz.pinned (.plain (OpenSpec.upto kitBaseSpec)) kitBaseUptoCard

/-- THE SECOND FORM's CARD OF 'espalierlaw7.KitApart'. -/
def kitApartUptoCard : Claim7 := { stood := { row := kitApartUptoRow, standIns := [], harness := (true, "65acb0c178bf0ad71a865f14bc93fe2d0cbe8b339095a55da57436e114c973f4"), looks := true }, kinds := [], alts := [], laidByText := true, laidKinds := [.handle, .listed, .data], laidTests := true, laidLooks := .later }
def KitApartUptoCardSaid : Prop := Claim7.holds Tryz.pinned (.plain (OpenSpec.upto kitApartSpec)) kitApartUptoCard

/-- THE SECOND FORM's CARD OF 'espalierlaw7.KitWrong'. -/
def kitWrongUptoCard : Claim7 := { stood := { row := kitWrongUptoRow, standIns := [], harness := (true, "65acb0c178bf0ad71a865f14bc93fe2d0cbe8b339095a55da57436e114c973f4"), looks := true }, kinds := [], alts := [], laidByText := true, laidKinds := [.handle, .listed, .data], laidTests := true, laidLooks := .later }
def KitWrongUptoCardSaid : Prop := Claim7.holds Tryz.pinned (.plain (OpenSpec.upto kitWrongSpec)) kitWrongUptoCard
end Rows
end Go.Proofs.YtaodkfchmaendaaGreatDoor
