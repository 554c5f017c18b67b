/-
  DERIVED. GIVEN WITH THE SEED: THE CARDS: each row of YtflcmdjekmmkkaaGreatDoorRows.lean that lists a variable, with what it lists TIED to the program's text (the seventh form; the later family's looks); each row that meets fmt, with fmt's text TOLD by the authors' own Lean function (tested against real Go, not proved from fmt's source: count such statements apart). THE CARD IS WHAT COUNTS. Prove the row's statement (the work); the ties are given (YtflcmdjekmmkkaaGreatDoorTie.lean); close each card by the builder's one call (the guide's Derived/Test/ToyasCard.lean, 'card_holds'). Laid BY PROGRAM, IN A SANDBOX (cutbox-door.mjs). By AI agents, Wed Nov 11 2026. No macro, syntax, notation, axiom, sorry.
-/
import Derived.Test.YtflcmdjekmmkkaaGreatDoorRows
import GoSem.ClaimSeven
namespace Go.Proofs.YtflcmdjekmmkkaaGreatDoor
namespace Rows

/-- THE TIED CARD OF 'espalierlaw1.FaultMade'. -/
def faultMadeCard : Claim7 := { stood := { row := faultMadeRow, standIns := [], harness := (true, "bdf89215bc364dc2fe522f70bd1645d5a0de2dd7c725b80ed69c8643a8ed3a8d"), looks := true }, kinds := [], alts := [], laidByText := true, laidKinds := [.handle], laidTests := true, laidLooks := .later }
def FaultMadeCardSaid : Prop := Claim7.holds Tryz.pinned (.plain (OpenSpec.ofChange faultMadeSpec)) faultMadeCard

/-- THE TIED CARD OF 'espalierlaw1.FaultNotes'. -/
def faultNotesCard : Claim7 := { stood := { row := faultNotesRow, standIns := [], harness := (true, "bdf89215bc364dc2fe522f70bd1645d5a0de2dd7c725b80ed69c8643a8ed3a8d"), looks := true }, kinds := [], alts := [], laidByText := true, laidKinds := [.handle], laidTests := true, laidLooks := .later }
def FaultNotesCardSaid : Prop := Claim7.holds Tryz.pinned (.plain (OpenSpec.ofChange faultNotesSpec)) faultNotesCard

/-- THE TIED CARD OF 'espalierlaw1.FaultSame'. -/
def faultSameCard : Claim7 := { stood := { row := faultSameRow, standIns := [], harness := (true, "bdf89215bc364dc2fe522f70bd1645d5a0de2dd7c725b80ed69c8643a8ed3a8d"), looks := true }, kinds := [], alts := [], laidByText := true, laidKinds := [.handle], laidTests := true, laidLooks := .later }
def FaultSameCardSaid : Prop := Claim7.holds Tryz.pinned (.plain (OpenSpec.ofChange faultSameSpec)) faultSameCard

/-- THE TIED CARD OF 'espalierlaw1.FaultFound'. -/
def faultFoundCard : Claim7 := { stood := { row := faultFoundRow, standIns := [], harness := (true, "bdf89215bc364dc2fe522f70bd1645d5a0de2dd7c725b80ed69c8643a8ed3a8d"), looks := true }, kinds := [], alts := [], laidByText := true, laidKinds := [.handle], laidTests := true, laidLooks := .later }
def FaultFoundCardSaid : Prop := Claim7.holds Tryz.pinned (.plain (OpenSpec.ofChange faultFoundSpec)) faultFoundCard

/-- THE TIED CARD OF 'espalierlaw1.FaultSwitch'. -/
def faultSwitchCard : Claim7 := { stood := { row := faultSwitchRow, standIns := [], harness := (true, "bdf89215bc364dc2fe522f70bd1645d5a0de2dd7c725b80ed69c8643a8ed3a8d"), looks := true }, kinds := [], alts := [], laidByText := true, laidKinds := [.handle], laidTests := true, laidLooks := .later }
def FaultSwitchCardSaid : Prop := Claim7.holds Tryz.pinned (.plain (OpenSpec.ofChange faultSwitchSpec)) faultSwitchCard

/-- THE SECOND FORM's CARD OF 'espalierlaw1.FaultMade'. -/
def faultMadeUptoCard : Claim7 := { stood := { row := faultMadeUptoRow, standIns := [], harness := (true, "bdf89215bc364dc2fe522f70bd1645d5a0de2dd7c725b80ed69c8643a8ed3a8d"), looks := true }, kinds := [], alts := [], laidByText := true, laidKinds := [.handle], laidTests := true, laidLooks := .later }
def FaultMadeUptoCardSaid : Prop := Claim7.holds Tryz.pinned (.plain (OpenSpec.upto faultMadeSpec)) faultMadeUptoCard

/-- THE SECOND FORM's CARD OF 'espalierlaw1.FaultNotes'. -/
def faultNotesUptoCard : Claim7 := { stood := { row := faultNotesUptoRow, standIns := [], harness := (true, "bdf89215bc364dc2fe522f70bd1645d5a0de2dd7c725b80ed69c8643a8ed3a8d"), looks := true }, kinds := [], alts := [], laidByText := true, laidKinds := [.handle], laidTests := true, laidLooks := .later }
def FaultNotesUptoCardSaid : Prop := Claim7.holds Tryz.pinned (.plain (OpenSpec.upto faultNotesSpec)) faultNotesUptoCard

/-- THE SECOND FORM's CARD OF 'espalierlaw1.FaultSame'. -/
def faultSameUptoCard : Claim7 := { stood := { row := faultSameUptoRow, standIns := [], harness := (true, "bdf89215bc364dc2fe522f70bd1645d5a0de2dd7c725b80ed69c8643a8ed3a8d"), looks := true }, kinds := [], alts := [], laidByText := true, laidKinds := [.handle], laidTests := true, laidLooks := .later }
def FaultSameUptoCardSaid : Prop := Claim7.holds Tryz.pinned (.plain (OpenSpec.upto faultSameSpec)) faultSameUptoCard

/-- THE SECOND FORM's CARD OF 'espalierlaw1.FaultFound'. -/
def faultFoundUptoCard : Claim7 := { stood := { row := faultFoundUptoRow, standIns := [], harness := (true, "bdf89215bc364dc2fe522f70bd1645d5a0de2dd7c725b80ed69c8643a8ed3a8d"), looks := true }, kinds := [], alts := [], laidByText := true, laidKinds := [.handle], laidTests := true, laidLooks := .later }
def FaultFoundUptoCardSaid : Prop := Claim7.holds Tryz.pinned (.plain (OpenSpec.upto faultFoundSpec)) faultFoundUptoCard

/-- THE SECOND FORM's CARD OF 'espalierlaw1.FaultSwitch'. -/
def faultSwitchUptoCard : Claim7 := { stood := { row := faultSwitchUptoRow, standIns := [], harness := (true, "bdf89215bc364dc2fe522f70bd1645d5a0de2dd7c725b80ed69c8643a8ed3a8d"), looks := true }, kinds := [], alts := [], laidByText := true, laidKinds := [.handle], laidTests := true, laidLooks := .later }
def FaultSwitchUptoCardSaid : Prop := Claim7.holds Tryz.pinned (.plain (OpenSpec.upto faultSwitchSpec)) faultSwitchUptoCard
end Rows
end Go.Proofs.YtflcmdjekmmkkaaGreatDoor
