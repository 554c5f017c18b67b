/-
  NARROWER THAN 'FOR EVERY INPUT', by the rows' own cells (each row's printed sentence says how): FaultMade: laid · FaultNotes: laid · FaultSame: laid · FaultFound: laid · FaultSwitch: laid.
  DERIVED. THE GIVEN ROWS OF THIS SEAT. 5 by the template 'for every input the law returns true; each argument reads behind the call as it read before'; 0 by the template 'total and deterministic' (their statements: YtflcmdjekmmkkaaGreatDoorTotals.lean).
  GIVEN WITH THE SEED: the statements are not yours to turn. If you find one false, say at which input.
  Laid BY PROGRAM, IN A SANDBOX (cutbox-rows.mjs): the forced cells as the released guide's own fill.sh prints them over the translation d86d114f505cd158… (all of the seat's roots in one cut). By AI agents, Wed Nov 11 2026. No macro, syntax, notation, axiom, sorry.
-/
import Derived.Test.YtflcmdjekmmkkaaGreatDoorChecked
import GoSem.Claim
import GoSem.ClaimJoined
import GoSem.ClaimMapViews
import Derived.JoinedTies
import Derived.KernelRfl
namespace Go.Proofs.YtflcmdjekmmkkaaGreatDoor
/- THE CELL 'sum', in the pinned program and in every row, IS THE sha256 OF THE DUMP (.gsa) THAT YtflcmdjekmmkkaaGreatDoorProg.lean LOADS. Nothing in Lean hashes anything: it is a label: what it is worth is what the hold of that sum in a sandbox is worth. -/
noncomputable def Tryz.pinned : Pinned := { name := "ytflcmdjekmmkkaagreatdoor", sum := "d86d114f505cd158248ab35265cfc21cb5527f1c3a03e6cd09fa59394a5ea3cf", checked := Tryz.checked }
namespace Rows
def none {H : Type} : Left H := { results := [], args := [] }

/- WHAT THE LISTED PACKAGE-LEVEL VARIABLES READ AS WHEN THE CALL BEGINS. Each datum BY PROGRAM (the guide's laid-datum.mjs) off the statement by which the dump's own 'gosem.cut.vars' lays the variable. In a bare row this is a premise. The card (YtflcmdjekmmkkaaGreatDoorCards.lean) ties it to the program's text. -/
def laid_errors_errorType {H : Type} : DataW H := .iface "internal/reflectlite.rtype" (.agg [.ptr (.lit (.string [101, 114, 114, 111, 114]))])

/-- 'espalierlaw1.FaultMade': WHATEVER THE INPUT: true; the input reads as it did. -/
def faultMadeSpec : ChangeSpec := { name := "faultMade", fn := fun _ => fun
  | [d] => { results := [.lit (.bool true)], args := [d] }
  | _ => none }
def faultMadeRow : OpenClaim := { program := "ytflcmdjekmmkkaagreatdoor", sum := "d86d114f505cd158248ab35265cfc21cb5527f1c3a03e6cd09fa59394a5ea3cf", func := "espalier/espalierlaw1.FaultMade", spec := "faultMade", inPlace := ["internal/reflectlite.ValueOf", "(internal/reflectlite.Value).Type", "(internal/reflectlite.Value).IsNil", "internal/reflectlite.TypeOf", "(internal/reflectlite.Value).Elem", "(internal/reflectlite.Value).Set"], unfollowed := true, recurses := true, named := ["errors.errorType"], apart := false, laid := [("errors.errorType", laid_errors_errorType)] }
def FaultMadeSaid : Prop := faultMadeRow.holds Tryz.pinned (OpenSpec.ofChange faultMadeSpec)

/-- ITS FALSE NEIGHBOUR: 'it returns false'. Refute it at one input. -/
def faultMadeWrong : ChangeSpec := { name := "faultMade", fn := fun _ => fun
  | [d] => { results := [.lit (.bool false)], args := [d] }
  | _ => none }
def FaultMadeWrongFalsely : Prop := faultMadeRow.holds Tryz.pinned (OpenSpec.ofChange faultMadeWrong)

/-- 'espalierlaw1.FaultNotes': WHATEVER THE INPUT: true; the input reads as it did. -/
def faultNotesSpec : ChangeSpec := { name := "faultNotes", fn := fun _ => fun
  | [d1, d2, d3] => { results := [.lit (.bool true)], args := [d1, d2, d3] }
  | _ => none }
def faultNotesRow : OpenClaim := { program := "ytflcmdjekmmkkaagreatdoor", sum := "d86d114f505cd158248ab35265cfc21cb5527f1c3a03e6cd09fa59394a5ea3cf", func := "espalier/espalierlaw1.FaultNotes", spec := "faultNotes", inPlace := ["internal/reflectlite.ValueOf", "(internal/reflectlite.Value).Type", "(internal/reflectlite.Value).IsNil", "internal/reflectlite.TypeOf", "(internal/reflectlite.Value).Elem", "(internal/reflectlite.Value).Set"], unfollowed := true, recurses := true, named := ["errors.errorType"], apart := false, laid := [("errors.errorType", laid_errors_errorType)] }
def FaultNotesSaid : Prop := faultNotesRow.holds Tryz.pinned (OpenSpec.ofChange faultNotesSpec)

/-- ITS FALSE NEIGHBOUR: 'it returns false'. Refute it at one input. -/
def faultNotesWrong : ChangeSpec := { name := "faultNotes", fn := fun _ => fun
  | [d1, d2, d3] => { results := [.lit (.bool false)], args := [d1, d2, d3] }
  | _ => none }
def FaultNotesWrongFalsely : Prop := faultNotesRow.holds Tryz.pinned (OpenSpec.ofChange faultNotesWrong)

/-- 'espalierlaw1.FaultSame': WHATEVER THE INPUT: true; the input reads as it did. -/
def faultSameSpec : ChangeSpec := { name := "faultSame", fn := fun _ => fun
  | [d1, d2, d3, d4] => { results := [.lit (.bool true)], args := [d1, d2, d3, d4] }
  | _ => none }
def faultSameRow : OpenClaim := { program := "ytflcmdjekmmkkaagreatdoor", sum := "d86d114f505cd158248ab35265cfc21cb5527f1c3a03e6cd09fa59394a5ea3cf", func := "espalier/espalierlaw1.FaultSame", spec := "faultSame", inPlace := ["internal/reflectlite.ValueOf", "(internal/reflectlite.Value).Type", "(internal/reflectlite.Value).IsNil", "internal/reflectlite.TypeOf", "(internal/reflectlite.Value).Elem", "(internal/reflectlite.Value).Set"], unfollowed := true, recurses := true, named := ["errors.errorType"], apart := false, laid := [("errors.errorType", laid_errors_errorType)] }
def FaultSameSaid : Prop := faultSameRow.holds Tryz.pinned (OpenSpec.ofChange faultSameSpec)

/-- ITS FALSE NEIGHBOUR: 'it returns false'. Refute it at one input. -/
def faultSameWrong : ChangeSpec := { name := "faultSame", fn := fun _ => fun
  | [d1, d2, d3, d4] => { results := [.lit (.bool false)], args := [d1, d2, d3, d4] }
  | _ => none }
def FaultSameWrongFalsely : Prop := faultSameRow.holds Tryz.pinned (OpenSpec.ofChange faultSameWrong)

/-- 'espalierlaw1.FaultFound': WHATEVER THE INPUT: true; the input reads as it did. -/
def faultFoundSpec : ChangeSpec := { name := "faultFound", fn := fun _ => fun
  | [d1, d2] => { results := [.lit (.bool true)], args := [d1, d2] }
  | _ => none }
def faultFoundRow : OpenClaim := { program := "ytflcmdjekmmkkaagreatdoor", sum := "d86d114f505cd158248ab35265cfc21cb5527f1c3a03e6cd09fa59394a5ea3cf", func := "espalier/espalierlaw1.FaultFound", spec := "faultFound", inPlace := ["internal/reflectlite.ValueOf", "(internal/reflectlite.Value).Type", "(internal/reflectlite.Value).IsNil", "internal/reflectlite.TypeOf", "(internal/reflectlite.Value).Elem", "(internal/reflectlite.Value).Set"], unfollowed := true, recurses := true, named := ["errors.errorType"], apart := false, laid := [("errors.errorType", laid_errors_errorType)] }
def FaultFoundSaid : Prop := faultFoundRow.holds Tryz.pinned (OpenSpec.ofChange faultFoundSpec)

/-- ITS FALSE NEIGHBOUR: 'it returns false'. Refute it at one input. -/
def faultFoundWrong : ChangeSpec := { name := "faultFound", fn := fun _ => fun
  | [d1, d2] => { results := [.lit (.bool false)], args := [d1, d2] }
  | _ => none }
def FaultFoundWrongFalsely : Prop := faultFoundRow.holds Tryz.pinned (OpenSpec.ofChange faultFoundWrong)

/-- 'espalierlaw1.FaultSwitch': WHATEVER THE INPUT: true; the input reads as it did. -/
def faultSwitchSpec : ChangeSpec := { name := "faultSwitch", fn := fun _ => fun
  | [d1, d2] => { results := [.lit (.bool true)], args := [d1, d2] }
  | _ => none }
def faultSwitchRow : OpenClaim := { program := "ytflcmdjekmmkkaagreatdoor", sum := "d86d114f505cd158248ab35265cfc21cb5527f1c3a03e6cd09fa59394a5ea3cf", func := "espalier/espalierlaw1.FaultSwitch", spec := "faultSwitch", inPlace := ["internal/reflectlite.ValueOf", "(internal/reflectlite.Value).Type", "(internal/reflectlite.Value).IsNil", "internal/reflectlite.TypeOf", "(internal/reflectlite.Value).Elem", "(internal/reflectlite.Value).Set"], unfollowed := true, recurses := true, named := ["errors.errorType"], apart := false, laid := [("errors.errorType", laid_errors_errorType)] }
def FaultSwitchSaid : Prop := faultSwitchRow.holds Tryz.pinned (OpenSpec.ofChange faultSwitchSpec)

/-- ITS FALSE NEIGHBOUR: 'it returns false'. Refute it at one input. -/
def faultSwitchWrong : ChangeSpec := { name := "faultSwitch", fn := fun _ => fun
  | [d1, d2] => { results := [.lit (.bool false)], args := [d1, d2] }
  | _ => none }
def FaultSwitchWrongFalsely : Prop := faultSwitchRow.holds Tryz.pinned (OpenSpec.ofChange faultSwitchWrong)

/- THE SECOND FORM. 'bulk': how many values and letters a reading holds, each counted each time it is reached (what is shared counts as often as it is met; a slice's spare places count too). A statement '..UptoSaid' is the law's where the arguments, and the package variables that the reading takes, are together of bulk at most 1048576: NARROWER than '..Said'. Prove '..Said' where nothing that the law and all that it calls make is longer than what came in: it says more and counts as full. Else prove '..UptoSaid'. A law counts once. -/
mutual
def uptoBulk {H : Type} : DataW H → Nat
  | .lit (.string bytes) => bytes.length + 1
  | .lit _ => 1
  | .nil => 1
  | .ptr d => uptoBulk d + 1
  | .slice elems spare => uptoBulkAll elems + uptoBulkAll spare + 1
  | .agg parts => uptoBulkAll parts + 1
  | .iface _ d => uptoBulk d + 1
  | .map entries => uptoBulkEntries entries + 1
  | .held _ => 1
def uptoBulkAll {H : Type} : List (DataW H) → Nat
  | [] => 0
  | d :: r => uptoBulk d + uptoBulkAll r
def uptoBulkEntries {H : Type} : List (Lit × DataW H) → Nat
  | [] => 0
  | x :: r => uptoBulkEntry x + uptoBulkEntries r
def uptoBulkEntry {H : Type} : Lit × DataW H → Nat
  | (.string bytes, d) => bytes.length + uptoBulk d + 1
  | (_, d) => uptoBulk d + 1
 end
def uptoSmall : (H : Type) → List (DataW H) → Bool := fun _ ds => decide (uptoBulkAll ds ≤ 1048576)
def OpenSpec.upto (s : _root_.Go.ChangeSpec) : _root_.Go.OpenSpec := { _root_.Go.OpenSpec.ofChange s with cond := some uptoSmall }

/-- 'espalierlaw1.FaultMade', WHERE WHAT IT READS IS OF BULK AT MOST 1048576: true; the input reads as it did. -/
def faultMadeUptoRow : OpenClaim := { program := "ytflcmdjekmmkkaagreatdoor", sum := "d86d114f505cd158248ab35265cfc21cb5527f1c3a03e6cd09fa59394a5ea3cf", func := "espalier/espalierlaw1.FaultMade", spec := "faultMade", inPlace := ["internal/reflectlite.ValueOf", "(internal/reflectlite.Value).Type", "(internal/reflectlite.Value).IsNil", "internal/reflectlite.TypeOf", "(internal/reflectlite.Value).Elem", "(internal/reflectlite.Value).Set"], unfollowed := true, recurses := true, named := ["errors.errorType"], apart := false, laid := [("errors.errorType", laid_errors_errorType)], narrowed := true }
def FaultMadeUptoSaid : Prop := faultMadeUptoRow.holds Tryz.pinned (OpenSpec.upto faultMadeSpec)

/-- 'espalierlaw1.FaultNotes', WHERE WHAT IT READS IS OF BULK AT MOST 1048576: true; the input reads as it did. -/
def faultNotesUptoRow : OpenClaim := { program := "ytflcmdjekmmkkaagreatdoor", sum := "d86d114f505cd158248ab35265cfc21cb5527f1c3a03e6cd09fa59394a5ea3cf", func := "espalier/espalierlaw1.FaultNotes", spec := "faultNotes", inPlace := ["internal/reflectlite.ValueOf", "(internal/reflectlite.Value).Type", "(internal/reflectlite.Value).IsNil", "internal/reflectlite.TypeOf", "(internal/reflectlite.Value).Elem", "(internal/reflectlite.Value).Set"], unfollowed := true, recurses := true, named := ["errors.errorType"], apart := false, laid := [("errors.errorType", laid_errors_errorType)], narrowed := true }
def FaultNotesUptoSaid : Prop := faultNotesUptoRow.holds Tryz.pinned (OpenSpec.upto faultNotesSpec)

/-- 'espalierlaw1.FaultSame', WHERE WHAT IT READS IS OF BULK AT MOST 1048576: true; the input reads as it did. -/
def faultSameUptoRow : OpenClaim := { program := "ytflcmdjekmmkkaagreatdoor", sum := "d86d114f505cd158248ab35265cfc21cb5527f1c3a03e6cd09fa59394a5ea3cf", func := "espalier/espalierlaw1.FaultSame", spec := "faultSame", inPlace := ["internal/reflectlite.ValueOf", "(internal/reflectlite.Value).Type", "(internal/reflectlite.Value).IsNil", "internal/reflectlite.TypeOf", "(internal/reflectlite.Value).Elem", "(internal/reflectlite.Value).Set"], unfollowed := true, recurses := true, named := ["errors.errorType"], apart := false, laid := [("errors.errorType", laid_errors_errorType)], narrowed := true }
def FaultSameUptoSaid : Prop := faultSameUptoRow.holds Tryz.pinned (OpenSpec.upto faultSameSpec)

/-- 'espalierlaw1.FaultFound', WHERE WHAT IT READS IS OF BULK AT MOST 1048576: true; the input reads as it did. -/
def faultFoundUptoRow : OpenClaim := { program := "ytflcmdjekmmkkaagreatdoor", sum := "d86d114f505cd158248ab35265cfc21cb5527f1c3a03e6cd09fa59394a5ea3cf", func := "espalier/espalierlaw1.FaultFound", spec := "faultFound", inPlace := ["internal/reflectlite.ValueOf", "(internal/reflectlite.Value).Type", "(internal/reflectlite.Value).IsNil", "internal/reflectlite.TypeOf", "(internal/reflectlite.Value).Elem", "(internal/reflectlite.Value).Set"], unfollowed := true, recurses := true, named := ["errors.errorType"], apart := false, laid := [("errors.errorType", laid_errors_errorType)], narrowed := true }
def FaultFoundUptoSaid : Prop := faultFoundUptoRow.holds Tryz.pinned (OpenSpec.upto faultFoundSpec)

/-- 'espalierlaw1.FaultSwitch', WHERE WHAT IT READS IS OF BULK AT MOST 1048576: true; the input reads as it did. -/
def faultSwitchUptoRow : OpenClaim := { program := "ytflcmdjekmmkkaagreatdoor", sum := "d86d114f505cd158248ab35265cfc21cb5527f1c3a03e6cd09fa59394a5ea3cf", func := "espalier/espalierlaw1.FaultSwitch", spec := "faultSwitch", inPlace := ["internal/reflectlite.ValueOf", "(internal/reflectlite.Value).Type", "(internal/reflectlite.Value).IsNil", "internal/reflectlite.TypeOf", "(internal/reflectlite.Value).Elem", "(internal/reflectlite.Value).Set"], unfollowed := true, recurses := true, named := ["errors.errorType"], apart := false, laid := [("errors.errorType", laid_errors_errorType)], narrowed := true }
def FaultSwitchUptoSaid : Prop := faultSwitchUptoRow.holds Tryz.pinned (OpenSpec.upto faultSwitchSpec)

end Rows
end Go.Proofs.YtflcmdjekmmkkaaGreatDoor
