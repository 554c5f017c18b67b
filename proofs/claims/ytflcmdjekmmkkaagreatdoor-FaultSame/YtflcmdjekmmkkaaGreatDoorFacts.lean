/-
  Closed facts over the program's tables, for package fault and the statements of its stage: what a value of each kind of error asserts to, and which function a method of it is. No condition.
-/
import Derived.Test.YtflcmdjekmmkkaaGreatDoorRows
import Derived.WalkKit
import Derived.Stop.Asserts
namespace Go.Proofs.YtflcmdjekmmkkaaGreatDoor
open Go.RowKit Go.Extern.Stop Go.Stop Go.Extern
theorem isNCoded (v : Value) (xT : TypeId) (w : World) : (Instr.typeAssert (.iface 87 v) xT 67 true).run Tryz.prog w = .ok (.tuple #[.nilIface, .bool false]) w := run_typeAssert_lacksB Tryz.underlying67 (by kernel_rfl) (by kernel_rfl) v xT w
theorem isNLocated (v : Value) (xT : TypeId) (w : World) : (Instr.typeAssert (.iface 87 v) xT 77 true).run Tryz.prog w = .ok (.tuple #[.nilIface, .bool false]) w := run_typeAssert_lacksB Tryz.underlying77 (by kernel_rfl) (by kernel_rfl) v xT w
theorem isNRaised (v : Value) (xT : TypeId) (w : World) : (Instr.typeAssert (.iface 87 v) xT 54 true).run Tryz.prog w = .ok (.tuple #[.nilIface, .bool false]) w := run_typeAssert_lacksB Tryz.underlying54 (by kernel_rfl) (by kernel_rfl) v xT w
theorem isNLacking (v : Value) (xT : TypeId) (w : World) : (Instr.typeAssert (.iface 87 v) xT 81 true).run Tryz.prog w = .ok (.tuple #[.nilIface, .bool false]) w := run_typeAssert_lacksB Tryz.underlying81 (by kernel_rfl) (by kernel_rfl) v xT w
theorem isNUnw (v : Value) (xT : TypeId) (w : World) : (Instr.typeAssert (.iface 87 v) xT 59 true).run Tryz.prog w = .ok (.tuple #[.iface 87 v, .bool true]) w := run_typeAssert_hasB Tryz.underlying59 (by kernel_rfl) v xT w
theorem isNAsI (v : Value) (xT : TypeId) (w : World) : (Instr.typeAssert (.iface 87 v) xT 150 true).run Tryz.prog w = .ok (.tuple #[.nilIface, .bool false]) w := run_typeAssert_lacksB Tryz.underlying150 (by kernel_rfl) (by kernel_rfl) v xT w
theorem isNUnws (v : Value) (xT : TypeId) (w : World) : (Instr.typeAssert (.iface 87 v) xT 153 true).run Tryz.prog w = .ok (.tuple #[.nilIface, .bool false]) w := run_typeAssert_lacksB Tryz.underlying153 (by kernel_rfl) (by kernel_rfl) v xT w
theorem isNNoted (v : Value) (xT : TypeId) (w : World) : (Instr.typeAssert (.iface 87 v) xT 87 true).run Tryz.prog w = .ok (.tuple #[v, .bool true]) w := by kernel_rfl
theorem isGCoded (v : Value) (xT : TypeId) (w : World) : (Instr.typeAssert (.iface 46 v) xT 67 true).run Tryz.prog w = .ok (.tuple #[.nilIface, .bool false]) w := run_typeAssert_lacksB Tryz.underlying67 (by kernel_rfl) (by kernel_rfl) v xT w
theorem isGLocated (v : Value) (xT : TypeId) (w : World) : (Instr.typeAssert (.iface 46 v) xT 77 true).run Tryz.prog w = .ok (.tuple #[.nilIface, .bool false]) w := run_typeAssert_lacksB Tryz.underlying77 (by kernel_rfl) (by kernel_rfl) v xT w
theorem isGRaised (v : Value) (xT : TypeId) (w : World) : (Instr.typeAssert (.iface 46 v) xT 54 true).run Tryz.prog w = .ok (.tuple #[.nilIface, .bool false]) w := run_typeAssert_lacksB Tryz.underlying54 (by kernel_rfl) (by kernel_rfl) v xT w
theorem isGLacking (v : Value) (xT : TypeId) (w : World) : (Instr.typeAssert (.iface 46 v) xT 81 true).run Tryz.prog w = .ok (.tuple #[.nilIface, .bool false]) w := run_typeAssert_lacksB Tryz.underlying81 (by kernel_rfl) (by kernel_rfl) v xT w
theorem isGUnw (v : Value) (xT : TypeId) (w : World) : (Instr.typeAssert (.iface 46 v) xT 59 true).run Tryz.prog w = .ok (.tuple #[.iface 46 v, .bool true]) w := run_typeAssert_hasB Tryz.underlying59 (by kernel_rfl) v xT w
theorem isGAsI (v : Value) (xT : TypeId) (w : World) : (Instr.typeAssert (.iface 46 v) xT 150 true).run Tryz.prog w = .ok (.tuple #[.nilIface, .bool false]) w := run_typeAssert_lacksB Tryz.underlying150 (by kernel_rfl) (by kernel_rfl) v xT w
theorem isGUnws (v : Value) (xT : TypeId) (w : World) : (Instr.typeAssert (.iface 46 v) xT 153 true).run Tryz.prog w = .ok (.tuple #[.nilIface, .bool false]) w := run_typeAssert_lacksB Tryz.underlying153 (by kernel_rfl) (by kernel_rfl) v xT w
theorem isGNoted (v : Value) (xT : TypeId) (w : World) : (Instr.typeAssert (.iface 46 v) xT 87 true).run Tryz.prog w = .ok (.tuple #[.pointer none, .bool false]) w := by kernel_rfl
theorem isCCoded (v : Value) (xT : TypeId) (w : World) : (Instr.typeAssert (.iface 128 v) xT 67 true).run Tryz.prog w = .ok (.tuple #[.iface 128 v, .bool true]) w := run_typeAssert_hasB Tryz.underlying67 (by kernel_rfl) v xT w
theorem isCLocated (v : Value) (xT : TypeId) (w : World) : (Instr.typeAssert (.iface 128 v) xT 77 true).run Tryz.prog w = .ok (.tuple #[.nilIface, .bool false]) w := run_typeAssert_lacksB Tryz.underlying77 (by kernel_rfl) (by kernel_rfl) v xT w
theorem isCRaised (v : Value) (xT : TypeId) (w : World) : (Instr.typeAssert (.iface 128 v) xT 54 true).run Tryz.prog w = .ok (.tuple #[.nilIface, .bool false]) w := run_typeAssert_lacksB Tryz.underlying54 (by kernel_rfl) (by kernel_rfl) v xT w
theorem isCLacking (v : Value) (xT : TypeId) (w : World) : (Instr.typeAssert (.iface 128 v) xT 81 true).run Tryz.prog w = .ok (.tuple #[.nilIface, .bool false]) w := run_typeAssert_lacksB Tryz.underlying81 (by kernel_rfl) (by kernel_rfl) v xT w
theorem isCUnw (v : Value) (xT : TypeId) (w : World) : (Instr.typeAssert (.iface 128 v) xT 59 true).run Tryz.prog w = .ok (.tuple #[.nilIface, .bool false]) w := run_typeAssert_lacksB Tryz.underlying59 (by kernel_rfl) (by kernel_rfl) v xT w
theorem isCAsI (v : Value) (xT : TypeId) (w : World) : (Instr.typeAssert (.iface 128 v) xT 150 true).run Tryz.prog w = .ok (.tuple #[.nilIface, .bool false]) w := run_typeAssert_lacksB Tryz.underlying150 (by kernel_rfl) (by kernel_rfl) v xT w
theorem isCUnws (v : Value) (xT : TypeId) (w : World) : (Instr.typeAssert (.iface 128 v) xT 153 true).run Tryz.prog w = .ok (.tuple #[.nilIface, .bool false]) w := run_typeAssert_lacksB Tryz.underlying153 (by kernel_rfl) (by kernel_rfl) v xT w
theorem isCNoted (v : Value) (xT : TypeId) (w : World) : (Instr.typeAssert (.iface 128 v) xT 87 true).run Tryz.prog w = .ok (.tuple #[.pointer none, .bool false]) w := by kernel_rfl
theorem isLCoded (v : Value) (xT : TypeId) (w : World) : (Instr.typeAssert (.iface 127 v) xT 67 true).run Tryz.prog w = .ok (.tuple #[.iface 127 v, .bool true]) w := run_typeAssert_hasB Tryz.underlying67 (by kernel_rfl) v xT w
theorem isLLocated (v : Value) (xT : TypeId) (w : World) : (Instr.typeAssert (.iface 127 v) xT 77 true).run Tryz.prog w = .ok (.tuple #[.iface 127 v, .bool true]) w := run_typeAssert_hasB Tryz.underlying77 (by kernel_rfl) v xT w
theorem isLRaised (v : Value) (xT : TypeId) (w : World) : (Instr.typeAssert (.iface 127 v) xT 54 true).run Tryz.prog w = .ok (.tuple #[.nilIface, .bool false]) w := run_typeAssert_lacksB Tryz.underlying54 (by kernel_rfl) (by kernel_rfl) v xT w
theorem isLLacking (v : Value) (xT : TypeId) (w : World) : (Instr.typeAssert (.iface 127 v) xT 81 true).run Tryz.prog w = .ok (.tuple #[.nilIface, .bool false]) w := run_typeAssert_lacksB Tryz.underlying81 (by kernel_rfl) (by kernel_rfl) v xT w
theorem isLUnw (v : Value) (xT : TypeId) (w : World) : (Instr.typeAssert (.iface 127 v) xT 59 true).run Tryz.prog w = .ok (.tuple #[.nilIface, .bool false]) w := run_typeAssert_lacksB Tryz.underlying59 (by kernel_rfl) (by kernel_rfl) v xT w
theorem isLAsI (v : Value) (xT : TypeId) (w : World) : (Instr.typeAssert (.iface 127 v) xT 150 true).run Tryz.prog w = .ok (.tuple #[.nilIface, .bool false]) w := run_typeAssert_lacksB Tryz.underlying150 (by kernel_rfl) (by kernel_rfl) v xT w
theorem isLUnws (v : Value) (xT : TypeId) (w : World) : (Instr.typeAssert (.iface 127 v) xT 153 true).run Tryz.prog w = .ok (.tuple #[.nilIface, .bool false]) w := run_typeAssert_lacksB Tryz.underlying153 (by kernel_rfl) (by kernel_rfl) v xT w
theorem isLNoted (v : Value) (xT : TypeId) (w : World) : (Instr.typeAssert (.iface 127 v) xT 87 true).run Tryz.prog w = .ok (.tuple #[.pointer none, .bool false]) w := by kernel_rfl
theorem isRCoded (v : Value) (xT : TypeId) (w : World) : (Instr.typeAssert (.iface 129 v) xT 67 true).run Tryz.prog w = .ok (.tuple #[.iface 129 v, .bool true]) w := run_typeAssert_hasB Tryz.underlying67 (by kernel_rfl) v xT w
theorem isRLocated (v : Value) (xT : TypeId) (w : World) : (Instr.typeAssert (.iface 129 v) xT 77 true).run Tryz.prog w = .ok (.tuple #[.iface 129 v, .bool true]) w := run_typeAssert_hasB Tryz.underlying77 (by kernel_rfl) v xT w
theorem isRRaised (v : Value) (xT : TypeId) (w : World) : (Instr.typeAssert (.iface 129 v) xT 54 true).run Tryz.prog w = .ok (.tuple #[.iface 129 v, .bool true]) w := run_typeAssert_hasB Tryz.underlying54 (by kernel_rfl) v xT w
theorem isRLacking (v : Value) (xT : TypeId) (w : World) : (Instr.typeAssert (.iface 129 v) xT 81 true).run Tryz.prog w = .ok (.tuple #[.nilIface, .bool false]) w := run_typeAssert_lacksB Tryz.underlying81 (by kernel_rfl) (by kernel_rfl) v xT w
theorem isRUnw (v : Value) (xT : TypeId) (w : World) : (Instr.typeAssert (.iface 129 v) xT 59 true).run Tryz.prog w = .ok (.tuple #[.nilIface, .bool false]) w := run_typeAssert_lacksB Tryz.underlying59 (by kernel_rfl) (by kernel_rfl) v xT w
theorem isRAsI (v : Value) (xT : TypeId) (w : World) : (Instr.typeAssert (.iface 129 v) xT 150 true).run Tryz.prog w = .ok (.tuple #[.nilIface, .bool false]) w := run_typeAssert_lacksB Tryz.underlying150 (by kernel_rfl) (by kernel_rfl) v xT w
theorem isRUnws (v : Value) (xT : TypeId) (w : World) : (Instr.typeAssert (.iface 129 v) xT 153 true).run Tryz.prog w = .ok (.tuple #[.nilIface, .bool false]) w := run_typeAssert_lacksB Tryz.underlying153 (by kernel_rfl) (by kernel_rfl) v xT w
theorem isRNoted (v : Value) (xT : TypeId) (w : World) : (Instr.typeAssert (.iface 129 v) xT 87 true).run Tryz.prog w = .ok (.tuple #[.pointer none, .bool false]) w := by kernel_rfl
theorem isKCoded (v : Value) (xT : TypeId) (w : World) : (Instr.typeAssert (.iface 132 v) xT 67 true).run Tryz.prog w = .ok (.tuple #[.iface 132 v, .bool true]) w := run_typeAssert_hasB Tryz.underlying67 (by kernel_rfl) v xT w
theorem isKLocated (v : Value) (xT : TypeId) (w : World) : (Instr.typeAssert (.iface 132 v) xT 77 true).run Tryz.prog w = .ok (.tuple #[.iface 132 v, .bool true]) w := run_typeAssert_hasB Tryz.underlying77 (by kernel_rfl) v xT w
theorem isKRaised (v : Value) (xT : TypeId) (w : World) : (Instr.typeAssert (.iface 132 v) xT 54 true).run Tryz.prog w = .ok (.tuple #[.nilIface, .bool false]) w := run_typeAssert_lacksB Tryz.underlying54 (by kernel_rfl) (by kernel_rfl) v xT w
theorem isKLacking (v : Value) (xT : TypeId) (w : World) : (Instr.typeAssert (.iface 132 v) xT 81 true).run Tryz.prog w = .ok (.tuple #[.iface 132 v, .bool true]) w := run_typeAssert_hasB Tryz.underlying81 (by kernel_rfl) v xT w
theorem isKUnw (v : Value) (xT : TypeId) (w : World) : (Instr.typeAssert (.iface 132 v) xT 59 true).run Tryz.prog w = .ok (.tuple #[.nilIface, .bool false]) w := run_typeAssert_lacksB Tryz.underlying59 (by kernel_rfl) (by kernel_rfl) v xT w
theorem isKAsI (v : Value) (xT : TypeId) (w : World) : (Instr.typeAssert (.iface 132 v) xT 150 true).run Tryz.prog w = .ok (.tuple #[.nilIface, .bool false]) w := run_typeAssert_lacksB Tryz.underlying150 (by kernel_rfl) (by kernel_rfl) v xT w
theorem isKUnws (v : Value) (xT : TypeId) (w : World) : (Instr.typeAssert (.iface 132 v) xT 153 true).run Tryz.prog w = .ok (.tuple #[.nilIface, .bool false]) w := run_typeAssert_lacksB Tryz.underlying153 (by kernel_rfl) (by kernel_rfl) v xT w
theorem isKNoted (v : Value) (xT : TypeId) (w : World) : (Instr.typeAssert (.iface 132 v) xT 87 true).run Tryz.prog w = .ok (.tuple #[.pointer none, .bool false]) w := by kernel_rfl
theorem isHCoded (v : Value) (xT : TypeId) (w : World) : (Instr.typeAssert (.iface 94 v) xT 67 true).run Tryz.prog w = .ok (.tuple #[.nilIface, .bool false]) w := run_typeAssert_lacksB Tryz.underlying67 (by kernel_rfl) (by kernel_rfl) v xT w
theorem isHLocated (v : Value) (xT : TypeId) (w : World) : (Instr.typeAssert (.iface 94 v) xT 77 true).run Tryz.prog w = .ok (.tuple #[.nilIface, .bool false]) w := run_typeAssert_lacksB Tryz.underlying77 (by kernel_rfl) (by kernel_rfl) v xT w
theorem isHRaised (v : Value) (xT : TypeId) (w : World) : (Instr.typeAssert (.iface 94 v) xT 54 true).run Tryz.prog w = .ok (.tuple #[.nilIface, .bool false]) w := run_typeAssert_lacksB Tryz.underlying54 (by kernel_rfl) (by kernel_rfl) v xT w
theorem isHLacking (v : Value) (xT : TypeId) (w : World) : (Instr.typeAssert (.iface 94 v) xT 81 true).run Tryz.prog w = .ok (.tuple #[.nilIface, .bool false]) w := run_typeAssert_lacksB Tryz.underlying81 (by kernel_rfl) (by kernel_rfl) v xT w
theorem isHUnw (v : Value) (xT : TypeId) (w : World) : (Instr.typeAssert (.iface 94 v) xT 59 true).run Tryz.prog w = .ok (.tuple #[.iface 94 v, .bool true]) w := run_typeAssert_hasB Tryz.underlying59 (by kernel_rfl) v xT w
theorem isHAsI (v : Value) (xT : TypeId) (w : World) : (Instr.typeAssert (.iface 94 v) xT 150 true).run Tryz.prog w = .ok (.tuple #[.iface 94 v, .bool true]) w := run_typeAssert_hasB Tryz.underlying150 (by kernel_rfl) v xT w
theorem isHUnws (v : Value) (xT : TypeId) (w : World) : (Instr.typeAssert (.iface 94 v) xT 153 true).run Tryz.prog w = .ok (.tuple #[.nilIface, .bool false]) w := run_typeAssert_lacksB Tryz.underlying153 (by kernel_rfl) (by kernel_rfl) v xT w
theorem isHNoted (v : Value) (xT : TypeId) (w : World) : (Instr.typeAssert (.iface 94 v) xT 87 true).run Tryz.prog w = .ok (.tuple #[.pointer none, .bool false]) w := by kernel_rfl
theorem toCodedCoded (v : Value) (xT : TypeId) (w : World) : (Instr.typeAssert (.iface 97 v) xT 97 true).run Tryz.prog w = .ok (.tuple #[v, .bool true]) w := by kernel_rfl
theorem toCodedLocated (v : Value) (xT : TypeId) (w : World) : (Instr.typeAssert (.iface 97 v) xT 100 true).run Tryz.prog w = .ok (.tuple #[.pointer none, .bool false]) w := by kernel_rfl
theorem toCodedRaised (v : Value) (xT : TypeId) (w : World) : (Instr.typeAssert (.iface 97 v) xT 56 true).run Tryz.prog w = .ok (.tuple #[.pointer none, .bool false]) w := by kernel_rfl
theorem toCodedLacking (v : Value) (xT : TypeId) (w : World) : (Instr.typeAssert (.iface 97 v) xT 159 true).run Tryz.prog w = .ok (.tuple #[.pointer none, .bool false]) w := by kernel_rfl
theorem toCodedNoted (v : Value) (xT : TypeId) (w : World) : (Instr.typeAssert (.iface 97 v) xT 95 true).run Tryz.prog w = .ok (.tuple #[.pointer none, .bool false]) w := by kernel_rfl
theorem toLocatedCoded (v : Value) (xT : TypeId) (w : World) : (Instr.typeAssert (.iface 100 v) xT 97 true).run Tryz.prog w = .ok (.tuple #[.pointer none, .bool false]) w := by kernel_rfl
theorem toLocatedLocated (v : Value) (xT : TypeId) (w : World) : (Instr.typeAssert (.iface 100 v) xT 100 true).run Tryz.prog w = .ok (.tuple #[v, .bool true]) w := by kernel_rfl
theorem toLocatedRaised (v : Value) (xT : TypeId) (w : World) : (Instr.typeAssert (.iface 100 v) xT 56 true).run Tryz.prog w = .ok (.tuple #[.pointer none, .bool false]) w := by kernel_rfl
theorem toLocatedLacking (v : Value) (xT : TypeId) (w : World) : (Instr.typeAssert (.iface 100 v) xT 159 true).run Tryz.prog w = .ok (.tuple #[.pointer none, .bool false]) w := by kernel_rfl
theorem toLocatedNoted (v : Value) (xT : TypeId) (w : World) : (Instr.typeAssert (.iface 100 v) xT 95 true).run Tryz.prog w = .ok (.tuple #[.pointer none, .bool false]) w := by kernel_rfl
theorem toRaisedCoded (v : Value) (xT : TypeId) (w : World) : (Instr.typeAssert (.iface 56 v) xT 97 true).run Tryz.prog w = .ok (.tuple #[.pointer none, .bool false]) w := by kernel_rfl
theorem toRaisedLocated (v : Value) (xT : TypeId) (w : World) : (Instr.typeAssert (.iface 56 v) xT 100 true).run Tryz.prog w = .ok (.tuple #[.pointer none, .bool false]) w := by kernel_rfl
theorem toRaisedRaised (v : Value) (xT : TypeId) (w : World) : (Instr.typeAssert (.iface 56 v) xT 56 true).run Tryz.prog w = .ok (.tuple #[v, .bool true]) w := by kernel_rfl
theorem toRaisedLacking (v : Value) (xT : TypeId) (w : World) : (Instr.typeAssert (.iface 56 v) xT 159 true).run Tryz.prog w = .ok (.tuple #[.pointer none, .bool false]) w := by kernel_rfl
theorem toRaisedNoted (v : Value) (xT : TypeId) (w : World) : (Instr.typeAssert (.iface 56 v) xT 95 true).run Tryz.prog w = .ok (.tuple #[.pointer none, .bool false]) w := by kernel_rfl
theorem toLackingCoded (v : Value) (xT : TypeId) (w : World) : (Instr.typeAssert (.iface 159 v) xT 97 true).run Tryz.prog w = .ok (.tuple #[.pointer none, .bool false]) w := by kernel_rfl
theorem toLackingLocated (v : Value) (xT : TypeId) (w : World) : (Instr.typeAssert (.iface 159 v) xT 100 true).run Tryz.prog w = .ok (.tuple #[.pointer none, .bool false]) w := by kernel_rfl
theorem toLackingRaised (v : Value) (xT : TypeId) (w : World) : (Instr.typeAssert (.iface 159 v) xT 56 true).run Tryz.prog w = .ok (.tuple #[.pointer none, .bool false]) w := by kernel_rfl
theorem toLackingLacking (v : Value) (xT : TypeId) (w : World) : (Instr.typeAssert (.iface 159 v) xT 159 true).run Tryz.prog w = .ok (.tuple #[v, .bool true]) w := by kernel_rfl
theorem toLackingNoted (v : Value) (xT : TypeId) (w : World) : (Instr.typeAssert (.iface 159 v) xT 95 true).run Tryz.prog w = .ok (.tuple #[.pointer none, .bool false]) w := by kernel_rfl
theorem toNotedCoded (v : Value) (xT : TypeId) (w : World) : (Instr.typeAssert (.iface 95 v) xT 97 true).run Tryz.prog w = .ok (.tuple #[.pointer none, .bool false]) w := by kernel_rfl
theorem toNotedLocated (v : Value) (xT : TypeId) (w : World) : (Instr.typeAssert (.iface 95 v) xT 100 true).run Tryz.prog w = .ok (.tuple #[.pointer none, .bool false]) w := by kernel_rfl
theorem toNotedRaised (v : Value) (xT : TypeId) (w : World) : (Instr.typeAssert (.iface 95 v) xT 56 true).run Tryz.prog w = .ok (.tuple #[.pointer none, .bool false]) w := by kernel_rfl
theorem toNotedLacking (v : Value) (xT : TypeId) (w : World) : (Instr.typeAssert (.iface 95 v) xT 159 true).run Tryz.prog w = .ok (.tuple #[.pointer none, .bool false]) w := by kernel_rfl
theorem toNotedNoted (v : Value) (xT : TypeId) (w : World) : (Instr.typeAssert (.iface 95 v) xT 95 true).run Tryz.prog w = .ok (.tuple #[v, .bool true]) w := by kernel_rfl
theorem mNUnwrap (b : Nat) (w : World) : (method 322 87 (.pointer (some ⟨b, 0, none⟩)) "Unwrap").run Tryz.prog w = .ok (83, .pointer (some ⟨b, 0, none⟩)) w := by kernel_rfl
theorem mNError (b : Nat) (w : World) : (method 322 87 (.pointer (some ⟨b, 0, none⟩)) "Error").run Tryz.prog w = .ok (82, .pointer (some ⟨b, 0, none⟩)) w := by kernel_rfl
theorem mCCode (b : Nat) (w : World) : (method 322 128 (.pointer (some ⟨b, 0, none⟩)) "Code").run Tryz.prog w = .ok (96, .pointer (some ⟨b, 0, none⟩)) w := by kernel_rfl
theorem mCError (b : Nat) (w : World) : (method 322 128 (.pointer (some ⟨b, 0, none⟩)) "Error").run Tryz.prog w = .ok (99, .pointer (some ⟨b, 0, none⟩)) w := by kernel_rfl
theorem mLCode (b : Nat) (w : World) : (method 322 127 (.pointer (some ⟨b, 0, none⟩)) "Code").run Tryz.prog w = .ok (96, .pointer (some ⟨b, 0, none⟩)) w := by kernel_rfl
theorem mLWhere (b : Nat) (w : World) : (method 322 127 (.pointer (some ⟨b, 0, none⟩)) "Where").run Tryz.prog w = .ok (98, .pointer (some ⟨b, 0, none⟩)) w := by kernel_rfl
theorem mLError (b : Nat) (w : World) : (method 322 127 (.pointer (some ⟨b, 0, none⟩)) "Error").run Tryz.prog w = .ok (97, .pointer (some ⟨b, 0, none⟩)) w := by kernel_rfl
theorem mRCode (b : Nat) (w : World) : (method 322 129 (.pointer (some ⟨b, 0, none⟩)) "Code").run Tryz.prog w = .ok (96, .pointer (some ⟨b, 0, none⟩)) w := by kernel_rfl
theorem mRWhere (b : Nat) (w : World) : (method 322 129 (.pointer (some ⟨b, 0, none⟩)) "Where").run Tryz.prog w = .ok (98, .pointer (some ⟨b, 0, none⟩)) w := by kernel_rfl
theorem mRSaid (b : Nat) (w : World) : (method 322 129 (.pointer (some ⟨b, 0, none⟩)) "Said").run Tryz.prog w = .ok (122, .pointer (some ⟨b, 0, none⟩)) w := by kernel_rfl
theorem mRError (b : Nat) (w : World) : (method 322 129 (.pointer (some ⟨b, 0, none⟩)) "Error").run Tryz.prog w = .ok (121, .pointer (some ⟨b, 0, none⟩)) w := by kernel_rfl
theorem mKCode (b : Nat) (w : World) : (method 322 132 (.pointer (some ⟨b, 0, none⟩)) "Code").run Tryz.prog w = .ok (96, .pointer (some ⟨b, 0, none⟩)) w := by kernel_rfl
theorem mKWhere (b : Nat) (w : World) : (method 322 132 (.pointer (some ⟨b, 0, none⟩)) "Where").run Tryz.prog w = .ok (98, .pointer (some ⟨b, 0, none⟩)) w := by kernel_rfl
theorem mKLacks (b : Nat) (w : World) : (method 322 132 (.pointer (some ⟨b, 0, none⟩)) "Lacks").run Tryz.prog w = .ok (124, .pointer (some ⟨b, 0, none⟩)) w := by kernel_rfl
theorem mKError (b : Nat) (w : World) : (method 322 132 (.pointer (some ⟨b, 0, none⟩)) "Error").run Tryz.prog w = .ok (123, .pointer (some ⟨b, 0, none⟩)) w := by kernel_rfl
theorem mGUnwrap (v : Value) (w : World) : (method 322 46 v "Unwrap").run Tryz.prog w = .ok (81, v) w := by kernel_rfl
theorem mGError (v : Value) (w : World) : (method 322 46 v "Error").run Tryz.prog w = .ok (80, v) w := by kernel_rfl
theorem mHAs (v : Value) (w : World) : (method 322 94 v "As").run Tryz.prog w = .ok (86, v) w := by kernel_rfl
theorem mHUnwrap (v : Value) (w : World) : (method 322 94 v "Unwrap").run Tryz.prog w = .ok (87, v) w := by kernel_rfl

end Go.Proofs.YtflcmdjekmmkkaaGreatDoor
