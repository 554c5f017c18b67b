/-
  Closed facts over the program's tables, for package fault and the statements of its stage: what a value of each kind of error asserts to, and which function a method of it is. No condition.
-/
import Derived.Test.YtflcmdjekmmkkabDoorRows
import Derived.WalkKit
import Derived.Stop.Asserts
namespace Go.Proofs.YtflcmdjekmmkkabDoor
open Go.RowKit Go.Extern.Stop Go.Stop Go.Extern
theorem isNCoded (v : Value) (xT : TypeId) (w : World) : (Instr.typeAssert (.iface 53 v) xT 47 true).run Tryd.prog w = .ok (.tuple #[.nilIface, .bool false]) w := run_typeAssert_lacksB Tryd.underlying47 (by kernel_rfl) (by kernel_rfl) v xT w
theorem isNLocated (v : Value) (xT : TypeId) (w : World) : (Instr.typeAssert (.iface 53 v) xT 64 true).run Tryd.prog w = .ok (.tuple #[.nilIface, .bool false]) w := run_typeAssert_lacksB Tryd.underlying64 (by kernel_rfl) (by kernel_rfl) v xT w
theorem isNRaised (v : Value) (xT : TypeId) (w : World) : (Instr.typeAssert (.iface 53 v) xT 50 true).run Tryd.prog w = .ok (.tuple #[.nilIface, .bool false]) w := run_typeAssert_lacksB Tryd.underlying50 (by kernel_rfl) (by kernel_rfl) v xT w
theorem isNLacking (v : Value) (xT : TypeId) (w : World) : (Instr.typeAssert (.iface 53 v) xT 130 true).run Tryd.prog w = .ok (.tuple #[.nilIface, .bool false]) w := run_typeAssert_lacksB Tryd.underlying130 (by kernel_rfl) (by kernel_rfl) v xT w
theorem isNUnw (v : Value) (xT : TypeId) (w : World) : (Instr.typeAssert (.iface 53 v) xT 124 true).run Tryd.prog w = .ok (.tuple #[.iface 53 v, .bool true]) w := run_typeAssert_hasB Tryd.underlying124 (by kernel_rfl) v xT w
theorem isNAsI (v : Value) (xT : TypeId) (w : World) : (Instr.typeAssert (.iface 53 v) xT 121 true).run Tryd.prog w = .ok (.tuple #[.nilIface, .bool false]) w := run_typeAssert_lacksB Tryd.underlying121 (by kernel_rfl) (by kernel_rfl) v xT w
theorem isNUnws (v : Value) (xT : TypeId) (w : World) : (Instr.typeAssert (.iface 53 v) xT 125 true).run Tryd.prog w = .ok (.tuple #[.nilIface, .bool false]) w := run_typeAssert_lacksB Tryd.underlying125 (by kernel_rfl) (by kernel_rfl) v xT w
theorem isNNoted (v : Value) (xT : TypeId) (w : World) : (Instr.typeAssert (.iface 53 v) xT 53 true).run Tryd.prog w = .ok (.tuple #[v, .bool true]) w := by kernel_rfl
theorem isGCoded (v : Value) (xT : TypeId) (w : World) : (Instr.typeAssert (.iface 42 v) xT 47 true).run Tryd.prog w = .ok (.tuple #[.nilIface, .bool false]) w := run_typeAssert_lacksB Tryd.underlying47 (by kernel_rfl) (by kernel_rfl) v xT w
theorem isGLocated (v : Value) (xT : TypeId) (w : World) : (Instr.typeAssert (.iface 42 v) xT 64 true).run Tryd.prog w = .ok (.tuple #[.nilIface, .bool false]) w := run_typeAssert_lacksB Tryd.underlying64 (by kernel_rfl) (by kernel_rfl) v xT w
theorem isGRaised (v : Value) (xT : TypeId) (w : World) : (Instr.typeAssert (.iface 42 v) xT 50 true).run Tryd.prog w = .ok (.tuple #[.nilIface, .bool false]) w := run_typeAssert_lacksB Tryd.underlying50 (by kernel_rfl) (by kernel_rfl) v xT w
theorem isGLacking (v : Value) (xT : TypeId) (w : World) : (Instr.typeAssert (.iface 42 v) xT 130 true).run Tryd.prog w = .ok (.tuple #[.nilIface, .bool false]) w := run_typeAssert_lacksB Tryd.underlying130 (by kernel_rfl) (by kernel_rfl) v xT w
theorem isGUnw (v : Value) (xT : TypeId) (w : World) : (Instr.typeAssert (.iface 42 v) xT 124 true).run Tryd.prog w = .ok (.tuple #[.iface 42 v, .bool true]) w := run_typeAssert_hasB Tryd.underlying124 (by kernel_rfl) v xT w
theorem isGAsI (v : Value) (xT : TypeId) (w : World) : (Instr.typeAssert (.iface 42 v) xT 121 true).run Tryd.prog w = .ok (.tuple #[.nilIface, .bool false]) w := run_typeAssert_lacksB Tryd.underlying121 (by kernel_rfl) (by kernel_rfl) v xT w
theorem isGUnws (v : Value) (xT : TypeId) (w : World) : (Instr.typeAssert (.iface 42 v) xT 125 true).run Tryd.prog w = .ok (.tuple #[.nilIface, .bool false]) w := run_typeAssert_lacksB Tryd.underlying125 (by kernel_rfl) (by kernel_rfl) v xT w
theorem isGNoted (v : Value) (xT : TypeId) (w : World) : (Instr.typeAssert (.iface 42 v) xT 53 true).run Tryd.prog w = .ok (.tuple #[.pointer none, .bool false]) w := by kernel_rfl
theorem isCCoded (v : Value) (xT : TypeId) (w : World) : (Instr.typeAssert (.iface 87 v) xT 47 true).run Tryd.prog w = .ok (.tuple #[.iface 87 v, .bool true]) w := run_typeAssert_hasB Tryd.underlying47 (by kernel_rfl) v xT w
theorem isCLocated (v : Value) (xT : TypeId) (w : World) : (Instr.typeAssert (.iface 87 v) xT 64 true).run Tryd.prog w = .ok (.tuple #[.nilIface, .bool false]) w := run_typeAssert_lacksB Tryd.underlying64 (by kernel_rfl) (by kernel_rfl) v xT w
theorem isCRaised (v : Value) (xT : TypeId) (w : World) : (Instr.typeAssert (.iface 87 v) xT 50 true).run Tryd.prog w = .ok (.tuple #[.nilIface, .bool false]) w := run_typeAssert_lacksB Tryd.underlying50 (by kernel_rfl) (by kernel_rfl) v xT w
theorem isCLacking (v : Value) (xT : TypeId) (w : World) : (Instr.typeAssert (.iface 87 v) xT 130 true).run Tryd.prog w = .ok (.tuple #[.nilIface, .bool false]) w := run_typeAssert_lacksB Tryd.underlying130 (by kernel_rfl) (by kernel_rfl) v xT w
theorem isCUnw (v : Value) (xT : TypeId) (w : World) : (Instr.typeAssert (.iface 87 v) xT 124 true).run Tryd.prog w = .ok (.tuple #[.nilIface, .bool false]) w := run_typeAssert_lacksB Tryd.underlying124 (by kernel_rfl) (by kernel_rfl) v xT w
theorem isCAsI (v : Value) (xT : TypeId) (w : World) : (Instr.typeAssert (.iface 87 v) xT 121 true).run Tryd.prog w = .ok (.tuple #[.nilIface, .bool false]) w := run_typeAssert_lacksB Tryd.underlying121 (by kernel_rfl) (by kernel_rfl) v xT w
theorem isCUnws (v : Value) (xT : TypeId) (w : World) : (Instr.typeAssert (.iface 87 v) xT 125 true).run Tryd.prog w = .ok (.tuple #[.nilIface, .bool false]) w := run_typeAssert_lacksB Tryd.underlying125 (by kernel_rfl) (by kernel_rfl) v xT w
theorem isCNoted (v : Value) (xT : TypeId) (w : World) : (Instr.typeAssert (.iface 87 v) xT 53 true).run Tryd.prog w = .ok (.tuple #[.pointer none, .bool false]) w := by kernel_rfl
theorem isLCoded (v : Value) (xT : TypeId) (w : World) : (Instr.typeAssert (.iface 86 v) xT 47 true).run Tryd.prog w = .ok (.tuple #[.iface 86 v, .bool true]) w := run_typeAssert_hasB Tryd.underlying47 (by kernel_rfl) v xT w
theorem isLLocated (v : Value) (xT : TypeId) (w : World) : (Instr.typeAssert (.iface 86 v) xT 64 true).run Tryd.prog w = .ok (.tuple #[.iface 86 v, .bool true]) w := run_typeAssert_hasB Tryd.underlying64 (by kernel_rfl) v xT w
theorem isLRaised (v : Value) (xT : TypeId) (w : World) : (Instr.typeAssert (.iface 86 v) xT 50 true).run Tryd.prog w = .ok (.tuple #[.nilIface, .bool false]) w := run_typeAssert_lacksB Tryd.underlying50 (by kernel_rfl) (by kernel_rfl) v xT w
theorem isLLacking (v : Value) (xT : TypeId) (w : World) : (Instr.typeAssert (.iface 86 v) xT 130 true).run Tryd.prog w = .ok (.tuple #[.nilIface, .bool false]) w := run_typeAssert_lacksB Tryd.underlying130 (by kernel_rfl) (by kernel_rfl) v xT w
theorem isLUnw (v : Value) (xT : TypeId) (w : World) : (Instr.typeAssert (.iface 86 v) xT 124 true).run Tryd.prog w = .ok (.tuple #[.nilIface, .bool false]) w := run_typeAssert_lacksB Tryd.underlying124 (by kernel_rfl) (by kernel_rfl) v xT w
theorem isLAsI (v : Value) (xT : TypeId) (w : World) : (Instr.typeAssert (.iface 86 v) xT 121 true).run Tryd.prog w = .ok (.tuple #[.nilIface, .bool false]) w := run_typeAssert_lacksB Tryd.underlying121 (by kernel_rfl) (by kernel_rfl) v xT w
theorem isLUnws (v : Value) (xT : TypeId) (w : World) : (Instr.typeAssert (.iface 86 v) xT 125 true).run Tryd.prog w = .ok (.tuple #[.nilIface, .bool false]) w := run_typeAssert_lacksB Tryd.underlying125 (by kernel_rfl) (by kernel_rfl) v xT w
theorem isLNoted (v : Value) (xT : TypeId) (w : World) : (Instr.typeAssert (.iface 86 v) xT 53 true).run Tryd.prog w = .ok (.tuple #[.pointer none, .bool false]) w := by kernel_rfl
theorem isRCoded (v : Value) (xT : TypeId) (w : World) : (Instr.typeAssert (.iface 88 v) xT 47 true).run Tryd.prog w = .ok (.tuple #[.iface 88 v, .bool true]) w := run_typeAssert_hasB Tryd.underlying47 (by kernel_rfl) v xT w
theorem isRLocated (v : Value) (xT : TypeId) (w : World) : (Instr.typeAssert (.iface 88 v) xT 64 true).run Tryd.prog w = .ok (.tuple #[.iface 88 v, .bool true]) w := run_typeAssert_hasB Tryd.underlying64 (by kernel_rfl) v xT w
theorem isRRaised (v : Value) (xT : TypeId) (w : World) : (Instr.typeAssert (.iface 88 v) xT 50 true).run Tryd.prog w = .ok (.tuple #[.iface 88 v, .bool true]) w := run_typeAssert_hasB Tryd.underlying50 (by kernel_rfl) v xT w
theorem isRLacking (v : Value) (xT : TypeId) (w : World) : (Instr.typeAssert (.iface 88 v) xT 130 true).run Tryd.prog w = .ok (.tuple #[.nilIface, .bool false]) w := run_typeAssert_lacksB Tryd.underlying130 (by kernel_rfl) (by kernel_rfl) v xT w
theorem isRUnw (v : Value) (xT : TypeId) (w : World) : (Instr.typeAssert (.iface 88 v) xT 124 true).run Tryd.prog w = .ok (.tuple #[.nilIface, .bool false]) w := run_typeAssert_lacksB Tryd.underlying124 (by kernel_rfl) (by kernel_rfl) v xT w
theorem isRAsI (v : Value) (xT : TypeId) (w : World) : (Instr.typeAssert (.iface 88 v) xT 121 true).run Tryd.prog w = .ok (.tuple #[.nilIface, .bool false]) w := run_typeAssert_lacksB Tryd.underlying121 (by kernel_rfl) (by kernel_rfl) v xT w
theorem isRUnws (v : Value) (xT : TypeId) (w : World) : (Instr.typeAssert (.iface 88 v) xT 125 true).run Tryd.prog w = .ok (.tuple #[.nilIface, .bool false]) w := run_typeAssert_lacksB Tryd.underlying125 (by kernel_rfl) (by kernel_rfl) v xT w
theorem isRNoted (v : Value) (xT : TypeId) (w : World) : (Instr.typeAssert (.iface 88 v) xT 53 true).run Tryd.prog w = .ok (.tuple #[.pointer none, .bool false]) w := by kernel_rfl
theorem isHCoded (v : Value) (xT : TypeId) (w : World) : (Instr.typeAssert (.iface 60 v) xT 47 true).run Tryd.prog w = .ok (.tuple #[.nilIface, .bool false]) w := run_typeAssert_lacksB Tryd.underlying47 (by kernel_rfl) (by kernel_rfl) v xT w
theorem isHLocated (v : Value) (xT : TypeId) (w : World) : (Instr.typeAssert (.iface 60 v) xT 64 true).run Tryd.prog w = .ok (.tuple #[.nilIface, .bool false]) w := run_typeAssert_lacksB Tryd.underlying64 (by kernel_rfl) (by kernel_rfl) v xT w
theorem isHRaised (v : Value) (xT : TypeId) (w : World) : (Instr.typeAssert (.iface 60 v) xT 50 true).run Tryd.prog w = .ok (.tuple #[.nilIface, .bool false]) w := run_typeAssert_lacksB Tryd.underlying50 (by kernel_rfl) (by kernel_rfl) v xT w
theorem isHLacking (v : Value) (xT : TypeId) (w : World) : (Instr.typeAssert (.iface 60 v) xT 130 true).run Tryd.prog w = .ok (.tuple #[.nilIface, .bool false]) w := run_typeAssert_lacksB Tryd.underlying130 (by kernel_rfl) (by kernel_rfl) v xT w
theorem isHUnw (v : Value) (xT : TypeId) (w : World) : (Instr.typeAssert (.iface 60 v) xT 124 true).run Tryd.prog w = .ok (.tuple #[.iface 60 v, .bool true]) w := run_typeAssert_hasB Tryd.underlying124 (by kernel_rfl) v xT w
theorem isHAsI (v : Value) (xT : TypeId) (w : World) : (Instr.typeAssert (.iface 60 v) xT 121 true).run Tryd.prog w = .ok (.tuple #[.iface 60 v, .bool true]) w := run_typeAssert_hasB Tryd.underlying121 (by kernel_rfl) v xT w
theorem isHUnws (v : Value) (xT : TypeId) (w : World) : (Instr.typeAssert (.iface 60 v) xT 125 true).run Tryd.prog w = .ok (.tuple #[.nilIface, .bool false]) w := run_typeAssert_lacksB Tryd.underlying125 (by kernel_rfl) (by kernel_rfl) v xT w
theorem isHNoted (v : Value) (xT : TypeId) (w : World) : (Instr.typeAssert (.iface 60 v) xT 53 true).run Tryd.prog w = .ok (.tuple #[.pointer none, .bool false]) w := by kernel_rfl
theorem isOCoded (v : Value) (xT : TypeId) (w : World) : (Instr.typeAssert (.iface 24 v) xT 47 true).run Tryd.prog w = .ok (.tuple #[.nilIface, .bool false]) w := run_typeAssert_lacksB Tryd.underlying47 (by kernel_rfl) (by kernel_rfl) v xT w
theorem isOLocated (v : Value) (xT : TypeId) (w : World) : (Instr.typeAssert (.iface 24 v) xT 64 true).run Tryd.prog w = .ok (.tuple #[.nilIface, .bool false]) w := run_typeAssert_lacksB Tryd.underlying64 (by kernel_rfl) (by kernel_rfl) v xT w
theorem isORaised (v : Value) (xT : TypeId) (w : World) : (Instr.typeAssert (.iface 24 v) xT 50 true).run Tryd.prog w = .ok (.tuple #[.nilIface, .bool false]) w := run_typeAssert_lacksB Tryd.underlying50 (by kernel_rfl) (by kernel_rfl) v xT w
theorem isOLacking (v : Value) (xT : TypeId) (w : World) : (Instr.typeAssert (.iface 24 v) xT 130 true).run Tryd.prog w = .ok (.tuple #[.nilIface, .bool false]) w := run_typeAssert_lacksB Tryd.underlying130 (by kernel_rfl) (by kernel_rfl) v xT w
theorem isOUnw (v : Value) (xT : TypeId) (w : World) : (Instr.typeAssert (.iface 24 v) xT 124 true).run Tryd.prog w = .ok (.tuple #[.iface 24 v, .bool true]) w := run_typeAssert_hasB Tryd.underlying124 (by kernel_rfl) v xT w
theorem isOAsI (v : Value) (xT : TypeId) (w : World) : (Instr.typeAssert (.iface 24 v) xT 121 true).run Tryd.prog w = .ok (.tuple #[.nilIface, .bool false]) w := run_typeAssert_lacksB Tryd.underlying121 (by kernel_rfl) (by kernel_rfl) v xT w
theorem isOUnws (v : Value) (xT : TypeId) (w : World) : (Instr.typeAssert (.iface 24 v) xT 125 true).run Tryd.prog w = .ok (.tuple #[.nilIface, .bool false]) w := run_typeAssert_lacksB Tryd.underlying125 (by kernel_rfl) (by kernel_rfl) v xT w
theorem isONoted (v : Value) (xT : TypeId) (w : World) : (Instr.typeAssert (.iface 24 v) xT 53 true).run Tryd.prog w = .ok (.tuple #[.pointer none, .bool false]) w := by kernel_rfl
theorem toCodedCoded (v : Value) (xT : TypeId) (w : World) : (Instr.typeAssert (.iface 70 v) xT 70 true).run Tryd.prog w = .ok (.tuple #[v, .bool true]) w := by kernel_rfl
theorem toCodedLocated (v : Value) (xT : TypeId) (w : World) : (Instr.typeAssert (.iface 70 v) xT 66 true).run Tryd.prog w = .ok (.tuple #[.pointer none, .bool false]) w := by kernel_rfl
theorem toCodedRaised (v : Value) (xT : TypeId) (w : World) : (Instr.typeAssert (.iface 70 v) xT 128 true).run Tryd.prog w = .ok (.tuple #[.pointer none, .bool false]) w := by kernel_rfl
theorem toCodedLacking (v : Value) (xT : TypeId) (w : World) : (Instr.typeAssert (.iface 70 v) xT 131 true).run Tryd.prog w = .ok (.tuple #[.pointer none, .bool false]) w := by kernel_rfl
theorem toCodedNoted (v : Value) (xT : TypeId) (w : World) : (Instr.typeAssert (.iface 70 v) xT 62 true).run Tryd.prog w = .ok (.tuple #[.pointer none, .bool false]) w := by kernel_rfl
theorem toLocatedCoded (v : Value) (xT : TypeId) (w : World) : (Instr.typeAssert (.iface 66 v) xT 70 true).run Tryd.prog w = .ok (.tuple #[.pointer none, .bool false]) w := by kernel_rfl
theorem toLocatedLocated (v : Value) (xT : TypeId) (w : World) : (Instr.typeAssert (.iface 66 v) xT 66 true).run Tryd.prog w = .ok (.tuple #[v, .bool true]) w := by kernel_rfl
theorem toLocatedRaised (v : Value) (xT : TypeId) (w : World) : (Instr.typeAssert (.iface 66 v) xT 128 true).run Tryd.prog w = .ok (.tuple #[.pointer none, .bool false]) w := by kernel_rfl
theorem toLocatedLacking (v : Value) (xT : TypeId) (w : World) : (Instr.typeAssert (.iface 66 v) xT 131 true).run Tryd.prog w = .ok (.tuple #[.pointer none, .bool false]) w := by kernel_rfl
theorem toLocatedNoted (v : Value) (xT : TypeId) (w : World) : (Instr.typeAssert (.iface 66 v) xT 62 true).run Tryd.prog w = .ok (.tuple #[.pointer none, .bool false]) w := by kernel_rfl
theorem toRaisedCoded (v : Value) (xT : TypeId) (w : World) : (Instr.typeAssert (.iface 128 v) xT 70 true).run Tryd.prog w = .ok (.tuple #[.pointer none, .bool false]) w := by kernel_rfl
theorem toRaisedLocated (v : Value) (xT : TypeId) (w : World) : (Instr.typeAssert (.iface 128 v) xT 66 true).run Tryd.prog w = .ok (.tuple #[.pointer none, .bool false]) w := by kernel_rfl
theorem toRaisedRaised (v : Value) (xT : TypeId) (w : World) : (Instr.typeAssert (.iface 128 v) xT 128 true).run Tryd.prog w = .ok (.tuple #[v, .bool true]) w := by kernel_rfl
theorem toRaisedLacking (v : Value) (xT : TypeId) (w : World) : (Instr.typeAssert (.iface 128 v) xT 131 true).run Tryd.prog w = .ok (.tuple #[.pointer none, .bool false]) w := by kernel_rfl
theorem toRaisedNoted (v : Value) (xT : TypeId) (w : World) : (Instr.typeAssert (.iface 128 v) xT 62 true).run Tryd.prog w = .ok (.tuple #[.pointer none, .bool false]) w := by kernel_rfl
theorem toLackingCoded (v : Value) (xT : TypeId) (w : World) : (Instr.typeAssert (.iface 131 v) xT 70 true).run Tryd.prog w = .ok (.tuple #[.pointer none, .bool false]) w := by kernel_rfl
theorem toLackingLocated (v : Value) (xT : TypeId) (w : World) : (Instr.typeAssert (.iface 131 v) xT 66 true).run Tryd.prog w = .ok (.tuple #[.pointer none, .bool false]) w := by kernel_rfl
theorem toLackingRaised (v : Value) (xT : TypeId) (w : World) : (Instr.typeAssert (.iface 131 v) xT 128 true).run Tryd.prog w = .ok (.tuple #[.pointer none, .bool false]) w := by kernel_rfl
theorem toLackingLacking (v : Value) (xT : TypeId) (w : World) : (Instr.typeAssert (.iface 131 v) xT 131 true).run Tryd.prog w = .ok (.tuple #[v, .bool true]) w := by kernel_rfl
theorem toLackingNoted (v : Value) (xT : TypeId) (w : World) : (Instr.typeAssert (.iface 131 v) xT 62 true).run Tryd.prog w = .ok (.tuple #[.pointer none, .bool false]) w := by kernel_rfl
theorem toNotedCoded (v : Value) (xT : TypeId) (w : World) : (Instr.typeAssert (.iface 62 v) xT 70 true).run Tryd.prog w = .ok (.tuple #[.pointer none, .bool false]) w := by kernel_rfl
theorem toNotedLocated (v : Value) (xT : TypeId) (w : World) : (Instr.typeAssert (.iface 62 v) xT 66 true).run Tryd.prog w = .ok (.tuple #[.pointer none, .bool false]) w := by kernel_rfl
theorem toNotedRaised (v : Value) (xT : TypeId) (w : World) : (Instr.typeAssert (.iface 62 v) xT 128 true).run Tryd.prog w = .ok (.tuple #[.pointer none, .bool false]) w := by kernel_rfl
theorem toNotedLacking (v : Value) (xT : TypeId) (w : World) : (Instr.typeAssert (.iface 62 v) xT 131 true).run Tryd.prog w = .ok (.tuple #[.pointer none, .bool false]) w := by kernel_rfl
theorem toNotedNoted (v : Value) (xT : TypeId) (w : World) : (Instr.typeAssert (.iface 62 v) xT 62 true).run Tryd.prog w = .ok (.tuple #[v, .bool true]) w := by kernel_rfl
theorem mNUnwrap (b : Nat) (w : World) : (method 301 53 (.pointer (some ⟨b, 0, none⟩)) "Unwrap").run Tryd.prog w = .ok (66, .pointer (some ⟨b, 0, none⟩)) w := by kernel_rfl
theorem mNError (b : Nat) (w : World) : (method 301 53 (.pointer (some ⟨b, 0, none⟩)) "Error").run Tryd.prog w = .ok (65, .pointer (some ⟨b, 0, none⟩)) w := by kernel_rfl
theorem mCCode (b : Nat) (w : World) : (method 301 87 (.pointer (some ⟨b, 0, none⟩)) "Code").run Tryd.prog w = .ok (76, .pointer (some ⟨b, 0, none⟩)) w := by kernel_rfl
theorem mCError (b : Nat) (w : World) : (method 301 87 (.pointer (some ⟨b, 0, none⟩)) "Error").run Tryd.prog w = .ok (79, .pointer (some ⟨b, 0, none⟩)) w := by kernel_rfl
theorem mLCode (b : Nat) (w : World) : (method 301 86 (.pointer (some ⟨b, 0, none⟩)) "Code").run Tryd.prog w = .ok (76, .pointer (some ⟨b, 0, none⟩)) w := by kernel_rfl
theorem mLWhere (b : Nat) (w : World) : (method 301 86 (.pointer (some ⟨b, 0, none⟩)) "Where").run Tryd.prog w = .ok (78, .pointer (some ⟨b, 0, none⟩)) w := by kernel_rfl
theorem mLError (b : Nat) (w : World) : (method 301 86 (.pointer (some ⟨b, 0, none⟩)) "Error").run Tryd.prog w = .ok (77, .pointer (some ⟨b, 0, none⟩)) w := by kernel_rfl
theorem mRCode (b : Nat) (w : World) : (method 301 88 (.pointer (some ⟨b, 0, none⟩)) "Code").run Tryd.prog w = .ok (76, .pointer (some ⟨b, 0, none⟩)) w := by kernel_rfl
theorem mRWhere (b : Nat) (w : World) : (method 301 88 (.pointer (some ⟨b, 0, none⟩)) "Where").run Tryd.prog w = .ok (78, .pointer (some ⟨b, 0, none⟩)) w := by kernel_rfl
theorem mRSaid (b : Nat) (w : World) : (method 301 88 (.pointer (some ⟨b, 0, none⟩)) "Said").run Tryd.prog w = .ok (102, .pointer (some ⟨b, 0, none⟩)) w := by kernel_rfl
theorem mRError (b : Nat) (w : World) : (method 301 88 (.pointer (some ⟨b, 0, none⟩)) "Error").run Tryd.prog w = .ok (101, .pointer (some ⟨b, 0, none⟩)) w := by kernel_rfl
theorem mOUnwrap (b : Nat) (w : World) : (method 301 24 (.pointer (some ⟨b, 0, none⟩)) "Unwrap").run Tryd.prog w = .ok (62, .pointer (some ⟨b, 0, none⟩)) w := by kernel_rfl
theorem mGUnwrap (v : Value) (w : World) : (method 301 42 v "Unwrap").run Tryd.prog w = .ok (64, v) w := by kernel_rfl
theorem mGError (v : Value) (w : World) : (method 301 42 v "Error").run Tryd.prog w = .ok (63, v) w := by kernel_rfl
theorem mHAs (v : Value) (w : World) : (method 301 60 v "As").run Tryd.prog w = .ok (69, v) w := by kernel_rfl
theorem mHUnwrap (v : Value) (w : World) : (method 301 60 v "Unwrap").run Tryd.prog w = .ok (70, v) w := by kernel_rfl

end Go.Proofs.YtflcmdjekmmkkabDoor
