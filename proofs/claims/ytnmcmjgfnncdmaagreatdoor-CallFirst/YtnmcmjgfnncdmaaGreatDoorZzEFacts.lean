/-
  Closed facts over the program's tables, for package fault and the statements of its stage: what a value of each kind of error asserts to, and which function a method of it is. No condition.
-/
import Derived.Test.YtnmcmjgfnncdmaaGreatDoorRows
import Derived.WalkKit
import Derived.Stop.Asserts
namespace Go.Proofs.YtnmcmjgfnncdmaaGreatDoor.Er
open Go.RowKit Go.Extern.Stop Go.Stop Go.Extern
theorem isNCoded (v : Value) (xT : TypeId) (w : World) : (Instr.typeAssert (.iface 491 v) xT 147 true).run Tryz.prog w = .ok (.tuple #[.nilIface, .bool false]) w := run_typeAssert_lacksB Tryz.underlying147 (by kernel_rfl) (by kernel_rfl) v xT w
theorem isNLocated (v : Value) (xT : TypeId) (w : World) : (Instr.typeAssert (.iface 491 v) xT 480 true).run Tryz.prog w = .ok (.tuple #[.nilIface, .bool false]) w := run_typeAssert_lacksB Tryz.underlying480 (by kernel_rfl) (by kernel_rfl) v xT w
theorem isNRaised (v : Value) (xT : TypeId) (w : World) : (Instr.typeAssert (.iface 491 v) xT 484 true).run Tryz.prog w = .ok (.tuple #[.nilIface, .bool false]) w := run_typeAssert_lacksB Tryz.underlying484 (by kernel_rfl) (by kernel_rfl) v xT w
theorem isNLacking (v : Value) (xT : TypeId) (w : World) : (Instr.typeAssert (.iface 491 v) xT 488 true).run Tryz.prog w = .ok (.tuple #[.nilIface, .bool false]) w := run_typeAssert_lacksB Tryz.underlying488 (by kernel_rfl) (by kernel_rfl) v xT w
theorem isNUnw (v : Value) (xT : TypeId) (w : World) : (Instr.typeAssert (.iface 491 v) xT 337 true).run Tryz.prog w = .ok (.tuple #[.iface 491 v, .bool true]) w := run_typeAssert_hasB Tryz.underlying337 (by kernel_rfl) v xT w
theorem isNAsI (v : Value) (xT : TypeId) (w : World) : (Instr.typeAssert (.iface 491 v) xT 334 true).run Tryz.prog w = .ok (.tuple #[.nilIface, .bool false]) w := run_typeAssert_lacksB Tryz.underlying334 (by kernel_rfl) (by kernel_rfl) v xT w
theorem isNUnws (v : Value) (xT : TypeId) (w : World) : (Instr.typeAssert (.iface 491 v) xT 339 true).run Tryz.prog w = .ok (.tuple #[.nilIface, .bool false]) w := run_typeAssert_lacksB Tryz.underlying339 (by kernel_rfl) (by kernel_rfl) v xT w
theorem isNNoted (v : Value) (xT : TypeId) (w : World) : (Instr.typeAssert (.iface 491 v) xT 491 true).run Tryz.prog w = .ok (.tuple #[v, .bool true]) w := by kernel_rfl
theorem isCCoded (v : Value) (xT : TypeId) (w : World) : (Instr.typeAssert (.iface 199 v) xT 147 true).run Tryz.prog w = .ok (.tuple #[.iface 199 v, .bool true]) w := run_typeAssert_hasB Tryz.underlying147 (by kernel_rfl) v xT w
theorem isCLocated (v : Value) (xT : TypeId) (w : World) : (Instr.typeAssert (.iface 199 v) xT 480 true).run Tryz.prog w = .ok (.tuple #[.nilIface, .bool false]) w := run_typeAssert_lacksB Tryz.underlying480 (by kernel_rfl) (by kernel_rfl) v xT w
theorem isCRaised (v : Value) (xT : TypeId) (w : World) : (Instr.typeAssert (.iface 199 v) xT 484 true).run Tryz.prog w = .ok (.tuple #[.nilIface, .bool false]) w := run_typeAssert_lacksB Tryz.underlying484 (by kernel_rfl) (by kernel_rfl) v xT w
theorem isCLacking (v : Value) (xT : TypeId) (w : World) : (Instr.typeAssert (.iface 199 v) xT 488 true).run Tryz.prog w = .ok (.tuple #[.nilIface, .bool false]) w := run_typeAssert_lacksB Tryz.underlying488 (by kernel_rfl) (by kernel_rfl) v xT w
theorem isCUnw (v : Value) (xT : TypeId) (w : World) : (Instr.typeAssert (.iface 199 v) xT 337 true).run Tryz.prog w = .ok (.tuple #[.nilIface, .bool false]) w := run_typeAssert_lacksB Tryz.underlying337 (by kernel_rfl) (by kernel_rfl) v xT w
theorem isCAsI (v : Value) (xT : TypeId) (w : World) : (Instr.typeAssert (.iface 199 v) xT 334 true).run Tryz.prog w = .ok (.tuple #[.nilIface, .bool false]) w := run_typeAssert_lacksB Tryz.underlying334 (by kernel_rfl) (by kernel_rfl) v xT w
theorem isCUnws (v : Value) (xT : TypeId) (w : World) : (Instr.typeAssert (.iface 199 v) xT 339 true).run Tryz.prog w = .ok (.tuple #[.nilIface, .bool false]) w := run_typeAssert_lacksB Tryz.underlying339 (by kernel_rfl) (by kernel_rfl) v xT w
theorem isCNoted (v : Value) (xT : TypeId) (w : World) : (Instr.typeAssert (.iface 199 v) xT 491 true).run Tryz.prog w = .ok (.tuple #[.pointer none, .bool false]) w := by kernel_rfl
theorem isLCoded (v : Value) (xT : TypeId) (w : World) : (Instr.typeAssert (.iface 525 v) xT 147 true).run Tryz.prog w = .ok (.tuple #[.iface 525 v, .bool true]) w := run_typeAssert_hasB Tryz.underlying147 (by kernel_rfl) v xT w
theorem isLLocated (v : Value) (xT : TypeId) (w : World) : (Instr.typeAssert (.iface 525 v) xT 480 true).run Tryz.prog w = .ok (.tuple #[.iface 525 v, .bool true]) w := run_typeAssert_hasB Tryz.underlying480 (by kernel_rfl) v xT w
theorem isLRaised (v : Value) (xT : TypeId) (w : World) : (Instr.typeAssert (.iface 525 v) xT 484 true).run Tryz.prog w = .ok (.tuple #[.nilIface, .bool false]) w := run_typeAssert_lacksB Tryz.underlying484 (by kernel_rfl) (by kernel_rfl) v xT w
theorem isLLacking (v : Value) (xT : TypeId) (w : World) : (Instr.typeAssert (.iface 525 v) xT 488 true).run Tryz.prog w = .ok (.tuple #[.nilIface, .bool false]) w := run_typeAssert_lacksB Tryz.underlying488 (by kernel_rfl) (by kernel_rfl) v xT w
theorem isLUnw (v : Value) (xT : TypeId) (w : World) : (Instr.typeAssert (.iface 525 v) xT 337 true).run Tryz.prog w = .ok (.tuple #[.nilIface, .bool false]) w := run_typeAssert_lacksB Tryz.underlying337 (by kernel_rfl) (by kernel_rfl) v xT w
theorem isLAsI (v : Value) (xT : TypeId) (w : World) : (Instr.typeAssert (.iface 525 v) xT 334 true).run Tryz.prog w = .ok (.tuple #[.nilIface, .bool false]) w := run_typeAssert_lacksB Tryz.underlying334 (by kernel_rfl) (by kernel_rfl) v xT w
theorem isLUnws (v : Value) (xT : TypeId) (w : World) : (Instr.typeAssert (.iface 525 v) xT 339 true).run Tryz.prog w = .ok (.tuple #[.nilIface, .bool false]) w := run_typeAssert_lacksB Tryz.underlying339 (by kernel_rfl) (by kernel_rfl) v xT w
theorem isLNoted (v : Value) (xT : TypeId) (w : World) : (Instr.typeAssert (.iface 525 v) xT 491 true).run Tryz.prog w = .ok (.tuple #[.pointer none, .bool false]) w := by kernel_rfl
theorem isKCoded (v : Value) (xT : TypeId) (w : World) : (Instr.typeAssert (.iface 212 v) xT 147 true).run Tryz.prog w = .ok (.tuple #[.iface 212 v, .bool true]) w := run_typeAssert_hasB Tryz.underlying147 (by kernel_rfl) v xT w
theorem isKLocated (v : Value) (xT : TypeId) (w : World) : (Instr.typeAssert (.iface 212 v) xT 480 true).run Tryz.prog w = .ok (.tuple #[.iface 212 v, .bool true]) w := run_typeAssert_hasB Tryz.underlying480 (by kernel_rfl) v xT w
theorem isKRaised (v : Value) (xT : TypeId) (w : World) : (Instr.typeAssert (.iface 212 v) xT 484 true).run Tryz.prog w = .ok (.tuple #[.nilIface, .bool false]) w := run_typeAssert_lacksB Tryz.underlying484 (by kernel_rfl) (by kernel_rfl) v xT w
theorem isKLacking (v : Value) (xT : TypeId) (w : World) : (Instr.typeAssert (.iface 212 v) xT 488 true).run Tryz.prog w = .ok (.tuple #[.iface 212 v, .bool true]) w := run_typeAssert_hasB Tryz.underlying488 (by kernel_rfl) v xT w
theorem isKUnw (v : Value) (xT : TypeId) (w : World) : (Instr.typeAssert (.iface 212 v) xT 337 true).run Tryz.prog w = .ok (.tuple #[.nilIface, .bool false]) w := run_typeAssert_lacksB Tryz.underlying337 (by kernel_rfl) (by kernel_rfl) v xT w
theorem isKAsI (v : Value) (xT : TypeId) (w : World) : (Instr.typeAssert (.iface 212 v) xT 334 true).run Tryz.prog w = .ok (.tuple #[.nilIface, .bool false]) w := run_typeAssert_lacksB Tryz.underlying334 (by kernel_rfl) (by kernel_rfl) v xT w
theorem isKUnws (v : Value) (xT : TypeId) (w : World) : (Instr.typeAssert (.iface 212 v) xT 339 true).run Tryz.prog w = .ok (.tuple #[.nilIface, .bool false]) w := run_typeAssert_lacksB Tryz.underlying339 (by kernel_rfl) (by kernel_rfl) v xT w
theorem isKNoted (v : Value) (xT : TypeId) (w : World) : (Instr.typeAssert (.iface 212 v) xT 491 true).run Tryz.prog w = .ok (.tuple #[.pointer none, .bool false]) w := by kernel_rfl
theorem isHCoded (v : Value) (xT : TypeId) (w : World) : (Instr.typeAssert (.iface 150 v) xT 147 true).run Tryz.prog w = .ok (.tuple #[.nilIface, .bool false]) w := run_typeAssert_lacksB Tryz.underlying147 (by kernel_rfl) (by kernel_rfl) v xT w
theorem isHLocated (v : Value) (xT : TypeId) (w : World) : (Instr.typeAssert (.iface 150 v) xT 480 true).run Tryz.prog w = .ok (.tuple #[.nilIface, .bool false]) w := run_typeAssert_lacksB Tryz.underlying480 (by kernel_rfl) (by kernel_rfl) v xT w
theorem isHRaised (v : Value) (xT : TypeId) (w : World) : (Instr.typeAssert (.iface 150 v) xT 484 true).run Tryz.prog w = .ok (.tuple #[.nilIface, .bool false]) w := run_typeAssert_lacksB Tryz.underlying484 (by kernel_rfl) (by kernel_rfl) v xT w
theorem isHLacking (v : Value) (xT : TypeId) (w : World) : (Instr.typeAssert (.iface 150 v) xT 488 true).run Tryz.prog w = .ok (.tuple #[.nilIface, .bool false]) w := run_typeAssert_lacksB Tryz.underlying488 (by kernel_rfl) (by kernel_rfl) v xT w
theorem isHUnw (v : Value) (xT : TypeId) (w : World) : (Instr.typeAssert (.iface 150 v) xT 337 true).run Tryz.prog w = .ok (.tuple #[.iface 150 v, .bool true]) w := run_typeAssert_hasB Tryz.underlying337 (by kernel_rfl) v xT w
theorem isHAsI (v : Value) (xT : TypeId) (w : World) : (Instr.typeAssert (.iface 150 v) xT 334 true).run Tryz.prog w = .ok (.tuple #[.iface 150 v, .bool true]) w := run_typeAssert_hasB Tryz.underlying334 (by kernel_rfl) v xT w
theorem isHUnws (v : Value) (xT : TypeId) (w : World) : (Instr.typeAssert (.iface 150 v) xT 339 true).run Tryz.prog w = .ok (.tuple #[.nilIface, .bool false]) w := run_typeAssert_lacksB Tryz.underlying339 (by kernel_rfl) (by kernel_rfl) v xT w
theorem isHNoted (v : Value) (xT : TypeId) (w : World) : (Instr.typeAssert (.iface 150 v) xT 491 true).run Tryz.prog w = .ok (.tuple #[.pointer none, .bool false]) w := by kernel_rfl
theorem toCodedCoded (v : Value) (xT : TypeId) (w : World) : (Instr.typeAssert (.iface 152 v) xT 152 true).run Tryz.prog w = .ok (.tuple #[v, .bool true]) w := by kernel_rfl
theorem toCodedLocated (v : Value) (xT : TypeId) (w : World) : (Instr.typeAssert (.iface 152 v) xT 477 true).run Tryz.prog w = .ok (.tuple #[.pointer none, .bool false]) w := by kernel_rfl
theorem toCodedRaised (v : Value) (xT : TypeId) (w : World) : (Instr.typeAssert (.iface 152 v) xT 481 true).run Tryz.prog w = .ok (.tuple #[.pointer none, .bool false]) w := by kernel_rfl
theorem toCodedLacking (v : Value) (xT : TypeId) (w : World) : (Instr.typeAssert (.iface 152 v) xT 485 true).run Tryz.prog w = .ok (.tuple #[.pointer none, .bool false]) w := by kernel_rfl
theorem toCodedNoted (v : Value) (xT : TypeId) (w : World) : (Instr.typeAssert (.iface 152 v) xT 489 true).run Tryz.prog w = .ok (.tuple #[.pointer none, .bool false]) w := by kernel_rfl
theorem toLocatedCoded (v : Value) (xT : TypeId) (w : World) : (Instr.typeAssert (.iface 477 v) xT 152 true).run Tryz.prog w = .ok (.tuple #[.pointer none, .bool false]) w := by kernel_rfl
theorem toLocatedLocated (v : Value) (xT : TypeId) (w : World) : (Instr.typeAssert (.iface 477 v) xT 477 true).run Tryz.prog w = .ok (.tuple #[v, .bool true]) w := by kernel_rfl
theorem toLocatedRaised (v : Value) (xT : TypeId) (w : World) : (Instr.typeAssert (.iface 477 v) xT 481 true).run Tryz.prog w = .ok (.tuple #[.pointer none, .bool false]) w := by kernel_rfl
theorem toLocatedLacking (v : Value) (xT : TypeId) (w : World) : (Instr.typeAssert (.iface 477 v) xT 485 true).run Tryz.prog w = .ok (.tuple #[.pointer none, .bool false]) w := by kernel_rfl
theorem toLocatedNoted (v : Value) (xT : TypeId) (w : World) : (Instr.typeAssert (.iface 477 v) xT 489 true).run Tryz.prog w = .ok (.tuple #[.pointer none, .bool false]) w := by kernel_rfl
theorem toRaisedCoded (v : Value) (xT : TypeId) (w : World) : (Instr.typeAssert (.iface 481 v) xT 152 true).run Tryz.prog w = .ok (.tuple #[.pointer none, .bool false]) w := by kernel_rfl
theorem toRaisedLocated (v : Value) (xT : TypeId) (w : World) : (Instr.typeAssert (.iface 481 v) xT 477 true).run Tryz.prog w = .ok (.tuple #[.pointer none, .bool false]) w := by kernel_rfl
theorem toRaisedRaised (v : Value) (xT : TypeId) (w : World) : (Instr.typeAssert (.iface 481 v) xT 481 true).run Tryz.prog w = .ok (.tuple #[v, .bool true]) w := by kernel_rfl
theorem toRaisedLacking (v : Value) (xT : TypeId) (w : World) : (Instr.typeAssert (.iface 481 v) xT 485 true).run Tryz.prog w = .ok (.tuple #[.pointer none, .bool false]) w := by kernel_rfl
theorem toRaisedNoted (v : Value) (xT : TypeId) (w : World) : (Instr.typeAssert (.iface 481 v) xT 489 true).run Tryz.prog w = .ok (.tuple #[.pointer none, .bool false]) w := by kernel_rfl
theorem toLackingCoded (v : Value) (xT : TypeId) (w : World) : (Instr.typeAssert (.iface 485 v) xT 152 true).run Tryz.prog w = .ok (.tuple #[.pointer none, .bool false]) w := by kernel_rfl
theorem toLackingLocated (v : Value) (xT : TypeId) (w : World) : (Instr.typeAssert (.iface 485 v) xT 477 true).run Tryz.prog w = .ok (.tuple #[.pointer none, .bool false]) w := by kernel_rfl
theorem toLackingRaised (v : Value) (xT : TypeId) (w : World) : (Instr.typeAssert (.iface 485 v) xT 481 true).run Tryz.prog w = .ok (.tuple #[.pointer none, .bool false]) w := by kernel_rfl
theorem toLackingLacking (v : Value) (xT : TypeId) (w : World) : (Instr.typeAssert (.iface 485 v) xT 485 true).run Tryz.prog w = .ok (.tuple #[v, .bool true]) w := by kernel_rfl
theorem toLackingNoted (v : Value) (xT : TypeId) (w : World) : (Instr.typeAssert (.iface 485 v) xT 489 true).run Tryz.prog w = .ok (.tuple #[.pointer none, .bool false]) w := by kernel_rfl
theorem toNotedCoded (v : Value) (xT : TypeId) (w : World) : (Instr.typeAssert (.iface 489 v) xT 152 true).run Tryz.prog w = .ok (.tuple #[.pointer none, .bool false]) w := by kernel_rfl
theorem toNotedLocated (v : Value) (xT : TypeId) (w : World) : (Instr.typeAssert (.iface 489 v) xT 477 true).run Tryz.prog w = .ok (.tuple #[.pointer none, .bool false]) w := by kernel_rfl
theorem toNotedRaised (v : Value) (xT : TypeId) (w : World) : (Instr.typeAssert (.iface 489 v) xT 481 true).run Tryz.prog w = .ok (.tuple #[.pointer none, .bool false]) w := by kernel_rfl
theorem toNotedLacking (v : Value) (xT : TypeId) (w : World) : (Instr.typeAssert (.iface 489 v) xT 485 true).run Tryz.prog w = .ok (.tuple #[.pointer none, .bool false]) w := by kernel_rfl
theorem toNotedNoted (v : Value) (xT : TypeId) (w : World) : (Instr.typeAssert (.iface 489 v) xT 489 true).run Tryz.prog w = .ok (.tuple #[v, .bool true]) w := by kernel_rfl
theorem mNUnwrap (b : Nat) (w : World) : (method 627 491 (.pointer (some ⟨b, 0, none⟩)) "Unwrap").run Tryz.prog w = .ok (374, .pointer (some ⟨b, 0, none⟩)) w := by kernel_rfl
theorem mNError (b : Nat) (w : World) : (method 627 491 (.pointer (some ⟨b, 0, none⟩)) "Error").run Tryz.prog w = .ok (373, .pointer (some ⟨b, 0, none⟩)) w := by kernel_rfl
theorem mCCode (b : Nat) (w : World) : (method 627 199 (.pointer (some ⟨b, 0, none⟩)) "Code").run Tryz.prog w = .ok (332, .pointer (some ⟨b, 0, none⟩)) w := by kernel_rfl
theorem mCError (b : Nat) (w : World) : (method 627 199 (.pointer (some ⟨b, 0, none⟩)) "Error").run Tryz.prog w = .ok (333, .pointer (some ⟨b, 0, none⟩)) w := by kernel_rfl
theorem mLCode (b : Nat) (w : World) : (method 627 525 (.pointer (some ⟨b, 0, none⟩)) "Code").run Tryz.prog w = .ok (332, .pointer (some ⟨b, 0, none⟩)) w := by kernel_rfl
theorem mLWhere (b : Nat) (w : World) : (method 627 525 (.pointer (some ⟨b, 0, none⟩)) "Where").run Tryz.prog w = .ok (377, .pointer (some ⟨b, 0, none⟩)) w := by kernel_rfl
theorem mLError (b : Nat) (w : World) : (method 627 525 (.pointer (some ⟨b, 0, none⟩)) "Error").run Tryz.prog w = .ok (382, .pointer (some ⟨b, 0, none⟩)) w := by kernel_rfl
theorem mKCode (b : Nat) (w : World) : (method 627 212 (.pointer (some ⟨b, 0, none⟩)) "Code").run Tryz.prog w = .ok (332, .pointer (some ⟨b, 0, none⟩)) w := by kernel_rfl
theorem mKWhere (b : Nat) (w : World) : (method 627 212 (.pointer (some ⟨b, 0, none⟩)) "Where").run Tryz.prog w = .ok (377, .pointer (some ⟨b, 0, none⟩)) w := by kernel_rfl
theorem mKLacks (b : Nat) (w : World) : (method 627 212 (.pointer (some ⟨b, 0, none⟩)) "Lacks").run Tryz.prog w = .ok (376, .pointer (some ⟨b, 0, none⟩)) w := by kernel_rfl
theorem mKError (b : Nat) (w : World) : (method 627 212 (.pointer (some ⟨b, 0, none⟩)) "Error").run Tryz.prog w = .ok (334, .pointer (some ⟨b, 0, none⟩)) w := by kernel_rfl
theorem mHAs (v : Value) (w : World) : (method 627 150 v "As").run Tryz.prog w = .ok (318, v) w := by kernel_rfl
theorem mHUnwrap (v : Value) (w : World) : (method 627 150 v "Unwrap").run Tryz.prog w = .ok (319, v) w := by kernel_rfl

end Go.Proofs.YtnmcmjgfnncdmaaGreatDoor.Er
