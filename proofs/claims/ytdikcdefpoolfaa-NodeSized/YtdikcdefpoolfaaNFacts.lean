/-
  Closed facts over the program's tables: what a node or an error asserts to, and which function a method of it is. No condition.
-/
import Derived.Test.YtdikcdefpoolfaaNFault
namespace Go.Proofs.Ytdikcdefpoolfaa
open Go.RowKit Go.Stop
theorem isLitLiteral (v : Value) (xT : TypeId) (w : World) : (Instr.typeAssert (.iface 165 v) xT 46 true).run Try.prog w = .ok (.tuple #[.iface 165 v, .bool true]) w := run_typeAssert_hasB Try.underlying46 (by kernel_rfl) v xT w
theorem isLitStrict (v : Value) (xT : TypeId) (w : World) : (Instr.typeAssert (.iface 165 v) xT 49 true).run Try.prog w = .ok (.tuple #[.nilIface, .bool false]) w := run_typeAssert_lacksB Try.underlying49 (by kernel_rfl) (by kernel_rfl) v xT w
theorem isLitWrapped (v : Value) (xT : TypeId) (w : World) : (Instr.typeAssert (.iface 165 v) xT 146 true).run Try.prog w = .ok (.tuple #[.nilIface, .bool false]) w := run_typeAssert_lacksB Try.underlying146 (by kernel_rfl) (by kernel_rfl) v xT w
theorem isLitOrigin (v : Value) (xT : TypeId) (w : World) : (Instr.typeAssert (.iface 165 v) xT 144 true).run Try.prog w = .ok (.tuple #[.nilIface, .bool false]) w := run_typeAssert_lacksB Try.underlying144 (by kernel_rfl) (by kernel_rfl) v xT w
theorem isLitFramed (v : Value) (xT : TypeId) (w : World) : (Instr.typeAssert (.iface 165 v) xT 35 true).run Try.prog w = .ok (.tuple #[.nilIface, .bool false]) w := run_typeAssert_lacksB Try.underlying35 (by kernel_rfl) (by kernel_rfl) v xT w
theorem isOrgLiteral (v : Value) (xT : TypeId) (w : World) : (Instr.typeAssert (.iface 97 v) xT 46 true).run Try.prog w = .ok (.tuple #[.nilIface, .bool false]) w := run_typeAssert_lacksB Try.underlying46 (by kernel_rfl) (by kernel_rfl) v xT w
theorem isOrgStrict (v : Value) (xT : TypeId) (w : World) : (Instr.typeAssert (.iface 97 v) xT 49 true).run Try.prog w = .ok (.tuple #[.nilIface, .bool false]) w := run_typeAssert_lacksB Try.underlying49 (by kernel_rfl) (by kernel_rfl) v xT w
theorem isOrgWrapped (v : Value) (xT : TypeId) (w : World) : (Instr.typeAssert (.iface 97 v) xT 146 true).run Try.prog w = .ok (.tuple #[.iface 97 v, .bool true]) w := run_typeAssert_hasB Try.underlying146 (by kernel_rfl) v xT w
theorem isOrgOrigin (v : Value) (xT : TypeId) (w : World) : (Instr.typeAssert (.iface 97 v) xT 144 true).run Try.prog w = .ok (.tuple #[.iface 97 v, .bool true]) w := run_typeAssert_hasB Try.underlying144 (by kernel_rfl) v xT w
theorem isOrgFramed (v : Value) (xT : TypeId) (w : World) : (Instr.typeAssert (.iface 97 v) xT 35 true).run Try.prog w = .ok (.tuple #[.nilIface, .bool false]) w := run_typeAssert_lacksB Try.underlying35 (by kernel_rfl) (by kernel_rfl) v xT w
theorem isCodCoded (v : Value) (xT : TypeId) (w : World) : (Instr.typeAssert (.iface 116 v) xT 124 true).run Try.prog w = .ok (.tuple #[.iface 116 v, .bool true]) w := run_typeAssert_hasB Try.underlying124 (by kernel_rfl) v xT w
theorem isCodLocated (v : Value) (xT : TypeId) (w : World) : (Instr.typeAssert (.iface 116 v) xT 127 true).run Try.prog w = .ok (.tuple #[.nilIface, .bool false]) w := run_typeAssert_lacksB Try.underlying127 (by kernel_rfl) (by kernel_rfl) v xT w
theorem isCodRaised (v : Value) (xT : TypeId) (w : World) : (Instr.typeAssert (.iface 116 v) xT 130 true).run Try.prog w = .ok (.tuple #[.nilIface, .bool false]) w := run_typeAssert_lacksB Try.underlying130 (by kernel_rfl) (by kernel_rfl) v xT w
theorem isCodLacking (v : Value) (xT : TypeId) (w : World) : (Instr.typeAssert (.iface 116 v) xT 57 true).run Try.prog w = .ok (.tuple #[.nilIface, .bool false]) w := run_typeAssert_lacksB Try.underlying57 (by kernel_rfl) (by kernel_rfl) v xT w
theorem isLacCoded (v : Value) (xT : TypeId) (w : World) : (Instr.typeAssert (.iface 137 v) xT 124 true).run Try.prog w = .ok (.tuple #[.iface 137 v, .bool true]) w := run_typeAssert_hasB Try.underlying124 (by kernel_rfl) v xT w
theorem isLacLocated (v : Value) (xT : TypeId) (w : World) : (Instr.typeAssert (.iface 137 v) xT 127 true).run Try.prog w = .ok (.tuple #[.iface 137 v, .bool true]) w := run_typeAssert_hasB Try.underlying127 (by kernel_rfl) v xT w
theorem isLacRaised (v : Value) (xT : TypeId) (w : World) : (Instr.typeAssert (.iface 137 v) xT 130 true).run Try.prog w = .ok (.tuple #[.nilIface, .bool false]) w := run_typeAssert_lacksB Try.underlying130 (by kernel_rfl) (by kernel_rfl) v xT w
theorem isLacLacking (v : Value) (xT : TypeId) (w : World) : (Instr.typeAssert (.iface 137 v) xT 57 true).run Try.prog w = .ok (.tuple #[.iface 137 v, .bool true]) w := run_typeAssert_hasB Try.underlying57 (by kernel_rfl) v xT w
theorem isFraLiteral (v : Value) (xT : TypeId) (w : World) : (Instr.typeAssert (.iface 179 v) xT 46 true).run Try.prog w = .ok (.tuple #[.nilIface, .bool false]) w := run_typeAssert_lacksB Try.underlying46 (by kernel_rfl) (by kernel_rfl) v xT w
theorem isFraStrict (v : Value) (xT : TypeId) (w : World) : (Instr.typeAssert (.iface 179 v) xT 49 true).run Try.prog w = .ok (.tuple #[.nilIface, .bool false]) w := run_typeAssert_lacksB Try.underlying49 (by kernel_rfl) (by kernel_rfl) v xT w
theorem isFraWrapped (v : Value) (xT : TypeId) (w : World) : (Instr.typeAssert (.iface 179 v) xT 146 true).run Try.prog w = .ok (.tuple #[.nilIface, .bool false]) w := run_typeAssert_lacksB Try.underlying146 (by kernel_rfl) (by kernel_rfl) v xT w
theorem isFraOrigin (v : Value) (xT : TypeId) (w : World) : (Instr.typeAssert (.iface 179 v) xT 144 true).run Try.prog w = .ok (.tuple #[.nilIface, .bool false]) w := run_typeAssert_lacksB Try.underlying144 (by kernel_rfl) (by kernel_rfl) v xT w
theorem isFraFramed (v : Value) (xT : TypeId) (w : World) : (Instr.typeAssert (.iface 179 v) xT 35 true).run Try.prog w = .ok (.tuple #[.iface 179 v, .bool true]) w := run_typeAssert_hasB Try.underlying35 (by kernel_rfl) v xT w
theorem isVarLiteral (v : Value) (xT : TypeId) (w : World) : (Instr.typeAssert (.iface 176 v) xT 46 true).run Try.prog w = .ok (.tuple #[.nilIface, .bool false]) w := run_typeAssert_lacksB Try.underlying46 (by kernel_rfl) (by kernel_rfl) v xT w
theorem isVarStrict (v : Value) (xT : TypeId) (w : World) : (Instr.typeAssert (.iface 176 v) xT 49 true).run Try.prog w = .ok (.tuple #[.nilIface, .bool false]) w := run_typeAssert_lacksB Try.underlying49 (by kernel_rfl) (by kernel_rfl) v xT w
theorem isVarWrapped (v : Value) (xT : TypeId) (w : World) : (Instr.typeAssert (.iface 176 v) xT 146 true).run Try.prog w = .ok (.tuple #[.nilIface, .bool false]) w := run_typeAssert_lacksB Try.underlying146 (by kernel_rfl) (by kernel_rfl) v xT w
theorem isVarOrigin (v : Value) (xT : TypeId) (w : World) : (Instr.typeAssert (.iface 176 v) xT 144 true).run Try.prog w = .ok (.tuple #[.nilIface, .bool false]) w := run_typeAssert_lacksB Try.underlying144 (by kernel_rfl) (by kernel_rfl) v xT w
theorem isVarFramed (v : Value) (xT : TypeId) (w : World) : (Instr.typeAssert (.iface 176 v) xT 35 true).run Try.prog w = .ok (.tuple #[.nilIface, .bool false]) w := run_typeAssert_lacksB Try.underlying35 (by kernel_rfl) (by kernel_rfl) v xT w
theorem mCodCode (b : Nat) (w : World) : (method 312 116 (.pointer (some ⟨b, 0, none⟩)) "Code").run Try.prog w = .ok (91, .pointer (some ⟨b, 0, none⟩)) w := by kernel_rfl
theorem mLacCode (b : Nat) (w : World) : (method 312 137 (.pointer (some ⟨b, 0, none⟩)) "Code").run Try.prog w = .ok (91, .pointer (some ⟨b, 0, none⟩)) w := by kernel_rfl
theorem mLacWhere (b : Nat) (w : World) : (method 312 137 (.pointer (some ⟨b, 0, none⟩)) "Where").run Try.prog w = .ok (95, .pointer (some ⟨b, 0, none⟩)) w := by kernel_rfl
theorem mLacLacks (b : Nat) (w : World) : (method 312 137 (.pointer (some ⟨b, 0, none⟩)) "Lacks").run Try.prog w = .ok (94, .pointer (some ⟨b, 0, none⟩)) w := by kernel_rfl
theorem mLitWorth (b : Nat) (w : World) : (method 312 165 (.pointer (some ⟨b, 0, none⟩)) "Worth").run Try.prog w = .ok (102, .pointer (some ⟨b, 0, none⟩)) w := by kernel_rfl
theorem mLitKind (b : Nat) (w : World) : (method 312 165 (.pointer (some ⟨b, 0, none⟩)) "Kind").run Try.prog w = .ok (97, .pointer (some ⟨b, 0, none⟩)) w := by kernel_rfl
theorem mLitNum (b : Nat) (w : World) : (method 312 165 (.pointer (some ⟨b, 0, none⟩)) "Num").run Try.prog w = .ok (59, .pointer (some ⟨b, 0, none⟩)) w := by kernel_rfl
theorem mLitText (b : Nat) (w : World) : (method 312 165 (.pointer (some ⟨b, 0, none⟩)) "Text").run Try.prog w = .ok (61, .pointer (some ⟨b, 0, none⟩)) w := by kernel_rfl
theorem mLitLen (b : Nat) (w : World) : (method 312 165 (.pointer (some ⟨b, 0, none⟩)) "Len").run Try.prog w = .ok (98, .pointer (some ⟨b, 0, none⟩)) w := by kernel_rfl
theorem mLitKid (b : Nat) (w : World) : (method 312 165 (.pointer (some ⟨b, 0, none⟩)) "Kid").run Try.prog w = .ok (96, .pointer (some ⟨b, 0, none⟩)) w := by kernel_rfl
theorem mFraFrames (b : Nat) (w : World) : (method 312 179 (.pointer (some ⟨b, 0, none⟩)) "Frames").run Try.prog w = .ok (107, .pointer (some ⟨b, 0, none⟩)) w := by kernel_rfl
theorem mFraKind (b : Nat) (w : World) : (method 312 179 (.pointer (some ⟨b, 0, none⟩)) "Kind").run Try.prog w = .ok (97, .pointer (some ⟨b, 0, none⟩)) w := by kernel_rfl
theorem mFraNum (b : Nat) (w : World) : (method 312 179 (.pointer (some ⟨b, 0, none⟩)) "Num").run Try.prog w = .ok (59, .pointer (some ⟨b, 0, none⟩)) w := by kernel_rfl
theorem mFraText (b : Nat) (w : World) : (method 312 179 (.pointer (some ⟨b, 0, none⟩)) "Text").run Try.prog w = .ok (61, .pointer (some ⟨b, 0, none⟩)) w := by kernel_rfl
theorem mFraLen (b : Nat) (w : World) : (method 312 179 (.pointer (some ⟨b, 0, none⟩)) "Len").run Try.prog w = .ok (98, .pointer (some ⟨b, 0, none⟩)) w := by kernel_rfl
theorem mFraKid (b : Nat) (w : World) : (method 312 179 (.pointer (some ⟨b, 0, none⟩)) "Kid").run Try.prog w = .ok (96, .pointer (some ⟨b, 0, none⟩)) w := by kernel_rfl
theorem mOrgFrom (b : Nat) (w : World) : (method 312 97 (.pointer (some ⟨b, 0, none⟩)) "From").run Try.prog w = .ok (89, .pointer (some ⟨b, 0, none⟩)) w := by kernel_rfl

end Go.Proofs.Ytdikcdefpoolfaa
