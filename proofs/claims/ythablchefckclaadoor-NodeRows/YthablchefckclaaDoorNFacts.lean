/-
  Closed facts over the program's tables: what a node or an error asserts to, and which function a method of it is. No condition.
-/
import Derived.Test.YthablchefckclaaDoorNFault
namespace Go.Proofs.YthablchefckclaaDoor
open Go.RowKit Go.Stop
theorem isLitLiteral (v : Value) (xT : TypeId) (w : World) : (Instr.typeAssert (.iface 75 v) xT 45 true).run Tryd.prog w = .ok (.tuple #[.iface 75 v, .bool true]) w := run_typeAssert_hasB Tryd.underlying45 (by kernel_rfl) v xT w
theorem isLitStrict (v : Value) (xT : TypeId) (w : World) : (Instr.typeAssert (.iface 75 v) xT 51 true).run Tryd.prog w = .ok (.tuple #[.nilIface, .bool false]) w := run_typeAssert_lacksB Tryd.underlying51 (by kernel_rfl) (by kernel_rfl) v xT w
theorem isLitWrapped (v : Value) (xT : TypeId) (w : World) : (Instr.typeAssert (.iface 75 v) xT 148 true).run Tryd.prog w = .ok (.tuple #[.nilIface, .bool false]) w := run_typeAssert_lacksB Tryd.underlying148 (by kernel_rfl) (by kernel_rfl) v xT w
theorem isLitOrigin (v : Value) (xT : TypeId) (w : World) : (Instr.typeAssert (.iface 75 v) xT 146 true).run Tryd.prog w = .ok (.tuple #[.nilIface, .bool false]) w := run_typeAssert_lacksB Tryd.underlying146 (by kernel_rfl) (by kernel_rfl) v xT w
theorem isLitFramed (v : Value) (xT : TypeId) (w : World) : (Instr.typeAssert (.iface 75 v) xT 176 true).run Tryd.prog w = .ok (.tuple #[.nilIface, .bool false]) w := run_typeAssert_lacksB Tryd.underlying176 (by kernel_rfl) (by kernel_rfl) v xT w
theorem isOrgLiteral (v : Value) (xT : TypeId) (w : World) : (Instr.typeAssert (.iface 106 v) xT 45 true).run Tryd.prog w = .ok (.tuple #[.nilIface, .bool false]) w := run_typeAssert_lacksB Tryd.underlying45 (by kernel_rfl) (by kernel_rfl) v xT w
theorem isOrgStrict (v : Value) (xT : TypeId) (w : World) : (Instr.typeAssert (.iface 106 v) xT 51 true).run Tryd.prog w = .ok (.tuple #[.nilIface, .bool false]) w := run_typeAssert_lacksB Tryd.underlying51 (by kernel_rfl) (by kernel_rfl) v xT w
theorem isOrgWrapped (v : Value) (xT : TypeId) (w : World) : (Instr.typeAssert (.iface 106 v) xT 148 true).run Tryd.prog w = .ok (.tuple #[.iface 106 v, .bool true]) w := run_typeAssert_hasB Tryd.underlying148 (by kernel_rfl) v xT w
theorem isOrgOrigin (v : Value) (xT : TypeId) (w : World) : (Instr.typeAssert (.iface 106 v) xT 146 true).run Tryd.prog w = .ok (.tuple #[.iface 106 v, .bool true]) w := run_typeAssert_hasB Tryd.underlying146 (by kernel_rfl) v xT w
theorem isOrgFramed (v : Value) (xT : TypeId) (w : World) : (Instr.typeAssert (.iface 106 v) xT 176 true).run Tryd.prog w = .ok (.tuple #[.nilIface, .bool false]) w := run_typeAssert_lacksB Tryd.underlying176 (by kernel_rfl) (by kernel_rfl) v xT w
theorem isCodCoded (v : Value) (xT : TypeId) (w : World) : (Instr.typeAssert (.iface 131 v) xT 151 true).run Tryd.prog w = .ok (.tuple #[.iface 131 v, .bool true]) w := run_typeAssert_hasB Tryd.underlying151 (by kernel_rfl) v xT w
theorem isCodLocated (v : Value) (xT : TypeId) (w : World) : (Instr.typeAssert (.iface 131 v) xT 154 true).run Tryd.prog w = .ok (.tuple #[.nilIface, .bool false]) w := run_typeAssert_lacksB Tryd.underlying154 (by kernel_rfl) (by kernel_rfl) v xT w
theorem isCodRaised (v : Value) (xT : TypeId) (w : World) : (Instr.typeAssert (.iface 131 v) xT 157 true).run Tryd.prog w = .ok (.tuple #[.nilIface, .bool false]) w := run_typeAssert_lacksB Tryd.underlying157 (by kernel_rfl) (by kernel_rfl) v xT w
theorem isCodLacking (v : Value) (xT : TypeId) (w : World) : (Instr.typeAssert (.iface 131 v) xT 59 true).run Tryd.prog w = .ok (.tuple #[.nilIface, .bool false]) w := run_typeAssert_lacksB Tryd.underlying59 (by kernel_rfl) (by kernel_rfl) v xT w
theorem isLacCoded (v : Value) (xT : TypeId) (w : World) : (Instr.typeAssert (.iface 139 v) xT 151 true).run Tryd.prog w = .ok (.tuple #[.iface 139 v, .bool true]) w := run_typeAssert_hasB Tryd.underlying151 (by kernel_rfl) v xT w
theorem isLacLocated (v : Value) (xT : TypeId) (w : World) : (Instr.typeAssert (.iface 139 v) xT 154 true).run Tryd.prog w = .ok (.tuple #[.iface 139 v, .bool true]) w := run_typeAssert_hasB Tryd.underlying154 (by kernel_rfl) v xT w
theorem isLacRaised (v : Value) (xT : TypeId) (w : World) : (Instr.typeAssert (.iface 139 v) xT 157 true).run Tryd.prog w = .ok (.tuple #[.nilIface, .bool false]) w := run_typeAssert_lacksB Tryd.underlying157 (by kernel_rfl) (by kernel_rfl) v xT w
theorem isLacLacking (v : Value) (xT : TypeId) (w : World) : (Instr.typeAssert (.iface 139 v) xT 59 true).run Tryd.prog w = .ok (.tuple #[.iface 139 v, .bool true]) w := run_typeAssert_hasB Tryd.underlying59 (by kernel_rfl) v xT w
theorem isFraLiteral (v : Value) (xT : TypeId) (w : World) : (Instr.typeAssert (.iface 91 v) xT 45 true).run Tryd.prog w = .ok (.tuple #[.nilIface, .bool false]) w := run_typeAssert_lacksB Tryd.underlying45 (by kernel_rfl) (by kernel_rfl) v xT w
theorem isFraStrict (v : Value) (xT : TypeId) (w : World) : (Instr.typeAssert (.iface 91 v) xT 51 true).run Tryd.prog w = .ok (.tuple #[.nilIface, .bool false]) w := run_typeAssert_lacksB Tryd.underlying51 (by kernel_rfl) (by kernel_rfl) v xT w
theorem isFraWrapped (v : Value) (xT : TypeId) (w : World) : (Instr.typeAssert (.iface 91 v) xT 148 true).run Tryd.prog w = .ok (.tuple #[.nilIface, .bool false]) w := run_typeAssert_lacksB Tryd.underlying148 (by kernel_rfl) (by kernel_rfl) v xT w
theorem isFraOrigin (v : Value) (xT : TypeId) (w : World) : (Instr.typeAssert (.iface 91 v) xT 146 true).run Tryd.prog w = .ok (.tuple #[.nilIface, .bool false]) w := run_typeAssert_lacksB Tryd.underlying146 (by kernel_rfl) (by kernel_rfl) v xT w
theorem isFraFramed (v : Value) (xT : TypeId) (w : World) : (Instr.typeAssert (.iface 91 v) xT 176 true).run Tryd.prog w = .ok (.tuple #[.iface 91 v, .bool true]) w := run_typeAssert_hasB Tryd.underlying176 (by kernel_rfl) v xT w
theorem isVarLiteral (v : Value) (xT : TypeId) (w : World) : (Instr.typeAssert (.iface 88 v) xT 45 true).run Tryd.prog w = .ok (.tuple #[.nilIface, .bool false]) w := run_typeAssert_lacksB Tryd.underlying45 (by kernel_rfl) (by kernel_rfl) v xT w
theorem isVarStrict (v : Value) (xT : TypeId) (w : World) : (Instr.typeAssert (.iface 88 v) xT 51 true).run Tryd.prog w = .ok (.tuple #[.nilIface, .bool false]) w := run_typeAssert_lacksB Tryd.underlying51 (by kernel_rfl) (by kernel_rfl) v xT w
theorem isVarWrapped (v : Value) (xT : TypeId) (w : World) : (Instr.typeAssert (.iface 88 v) xT 148 true).run Tryd.prog w = .ok (.tuple #[.nilIface, .bool false]) w := run_typeAssert_lacksB Tryd.underlying148 (by kernel_rfl) (by kernel_rfl) v xT w
theorem isVarOrigin (v : Value) (xT : TypeId) (w : World) : (Instr.typeAssert (.iface 88 v) xT 146 true).run Tryd.prog w = .ok (.tuple #[.nilIface, .bool false]) w := run_typeAssert_lacksB Tryd.underlying146 (by kernel_rfl) (by kernel_rfl) v xT w
theorem isVarFramed (v : Value) (xT : TypeId) (w : World) : (Instr.typeAssert (.iface 88 v) xT 176 true).run Tryd.prog w = .ok (.tuple #[.nilIface, .bool false]) w := run_typeAssert_lacksB Tryd.underlying176 (by kernel_rfl) (by kernel_rfl) v xT w
theorem mCodCode (b : Nat) (w : World) : (method 328 131 (.pointer (some ⟨b, 0, none⟩)) "Code").run Tryd.prog w = .ok (107, .pointer (some ⟨b, 0, none⟩)) w := by kernel_rfl
theorem mLacCode (b : Nat) (w : World) : (method 328 139 (.pointer (some ⟨b, 0, none⟩)) "Code").run Tryd.prog w = .ok (107, .pointer (some ⟨b, 0, none⟩)) w := by kernel_rfl
theorem mLacWhere (b : Nat) (w : World) : (method 328 139 (.pointer (some ⟨b, 0, none⟩)) "Where").run Tryd.prog w = .ok (111, .pointer (some ⟨b, 0, none⟩)) w := by kernel_rfl
theorem mLacLacks (b : Nat) (w : World) : (method 328 139 (.pointer (some ⟨b, 0, none⟩)) "Lacks").run Tryd.prog w = .ok (110, .pointer (some ⟨b, 0, none⟩)) w := by kernel_rfl
theorem mLitWorth (b : Nat) (w : World) : (method 328 75 (.pointer (some ⟨b, 0, none⟩)) "Worth").run Tryd.prog w = .ok (99, .pointer (some ⟨b, 0, none⟩)) w := by kernel_rfl
theorem mLitKind (b : Nat) (w : World) : (method 328 75 (.pointer (some ⟨b, 0, none⟩)) "Kind").run Tryd.prog w = .ok (97, .pointer (some ⟨b, 0, none⟩)) w := by kernel_rfl
theorem mLitNum (b : Nat) (w : World) : (method 328 75 (.pointer (some ⟨b, 0, none⟩)) "Num").run Tryd.prog w = .ok (22, .pointer (some ⟨b, 0, none⟩)) w := by kernel_rfl
theorem mLitText (b : Nat) (w : World) : (method 328 75 (.pointer (some ⟨b, 0, none⟩)) "Text").run Tryd.prog w = .ok (24, .pointer (some ⟨b, 0, none⟩)) w := by kernel_rfl
theorem mLitLen (b : Nat) (w : World) : (method 328 75 (.pointer (some ⟨b, 0, none⟩)) "Len").run Tryd.prog w = .ok (98, .pointer (some ⟨b, 0, none⟩)) w := by kernel_rfl
theorem mLitKid (b : Nat) (w : World) : (method 328 75 (.pointer (some ⟨b, 0, none⟩)) "Kid").run Tryd.prog w = .ok (96, .pointer (some ⟨b, 0, none⟩)) w := by kernel_rfl
theorem mFraFrames (b : Nat) (w : World) : (method 328 91 (.pointer (some ⟨b, 0, none⟩)) "Frames").run Tryd.prog w = .ok (104, .pointer (some ⟨b, 0, none⟩)) w := by kernel_rfl
theorem mFraKind (b : Nat) (w : World) : (method 328 91 (.pointer (some ⟨b, 0, none⟩)) "Kind").run Tryd.prog w = .ok (97, .pointer (some ⟨b, 0, none⟩)) w := by kernel_rfl
theorem mFraNum (b : Nat) (w : World) : (method 328 91 (.pointer (some ⟨b, 0, none⟩)) "Num").run Tryd.prog w = .ok (22, .pointer (some ⟨b, 0, none⟩)) w := by kernel_rfl
theorem mFraText (b : Nat) (w : World) : (method 328 91 (.pointer (some ⟨b, 0, none⟩)) "Text").run Tryd.prog w = .ok (24, .pointer (some ⟨b, 0, none⟩)) w := by kernel_rfl
theorem mFraLen (b : Nat) (w : World) : (method 328 91 (.pointer (some ⟨b, 0, none⟩)) "Len").run Tryd.prog w = .ok (98, .pointer (some ⟨b, 0, none⟩)) w := by kernel_rfl
theorem mFraKid (b : Nat) (w : World) : (method 328 91 (.pointer (some ⟨b, 0, none⟩)) "Kid").run Tryd.prog w = .ok (96, .pointer (some ⟨b, 0, none⟩)) w := by kernel_rfl
theorem mOrgFrom (b : Nat) (w : World) : (method 328 106 (.pointer (some ⟨b, 0, none⟩)) "From").run Tryd.prog w = .ok (105, .pointer (some ⟨b, 0, none⟩)) w := by kernel_rfl

end Go.Proofs.YthablchefckclaaDoor
