/-
  Closed facts over the program's tables: what a node or an error asserts to, and which function a method of it is. No condition.
-/
import Derived.Test.YthablchefckclaaNFault
namespace Go.Proofs.Ythablchefckclaa
open Go.RowKit Go.Stop
theorem isLitLiteral (v : Value) (xT : TypeId) (w : World) : (Instr.typeAssert (.iface 168 v) xT 57 true).run Try.prog w = .ok (.tuple #[.iface 168 v, .bool true]) w := run_typeAssert_hasB Try.underlying57 (by kernel_rfl) v xT w
theorem isLitStrict (v : Value) (xT : TypeId) (w : World) : (Instr.typeAssert (.iface 168 v) xT 60 true).run Try.prog w = .ok (.tuple #[.nilIface, .bool false]) w := run_typeAssert_lacksB Try.underlying60 (by kernel_rfl) (by kernel_rfl) v xT w
theorem isLitWrapped (v : Value) (xT : TypeId) (w : World) : (Instr.typeAssert (.iface 168 v) xT 149 true).run Try.prog w = .ok (.tuple #[.nilIface, .bool false]) w := run_typeAssert_lacksB Try.underlying149 (by kernel_rfl) (by kernel_rfl) v xT w
theorem isLitOrigin (v : Value) (xT : TypeId) (w : World) : (Instr.typeAssert (.iface 168 v) xT 147 true).run Try.prog w = .ok (.tuple #[.nilIface, .bool false]) w := run_typeAssert_lacksB Try.underlying147 (by kernel_rfl) (by kernel_rfl) v xT w
theorem isLitFramed (v : Value) (xT : TypeId) (w : World) : (Instr.typeAssert (.iface 168 v) xT 35 true).run Try.prog w = .ok (.tuple #[.nilIface, .bool false]) w := run_typeAssert_lacksB Try.underlying35 (by kernel_rfl) (by kernel_rfl) v xT w
theorem isOrgLiteral (v : Value) (xT : TypeId) (w : World) : (Instr.typeAssert (.iface 99 v) xT 57 true).run Try.prog w = .ok (.tuple #[.nilIface, .bool false]) w := run_typeAssert_lacksB Try.underlying57 (by kernel_rfl) (by kernel_rfl) v xT w
theorem isOrgStrict (v : Value) (xT : TypeId) (w : World) : (Instr.typeAssert (.iface 99 v) xT 60 true).run Try.prog w = .ok (.tuple #[.nilIface, .bool false]) w := run_typeAssert_lacksB Try.underlying60 (by kernel_rfl) (by kernel_rfl) v xT w
theorem isOrgWrapped (v : Value) (xT : TypeId) (w : World) : (Instr.typeAssert (.iface 99 v) xT 149 true).run Try.prog w = .ok (.tuple #[.iface 99 v, .bool true]) w := run_typeAssert_hasB Try.underlying149 (by kernel_rfl) v xT w
theorem isOrgOrigin (v : Value) (xT : TypeId) (w : World) : (Instr.typeAssert (.iface 99 v) xT 147 true).run Try.prog w = .ok (.tuple #[.iface 99 v, .bool true]) w := run_typeAssert_hasB Try.underlying147 (by kernel_rfl) v xT w
theorem isOrgFramed (v : Value) (xT : TypeId) (w : World) : (Instr.typeAssert (.iface 99 v) xT 35 true).run Try.prog w = .ok (.tuple #[.nilIface, .bool false]) w := run_typeAssert_lacksB Try.underlying35 (by kernel_rfl) (by kernel_rfl) v xT w
theorem isCodCoded (v : Value) (xT : TypeId) (w : World) : (Instr.typeAssert (.iface 119 v) xT 127 true).run Try.prog w = .ok (.tuple #[.iface 119 v, .bool true]) w := run_typeAssert_hasB Try.underlying127 (by kernel_rfl) v xT w
theorem isCodLocated (v : Value) (xT : TypeId) (w : World) : (Instr.typeAssert (.iface 119 v) xT 130 true).run Try.prog w = .ok (.tuple #[.nilIface, .bool false]) w := run_typeAssert_lacksB Try.underlying130 (by kernel_rfl) (by kernel_rfl) v xT w
theorem isCodRaised (v : Value) (xT : TypeId) (w : World) : (Instr.typeAssert (.iface 119 v) xT 133 true).run Try.prog w = .ok (.tuple #[.nilIface, .bool false]) w := run_typeAssert_lacksB Try.underlying133 (by kernel_rfl) (by kernel_rfl) v xT w
theorem isCodLacking (v : Value) (xT : TypeId) (w : World) : (Instr.typeAssert (.iface 119 v) xT 63 true).run Try.prog w = .ok (.tuple #[.nilIface, .bool false]) w := run_typeAssert_lacksB Try.underlying63 (by kernel_rfl) (by kernel_rfl) v xT w
theorem isLacCoded (v : Value) (xT : TypeId) (w : World) : (Instr.typeAssert (.iface 140 v) xT 127 true).run Try.prog w = .ok (.tuple #[.iface 140 v, .bool true]) w := run_typeAssert_hasB Try.underlying127 (by kernel_rfl) v xT w
theorem isLacLocated (v : Value) (xT : TypeId) (w : World) : (Instr.typeAssert (.iface 140 v) xT 130 true).run Try.prog w = .ok (.tuple #[.iface 140 v, .bool true]) w := run_typeAssert_hasB Try.underlying130 (by kernel_rfl) v xT w
theorem isLacRaised (v : Value) (xT : TypeId) (w : World) : (Instr.typeAssert (.iface 140 v) xT 133 true).run Try.prog w = .ok (.tuple #[.nilIface, .bool false]) w := run_typeAssert_lacksB Try.underlying133 (by kernel_rfl) (by kernel_rfl) v xT w
theorem isLacLacking (v : Value) (xT : TypeId) (w : World) : (Instr.typeAssert (.iface 140 v) xT 63 true).run Try.prog w = .ok (.tuple #[.iface 140 v, .bool true]) w := run_typeAssert_hasB Try.underlying63 (by kernel_rfl) v xT w
theorem isFraLiteral (v : Value) (xT : TypeId) (w : World) : (Instr.typeAssert (.iface 182 v) xT 57 true).run Try.prog w = .ok (.tuple #[.nilIface, .bool false]) w := run_typeAssert_lacksB Try.underlying57 (by kernel_rfl) (by kernel_rfl) v xT w
theorem isFraStrict (v : Value) (xT : TypeId) (w : World) : (Instr.typeAssert (.iface 182 v) xT 60 true).run Try.prog w = .ok (.tuple #[.nilIface, .bool false]) w := run_typeAssert_lacksB Try.underlying60 (by kernel_rfl) (by kernel_rfl) v xT w
theorem isFraWrapped (v : Value) (xT : TypeId) (w : World) : (Instr.typeAssert (.iface 182 v) xT 149 true).run Try.prog w = .ok (.tuple #[.nilIface, .bool false]) w := run_typeAssert_lacksB Try.underlying149 (by kernel_rfl) (by kernel_rfl) v xT w
theorem isFraOrigin (v : Value) (xT : TypeId) (w : World) : (Instr.typeAssert (.iface 182 v) xT 147 true).run Try.prog w = .ok (.tuple #[.nilIface, .bool false]) w := run_typeAssert_lacksB Try.underlying147 (by kernel_rfl) (by kernel_rfl) v xT w
theorem isFraFramed (v : Value) (xT : TypeId) (w : World) : (Instr.typeAssert (.iface 182 v) xT 35 true).run Try.prog w = .ok (.tuple #[.iface 182 v, .bool true]) w := run_typeAssert_hasB Try.underlying35 (by kernel_rfl) v xT w
theorem isVarLiteral (v : Value) (xT : TypeId) (w : World) : (Instr.typeAssert (.iface 179 v) xT 57 true).run Try.prog w = .ok (.tuple #[.nilIface, .bool false]) w := run_typeAssert_lacksB Try.underlying57 (by kernel_rfl) (by kernel_rfl) v xT w
theorem isVarStrict (v : Value) (xT : TypeId) (w : World) : (Instr.typeAssert (.iface 179 v) xT 60 true).run Try.prog w = .ok (.tuple #[.nilIface, .bool false]) w := run_typeAssert_lacksB Try.underlying60 (by kernel_rfl) (by kernel_rfl) v xT w
theorem isVarWrapped (v : Value) (xT : TypeId) (w : World) : (Instr.typeAssert (.iface 179 v) xT 149 true).run Try.prog w = .ok (.tuple #[.nilIface, .bool false]) w := run_typeAssert_lacksB Try.underlying149 (by kernel_rfl) (by kernel_rfl) v xT w
theorem isVarOrigin (v : Value) (xT : TypeId) (w : World) : (Instr.typeAssert (.iface 179 v) xT 147 true).run Try.prog w = .ok (.tuple #[.nilIface, .bool false]) w := run_typeAssert_lacksB Try.underlying147 (by kernel_rfl) (by kernel_rfl) v xT w
theorem isVarFramed (v : Value) (xT : TypeId) (w : World) : (Instr.typeAssert (.iface 179 v) xT 35 true).run Try.prog w = .ok (.tuple #[.nilIface, .bool false]) w := run_typeAssert_lacksB Try.underlying35 (by kernel_rfl) (by kernel_rfl) v xT w
theorem mCodCode (b : Nat) (w : World) : (method 314 119 (.pointer (some ⟨b, 0, none⟩)) "Code").run Try.prog w = .ok (95, .pointer (some ⟨b, 0, none⟩)) w := by kernel_rfl
theorem mLacCode (b : Nat) (w : World) : (method 314 140 (.pointer (some ⟨b, 0, none⟩)) "Code").run Try.prog w = .ok (95, .pointer (some ⟨b, 0, none⟩)) w := by kernel_rfl
theorem mLacWhere (b : Nat) (w : World) : (method 314 140 (.pointer (some ⟨b, 0, none⟩)) "Where").run Try.prog w = .ok (99, .pointer (some ⟨b, 0, none⟩)) w := by kernel_rfl
theorem mLacLacks (b : Nat) (w : World) : (method 314 140 (.pointer (some ⟨b, 0, none⟩)) "Lacks").run Try.prog w = .ok (98, .pointer (some ⟨b, 0, none⟩)) w := by kernel_rfl
theorem mLitWorth (b : Nat) (w : World) : (method 314 168 (.pointer (some ⟨b, 0, none⟩)) "Worth").run Try.prog w = .ok (106, .pointer (some ⟨b, 0, none⟩)) w := by kernel_rfl
theorem mLitKind (b : Nat) (w : World) : (method 314 168 (.pointer (some ⟨b, 0, none⟩)) "Kind").run Try.prog w = .ok (101, .pointer (some ⟨b, 0, none⟩)) w := by kernel_rfl
theorem mLitNum (b : Nat) (w : World) : (method 314 168 (.pointer (some ⟨b, 0, none⟩)) "Num").run Try.prog w = .ok (63, .pointer (some ⟨b, 0, none⟩)) w := by kernel_rfl
theorem mLitText (b : Nat) (w : World) : (method 314 168 (.pointer (some ⟨b, 0, none⟩)) "Text").run Try.prog w = .ok (65, .pointer (some ⟨b, 0, none⟩)) w := by kernel_rfl
theorem mLitLen (b : Nat) (w : World) : (method 314 168 (.pointer (some ⟨b, 0, none⟩)) "Len").run Try.prog w = .ok (102, .pointer (some ⟨b, 0, none⟩)) w := by kernel_rfl
theorem mLitKid (b : Nat) (w : World) : (method 314 168 (.pointer (some ⟨b, 0, none⟩)) "Kid").run Try.prog w = .ok (100, .pointer (some ⟨b, 0, none⟩)) w := by kernel_rfl
theorem mFraFrames (b : Nat) (w : World) : (method 314 182 (.pointer (some ⟨b, 0, none⟩)) "Frames").run Try.prog w = .ok (111, .pointer (some ⟨b, 0, none⟩)) w := by kernel_rfl
theorem mFraKind (b : Nat) (w : World) : (method 314 182 (.pointer (some ⟨b, 0, none⟩)) "Kind").run Try.prog w = .ok (101, .pointer (some ⟨b, 0, none⟩)) w := by kernel_rfl
theorem mFraNum (b : Nat) (w : World) : (method 314 182 (.pointer (some ⟨b, 0, none⟩)) "Num").run Try.prog w = .ok (63, .pointer (some ⟨b, 0, none⟩)) w := by kernel_rfl
theorem mFraText (b : Nat) (w : World) : (method 314 182 (.pointer (some ⟨b, 0, none⟩)) "Text").run Try.prog w = .ok (65, .pointer (some ⟨b, 0, none⟩)) w := by kernel_rfl
theorem mFraLen (b : Nat) (w : World) : (method 314 182 (.pointer (some ⟨b, 0, none⟩)) "Len").run Try.prog w = .ok (102, .pointer (some ⟨b, 0, none⟩)) w := by kernel_rfl
theorem mFraKid (b : Nat) (w : World) : (method 314 182 (.pointer (some ⟨b, 0, none⟩)) "Kid").run Try.prog w = .ok (100, .pointer (some ⟨b, 0, none⟩)) w := by kernel_rfl
theorem mOrgFrom (b : Nat) (w : World) : (method 314 99 (.pointer (some ⟨b, 0, none⟩)) "From").run Try.prog w = .ok (93, .pointer (some ⟨b, 0, none⟩)) w := by kernel_rfl

end Go.Proofs.Ythablchefckclaa
