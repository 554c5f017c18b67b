/-
  Closed facts over the program's tables: what a node of each type asserts to, and which function a method of it is. No condition.
-/
import Derived.Test.YtaodkfchmaendaaGreatDoorBKind
import Derived.Stop.Asserts
namespace Go.Proofs.YtaodkfchmaendaaGreatDoor.Nd
open Go.RowKit Go.Stop
theorem isLitLiteral (v : Value) (xT : TypeId) (w : World) : (Instr.typeAssert (.iface 175 v) xT 76 true).run Tryz.prog w = .ok (.tuple #[.iface 175 v, .bool true]) w := run_typeAssert_hasB Tryz.underlying76 (by kernel_rfl) v xT w
theorem isLitStrict (v : Value) (xT : TypeId) (w : World) : (Instr.typeAssert (.iface 175 v) xT 208 true).run Tryz.prog w = .ok (.tuple #[.nilIface, .bool false]) w := run_typeAssert_lacksB Tryz.underlying208 (by kernel_rfl) (by kernel_rfl) v xT w
theorem isLitLazy (v : Value) (xT : TypeId) (w : World) : (Instr.typeAssert (.iface 175 v) xT 211 true).run Tryz.prog w = .ok (.tuple #[.nilIface, .bool false]) w := run_typeAssert_lacksB Tryz.underlying211 (by kernel_rfl) (by kernel_rfl) v xT w
theorem isLitBinder (v : Value) (xT : TypeId) (w : World) : (Instr.typeAssert (.iface 175 v) xT 214 true).run Tryz.prog w = .ok (.tuple #[.nilIface, .bool false]) w := run_typeAssert_lacksB Tryz.underlying214 (by kernel_rfl) (by kernel_rfl) v xT w
theorem isLitUser (v : Value) (xT : TypeId) (w : World) : (Instr.typeAssert (.iface 175 v) xT 217 true).run Tryz.prog w = .ok (.tuple #[.nilIface, .bool false]) w := run_typeAssert_lacksB Tryz.underlying217 (by kernel_rfl) (by kernel_rfl) v xT w
theorem isLitCaller (v : Value) (xT : TypeId) (w : World) : (Instr.typeAssert (.iface 175 v) xT 220 true).run Tryz.prog w = .ok (.tuple #[.nilIface, .bool false]) w := run_typeAssert_lacksB Tryz.underlying220 (by kernel_rfl) (by kernel_rfl) v xT w
theorem isLitPure (v : Value) (xT : TypeId) (w : World) : (Instr.typeAssert (.iface 175 v) xT 223 true).run Tryz.prog w = .ok (.tuple #[.iface 175 v, .bool true]) w := run_typeAssert_hasB Tryz.underlying223 (by kernel_rfl) v xT w
theorem isLitTotal (v : Value) (xT : TypeId) (w : World) : (Instr.typeAssert (.iface 175 v) xT 226 true).run Tryz.prog w = .ok (.tuple #[.iface 175 v, .bool true]) w := run_typeAssert_hasB Tryz.underlying226 (by kernel_rfl) v xT w
theorem isLitSorted (v : Value) (xT : TypeId) (w : World) : (Instr.typeAssert (.iface 175 v) xT 229 true).run Tryz.prog w = .ok (.tuple #[.iface 175 v, .bool true]) w := run_typeAssert_hasB Tryz.underlying229 (by kernel_rfl) v xT w
theorem isLitSugar (v : Value) (xT : TypeId) (w : World) : (Instr.typeAssert (.iface 175 v) xT 232 true).run Tryz.prog w = .ok (.tuple #[.nilIface, .bool false]) w := run_typeAssert_lacksB Tryz.underlying232 (by kernel_rfl) (by kernel_rfl) v xT w
theorem isLitFramed (v : Value) (xT : TypeId) (w : World) : (Instr.typeAssert (.iface 175 v) xT 235 true).run Tryz.prog w = .ok (.tuple #[.nilIface, .bool false]) w := run_typeAssert_lacksB Tryz.underlying235 (by kernel_rfl) (by kernel_rfl) v xT w
theorem isLitWrapped (v : Value) (xT : TypeId) (w : World) : (Instr.typeAssert (.iface 175 v) xT 238 true).run Tryz.prog w = .ok (.tuple #[.nilIface, .bool false]) w := run_typeAssert_lacksB Tryz.underlying238 (by kernel_rfl) (by kernel_rfl) v xT w
theorem isLitOrigin (v : Value) (xT : TypeId) (w : World) : (Instr.typeAssert (.iface 175 v) xT 241 true).run Tryz.prog w = .ok (.tuple #[.nilIface, .bool false]) w := run_typeAssert_lacksB Tryz.underlying241 (by kernel_rfl) (by kernel_rfl) v xT w
theorem isLitOpaque (v : Value) (xT : TypeId) (w : World) : (Instr.typeAssert (.iface 175 v) xT 244 true).run Tryz.prog w = .ok (.tuple #[.nilIface, .bool false]) w := run_typeAssert_lacksB Tryz.underlying244 (by kernel_rfl) (by kernel_rfl) v xT w
theorem mLitKind (b : Nat) (w : World) : (method 450 175 (.pointer (some ⟨b, 0, none⟩)) "Kind").run Tryz.prog w = .ok (183, .pointer (some ⟨b, 0, none⟩)) w := by kernel_rfl
theorem mLitNum (b : Nat) (w : World) : (method 450 175 (.pointer (some ⟨b, 0, none⟩)) "Num").run Tryz.prog w = .ok (86, .pointer (some ⟨b, 0, none⟩)) w := by kernel_rfl
theorem mLitText (b : Nat) (w : World) : (method 450 175 (.pointer (some ⟨b, 0, none⟩)) "Text").run Tryz.prog w = .ok (88, .pointer (some ⟨b, 0, none⟩)) w := by kernel_rfl
theorem mLitLen (b : Nat) (w : World) : (method 450 175 (.pointer (some ⟨b, 0, none⟩)) "Len").run Tryz.prog w = .ok (184, .pointer (some ⟨b, 0, none⟩)) w := by kernel_rfl
theorem mLitKid (b : Nat) (w : World) : (method 450 175 (.pointer (some ⟨b, 0, none⟩)) "Kid").run Tryz.prog w = .ok (182, .pointer (some ⟨b, 0, none⟩)) w := by kernel_rfl
theorem isVarLiteral (v : Value) (xT : TypeId) (w : World) : (Instr.typeAssert (.iface 186 v) xT 76 true).run Tryz.prog w = .ok (.tuple #[.nilIface, .bool false]) w := run_typeAssert_lacksB Tryz.underlying76 (by kernel_rfl) (by kernel_rfl) v xT w
theorem isVarStrict (v : Value) (xT : TypeId) (w : World) : (Instr.typeAssert (.iface 186 v) xT 208 true).run Tryz.prog w = .ok (.tuple #[.nilIface, .bool false]) w := run_typeAssert_lacksB Tryz.underlying208 (by kernel_rfl) (by kernel_rfl) v xT w
theorem isVarLazy (v : Value) (xT : TypeId) (w : World) : (Instr.typeAssert (.iface 186 v) xT 211 true).run Tryz.prog w = .ok (.tuple #[.nilIface, .bool false]) w := run_typeAssert_lacksB Tryz.underlying211 (by kernel_rfl) (by kernel_rfl) v xT w
theorem isVarBinder (v : Value) (xT : TypeId) (w : World) : (Instr.typeAssert (.iface 186 v) xT 214 true).run Tryz.prog w = .ok (.tuple #[.nilIface, .bool false]) w := run_typeAssert_lacksB Tryz.underlying214 (by kernel_rfl) (by kernel_rfl) v xT w
theorem isVarUser (v : Value) (xT : TypeId) (w : World) : (Instr.typeAssert (.iface 186 v) xT 217 true).run Tryz.prog w = .ok (.tuple #[.iface 186 v, .bool true]) w := run_typeAssert_hasB Tryz.underlying217 (by kernel_rfl) v xT w
theorem isVarCaller (v : Value) (xT : TypeId) (w : World) : (Instr.typeAssert (.iface 186 v) xT 220 true).run Tryz.prog w = .ok (.tuple #[.nilIface, .bool false]) w := run_typeAssert_lacksB Tryz.underlying220 (by kernel_rfl) (by kernel_rfl) v xT w
theorem isVarPure (v : Value) (xT : TypeId) (w : World) : (Instr.typeAssert (.iface 186 v) xT 223 true).run Tryz.prog w = .ok (.tuple #[.iface 186 v, .bool true]) w := run_typeAssert_hasB Tryz.underlying223 (by kernel_rfl) v xT w
theorem isVarTotal (v : Value) (xT : TypeId) (w : World) : (Instr.typeAssert (.iface 186 v) xT 226 true).run Tryz.prog w = .ok (.tuple #[.nilIface, .bool false]) w := run_typeAssert_lacksB Tryz.underlying226 (by kernel_rfl) (by kernel_rfl) v xT w
theorem isVarSorted (v : Value) (xT : TypeId) (w : World) : (Instr.typeAssert (.iface 186 v) xT 229 true).run Tryz.prog w = .ok (.tuple #[.nilIface, .bool false]) w := run_typeAssert_lacksB Tryz.underlying229 (by kernel_rfl) (by kernel_rfl) v xT w
theorem isVarSugar (v : Value) (xT : TypeId) (w : World) : (Instr.typeAssert (.iface 186 v) xT 232 true).run Tryz.prog w = .ok (.tuple #[.nilIface, .bool false]) w := run_typeAssert_lacksB Tryz.underlying232 (by kernel_rfl) (by kernel_rfl) v xT w
theorem isVarFramed (v : Value) (xT : TypeId) (w : World) : (Instr.typeAssert (.iface 186 v) xT 235 true).run Tryz.prog w = .ok (.tuple #[.nilIface, .bool false]) w := run_typeAssert_lacksB Tryz.underlying235 (by kernel_rfl) (by kernel_rfl) v xT w
theorem isVarWrapped (v : Value) (xT : TypeId) (w : World) : (Instr.typeAssert (.iface 186 v) xT 238 true).run Tryz.prog w = .ok (.tuple #[.nilIface, .bool false]) w := run_typeAssert_lacksB Tryz.underlying238 (by kernel_rfl) (by kernel_rfl) v xT w
theorem isVarOrigin (v : Value) (xT : TypeId) (w : World) : (Instr.typeAssert (.iface 186 v) xT 241 true).run Tryz.prog w = .ok (.tuple #[.nilIface, .bool false]) w := run_typeAssert_lacksB Tryz.underlying241 (by kernel_rfl) (by kernel_rfl) v xT w
theorem isVarOpaque (v : Value) (xT : TypeId) (w : World) : (Instr.typeAssert (.iface 186 v) xT 244 true).run Tryz.prog w = .ok (.tuple #[.nilIface, .bool false]) w := run_typeAssert_lacksB Tryz.underlying244 (by kernel_rfl) (by kernel_rfl) v xT w
theorem mVarKind (b : Nat) (w : World) : (method 450 186 (.pointer (some ⟨b, 0, none⟩)) "Kind").run Tryz.prog w = .ok (183, .pointer (some ⟨b, 0, none⟩)) w := by kernel_rfl
theorem mVarNum (b : Nat) (w : World) : (method 450 186 (.pointer (some ⟨b, 0, none⟩)) "Num").run Tryz.prog w = .ok (86, .pointer (some ⟨b, 0, none⟩)) w := by kernel_rfl
theorem mVarText (b : Nat) (w : World) : (method 450 186 (.pointer (some ⟨b, 0, none⟩)) "Text").run Tryz.prog w = .ok (88, .pointer (some ⟨b, 0, none⟩)) w := by kernel_rfl
theorem mVarLen (b : Nat) (w : World) : (method 450 186 (.pointer (some ⟨b, 0, none⟩)) "Len").run Tryz.prog w = .ok (184, .pointer (some ⟨b, 0, none⟩)) w := by kernel_rfl
theorem mVarKid (b : Nat) (w : World) : (method 450 186 (.pointer (some ⟨b, 0, none⟩)) "Kid").run Tryz.prog w = .ok (182, .pointer (some ⟨b, 0, none⟩)) w := by kernel_rfl
theorem isFraLiteral (v : Value) (xT : TypeId) (w : World) : (Instr.typeAssert (.iface 189 v) xT 76 true).run Tryz.prog w = .ok (.tuple #[.nilIface, .bool false]) w := run_typeAssert_lacksB Tryz.underlying76 (by kernel_rfl) (by kernel_rfl) v xT w
theorem isFraStrict (v : Value) (xT : TypeId) (w : World) : (Instr.typeAssert (.iface 189 v) xT 208 true).run Tryz.prog w = .ok (.tuple #[.nilIface, .bool false]) w := run_typeAssert_lacksB Tryz.underlying208 (by kernel_rfl) (by kernel_rfl) v xT w
theorem isFraLazy (v : Value) (xT : TypeId) (w : World) : (Instr.typeAssert (.iface 189 v) xT 211 true).run Tryz.prog w = .ok (.tuple #[.nilIface, .bool false]) w := run_typeAssert_lacksB Tryz.underlying211 (by kernel_rfl) (by kernel_rfl) v xT w
theorem isFraBinder (v : Value) (xT : TypeId) (w : World) : (Instr.typeAssert (.iface 189 v) xT 214 true).run Tryz.prog w = .ok (.tuple #[.nilIface, .bool false]) w := run_typeAssert_lacksB Tryz.underlying214 (by kernel_rfl) (by kernel_rfl) v xT w
theorem isFraUser (v : Value) (xT : TypeId) (w : World) : (Instr.typeAssert (.iface 189 v) xT 217 true).run Tryz.prog w = .ok (.tuple #[.nilIface, .bool false]) w := run_typeAssert_lacksB Tryz.underlying217 (by kernel_rfl) (by kernel_rfl) v xT w
theorem isFraCaller (v : Value) (xT : TypeId) (w : World) : (Instr.typeAssert (.iface 189 v) xT 220 true).run Tryz.prog w = .ok (.tuple #[.nilIface, .bool false]) w := run_typeAssert_lacksB Tryz.underlying220 (by kernel_rfl) (by kernel_rfl) v xT w
theorem isFraPure (v : Value) (xT : TypeId) (w : World) : (Instr.typeAssert (.iface 189 v) xT 223 true).run Tryz.prog w = .ok (.tuple #[.iface 189 v, .bool true]) w := run_typeAssert_hasB Tryz.underlying223 (by kernel_rfl) v xT w
theorem isFraTotal (v : Value) (xT : TypeId) (w : World) : (Instr.typeAssert (.iface 189 v) xT 226 true).run Tryz.prog w = .ok (.tuple #[.iface 189 v, .bool true]) w := run_typeAssert_hasB Tryz.underlying226 (by kernel_rfl) v xT w
theorem isFraSorted (v : Value) (xT : TypeId) (w : World) : (Instr.typeAssert (.iface 189 v) xT 229 true).run Tryz.prog w = .ok (.tuple #[.nilIface, .bool false]) w := run_typeAssert_lacksB Tryz.underlying229 (by kernel_rfl) (by kernel_rfl) v xT w
theorem isFraSugar (v : Value) (xT : TypeId) (w : World) : (Instr.typeAssert (.iface 189 v) xT 232 true).run Tryz.prog w = .ok (.tuple #[.nilIface, .bool false]) w := run_typeAssert_lacksB Tryz.underlying232 (by kernel_rfl) (by kernel_rfl) v xT w
theorem isFraFramed (v : Value) (xT : TypeId) (w : World) : (Instr.typeAssert (.iface 189 v) xT 235 true).run Tryz.prog w = .ok (.tuple #[.iface 189 v, .bool true]) w := run_typeAssert_hasB Tryz.underlying235 (by kernel_rfl) v xT w
theorem isFraWrapped (v : Value) (xT : TypeId) (w : World) : (Instr.typeAssert (.iface 189 v) xT 238 true).run Tryz.prog w = .ok (.tuple #[.nilIface, .bool false]) w := run_typeAssert_lacksB Tryz.underlying238 (by kernel_rfl) (by kernel_rfl) v xT w
theorem isFraOrigin (v : Value) (xT : TypeId) (w : World) : (Instr.typeAssert (.iface 189 v) xT 241 true).run Tryz.prog w = .ok (.tuple #[.nilIface, .bool false]) w := run_typeAssert_lacksB Tryz.underlying241 (by kernel_rfl) (by kernel_rfl) v xT w
theorem isFraOpaque (v : Value) (xT : TypeId) (w : World) : (Instr.typeAssert (.iface 189 v) xT 244 true).run Tryz.prog w = .ok (.tuple #[.nilIface, .bool false]) w := run_typeAssert_lacksB Tryz.underlying244 (by kernel_rfl) (by kernel_rfl) v xT w
theorem mFraKind (b : Nat) (w : World) : (method 450 189 (.pointer (some ⟨b, 0, none⟩)) "Kind").run Tryz.prog w = .ok (183, .pointer (some ⟨b, 0, none⟩)) w := by kernel_rfl
theorem mFraNum (b : Nat) (w : World) : (method 450 189 (.pointer (some ⟨b, 0, none⟩)) "Num").run Tryz.prog w = .ok (86, .pointer (some ⟨b, 0, none⟩)) w := by kernel_rfl
theorem mFraText (b : Nat) (w : World) : (method 450 189 (.pointer (some ⟨b, 0, none⟩)) "Text").run Tryz.prog w = .ok (88, .pointer (some ⟨b, 0, none⟩)) w := by kernel_rfl
theorem mFraLen (b : Nat) (w : World) : (method 450 189 (.pointer (some ⟨b, 0, none⟩)) "Len").run Tryz.prog w = .ok (184, .pointer (some ⟨b, 0, none⟩)) w := by kernel_rfl
theorem mFraKid (b : Nat) (w : World) : (method 450 189 (.pointer (some ⟨b, 0, none⟩)) "Kid").run Tryz.prog w = .ok (182, .pointer (some ⟨b, 0, none⟩)) w := by kernel_rfl
theorem mLitWorth (b : Nat) (w : World) : (method 450 175 (.pointer (some ⟨b, 0, none⟩)) "Worth").run Tryz.prog w = .ok (185, .pointer (some ⟨b, 0, none⟩)) w := by kernel_rfl

end Go.Proofs.YtaodkfchmaendaaGreatDoor.Nd
