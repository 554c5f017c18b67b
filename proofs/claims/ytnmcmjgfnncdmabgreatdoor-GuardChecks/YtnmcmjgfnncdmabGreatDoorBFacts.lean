/-
  Closed facts over the program's tables: what a node of each type asserts to, and which function a method of it is. No condition.
-/
import Derived.Test.YtnmcmjgfnncdmabGreatDoorBKind
import Derived.Stop.Asserts
namespace Go.Proofs.YtnmcmjgfnncdmabGreatDoor.Nd
open Go.RowKit Go.Stop
theorem isLitLiteral (v : Value) (xT : TypeId) (w : World) : (Instr.typeAssert (.iface 202 v) xT 215 true).run Tryz.prog w = .ok (.tuple #[.iface 202 v, .bool true]) w := run_typeAssert_hasB Tryz.underlying215 (by kernel_rfl) v xT w
theorem isLitStrict (v : Value) (xT : TypeId) (w : World) : (Instr.typeAssert (.iface 202 v) xT 218 true).run Tryz.prog w = .ok (.tuple #[.nilIface, .bool false]) w := run_typeAssert_lacksB Tryz.underlying218 (by kernel_rfl) (by kernel_rfl) v xT w
theorem isLitLazy (v : Value) (xT : TypeId) (w : World) : (Instr.typeAssert (.iface 202 v) xT 49 true).run Tryz.prog w = .ok (.tuple #[.nilIface, .bool false]) w := run_typeAssert_lacksB Tryz.underlying49 (by kernel_rfl) (by kernel_rfl) v xT w
theorem isLitBinder (v : Value) (xT : TypeId) (w : World) : (Instr.typeAssert (.iface 202 v) xT 52 true).run Tryz.prog w = .ok (.tuple #[.nilIface, .bool false]) w := run_typeAssert_lacksB Tryz.underlying52 (by kernel_rfl) (by kernel_rfl) v xT w
theorem isLitUser (v : Value) (xT : TypeId) (w : World) : (Instr.typeAssert (.iface 202 v) xT 221 true).run Tryz.prog w = .ok (.tuple #[.nilIface, .bool false]) w := run_typeAssert_lacksB Tryz.underlying221 (by kernel_rfl) (by kernel_rfl) v xT w
theorem isLitCaller (v : Value) (xT : TypeId) (w : World) : (Instr.typeAssert (.iface 202 v) xT 224 true).run Tryz.prog w = .ok (.tuple #[.nilIface, .bool false]) w := run_typeAssert_lacksB Tryz.underlying224 (by kernel_rfl) (by kernel_rfl) v xT w
theorem isLitPure (v : Value) (xT : TypeId) (w : World) : (Instr.typeAssert (.iface 202 v) xT 55 true).run Tryz.prog w = .ok (.tuple #[.iface 202 v, .bool true]) w := run_typeAssert_hasB Tryz.underlying55 (by kernel_rfl) v xT w
theorem isLitTotal (v : Value) (xT : TypeId) (w : World) : (Instr.typeAssert (.iface 202 v) xT 227 true).run Tryz.prog w = .ok (.tuple #[.iface 202 v, .bool true]) w := run_typeAssert_hasB Tryz.underlying227 (by kernel_rfl) v xT w
theorem isLitSorted (v : Value) (xT : TypeId) (w : World) : (Instr.typeAssert (.iface 202 v) xT 230 true).run Tryz.prog w = .ok (.tuple #[.iface 202 v, .bool true]) w := run_typeAssert_hasB Tryz.underlying230 (by kernel_rfl) v xT w
theorem isLitSugar (v : Value) (xT : TypeId) (w : World) : (Instr.typeAssert (.iface 202 v) xT 233 true).run Tryz.prog w = .ok (.tuple #[.nilIface, .bool false]) w := run_typeAssert_lacksB Tryz.underlying233 (by kernel_rfl) (by kernel_rfl) v xT w
theorem isLitFramed (v : Value) (xT : TypeId) (w : World) : (Instr.typeAssert (.iface 202 v) xT 236 true).run Tryz.prog w = .ok (.tuple #[.nilIface, .bool false]) w := run_typeAssert_lacksB Tryz.underlying236 (by kernel_rfl) (by kernel_rfl) v xT w
theorem isLitWrapped (v : Value) (xT : TypeId) (w : World) : (Instr.typeAssert (.iface 202 v) xT 201 true).run Tryz.prog w = .ok (.tuple #[.nilIface, .bool false]) w := run_typeAssert_lacksB Tryz.underlying201 (by kernel_rfl) (by kernel_rfl) v xT w
theorem isLitOrigin (v : Value) (xT : TypeId) (w : World) : (Instr.typeAssert (.iface 202 v) xT 240 true).run Tryz.prog w = .ok (.tuple #[.nilIface, .bool false]) w := run_typeAssert_lacksB Tryz.underlying240 (by kernel_rfl) (by kernel_rfl) v xT w
theorem isLitOpaque (v : Value) (xT : TypeId) (w : World) : (Instr.typeAssert (.iface 202 v) xT 243 true).run Tryz.prog w = .ok (.tuple #[.nilIface, .bool false]) w := run_typeAssert_lacksB Tryz.underlying243 (by kernel_rfl) (by kernel_rfl) v xT w
theorem mLitKind (b : Nat) (w : World) : (method 402 202 (.pointer (some ⟨b, 0, none⟩)) "Kind").run Tryz.prog w = .ok (156, .pointer (some ⟨b, 0, none⟩)) w := by kernel_rfl
theorem mLitNum (b : Nat) (w : World) : (method 402 202 (.pointer (some ⟨b, 0, none⟩)) "Num").run Tryz.prog w = .ok (89, .pointer (some ⟨b, 0, none⟩)) w := by kernel_rfl
theorem mLitText (b : Nat) (w : World) : (method 402 202 (.pointer (some ⟨b, 0, none⟩)) "Text").run Tryz.prog w = .ok (91, .pointer (some ⟨b, 0, none⟩)) w := by kernel_rfl
theorem mLitLen (b : Nat) (w : World) : (method 402 202 (.pointer (some ⟨b, 0, none⟩)) "Len").run Tryz.prog w = .ok (157, .pointer (some ⟨b, 0, none⟩)) w := by kernel_rfl
theorem mLitKid (b : Nat) (w : World) : (method 402 202 (.pointer (some ⟨b, 0, none⟩)) "Kid").run Tryz.prog w = .ok (155, .pointer (some ⟨b, 0, none⟩)) w := by kernel_rfl
theorem isRsLiteral (v : Value) (xT : TypeId) (w : World) : (Instr.typeAssert (.iface 131 v) xT 215 true).run Tryz.prog w = .ok (.tuple #[.nilIface, .bool false]) w := run_typeAssert_lacksB Tryz.underlying215 (by kernel_rfl) (by kernel_rfl) v xT w
theorem isRsStrict (v : Value) (xT : TypeId) (w : World) : (Instr.typeAssert (.iface 131 v) xT 218 true).run Tryz.prog w = .ok (.tuple #[.iface 131 v, .bool true]) w := run_typeAssert_hasB Tryz.underlying218 (by kernel_rfl) v xT w
theorem isRsLazy (v : Value) (xT : TypeId) (w : World) : (Instr.typeAssert (.iface 131 v) xT 49 true).run Tryz.prog w = .ok (.tuple #[.nilIface, .bool false]) w := run_typeAssert_lacksB Tryz.underlying49 (by kernel_rfl) (by kernel_rfl) v xT w
theorem isRsBinder (v : Value) (xT : TypeId) (w : World) : (Instr.typeAssert (.iface 131 v) xT 52 true).run Tryz.prog w = .ok (.tuple #[.nilIface, .bool false]) w := run_typeAssert_lacksB Tryz.underlying52 (by kernel_rfl) (by kernel_rfl) v xT w
theorem isRsUser (v : Value) (xT : TypeId) (w : World) : (Instr.typeAssert (.iface 131 v) xT 221 true).run Tryz.prog w = .ok (.tuple #[.nilIface, .bool false]) w := run_typeAssert_lacksB Tryz.underlying221 (by kernel_rfl) (by kernel_rfl) v xT w
theorem isRsCaller (v : Value) (xT : TypeId) (w : World) : (Instr.typeAssert (.iface 131 v) xT 224 true).run Tryz.prog w = .ok (.tuple #[.nilIface, .bool false]) w := run_typeAssert_lacksB Tryz.underlying224 (by kernel_rfl) (by kernel_rfl) v xT w
theorem isRsPure (v : Value) (xT : TypeId) (w : World) : (Instr.typeAssert (.iface 131 v) xT 55 true).run Tryz.prog w = .ok (.tuple #[.nilIface, .bool false]) w := run_typeAssert_lacksB Tryz.underlying55 (by kernel_rfl) (by kernel_rfl) v xT w
theorem isRsTotal (v : Value) (xT : TypeId) (w : World) : (Instr.typeAssert (.iface 131 v) xT 227 true).run Tryz.prog w = .ok (.tuple #[.nilIface, .bool false]) w := run_typeAssert_lacksB Tryz.underlying227 (by kernel_rfl) (by kernel_rfl) v xT w
theorem isRsSorted (v : Value) (xT : TypeId) (w : World) : (Instr.typeAssert (.iface 131 v) xT 230 true).run Tryz.prog w = .ok (.tuple #[.iface 131 v, .bool true]) w := run_typeAssert_hasB Tryz.underlying230 (by kernel_rfl) v xT w
theorem isRsSugar (v : Value) (xT : TypeId) (w : World) : (Instr.typeAssert (.iface 131 v) xT 233 true).run Tryz.prog w = .ok (.tuple #[.nilIface, .bool false]) w := run_typeAssert_lacksB Tryz.underlying233 (by kernel_rfl) (by kernel_rfl) v xT w
theorem isRsFramed (v : Value) (xT : TypeId) (w : World) : (Instr.typeAssert (.iface 131 v) xT 236 true).run Tryz.prog w = .ok (.tuple #[.nilIface, .bool false]) w := run_typeAssert_lacksB Tryz.underlying236 (by kernel_rfl) (by kernel_rfl) v xT w
theorem isRsWrapped (v : Value) (xT : TypeId) (w : World) : (Instr.typeAssert (.iface 131 v) xT 201 true).run Tryz.prog w = .ok (.tuple #[.nilIface, .bool false]) w := run_typeAssert_lacksB Tryz.underlying201 (by kernel_rfl) (by kernel_rfl) v xT w
theorem isRsOrigin (v : Value) (xT : TypeId) (w : World) : (Instr.typeAssert (.iface 131 v) xT 240 true).run Tryz.prog w = .ok (.tuple #[.nilIface, .bool false]) w := run_typeAssert_lacksB Tryz.underlying240 (by kernel_rfl) (by kernel_rfl) v xT w
theorem isRsOpaque (v : Value) (xT : TypeId) (w : World) : (Instr.typeAssert (.iface 131 v) xT 243 true).run Tryz.prog w = .ok (.tuple #[.nilIface, .bool false]) w := run_typeAssert_lacksB Tryz.underlying243 (by kernel_rfl) (by kernel_rfl) v xT w
theorem mRsKind (b : Nat) (w : World) : (method 402 131 (.pointer (some ⟨b, 0, none⟩)) "Kind").run Tryz.prog w = .ok (156, .pointer (some ⟨b, 0, none⟩)) w := by kernel_rfl
theorem mRsNum (b : Nat) (w : World) : (method 402 131 (.pointer (some ⟨b, 0, none⟩)) "Num").run Tryz.prog w = .ok (89, .pointer (some ⟨b, 0, none⟩)) w := by kernel_rfl
theorem mRsText (b : Nat) (w : World) : (method 402 131 (.pointer (some ⟨b, 0, none⟩)) "Text").run Tryz.prog w = .ok (91, .pointer (some ⟨b, 0, none⟩)) w := by kernel_rfl
theorem mRsLen (b : Nat) (w : World) : (method 402 131 (.pointer (some ⟨b, 0, none⟩)) "Len").run Tryz.prog w = .ok (157, .pointer (some ⟨b, 0, none⟩)) w := by kernel_rfl
theorem mRsKid (b : Nat) (w : World) : (method 402 131 (.pointer (some ⟨b, 0, none⟩)) "Kid").run Tryz.prog w = .ok (155, .pointer (some ⟨b, 0, none⟩)) w := by kernel_rfl
theorem isCtLiteral (v : Value) (xT : TypeId) (w : World) : (Instr.typeAssert (.iface 142 v) xT 215 true).run Tryz.prog w = .ok (.tuple #[.nilIface, .bool false]) w := run_typeAssert_lacksB Tryz.underlying215 (by kernel_rfl) (by kernel_rfl) v xT w
theorem isCtStrict (v : Value) (xT : TypeId) (w : World) : (Instr.typeAssert (.iface 142 v) xT 218 true).run Tryz.prog w = .ok (.tuple #[.nilIface, .bool false]) w := run_typeAssert_lacksB Tryz.underlying218 (by kernel_rfl) (by kernel_rfl) v xT w
theorem isCtLazy (v : Value) (xT : TypeId) (w : World) : (Instr.typeAssert (.iface 142 v) xT 49 true).run Tryz.prog w = .ok (.tuple #[.iface 142 v, .bool true]) w := run_typeAssert_hasB Tryz.underlying49 (by kernel_rfl) v xT w
theorem isCtBinder (v : Value) (xT : TypeId) (w : World) : (Instr.typeAssert (.iface 142 v) xT 52 true).run Tryz.prog w = .ok (.tuple #[.iface 142 v, .bool true]) w := run_typeAssert_hasB Tryz.underlying52 (by kernel_rfl) v xT w
theorem isCtUser (v : Value) (xT : TypeId) (w : World) : (Instr.typeAssert (.iface 142 v) xT 221 true).run Tryz.prog w = .ok (.tuple #[.nilIface, .bool false]) w := run_typeAssert_lacksB Tryz.underlying221 (by kernel_rfl) (by kernel_rfl) v xT w
theorem isCtCaller (v : Value) (xT : TypeId) (w : World) : (Instr.typeAssert (.iface 142 v) xT 224 true).run Tryz.prog w = .ok (.tuple #[.nilIface, .bool false]) w := run_typeAssert_lacksB Tryz.underlying224 (by kernel_rfl) (by kernel_rfl) v xT w
theorem isCtPure (v : Value) (xT : TypeId) (w : World) : (Instr.typeAssert (.iface 142 v) xT 55 true).run Tryz.prog w = .ok (.tuple #[.iface 142 v, .bool true]) w := run_typeAssert_hasB Tryz.underlying55 (by kernel_rfl) v xT w
theorem isCtTotal (v : Value) (xT : TypeId) (w : World) : (Instr.typeAssert (.iface 142 v) xT 227 true).run Tryz.prog w = .ok (.tuple #[.iface 142 v, .bool true]) w := run_typeAssert_hasB Tryz.underlying227 (by kernel_rfl) v xT w
theorem isCtSorted (v : Value) (xT : TypeId) (w : World) : (Instr.typeAssert (.iface 142 v) xT 230 true).run Tryz.prog w = .ok (.tuple #[.iface 142 v, .bool true]) w := run_typeAssert_hasB Tryz.underlying230 (by kernel_rfl) v xT w
theorem isCtSugar (v : Value) (xT : TypeId) (w : World) : (Instr.typeAssert (.iface 142 v) xT 233 true).run Tryz.prog w = .ok (.tuple #[.nilIface, .bool false]) w := run_typeAssert_lacksB Tryz.underlying233 (by kernel_rfl) (by kernel_rfl) v xT w
theorem isCtFramed (v : Value) (xT : TypeId) (w : World) : (Instr.typeAssert (.iface 142 v) xT 236 true).run Tryz.prog w = .ok (.tuple #[.nilIface, .bool false]) w := run_typeAssert_lacksB Tryz.underlying236 (by kernel_rfl) (by kernel_rfl) v xT w
theorem isCtWrapped (v : Value) (xT : TypeId) (w : World) : (Instr.typeAssert (.iface 142 v) xT 201 true).run Tryz.prog w = .ok (.tuple #[.nilIface, .bool false]) w := run_typeAssert_lacksB Tryz.underlying201 (by kernel_rfl) (by kernel_rfl) v xT w
theorem isCtOrigin (v : Value) (xT : TypeId) (w : World) : (Instr.typeAssert (.iface 142 v) xT 240 true).run Tryz.prog w = .ok (.tuple #[.nilIface, .bool false]) w := run_typeAssert_lacksB Tryz.underlying240 (by kernel_rfl) (by kernel_rfl) v xT w
theorem isCtOpaque (v : Value) (xT : TypeId) (w : World) : (Instr.typeAssert (.iface 142 v) xT 243 true).run Tryz.prog w = .ok (.tuple #[.nilIface, .bool false]) w := run_typeAssert_lacksB Tryz.underlying243 (by kernel_rfl) (by kernel_rfl) v xT w
theorem mCtKind (b : Nat) (w : World) : (method 402 142 (.pointer (some ⟨b, 0, none⟩)) "Kind").run Tryz.prog w = .ok (156, .pointer (some ⟨b, 0, none⟩)) w := by kernel_rfl
theorem mCtNum (b : Nat) (w : World) : (method 402 142 (.pointer (some ⟨b, 0, none⟩)) "Num").run Tryz.prog w = .ok (89, .pointer (some ⟨b, 0, none⟩)) w := by kernel_rfl
theorem mCtText (b : Nat) (w : World) : (method 402 142 (.pointer (some ⟨b, 0, none⟩)) "Text").run Tryz.prog w = .ok (91, .pointer (some ⟨b, 0, none⟩)) w := by kernel_rfl
theorem mCtLen (b : Nat) (w : World) : (method 402 142 (.pointer (some ⟨b, 0, none⟩)) "Len").run Tryz.prog w = .ok (157, .pointer (some ⟨b, 0, none⟩)) w := by kernel_rfl
theorem mCtKid (b : Nat) (w : World) : (method 402 142 (.pointer (some ⟨b, 0, none⟩)) "Kid").run Tryz.prog w = .ok (155, .pointer (some ⟨b, 0, none⟩)) w := by kernel_rfl

end Go.Proofs.YtnmcmjgfnncdmabGreatDoor.Nd
