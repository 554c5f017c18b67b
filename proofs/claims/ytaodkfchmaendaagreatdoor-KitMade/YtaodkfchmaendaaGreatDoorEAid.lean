/-
  Closed facts over the program's tables, for package fault and the statements of its stage: what a value of each kind of error asserts to, and which function a method of it is. No condition.
-/
import Derived.Test.YtaodkfchmaendaaGreatDoorRows
import Derived.WalkKit
import Derived.Stop.Asserts
import Derived.WalkSpells
import Derived.WalkLawsBesides
import Derived.Defers
import Derived.Recover
import Derived.RegionTactic
import Derived.BigRegion
import Derived.LaidEql
import Derived.RangeFuncRecord
import Derived.Outline
namespace Go.Proofs.YtaodkfchmaendaaGreatDoor.Er
open Go.RowKit Go.Extern.Stop Go.Stop Go.Extern
theorem isNCoded (v : Value) (xT : TypeId) (w : World) : (Instr.typeAssert (.iface 319 v) xT 124 true).run Tryz.prog w = .ok (.tuple #[.nilIface, .bool false]) w := run_typeAssert_lacksB Tryz.underlying124 (by kernel_rfl) (by kernel_rfl) v xT w
theorem isNLocated (v : Value) (xT : TypeId) (w : World) : (Instr.typeAssert (.iface 319 v) xT 158 true).run Tryz.prog w = .ok (.tuple #[.nilIface, .bool false]) w := run_typeAssert_lacksB Tryz.underlying158 (by kernel_rfl) (by kernel_rfl) v xT w
theorem isNRaised (v : Value) (xT : TypeId) (w : World) : (Instr.typeAssert (.iface 319 v) xT 162 true).run Tryz.prog w = .ok (.tuple #[.nilIface, .bool false]) w := run_typeAssert_lacksB Tryz.underlying162 (by kernel_rfl) (by kernel_rfl) v xT w
theorem isNLacking (v : Value) (xT : TypeId) (w : World) : (Instr.typeAssert (.iface 319 v) xT 165 true).run Tryz.prog w = .ok (.tuple #[.nilIface, .bool false]) w := run_typeAssert_lacksB Tryz.underlying165 (by kernel_rfl) (by kernel_rfl) v xT w
theorem isNUnw (v : Value) (xT : TypeId) (w : World) : (Instr.typeAssert (.iface 319 v) xT 264 true).run Tryz.prog w = .ok (.tuple #[.iface 319 v, .bool true]) w := run_typeAssert_hasB Tryz.underlying264 (by kernel_rfl) v xT w
theorem isNAsI (v : Value) (xT : TypeId) (w : World) : (Instr.typeAssert (.iface 319 v) xT 261 true).run Tryz.prog w = .ok (.tuple #[.nilIface, .bool false]) w := run_typeAssert_lacksB Tryz.underlying261 (by kernel_rfl) (by kernel_rfl) v xT w
theorem isNUnws (v : Value) (xT : TypeId) (w : World) : (Instr.typeAssert (.iface 319 v) xT 266 true).run Tryz.prog w = .ok (.tuple #[.nilIface, .bool false]) w := run_typeAssert_lacksB Tryz.underlying266 (by kernel_rfl) (by kernel_rfl) v xT w
theorem isNNoted (v : Value) (xT : TypeId) (w : World) : (Instr.typeAssert (.iface 319 v) xT 319 true).run Tryz.prog w = .ok (.tuple #[v, .bool true]) w := by kernel_rfl
theorem isCCoded (v : Value) (xT : TypeId) (w : World) : (Instr.typeAssert (.iface 137 v) xT 124 true).run Tryz.prog w = .ok (.tuple #[.iface 137 v, .bool true]) w := run_typeAssert_hasB Tryz.underlying124 (by kernel_rfl) v xT w
theorem isCLocated (v : Value) (xT : TypeId) (w : World) : (Instr.typeAssert (.iface 137 v) xT 158 true).run Tryz.prog w = .ok (.tuple #[.nilIface, .bool false]) w := run_typeAssert_lacksB Tryz.underlying158 (by kernel_rfl) (by kernel_rfl) v xT w
theorem isCRaised (v : Value) (xT : TypeId) (w : World) : (Instr.typeAssert (.iface 137 v) xT 162 true).run Tryz.prog w = .ok (.tuple #[.nilIface, .bool false]) w := run_typeAssert_lacksB Tryz.underlying162 (by kernel_rfl) (by kernel_rfl) v xT w
theorem isCLacking (v : Value) (xT : TypeId) (w : World) : (Instr.typeAssert (.iface 137 v) xT 165 true).run Tryz.prog w = .ok (.tuple #[.nilIface, .bool false]) w := run_typeAssert_lacksB Tryz.underlying165 (by kernel_rfl) (by kernel_rfl) v xT w
theorem isCUnw (v : Value) (xT : TypeId) (w : World) : (Instr.typeAssert (.iface 137 v) xT 264 true).run Tryz.prog w = .ok (.tuple #[.nilIface, .bool false]) w := run_typeAssert_lacksB Tryz.underlying264 (by kernel_rfl) (by kernel_rfl) v xT w
theorem isCAsI (v : Value) (xT : TypeId) (w : World) : (Instr.typeAssert (.iface 137 v) xT 261 true).run Tryz.prog w = .ok (.tuple #[.nilIface, .bool false]) w := run_typeAssert_lacksB Tryz.underlying261 (by kernel_rfl) (by kernel_rfl) v xT w
theorem isCUnws (v : Value) (xT : TypeId) (w : World) : (Instr.typeAssert (.iface 137 v) xT 266 true).run Tryz.prog w = .ok (.tuple #[.nilIface, .bool false]) w := run_typeAssert_lacksB Tryz.underlying266 (by kernel_rfl) (by kernel_rfl) v xT w
theorem isCNoted (v : Value) (xT : TypeId) (w : World) : (Instr.typeAssert (.iface 137 v) xT 319 true).run Tryz.prog w = .ok (.tuple #[.pointer none, .bool false]) w := by kernel_rfl
theorem isLCoded (v : Value) (xT : TypeId) (w : World) : (Instr.typeAssert (.iface 327 v) xT 124 true).run Tryz.prog w = .ok (.tuple #[.iface 327 v, .bool true]) w := run_typeAssert_hasB Tryz.underlying124 (by kernel_rfl) v xT w
theorem isLLocated (v : Value) (xT : TypeId) (w : World) : (Instr.typeAssert (.iface 327 v) xT 158 true).run Tryz.prog w = .ok (.tuple #[.iface 327 v, .bool true]) w := run_typeAssert_hasB Tryz.underlying158 (by kernel_rfl) v xT w
theorem isLRaised (v : Value) (xT : TypeId) (w : World) : (Instr.typeAssert (.iface 327 v) xT 162 true).run Tryz.prog w = .ok (.tuple #[.nilIface, .bool false]) w := run_typeAssert_lacksB Tryz.underlying162 (by kernel_rfl) (by kernel_rfl) v xT w
theorem isLLacking (v : Value) (xT : TypeId) (w : World) : (Instr.typeAssert (.iface 327 v) xT 165 true).run Tryz.prog w = .ok (.tuple #[.nilIface, .bool false]) w := run_typeAssert_lacksB Tryz.underlying165 (by kernel_rfl) (by kernel_rfl) v xT w
theorem isLUnw (v : Value) (xT : TypeId) (w : World) : (Instr.typeAssert (.iface 327 v) xT 264 true).run Tryz.prog w = .ok (.tuple #[.nilIface, .bool false]) w := run_typeAssert_lacksB Tryz.underlying264 (by kernel_rfl) (by kernel_rfl) v xT w
theorem isLAsI (v : Value) (xT : TypeId) (w : World) : (Instr.typeAssert (.iface 327 v) xT 261 true).run Tryz.prog w = .ok (.tuple #[.nilIface, .bool false]) w := run_typeAssert_lacksB Tryz.underlying261 (by kernel_rfl) (by kernel_rfl) v xT w
theorem isLUnws (v : Value) (xT : TypeId) (w : World) : (Instr.typeAssert (.iface 327 v) xT 266 true).run Tryz.prog w = .ok (.tuple #[.nilIface, .bool false]) w := run_typeAssert_lacksB Tryz.underlying266 (by kernel_rfl) (by kernel_rfl) v xT w
theorem isLNoted (v : Value) (xT : TypeId) (w : World) : (Instr.typeAssert (.iface 327 v) xT 319 true).run Tryz.prog w = .ok (.tuple #[.pointer none, .bool false]) w := by kernel_rfl
theorem isKCoded (v : Value) (xT : TypeId) (w : World) : (Instr.typeAssert (.iface 150 v) xT 124 true).run Tryz.prog w = .ok (.tuple #[.iface 150 v, .bool true]) w := run_typeAssert_hasB Tryz.underlying124 (by kernel_rfl) v xT w
theorem isKLocated (v : Value) (xT : TypeId) (w : World) : (Instr.typeAssert (.iface 150 v) xT 158 true).run Tryz.prog w = .ok (.tuple #[.iface 150 v, .bool true]) w := run_typeAssert_hasB Tryz.underlying158 (by kernel_rfl) v xT w
theorem isKRaised (v : Value) (xT : TypeId) (w : World) : (Instr.typeAssert (.iface 150 v) xT 162 true).run Tryz.prog w = .ok (.tuple #[.nilIface, .bool false]) w := run_typeAssert_lacksB Tryz.underlying162 (by kernel_rfl) (by kernel_rfl) v xT w
theorem isKLacking (v : Value) (xT : TypeId) (w : World) : (Instr.typeAssert (.iface 150 v) xT 165 true).run Tryz.prog w = .ok (.tuple #[.iface 150 v, .bool true]) w := run_typeAssert_hasB Tryz.underlying165 (by kernel_rfl) v xT w
theorem isKUnw (v : Value) (xT : TypeId) (w : World) : (Instr.typeAssert (.iface 150 v) xT 264 true).run Tryz.prog w = .ok (.tuple #[.nilIface, .bool false]) w := run_typeAssert_lacksB Tryz.underlying264 (by kernel_rfl) (by kernel_rfl) v xT w
theorem isKAsI (v : Value) (xT : TypeId) (w : World) : (Instr.typeAssert (.iface 150 v) xT 261 true).run Tryz.prog w = .ok (.tuple #[.nilIface, .bool false]) w := run_typeAssert_lacksB Tryz.underlying261 (by kernel_rfl) (by kernel_rfl) v xT w
theorem isKUnws (v : Value) (xT : TypeId) (w : World) : (Instr.typeAssert (.iface 150 v) xT 266 true).run Tryz.prog w = .ok (.tuple #[.nilIface, .bool false]) w := run_typeAssert_lacksB Tryz.underlying266 (by kernel_rfl) (by kernel_rfl) v xT w
theorem isKNoted (v : Value) (xT : TypeId) (w : World) : (Instr.typeAssert (.iface 150 v) xT 319 true).run Tryz.prog w = .ok (.tuple #[.pointer none, .bool false]) w := by kernel_rfl
theorem isHCoded (v : Value) (xT : TypeId) (w : World) : (Instr.typeAssert (.iface 127 v) xT 124 true).run Tryz.prog w = .ok (.tuple #[.nilIface, .bool false]) w := run_typeAssert_lacksB Tryz.underlying124 (by kernel_rfl) (by kernel_rfl) v xT w
theorem isHLocated (v : Value) (xT : TypeId) (w : World) : (Instr.typeAssert (.iface 127 v) xT 158 true).run Tryz.prog w = .ok (.tuple #[.nilIface, .bool false]) w := run_typeAssert_lacksB Tryz.underlying158 (by kernel_rfl) (by kernel_rfl) v xT w
theorem isHRaised (v : Value) (xT : TypeId) (w : World) : (Instr.typeAssert (.iface 127 v) xT 162 true).run Tryz.prog w = .ok (.tuple #[.nilIface, .bool false]) w := run_typeAssert_lacksB Tryz.underlying162 (by kernel_rfl) (by kernel_rfl) v xT w
theorem isHLacking (v : Value) (xT : TypeId) (w : World) : (Instr.typeAssert (.iface 127 v) xT 165 true).run Tryz.prog w = .ok (.tuple #[.nilIface, .bool false]) w := run_typeAssert_lacksB Tryz.underlying165 (by kernel_rfl) (by kernel_rfl) v xT w
theorem isHUnw (v : Value) (xT : TypeId) (w : World) : (Instr.typeAssert (.iface 127 v) xT 264 true).run Tryz.prog w = .ok (.tuple #[.iface 127 v, .bool true]) w := run_typeAssert_hasB Tryz.underlying264 (by kernel_rfl) v xT w
theorem isHAsI (v : Value) (xT : TypeId) (w : World) : (Instr.typeAssert (.iface 127 v) xT 261 true).run Tryz.prog w = .ok (.tuple #[.iface 127 v, .bool true]) w := run_typeAssert_hasB Tryz.underlying261 (by kernel_rfl) v xT w
theorem isHUnws (v : Value) (xT : TypeId) (w : World) : (Instr.typeAssert (.iface 127 v) xT 266 true).run Tryz.prog w = .ok (.tuple #[.nilIface, .bool false]) w := run_typeAssert_lacksB Tryz.underlying266 (by kernel_rfl) (by kernel_rfl) v xT w
theorem isHNoted (v : Value) (xT : TypeId) (w : World) : (Instr.typeAssert (.iface 127 v) xT 319 true).run Tryz.prog w = .ok (.tuple #[.pointer none, .bool false]) w := by kernel_rfl
theorem toCodedCoded (v : Value) (xT : TypeId) (w : World) : (Instr.typeAssert (.iface 129 v) xT 129 true).run Tryz.prog w = .ok (.tuple #[v, .bool true]) w := by kernel_rfl
theorem toCodedLocated (v : Value) (xT : TypeId) (w : World) : (Instr.typeAssert (.iface 129 v) xT 311 true).run Tryz.prog w = .ok (.tuple #[.pointer none, .bool false]) w := by kernel_rfl
theorem toCodedRaised (v : Value) (xT : TypeId) (w : World) : (Instr.typeAssert (.iface 129 v) xT 313 true).run Tryz.prog w = .ok (.tuple #[.pointer none, .bool false]) w := by kernel_rfl
theorem toCodedLacking (v : Value) (xT : TypeId) (w : World) : (Instr.typeAssert (.iface 129 v) xT 315 true).run Tryz.prog w = .ok (.tuple #[.pointer none, .bool false]) w := by kernel_rfl
theorem toCodedNoted (v : Value) (xT : TypeId) (w : World) : (Instr.typeAssert (.iface 129 v) xT 317 true).run Tryz.prog w = .ok (.tuple #[.pointer none, .bool false]) w := by kernel_rfl
theorem toLocatedCoded (v : Value) (xT : TypeId) (w : World) : (Instr.typeAssert (.iface 311 v) xT 129 true).run Tryz.prog w = .ok (.tuple #[.pointer none, .bool false]) w := by kernel_rfl
theorem toLocatedLocated (v : Value) (xT : TypeId) (w : World) : (Instr.typeAssert (.iface 311 v) xT 311 true).run Tryz.prog w = .ok (.tuple #[v, .bool true]) w := by kernel_rfl
theorem toLocatedRaised (v : Value) (xT : TypeId) (w : World) : (Instr.typeAssert (.iface 311 v) xT 313 true).run Tryz.prog w = .ok (.tuple #[.pointer none, .bool false]) w := by kernel_rfl
theorem toLocatedLacking (v : Value) (xT : TypeId) (w : World) : (Instr.typeAssert (.iface 311 v) xT 315 true).run Tryz.prog w = .ok (.tuple #[.pointer none, .bool false]) w := by kernel_rfl
theorem toLocatedNoted (v : Value) (xT : TypeId) (w : World) : (Instr.typeAssert (.iface 311 v) xT 317 true).run Tryz.prog w = .ok (.tuple #[.pointer none, .bool false]) w := by kernel_rfl
theorem toRaisedCoded (v : Value) (xT : TypeId) (w : World) : (Instr.typeAssert (.iface 313 v) xT 129 true).run Tryz.prog w = .ok (.tuple #[.pointer none, .bool false]) w := by kernel_rfl
theorem toRaisedLocated (v : Value) (xT : TypeId) (w : World) : (Instr.typeAssert (.iface 313 v) xT 311 true).run Tryz.prog w = .ok (.tuple #[.pointer none, .bool false]) w := by kernel_rfl
theorem toRaisedRaised (v : Value) (xT : TypeId) (w : World) : (Instr.typeAssert (.iface 313 v) xT 313 true).run Tryz.prog w = .ok (.tuple #[v, .bool true]) w := by kernel_rfl
theorem toRaisedLacking (v : Value) (xT : TypeId) (w : World) : (Instr.typeAssert (.iface 313 v) xT 315 true).run Tryz.prog w = .ok (.tuple #[.pointer none, .bool false]) w := by kernel_rfl
theorem toRaisedNoted (v : Value) (xT : TypeId) (w : World) : (Instr.typeAssert (.iface 313 v) xT 317 true).run Tryz.prog w = .ok (.tuple #[.pointer none, .bool false]) w := by kernel_rfl
theorem toLackingCoded (v : Value) (xT : TypeId) (w : World) : (Instr.typeAssert (.iface 315 v) xT 129 true).run Tryz.prog w = .ok (.tuple #[.pointer none, .bool false]) w := by kernel_rfl
theorem toLackingLocated (v : Value) (xT : TypeId) (w : World) : (Instr.typeAssert (.iface 315 v) xT 311 true).run Tryz.prog w = .ok (.tuple #[.pointer none, .bool false]) w := by kernel_rfl
theorem toLackingRaised (v : Value) (xT : TypeId) (w : World) : (Instr.typeAssert (.iface 315 v) xT 313 true).run Tryz.prog w = .ok (.tuple #[.pointer none, .bool false]) w := by kernel_rfl
theorem toLackingLacking (v : Value) (xT : TypeId) (w : World) : (Instr.typeAssert (.iface 315 v) xT 315 true).run Tryz.prog w = .ok (.tuple #[v, .bool true]) w := by kernel_rfl
theorem toLackingNoted (v : Value) (xT : TypeId) (w : World) : (Instr.typeAssert (.iface 315 v) xT 317 true).run Tryz.prog w = .ok (.tuple #[.pointer none, .bool false]) w := by kernel_rfl
theorem toNotedCoded (v : Value) (xT : TypeId) (w : World) : (Instr.typeAssert (.iface 317 v) xT 129 true).run Tryz.prog w = .ok (.tuple #[.pointer none, .bool false]) w := by kernel_rfl
theorem toNotedLocated (v : Value) (xT : TypeId) (w : World) : (Instr.typeAssert (.iface 317 v) xT 311 true).run Tryz.prog w = .ok (.tuple #[.pointer none, .bool false]) w := by kernel_rfl
theorem toNotedRaised (v : Value) (xT : TypeId) (w : World) : (Instr.typeAssert (.iface 317 v) xT 313 true).run Tryz.prog w = .ok (.tuple #[.pointer none, .bool false]) w := by kernel_rfl
theorem toNotedLacking (v : Value) (xT : TypeId) (w : World) : (Instr.typeAssert (.iface 317 v) xT 315 true).run Tryz.prog w = .ok (.tuple #[.pointer none, .bool false]) w := by kernel_rfl
theorem toNotedNoted (v : Value) (xT : TypeId) (w : World) : (Instr.typeAssert (.iface 317 v) xT 317 true).run Tryz.prog w = .ok (.tuple #[v, .bool true]) w := by kernel_rfl
theorem mNUnwrap (b : Nat) (w : World) : (method 450 319 (.pointer (some ⟨b, 0, none⟩)) "Unwrap").run Tryz.prog w = .ok (207, .pointer (some ⟨b, 0, none⟩)) w := by kernel_rfl
theorem mNError (b : Nat) (w : World) : (method 450 319 (.pointer (some ⟨b, 0, none⟩)) "Error").run Tryz.prog w = .ok (206, .pointer (some ⟨b, 0, none⟩)) w := by kernel_rfl
theorem mCCode (b : Nat) (w : World) : (method 450 137 (.pointer (some ⟨b, 0, none⟩)) "Code").run Tryz.prog w = .ok (176, .pointer (some ⟨b, 0, none⟩)) w := by kernel_rfl
theorem mCError (b : Nat) (w : World) : (method 450 137 (.pointer (some ⟨b, 0, none⟩)) "Error").run Tryz.prog w = .ok (177, .pointer (some ⟨b, 0, none⟩)) w := by kernel_rfl
theorem mLCode (b : Nat) (w : World) : (method 450 327 (.pointer (some ⟨b, 0, none⟩)) "Code").run Tryz.prog w = .ok (176, .pointer (some ⟨b, 0, none⟩)) w := by kernel_rfl
theorem mLWhere (b : Nat) (w : World) : (method 450 327 (.pointer (some ⟨b, 0, none⟩)) "Where").run Tryz.prog w = .ok (180, .pointer (some ⟨b, 0, none⟩)) w := by kernel_rfl
theorem mLError (b : Nat) (w : World) : (method 450 327 (.pointer (some ⟨b, 0, none⟩)) "Error").run Tryz.prog w = .ok (208, .pointer (some ⟨b, 0, none⟩)) w := by kernel_rfl
theorem mKCode (b : Nat) (w : World) : (method 450 150 (.pointer (some ⟨b, 0, none⟩)) "Code").run Tryz.prog w = .ok (176, .pointer (some ⟨b, 0, none⟩)) w := by kernel_rfl
theorem mKWhere (b : Nat) (w : World) : (method 450 150 (.pointer (some ⟨b, 0, none⟩)) "Where").run Tryz.prog w = .ok (180, .pointer (some ⟨b, 0, none⟩)) w := by kernel_rfl
theorem mKLacks (b : Nat) (w : World) : (method 450 150 (.pointer (some ⟨b, 0, none⟩)) "Lacks").run Tryz.prog w = .ok (179, .pointer (some ⟨b, 0, none⟩)) w := by kernel_rfl
theorem mKError (b : Nat) (w : World) : (method 450 150 (.pointer (some ⟨b, 0, none⟩)) "Error").run Tryz.prog w = .ok (178, .pointer (some ⟨b, 0, none⟩)) w := by kernel_rfl
theorem mHAs (v : Value) (w : World) : (method 450 127 v "As").run Tryz.prog w = .ok (164, v) w := by kernel_rfl
theorem mHUnwrap (v : Value) (w : World) : (method 450 127 v "Unwrap").run Tryz.prog w = .ok (165, v) w := by kernel_rfl

end Go.Proofs.YtaodkfchmaendaaGreatDoor.Er
/-
  Small laws on memory: what lay there has not turned; the newest blocks.
-/
namespace Go.Proofs.YtaodkfchmaendaaGreatDoor.Er
open Go.RowKit

/-- Nothing that lay there has turned. -/
abbrev Ext (w w' : World) : Prop := Below w.heap.size w w'
theorem Ext.refl (w : World) : Ext w w := Below.refl _ w
theorem Ext.trans {a b c : World} (h : Ext a b) (k : Ext b c) : Ext a c := Below.trans h (k.mono h.size)
theorem Ext.alloc (w : World) (o : Obj) : Ext w (w.alloc o) := (Below.refl _ w).alloc (Nat.le_refl _) o
theorem lt_of_block {w : World} {b : Nat} {o : Obj} (h : w.heap[b]? = some o) : b < w.heap.size := (Array.getElem?_eq_some_iff.1 h).1
theorem Ext.block {w w' : World} (h : Ext w w') {b : Nat} {o : Obj} (hb : w.heap[b]? = some o) : w'.heap[b]? = some o := (Below.block h b (lt_of_block hb)).trans hb
theorem cell_of {w : World} {b i : Nat} {cs : Array Value} {t : TypeId} {m : Nat × Nat} {v : Value} (h : w.heap[b]? = some (.cells cs t m)) (hv : cs[i]? = some v) : w.cell? ⟨b, i, none⟩ = some v := by
  simp [World.cell?, h, hv]
theorem frozen_of {w : World} {b i : Nat} {cs : Array Value} {t : TypeId} (h : w.heap[b]? = some (.cells cs t)) : w.frozen? ⟨b, i, none⟩ = false := by
  simp [World.frozen?, h]

theorem blk0 (w : World) (o : Obj) : (w.alloc o).heap[w.heap.size]? = some o := World.alloc_heap_new w o
theorem blkS (w : World) (o : Obj) : (w.alloc o).heap.size = w.heap.size + 1 := World.size_alloc w o
theorem blkOld {w : World} {b : Nat} {o : Obj} (o' : Obj) (h : w.heap[b]? = some o) : (w.alloc o').heap[b]? = some o := (Ext.alloc w o').block h
theorem blk1 (w : World) (o o1 : Obj) : ((w.alloc o).alloc o1).heap[w.heap.size + 1]? = some o1 := by rw [← blkS w o]; exact blk0 _ _
theorem blk2 (w : World) (o o1 o2 : Obj) : (((w.alloc o).alloc o1).alloc o2).heap[w.heap.size + 1 + 1]? = some o2 := by rw [← blkS w o, ← blkS _ o1]; exact blk0 _ _
theorem blk3 (w : World) (o o1 o2 o3 : Obj) : ((((w.alloc o).alloc o1).alloc o2).alloc o3).heap[w.heap.size + 1 + 1 + 1]? = some o3 := by rw [← blkS w o, ← blkS _ o1, ← blkS _ o2]; exact blk0 _ _
theorem Ext.setCell {w w' : World} (h : Ext w w') {p : Addr} (hp : w.heap.size ≤ p.block) (v : Value) : Ext w (w'.setCell p v) := Below.setCell h hp v

theorem Ext.set0 {w w' : World} (h : Ext w w') (i : Nat) (v : Value) : Ext w (w'.setCell ⟨w.heap.size, i, none⟩ v) := Below.setCell h (Nat.le_refl _) v
theorem Ext.set1 {w w' : World} (h : Ext w w') (i : Nat) (v : Value) : Ext w (w'.setCell ⟨w.heap.size + 1, i, none⟩ v) := Below.setCell h (Nat.le_succ _) v
theorem Ext.set2 {w w' : World} (h : Ext w w') (i : Nat) (v : Value) : Ext w (w'.setCell ⟨w.heap.size + 1 + 1, i, none⟩ v) := Below.setCell h (Nat.le_trans (Nat.le_succ _) (Nat.le_succ _)) v
theorem Ext.drew {w w' : World} (h : Ext w w') : Ext w w'.drew := Below.drew h
theorem Ext.alloc2 (w : World) (o o1 : Obj) : Ext w ((w.alloc o).alloc o1) := (Ext.alloc _ _).trans (Ext.alloc _ _)
theorem Ext.alloc3 (w : World) (o o1 o2 : Obj) : Ext w (((w.alloc o).alloc o1).alloc o2) := (Ext.alloc2 _ _ _).trans (Ext.alloc _ _)
theorem Ext.more {w w' : World} (h : Ext w w') (o : Obj) : Ext w (w'.alloc o) := h.trans (Ext.alloc _ _)
end Go.Proofs.YtaodkfchmaendaaGreatDoor.Er
