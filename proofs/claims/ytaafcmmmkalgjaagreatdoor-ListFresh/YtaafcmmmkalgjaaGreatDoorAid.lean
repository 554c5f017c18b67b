/-
  Small laws on memory: what lay there has not turned; the newest blocks.
-/
import Derived.WalkKit
import Derived.WalkSpells
import Derived.WalkLawsBesides
import Derived.Defers
import Derived.Recover
import Derived.RegionTactic
import Derived.BigRegion
import Derived.LaidEql
import Derived.Outline
namespace Go.Proofs.YtaafcmmmkalgjaaGreatDoor
open Go.RowKit

/-- Nothing that lay there has turned. -/
abbrev Ext (w w' : World) : Prop := Below w.heap.size w w'
theorem Ext.refl (w : World) : Ext w w := Below.refl _ w
theorem Ext.trans {a b c : World} (h : Ext a b) (k : Ext b c) : Ext a c := Below.trans h (k.mono h.size)
theorem Ext.alloc (w : World) (o : Obj) : Ext w (w.alloc o) := (Below.refl _ w).alloc (Nat.le_refl _) o
theorem lt_of_block {w : World} {b : Nat} {o : Obj} (h : w.heap[b]? = some o) : b < w.heap.size := (Array.getElem?_eq_some_iff.1 h).1
theorem Ext.block {w w' : World} (h : Ext w w') {b : Nat} {o : Obj} (hb : w.heap[b]? = some o) : w'.heap[b]? = some o := (Below.block h b (lt_of_block hb)).trans hb
theorem cell_of {w : World} {b i : Nat} {cs : Array Value} {t : TypeId} {m : Nat × Nat} {v : Value} (h : w.heap[b]? = some (.cells cs t m)) (hv : cs[i]? = some v) : w.cell? ⟨b, i, none⟩ = some v := by
  simp [World.cell?, h, hv]
theorem frozen_of {w : World} {b i : Nat} {cs : Array Value} {t : TypeId} (h : w.heap[b]? = some (.cells cs t)) : w.frozen? ⟨b, i, none⟩ = false := by
  simp [World.frozen?, h]

theorem blk0 (w : World) (o : Obj) : (w.alloc o).heap[w.heap.size]? = some o := by
  show (w.heap.push o)[w.heap.size]? = _
  simp
theorem blkS (w : World) (o : Obj) : (w.alloc o).heap.size = w.heap.size + 1 := World.size_alloc w o
theorem blkOld {w : World} {b : Nat} {o : Obj} (o' : Obj) (h : w.heap[b]? = some o) : (w.alloc o').heap[b]? = some o := (Ext.alloc w o').block h
theorem blk1 (w : World) (o o1 : Obj) : ((w.alloc o).alloc o1).heap[w.heap.size + 1]? = some o1 := by rw [← blkS w o]; exact blk0 _ _
theorem blk2 (w : World) (o o1 o2 : Obj) : (((w.alloc o).alloc o1).alloc o2).heap[w.heap.size + 1 + 1]? = some o2 := by rw [← blkS w o, ← blkS _ o1]; exact blk0 _ _
theorem blk3 (w : World) (o o1 o2 o3 : Obj) : ((((w.alloc o).alloc o1).alloc o2).alloc o3).heap[w.heap.size + 1 + 1 + 1]? = some o3 := by rw [← blkS w o, ← blkS _ o1, ← blkS _ o2]; exact blk0 _ _
theorem Ext.setCell {w w' : World} (h : Ext w w') {p : Addr} (hp : w.heap.size ≤ p.block) (v : Value) : Ext w (w'.setCell p v) := Below.setCell h hp v

theorem Ext.set0 {w w' : World} (h : Ext w w') (i : Nat) (v : Value) : Ext w (w'.setCell ⟨w.heap.size, i, none⟩ v) := Below.setCell h (Nat.le_refl _) v
theorem Ext.set1 {w w' : World} (h : Ext w w') (i : Nat) (v : Value) : Ext w (w'.setCell ⟨w.heap.size + 1, i, none⟩ v) := Below.setCell h (Nat.le_succ _) v
theorem Ext.set2 {w w' : World} (h : Ext w w') (i : Nat) (v : Value) : Ext w (w'.setCell ⟨w.heap.size + 1 + 1, i, none⟩ v) := Below.setCell h (Nat.le_trans (Nat.le_succ _) (Nat.le_succ _)) v
theorem Ext.drew {w w' : World} (h : Ext w w') : Ext w w'.drew := Below.drew h
theorem Ext.alloc2 (w : World) (o o1 : Obj) : Ext w ((w.alloc o).alloc o1) := (Ext.alloc _ _).trans (Ext.alloc _ _)
theorem Ext.alloc3 (w : World) (o o1 o2 : Obj) : Ext w (((w.alloc o).alloc o1).alloc o2) := (Ext.alloc2 _ _ _).trans (Ext.alloc _ _)
theorem Ext.more {w w' : World} (h : Ext w w') (o : Obj) : Ext w (w'.alloc o) := h.trans (Ext.alloc _ _)
theorem hid {p : Prop} (h : p) : Hid p := h
end Go.Proofs.YtaafcmmmkalgjaaGreatDoor
