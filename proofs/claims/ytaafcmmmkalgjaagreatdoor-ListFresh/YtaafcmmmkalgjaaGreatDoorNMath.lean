/-
  Small laws on memory: what lay there has not turned; the newest blocks.
-/
import Derived.WalkKit
import Derived.WalkSpells
import Derived.WalkLawsBesides
import Derived.Defers
import Derived.Recover
import Derived.RegionTactic
import Derived.BigRegion
import Derived.LaidEql
import Derived.Outline
namespace Go.Proofs.YtaafcmmmkalgjaaGreatDoor
open Go.RowKit

/-- Nothing that lay there has turned. -/
abbrev Ext (w w' : World) : Prop := Below w.heap.size w w'
theorem Ext.refl (w : World) : Ext w w := Below.refl _ w
theorem Ext.trans {a b c : World} (h : Ext a b) (k : Ext b c) : Ext a c := Below.trans h (k.mono h.size)
theorem Ext.alloc (w : World) (o : Obj) : Ext w (w.alloc o) := (Below.refl _ w).alloc (Nat.le_refl _) o
theorem lt_of_block {w : World} {b : Nat} {o : Obj} (h : w.heap[b]? = some o) : b < w.heap.size := (Array.getElem?_eq_some_iff.1 h).1
theorem Ext.block {w w' : World} (h : Ext w w') {b : Nat} {o : Obj} (hb : w.heap[b]? = some o) : w'.heap[b]? = some o := (Below.block h b (lt_of_block hb)).trans hb
theorem cell_of {w : World} {b i : Nat} {cs : Array Value} {t : TypeId} {m : Nat × Nat} {v : Value} (h : w.heap[b]? = some (.cells cs t m)) (hv : cs[i]? = some v) : w.cell? ⟨b, i, none⟩ = some v := by
  simp [World.cell?, h, hv]
theorem frozen_of {w : World} {b i : Nat} {cs : Array Value} {t : TypeId} (h : w.heap[b]? = some (.cells cs t)) : w.frozen? ⟨b, i, none⟩ = false := by
  simp [World.frozen?, h]

theorem blk0 (w : World) (o : Obj) : (w.alloc o).heap[w.heap.size]? = some o := by
  show (w.heap.push o)[w.heap.size]? = _
  simp
theorem blkS (w : World) (o : Obj) : (w.alloc o).heap.size = w.heap.size + 1 := World.size_alloc w o
theorem blkOld {w : World} {b : Nat} {o : Obj} (o' : Obj) (h : w.heap[b]? = some o) : (w.alloc o').heap[b]? = some o := (Ext.alloc w o').block h
theorem blk1 (w : World) (o o1 : Obj) : ((w.alloc o).alloc o1).heap[w.heap.size + 1]? = some o1 := by rw [← blkS w o]; exact blk0 _ _
theorem blk2 (w : World) (o o1 o2 : Obj) : (((w.alloc o).alloc o1).alloc o2).heap[w.heap.size + 1 + 1]? = some o2 := by rw [← blkS w o, ← blkS _ o1]; exact blk0 _ _
theorem blk3 (w : World) (o o1 o2 o3 : Obj) : ((((w.alloc o).alloc o1).alloc o2).alloc o3).heap[w.heap.size + 1 + 1 + 1]? = some o3 := by rw [← blkS w o, ← blkS _ o1, ← blkS _ o2]; exact blk0 _ _
theorem Ext.setCell {w w' : World} (h : Ext w w') {p : Addr} (hp : w.heap.size ≤ p.block) (v : Value) : Ext w (w'.setCell p v) := Below.setCell h hp v

theorem Ext.set0 {w w' : World} (h : Ext w w') (i : Nat) (v : Value) : Ext w (w'.setCell ⟨w.heap.size, i, none⟩ v) := Below.setCell h (Nat.le_refl _) v
theorem Ext.set1 {w w' : World} (h : Ext w w') (i : Nat) (v : Value) : Ext w (w'.setCell ⟨w.heap.size + 1, i, none⟩ v) := Below.setCell h (Nat.le_succ _) v
theorem Ext.set2 {w w' : World} (h : Ext w w') (i : Nat) (v : Value) : Ext w (w'.setCell ⟨w.heap.size + 1 + 1, i, none⟩ v) := Below.setCell h (Nat.le_trans (Nat.le_succ _) (Nat.le_succ _)) v
theorem Ext.drew {w w' : World} (h : Ext w w') : Ext w w'.drew := Below.drew h
theorem Ext.alloc2 (w : World) (o o1 : Obj) : Ext w ((w.alloc o).alloc o1) := (Ext.alloc _ _).trans (Ext.alloc _ _)
theorem Ext.alloc3 (w : World) (o o1 o2 : Obj) : Ext w (((w.alloc o).alloc o1).alloc o2) := (Ext.alloc2 _ _ _).trans (Ext.alloc _ _)
theorem Ext.more {w w' : World} (h : Ext w w') (o : Obj) : Ext w (w'.alloc o) := h.trans (Ext.alloc _ _)
theorem hid {p : Prop} (h : p) : Hid p := h
end Go.Proofs.YtaafcmmmkalgjaaGreatDoor
/-
  Numbers of 64 bits: what is over, powers.
-/
namespace Go.Proofs.YtaafcmmmkalgjaaGreatDoor
open Go.RowKit
/-- A number of 64 bits. -/
def inR (x : Int) : Prop := -9223372036854775808 ≤ x ∧ x ≤ 9223372036854775807
instance (x : Int) : Decidable (inR x) := by unfold inR; infer_instance
theorem natAbs_two {x : Int} (h : ¬ inR x) : 9223372036854775808 ≤ x.natAbs := by unfold inR at h; omega
theorem out_of_abs {x : Int} (h : 9223372036854775809 ≤ x.natAbs) : ¬ inR x := by unfold inR; omega
theorem one_powI : ∀ n : Nat, (1 : Int) ^ n = 1
  | 0 => rfl
  | n + 1 => by rw [Int.pow_succ, one_powI n]; rfl
theorem small_pow (a : Int) (h1 : -1 ≤ a) (h2 : a ≤ 1) : ∀ n, inR (a ^ n)
  | 0 => by simp [inR]
  | n + 1 => by
    obtain rfl | rfl | rfl : a = -1 ∨ a = 0 ∨ a = 1 := by omega
    · have : ((-1 : Int) ^ (n + 1)).natAbs = 1 := by rw [Int.natAbs_pow]; simp
      unfold inR; omega
    · rw [Int.pow_succ]; simp [inR]
    · rw [one_powI]; simp [inR]
/-- Behind a power that is over all are. -/
theorem pow_out (a : Int) (j n : Nat) (h : j ≤ n) (ho : ¬ inR (a ^ j)) : ¬ inR (a ^ n) := by
  by_cases hs : -1 ≤ a ∧ a ≤ 1
  · exact absurd (small_pow a hs.1 hs.2 j) ho
  · by_cases hj : j = n
    · rw [← hj]; exact ho
    · have h2 : 2 ≤ a.natAbs := by omega
      have hb := natAbs_two ho
      rw [Int.natAbs_pow] at hb
      apply out_of_abs
      rw [Int.natAbs_pow]
      have e1 : a.natAbs ^ (j + 1) ≤ a.natAbs ^ n := Nat.pow_le_pow_right (by omega) (by omega)
      have e2 : a.natAbs ^ (j + 1) = a.natAbs ^ j * a.natAbs := Nat.pow_succ _ _
      have e3 : a.natAbs ^ j * 2 ≤ a.natAbs ^ j * a.natAbs := Nat.mul_le_mul_left _ h2
      omega
/-- Of -1, 0, 1 a power comes round again after two factors. -/
theorem pow_round (a : Int) (h1 : -1 ≤ a) (h2 : a ≤ 1) (n : Nat) (hn : 2 < n) : a ^ (2 - n % 2) = a ^ n := by
  obtain rfl | rfl | rfl : a = -1 ∨ a = 0 ∨ a = 1 := by omega
  · rcases Nat.mod_two_eq_zero_or_one n with h | h
    · obtain ⟨k, rfl⟩ : ∃ k, n = 2 * k := ⟨n / 2, by omega⟩
      rw [h, Int.pow_mul, show (-1 : Int) ^ 2 = 1 from rfl, one_powI]; done
    · obtain ⟨k, rfl⟩ : ∃ k, n = 2 * k + 1 := ⟨n / 2, by omega⟩
      rw [h, Int.pow_succ (n := 2 * k), Int.pow_mul, show (-1 : Int) ^ 2 = 1 from rfl, one_powI]; rfl
  · have e1 : 2 - n % 2 ≠ 0 := by omega
    have e2 : n ≠ 0 := by omega
    rw [Int.zero_pow e1, Int.zero_pow e2]
  · rw [one_powI, one_powI]
theorem abs_mul_div (a b : Int) (ha : inR a) (hb : inR b) : a.natAbs < 18446744073709551616 ∧ b.natAbs < 18446744073709551616 := by unfold inR at ha hb; omega
end Go.Proofs.YtaafcmmmkalgjaaGreatDoor
