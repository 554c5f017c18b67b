/-
  Small laws on memory: what lay there has not turned; the newest blocks.
-/
import Derived.WalkKit
import Derived.WalkSpells
import Derived.WalkLawsBesides
import Derived.Defers
import Derived.Recover
import Derived.RegionTactic
import Derived.BigRegion
import Derived.LaidEql
import Derived.Outline
import Derived.Test.YtaafcmmmkalgjaaGreatDoorRows
import Derived.OwnWalk
import Derived.Deep.RegionWith
import Derived.WalkSmall
import Derived.Lib.SliceRun
import Derived.LoopTactic
import Derived.Deep.QuietTactic
import Derived.BigQuiet
namespace Go.Proofs.YtaafcmmmkalgjaaGreatDoor
open Go.RowKit

/-- Nothing that lay there has turned. -/
abbrev Ext (w w' : World) : Prop := Below w.heap.size w w'
theorem Ext.refl (w : World) : Ext w w := Below.refl _ w
theorem Ext.trans {a b c : World} (h : Ext a b) (k : Ext b c) : Ext a c := Below.trans h (k.mono h.size)
theorem Ext.alloc (w : World) (o : Obj) : Ext w (w.alloc o) := (Below.refl _ w).alloc (Nat.le_refl _) o
theorem lt_of_block {w : World} {b : Nat} {o : Obj} (h : w.heap[b]? = some o) : b < w.heap.size := (Array.getElem?_eq_some_iff.1 h).1
theorem Ext.block {w w' : World} (h : Ext w w') {b : Nat} {o : Obj} (hb : w.heap[b]? = some o) : w'.heap[b]? = some o := (Below.block h b (lt_of_block hb)).trans hb
theorem cell_of {w : World} {b i : Nat} {cs : Array Value} {t : TypeId} {m : Nat × Nat} {v : Value} (h : w.heap[b]? = some (.cells cs t m)) (hv : cs[i]? = some v) : w.cell? ⟨b, i, none⟩ = some v := by
  simp [World.cell?, h, hv]
theorem frozen_of {w : World} {b i : Nat} {cs : Array Value} {t : TypeId} (h : w.heap[b]? = some (.cells cs t)) : w.frozen? ⟨b, i, none⟩ = false := by
  simp [World.frozen?, h]

theorem blk0 (w : World) (o : Obj) : (w.alloc o).heap[w.heap.size]? = some o := by
  show (w.heap.push o)[w.heap.size]? = _
  simp
theorem blkS (w : World) (o : Obj) : (w.alloc o).heap.size = w.heap.size + 1 := World.size_alloc w o
theorem blkOld {w : World} {b : Nat} {o : Obj} (o' : Obj) (h : w.heap[b]? = some o) : (w.alloc o').heap[b]? = some o := (Ext.alloc w o').block h
theorem blk1 (w : World) (o o1 : Obj) : ((w.alloc o).alloc o1).heap[w.heap.size + 1]? = some o1 := by rw [← blkS w o]; exact blk0 _ _
theorem blk2 (w : World) (o o1 o2 : Obj) : (((w.alloc o).alloc o1).alloc o2).heap[w.heap.size + 1 + 1]? = some o2 := by rw [← blkS w o, ← blkS _ o1]; exact blk0 _ _
theorem blk3 (w : World) (o o1 o2 o3 : Obj) : ((((w.alloc o).alloc o1).alloc o2).alloc o3).heap[w.heap.size + 1 + 1 + 1]? = some o3 := by rw [← blkS w o, ← blkS _ o1, ← blkS _ o2]; exact blk0 _ _
theorem Ext.setCell {w w' : World} (h : Ext w w') {p : Addr} (hp : w.heap.size ≤ p.block) (v : Value) : Ext w (w'.setCell p v) := Below.setCell h hp v

theorem Ext.set0 {w w' : World} (h : Ext w w') (i : Nat) (v : Value) : Ext w (w'.setCell ⟨w.heap.size, i, none⟩ v) := Below.setCell h (Nat.le_refl _) v
theorem Ext.set1 {w w' : World} (h : Ext w w') (i : Nat) (v : Value) : Ext w (w'.setCell ⟨w.heap.size + 1, i, none⟩ v) := Below.setCell h (Nat.le_succ _) v
theorem Ext.set2 {w w' : World} (h : Ext w w') (i : Nat) (v : Value) : Ext w (w'.setCell ⟨w.heap.size + 1 + 1, i, none⟩ v) := Below.setCell h (Nat.le_trans (Nat.le_succ _) (Nat.le_succ _)) v
theorem Ext.drew {w w' : World} (h : Ext w w') : Ext w w'.drew := Below.drew h
theorem Ext.alloc2 (w : World) (o o1 : Obj) : Ext w ((w.alloc o).alloc o1) := (Ext.alloc _ _).trans (Ext.alloc _ _)
theorem Ext.alloc3 (w : World) (o o1 o2 : Obj) : Ext w (((w.alloc o).alloc o1).alloc o2) := (Ext.alloc2 _ _ _).trans (Ext.alloc _ _)
theorem Ext.more {w w' : World} (h : Ext w w') (o : Obj) : Ext w (w'.alloc o) := h.trans (Ext.alloc _ _)
theorem hid {p : Prop} (h : p) : Hid p := h
end Go.Proofs.YtaafcmmmkalgjaaGreatDoor
/-
  What a slice of ints or of texts reads as; rows that a call made itself.
-/
namespace Go.Proofs.YtaafcmmmkalgjaaGreatDoor
open Go.RowKit

/-- The slice v reads as vs, a cell each. -/
def Vals (w : World) (v : Value) (vs : List Value) : Prop :=
  (v = .slice none 0 0 ∧ vs = []) ∨ ∃ g off cap, v = .slice (some ⟨g, off, none⟩) vs.length cap ∧ ∀ (j : Nat) (u : Value), vs[j]? = some u → w.cell? ⟨g, off + j, none⟩ = some u
/-- The slice v of ints reads as xs. -/
def Ints (w : World) (v : Value) (xs : List Int) : Prop :=
  ((∃ a c, v = .slice a 0 c) ∧ xs = []) ∨ ∃ g off cap, v = .slice (some ⟨g, off, none⟩) xs.length cap ∧ ∀ (j : Nat) (u : Int), xs[j]? = some u → w.cell? ⟨g, off + j, none⟩ = some (.int .i64 u)
theorem Ints.nil (w : World) (a : Option Addr) (c : Nat) : Ints w (.slice a 0 c) [] := .inl ⟨⟨a, c, rfl⟩, rfl⟩
theorem Ints.shape {w : World} {v : Value} {xs : List Int} (h : Ints w v xs) : ∃ a c, v = .slice a xs.length c := by
  rcases h with ⟨⟨a, c, rfl⟩, rfl⟩ | ⟨g, off, cap, rfl, _⟩
  · exact ⟨_, _, rfl⟩
  · exact ⟨_, _, rfl⟩
theorem lt_of_cell {w : World} {a : Addr} {v : Value} (h : w.cell? a = some v) : a.block < w.heap.size := by
  rcases Nat.lt_or_ge a.block w.heap.size with h' | h'
  · exact h'
  · simp [World.cell?, Array.getElem?_eq_none h'] at h
theorem Ints.later {w w' : World} {v : Value} {xs : List Int} (h : Ints w v xs) (hx : Ext w w') : Ints w' v xs := by
  rcases h with h | ⟨g, off, cap, rfl, hc⟩
  · exact .inl h
  · exact .inr ⟨g, off, cap, rfl, fun j u hu => (Below.cell hx (lt_of_cell (hc j u hu))).trans (hc j u hu)⟩
theorem Vals.later {w w' : World} {v : Value} {xs : List Value} (h : Vals w v xs) (hx : Ext w w') : Vals w' v xs := by
  rcases h with h | ⟨g, off, cap, rfl, hc⟩
  · exact .inl h
  · exact .inr ⟨g, off, cap, rfl, fun j u hu => (Below.cell hx (lt_of_cell (hc j u hu))).trans (hc j u hu)⟩
theorem Vals.own {w : World} {base : Nat} {e : TypeId} {v : Value} {xs : List Value} {n : Nat} (hn : n = xs.length) (h : w.ownsRow base e 1 v n xs) : Vals w v xs := by
  subst hn
  obtain ⟨hl, hr⟩ := h
  rcases hr with ⟨rfl, h0⟩ | ⟨g, cap, cur, rfl, _, hb, h1, h2, h3, h4⟩
  · exact .inl ⟨rfl, List.eq_nil_of_length_eq_zero h0⟩
  · refine .inr ⟨g, 0, cap, rfl, fun j u hu => ?_⟩
    have hj : j < xs.length := (List.getElem?_eq_some_iff.1 hu).1
    have e : cur[j]? = some u := by
      have : (cur.toList.take (xs.length * 1))[j]? = some u := by rw [h4]; exact hu
      rw [List.getElem?_take_of_lt (by omega)] at this
      simpa using this
    rw [Nat.zero_add]
    exact cell_of hb e
theorem Vals.ints {w : World} {v : Value} {xs : List Int} (h : Vals w v (xs.map (Value.int .i64))) : Ints w v xs := by
  rcases h with ⟨rfl, h⟩ | ⟨g, off, cap, rfl, hc⟩
  · exact .inl ⟨⟨none, 0, rfl⟩, List.map_eq_nil_iff.1 h⟩
  · exact .inr ⟨g, off, cap, by simp, fun j u hu => hc j _ (by rw [List.getElem?_map, hu]; rfl)⟩
theorem Ints.own {w : World} {base : Nat} {v : Value} {xs : List Int} {n : Nat} (hn : n = xs.length) (h : w.ownsRow base 3 1 v n (xs.map (Value.int .i64))) : Ints w v xs :=
  Vals.ints (Vals.own (by rw [hn, List.length_map]) h)
theorem Ints.cell {w : World} {a : Option Addr} {n c : Nat} {xs : List Int} (h : Ints w (.slice a n c) xs) : n = xs.length ∧ ∀ (j : Nat) (hj : j < xs.length), ∃ g off, a = some ⟨g, off, none⟩ ∧ w.cell? ⟨g, off + j, none⟩ = some (.int .i64 xs[j]) := by
  rcases h with ⟨⟨a', c', h⟩, rfl⟩ | ⟨g, off, cap, h, hc⟩
  · cases h; exact ⟨rfl, fun j hj => absurd hj (Nat.not_lt_zero _)⟩
  · cases h; exact ⟨rfl, fun j hj => ⟨g, off, rfl, hc j _ (List.getElem?_eq_getElem hj)⟩⟩
theorem intInfo : (Tryz.prog.info? 3).map (fun i => (i.zero, i.size, i.bytes)) = some (some (.int .i64 0), 1, 8) := by kernel_rfl
theorem strInfo : (Tryz.prog.info? 9).map (fun i => (i.zero, i.size, i.bytes)) = some (some (.string ⟨#[]⟩), 1, 16) := by kernel_rfl
theorem row_mono {w : World} {base base' : Nat} {e : TypeId} {v : Value} {n : Nat} {xs : List Value} (h : w.ownsRow base e 1 v n xs) (hb : base' ≤ base) : w.ownsRow base' e 1 v n xs := by
  refine ⟨h.1, ?_⟩
  rcases h.2 with h | ⟨g, cap, cur, h1, h2, h3⟩
  · exact .inl h
  · exact .inr ⟨g, cap, cur, h1, Nat.le_trans hb h2, h3⟩
theorem row_set {w : World} {base T i : Nat} {e : TypeId} {v x : Value} {n : Nat} {xs : List Value} (h : w.ownsRow base e 1 v n xs) (hT : T < base) : (w.setCell ⟨T, i, none⟩ x).ownsRow base e 1 v n xs := by
  refine ⟨h.1, ?_⟩
  rcases h.2 with h | ⟨g, cap, cur, h1, h2, h3, h4⟩
  · exact .inl h
  · exact .inr ⟨g, cap, cur, h1, h2, (Below.heap_setCell w ⟨T, i, none⟩ x g (fun e => by have e' : g = T := e; omega)).trans h3, h4⟩
theorem row_ext {w w' : World} {base : Nat} {e : TypeId} {v : Value} {n : Nat} {xs : List Value} (h : w.ownsRow base e 1 v n xs) (hx : Below w.heap.size w w') : w'.ownsRow base e 1 v n xs := by
  refine ⟨h.1, ?_⟩
  rcases h.2 with h | ⟨g, cap, cur, h1, h2, h3, h4⟩
  · exact .inl h
  · exact .inr ⟨g, cap, cur, h1, h2, (hx.block g (lt_of_block h3)).trans h3, h4⟩
theorem ownsRow_slice {w : World} {base : Nat} {e : TypeId} {v : Value} {n : Nat} {xs : List Value} (h : w.ownsRow base e 1 v n xs) : ∃ a c, v = .slice a n c := by
  rcases h.2 with ⟨rfl, h0⟩ | ⟨g, cap, cur, rfl, _⟩
  · subst h0; exact ⟨_, _, rfl⟩
  · exact ⟨_, _, rfl⟩
theorem ret_int {k : IntKind} {a b : Int} (h : a = b) : Ending.returned (.int k a) = .returned (.int k b) := by rw [h]
theorem ret_bool {a b : Bool} (h : a = b) : Ending.returned (.bool a) = .returned (.bool b) := by rw [h]
theorem Ext.drewN {w w' : World} (h : Ext w w') (n : Nat) : Ext w (w'.drewN n) := below_drewN h n
end Go.Proofs.YtaafcmmmkalgjaaGreatDoor
/-
  Texts that are equal.
-/
namespace Go.Proofs.YtaafcmmmkalgjaaGreatDoor
open Go.RowKit
theorem toList_inj {a b : ByteArray} (e : a.toList = b.toList) : a = b := by
  rw [ByteArray.toList_eq, ByteArray.toList_eq] at e
  exact ByteArray.ext (Array.toList_inj.1 e)
theorem data_inj {a b : ByteArray} (e : a.data.toList = b.data.toList) : a = b := ByteArray.ext (Array.toList_inj.1 e)
end Go.Proofs.YtaafcmmmkalgjaaGreatDoor
/-
  sign.digit, sign.ofWord, sign.ofName, sign.spelt, sign.Word, sign.Name, each by a contract.
-/
namespace Go.Proofs.YtaafcmmmkalgjaaGreatDoor
open Go.RowKit

def digI (r : Int) : Bool := decide (48 ≤ r ∧ r ≤ 57)
def wordI (r : Int) : Bool := decide (97 ≤ r ∧ r ≤ 122) || digI r
def nameI (r : Int) : Bool := wordI r || decide (65 ≤ r ∧ r ≤ 90) || decide (r = 95)
theorem wordI_in {r : Int} (h1 : 97 ≤ r) (h2 : r ≤ 122) : wordI r = true := by simp [wordI, h1, h2]
theorem wordI_out {r : Int} (h : ¬ (97 ≤ r ∧ r ≤ 122)) : wordI r = digI r := by unfold wordI; rw [decide_eq_false h]; rfl
theorem nameI_cap {r : Int} (h1 : 65 ≤ r) (h2 : r ≤ 90) : nameI r = true := by simp [nameI, h1, h2]
theorem nameI_else {r : Int} (hw : wordI r = false) (h : ¬ (65 ≤ r ∧ r ≤ 90)) : nameI r = (r == 95) := by unfold nameI; rw [decide_eq_false h, hw]; by_cases e : r = 95 <;> simp [e]
theorem high_digI {r : Int} (h : 128 ≤ r) : digI r = false := by simp [digI]; omega
theorem high_wordI {r : Int} (h : 128 ≤ r) : wordI r = false := by rw [wordI_out (by omega)]; exact high_digI h
theorem high_nameI {r : Int} (h : 128 ≤ r) : nameI r = false := by rw [nameI_else (high_wordI h) (by omega)]; simp; omega
theorem digit_any (r : Int) (w : World) : Calls Tryz.prog 145 #[.int .i32 r] w fun e w' => e = .returned (.bool (digI r)) ∧ w' = w := by
  by_cases h1 : 48 ≤ r <;> by_cases h2 : r ≤ 57
  all_goals
    go_enter Tryz.func145, Tryz.ntmps145
    go_wp2
    go_ret
    exact ⟨ret_bool (by simp [digI, h1, h2]), rfl⟩
theorem ofWord_any (r : Int) (w : World) : Calls Tryz.prog 106 #[.int .i32 r] w fun e w' => e = .returned (.bool (wordI r)) ∧ w' = w := by
  by_cases h1 : 97 ≤ r <;> by_cases h2 : r ≤ 122
  all_goals
    go_enter Tryz.func106, Tryz.ntmps106
    go_wp2_with (go_at_call 145; refine (digit_any r _).mono ?_; rintro e w' ⟨rfl, rfl⟩)
    go_ret
    exact ⟨ret_bool (by first | (rw [wordI_in (by omega) (by omega)]; done) | (rw [wordI_out (by omega)]; try rfl)), rfl⟩
theorem ofName_any (r : Int) (w : World) : Calls Tryz.prog 149 #[.int .i32 r] w fun e w' => e = .returned (.bool (nameI r)) ∧ w' = w := by
  by_cases hw : wordI r = true
  · go_enter Tryz.func149, Tryz.ntmps149
    go_wp2_with (go_at_call 106; refine (ofWord_any r _).mono ?_; rintro e w' ⟨rfl, rfl⟩)
    go_ret
    exact ⟨ret_bool (by simp [nameI, hw]), rfl⟩
  · have hw' : wordI r = false := by simpa using hw
    clear hw
    by_cases h1 : 65 ≤ r ∧ r ≤ 90
    · obtain ⟨h1, h2⟩ := h1
      go_enter Tryz.func149, Tryz.ntmps149
      go_wp2_with (go_at_call 106; refine (ofWord_any r _).mono ?_; rintro e w' ⟨rfl, rfl⟩)
      go_ret
      exact ⟨ret_bool (by rw [nameI_cap h1 h2]), rfl⟩
    · have HE := hid (nameI_else hw' h1)
      have h1' : 65 ≤ r → 90 < r := fun h => by omega
      have H1 := hid h1'
      clear h1 h1'
      by_cases h2 : 65 ≤ r
      · have h3 := H1.out h2
        have h4 : decide (r ≤ 90) = false := decide_eq_false (by omega)
        go_enter Tryz.func149, Tryz.ntmps149
        go_wp2_with (go_at_call 106; refine (ofWord_any r _).mono ?_; rintro e w' ⟨rfl, rfl⟩)
        all_goals
          go_ret
          exact ⟨ret_bool (by rw [HE.out]; try rw [h4]; try rfl), rfl⟩
      · go_enter Tryz.func149, Tryz.ntmps149
        go_wp2_with (go_at_call 106; refine (ofWord_any r _).mono ?_; rintro e w' ⟨rfl, rfl⟩)
        all_goals
          go_ret
          exact ⟨ret_bool (by rw [HE.out]; try rfl), rfl⟩

theorem Ext.iter {w w' : World} (h : Ext w w') (s : ByteArray) (pos : Nat) : Ext w (w'.iter s pos) := h.trans (Ext.alloc _ _)
/-- 1 to m signs, each such that f takes it, and no digit first. -/
def speltB (f : Int → Bool) (m : Nat) (l : List UInt8) : Bool := !l.isEmpty && decide (l.length ≤ m) && l.all (fun c => f c.toNat) && !(l.head?.any (fun c => digI c.toNat))
theorem speltB_none (f : Int → Bool) (m : Nat) : speltB f m [] = false := rfl
theorem speltB_long {f : Int → Bool} {m : Nat} {l : List UInt8} (h : m < l.length) : speltB f m l = false := by
  have : decide (l.length ≤ m) = false := by simp; omega
  simp [speltB, this]
theorem speltB_bad {f : Int → Bool} {m k : Nat} {l : List UInt8} (h : k < l.length) (hf : f l[k].toNat = false) : speltB f m l = false := by
  have : l.all (fun c => f c.toNat) = false := by
    rw [List.all_eq_false]
    exact ⟨l[k], List.getElem_mem h, by simp [hf]⟩
  simp [speltB, this]
theorem speltB_digit {f : Int → Bool} {m : Nat} {l : List UInt8} (h : 0 < l.length) (hf : digI l[0].toNat = true) : speltB f m l = false := by
  cases l with
  | nil => rfl
  | cons c l =>
    have : ((c :: l).head?.any (fun c => digI c.toNat)) = true := hf
    simp only [speltB, this]
    simp
theorem speltB_good {f : Int → Bool} {m : Nat} {l : List UInt8} (h0 : 0 < l.length) (hm : l.length ≤ m) (ha : ∀ k, (h : k < l.length) → f l[k].toNat = true) (hd : digI l[0].toNat = false) : speltB f m l = true := by
  cases l with
  | nil => simp at h0
  | cons c l =>
    have e1 : ((c :: l).head?.any (fun c => digI c.toNat)) = false := hd
    have e2 : (c :: l).all (fun c => f c.toNat) = true := by
      rw [List.all_eq_true]
      intro x hx
      obtain ⟨k, hk, rfl⟩ := List.getElem_of_mem hx
      exact ha k hk
    simp only [speltB, e1, e2]
    simp at hm ⊢
    exact hm
theorem at_list (s : ByteArray) (k : Nat) (h : k < s.size) : ∃ h' : k < s.data.toList.length, s[k] = s.data.toList[k] := ⟨by simpa using h, by simp; rfl⟩
theorem size_list (s : ByteArray) : s.data.toList.length = s.size := by simp

set_option maxRecDepth 100000 in
set_option maxHeartbeats 2000000 in
theorem speltW (s : ByteArray) (m : Nat) (w : World) (hm : m ≤ 1000) : Calls Tryz.prog 105 #[.string s, .int .i64 m, .func (.func 106) #[] #[]] w fun e w' => e = .returned (.bool (speltB wordI m s.data.toList)) ∧ Ext w w' := by
  have hm' : (m : Int) ≤ 1000 := by omega
  by_cases h0 : s.toList.isEmpty = true
  · have HR := hid (show speltB wordI m s.data.toList = false by rw [← ByteArray.toList_eq, List.isEmpty_iff.1 h0]; rfl)
    go_enter Tryz.func105, Tryz.ntmps105
    go_wp2
    go_ret
    exact ⟨ret_bool (by rw [HR.out]), Ext.refl _⟩
  have h0' : s.toList.isEmpty = false := by simpa using h0
  by_cases hl : m < s.size
  · have HR := hid (speltB_long (f := wordI) (m := m) (l := s.data.toList) (by rw [size_list]; exact hl))
    have hl' : (m : Int) < s.size := by omega
    go_enter Tryz.func105, Tryz.ntmps105
    go_wp2
    go_ret
    exact ⟨ret_bool (by rw [HR.out]), Ext.refl _⟩
  have hl' : (s.size : Int) ≤ m := by omega
  have hne : 0 < s.size := by
    rcases Nat.eq_zero_or_pos s.size with h | h
    · exact absurd (by rw [ByteArray.toList_eq, List.isEmpty_iff]; exact List.eq_nil_of_length_eq_zero (by rw [size_list]; exact h)) h0
    · exact h
  go_enter Tryz.func105, Tryz.ntmps105
  clear h0
  go_wp2
  go_loopw [7] (fun _ wr => ∃ pos : Nat, wr = w.iter s pos ∧ pos ≤ s.size ∧ (∀ k, (h : k < s.data.toList.length) → k < pos → wordI s.data.toList[k].toNat = true) ∧ (0 < pos → (h : 0 < s.data.toList.length) → digI s.data.toList[0].toNat = false)) (fun _ wr => s.size - wr.iterPos w.heap.size)
  case atStart => exact ⟨0, rfl, Nat.zero_le _, fun k _ h => absurd h (Nat.not_lt_zero _), fun h => absurd h (Nat.not_lt_zero _)⟩
  case round =>
    obtain ⟨pos, rfl, hps, hall, hdig⟩ := hrel
    have HALL := hid hall
    have HDIG := hid hdig
    clear hall hdig
    by_cases hp : pos < s.size
    · obtain ⟨hp', hc⟩ := at_list s pos hp
      by_cases ha : (s[pos]'hp).toNat < 128
      · have hnx : ∀ ty, (Instr.next (.pointer (some ⟨w.heap.size, 0, none⟩)) true ty).run Tryz.prog (w.iter s pos) = _ := fun ty => run_next_ascii w s pos ty hp ha
        have HC := hid (congrArg UInt8.toNat hc)
        generalize (s[pos]'hp).toNat = c at hnx HC
        clear hc ha
        by_cases hf : wordI (c : Int) = true
        · by_cases hz : pos = 0
          · subst hz
            by_cases hd : digI (c : Int) = true
            · have HR := hid (speltB_digit (f := wordI) (m := m) (l := s.data.toList) hp' (by rw [← HC.out]; exact hd))
              go_wp2_with (first | (go_at_call 106; refine (ofWord_any _ _).mono ?_; rintro e w' ⟨rfl, rfl⟩) | (go_at_call 145; refine (digit_any _ _).mono ?_; rintro e w' ⟨rfl, rfl⟩))
              go_ret
              exact ⟨ret_bool (by rw [HR.out]), (Ext.refl _).iter _ _⟩
            · have hd' : digI (c : Int) = false := by simpa using hd
              clear hd
              go_wp2_with (first | (go_at_call 106; refine (ofWord_any _ _).mono ?_; rintro e w' ⟨rfl, rfl⟩) | (go_at_call 145; refine (digit_any _ _).mono ?_; rintro e w' ⟨rfl, rfl⟩))
              go_roundw
              case rel => exact ⟨1, rfl, hp, fun k hk h => by
                  obtain rfl : k = 0 := by omega
                  rw [← HC.out]; exact hf, fun _ _ => by rw [← HC.out]; exact hd'⟩
              case measure => simp; omega
          · have hz' : ((pos : Int) == 0) = false := by simp [hz]
            go_wp2_with (first | (go_at_call 106; refine (ofWord_any _ _).mono ?_; rintro e w' ⟨rfl, rfl⟩) | (go_at_call 145; refine (digit_any _ _).mono ?_; rintro e w' ⟨rfl, rfl⟩))
            go_roundw
            case rel => exact ⟨pos + 1, rfl, hp, fun k hk h => by
                rcases Nat.lt_or_eq_of_le (Nat.le_of_lt_succ h) with h | h
                · exact HALL.out k hk h
                · subst h; rw [← HC.out]; exact hf, fun _ => HDIG.out (by omega)⟩
            case measure => simp; omega
        · have hf' : wordI (c : Int) = false := by simpa using hf
          have HR := hid (speltB_bad (f := wordI) (m := m) (l := s.data.toList) hp' (by rw [← HC.out]; exact hf'))
          clear hf
          go_wp2_with (first | (go_at_call 106; refine (ofWord_any _ _).mono ?_; rintro e w' ⟨rfl, rfl⟩) | (go_at_call 145; refine (digit_any _ _).mono ?_; rintro e w' ⟨rfl, rfl⟩))
          go_ret
          exact ⟨ret_bool (by rw [HR.out]), (Ext.refl _).iter _ _⟩
      · have hhi := (decode_high s pos hp (by omega)).1
        have hnx : ∀ ty, (Instr.next (.pointer (some ⟨w.heap.size, 0, none⟩)) true ty).run Tryz.prog (w.iter s pos) = _ := fun ty => run_next_any w s pos ty hp
        have hf' : wordI ((Utf8.decode s pos).1 : Int) = false := high_wordI (by omega)
        have HR := hid (speltB_bad (f := wordI) (m := m) (l := s.data.toList) hp' (by rw [← hc]; exact high_wordI (by omega)))
        clear hhi ha hc
        go_wp2_with (first | (go_at_call 106; refine (ofWord_any _ _).mono ?_; rintro e w' ⟨rfl, rfl⟩) | (go_at_call 145; refine (digit_any _ _).mono ?_; rintro e w' ⟨rfl, rfl⟩))
        go_ret
        exact ⟨ret_bool (by rw [HR.out]), (Ext.refl _).iter _ _⟩
    · have hnx : ∀ ty, (Instr.next (.pointer (some ⟨w.heap.size, 0, none⟩)) true ty).run Tryz.prog (w.iter s pos) = _ := fun ty => run_next_end w s pos ty hp
      have HR := hid (speltB_good (f := wordI) (m := m) (l := s.data.toList) (by rw [size_list]; exact hne) (by rw [size_list]; omega) (fun k h => HALL.out k h (by rw [size_list] at h; omega)) (HDIG.out (by omega) (by rw [size_list]; exact hne)))
      go_wp2
      go_ret
      exact ⟨ret_bool (by rw [HR.out]), (Ext.refl _).iter _ _⟩


set_option maxRecDepth 100000 in
set_option maxHeartbeats 2000000 in
theorem speltN (s : ByteArray) (m : Nat) (w : World) (hm : m ≤ 1000) : Calls Tryz.prog 105 #[.string s, .int .i64 m, .func (.func 149) #[] #[]] w fun e w' => e = .returned (.bool (speltB nameI m s.data.toList)) ∧ Ext w w' := by
  have hm' : (m : Int) ≤ 1000 := by omega
  by_cases h0 : s.toList.isEmpty = true
  · have HR := hid (show speltB nameI m s.data.toList = false by rw [← ByteArray.toList_eq, List.isEmpty_iff.1 h0]; rfl)
    go_enter Tryz.func105, Tryz.ntmps105
    go_wp2
    go_ret
    exact ⟨ret_bool (by rw [HR.out]), Ext.refl _⟩
  have h0' : s.toList.isEmpty = false := by simpa using h0
  by_cases hl : m < s.size
  · have HR := hid (speltB_long (f := nameI) (m := m) (l := s.data.toList) (by rw [size_list]; exact hl))
    have hl' : (m : Int) < s.size := by omega
    go_enter Tryz.func105, Tryz.ntmps105
    go_wp2
    go_ret
    exact ⟨ret_bool (by rw [HR.out]), Ext.refl _⟩
  have hl' : (s.size : Int) ≤ m := by omega
  have hne : 0 < s.size := by
    rcases Nat.eq_zero_or_pos s.size with h | h
    · exact absurd (by rw [ByteArray.toList_eq, List.isEmpty_iff]; exact List.eq_nil_of_length_eq_zero (by rw [size_list]; exact h)) h0
    · exact h
  go_enter Tryz.func105, Tryz.ntmps105
  clear h0
  go_wp2
  go_loopw [7] (fun _ wr => ∃ pos : Nat, wr = w.iter s pos ∧ pos ≤ s.size ∧ (∀ k, (h : k < s.data.toList.length) → k < pos → nameI s.data.toList[k].toNat = true) ∧ (0 < pos → (h : 0 < s.data.toList.length) → digI s.data.toList[0].toNat = false)) (fun _ wr => s.size - wr.iterPos w.heap.size)
  case atStart => exact ⟨0, rfl, Nat.zero_le _, fun k _ h => absurd h (Nat.not_lt_zero _), fun h => absurd h (Nat.not_lt_zero _)⟩
  case round =>
    obtain ⟨pos, rfl, hps, hall, hdig⟩ := hrel
    have HALL := hid hall
    have HDIG := hid hdig
    clear hall hdig
    by_cases hp : pos < s.size
    · obtain ⟨hp', hc⟩ := at_list s pos hp
      by_cases ha : (s[pos]'hp).toNat < 128
      · have hnx : ∀ ty, (Instr.next (.pointer (some ⟨w.heap.size, 0, none⟩)) true ty).run Tryz.prog (w.iter s pos) = _ := fun ty => run_next_ascii w s pos ty hp ha
        have HC := hid (congrArg UInt8.toNat hc)
        generalize (s[pos]'hp).toNat = c at hnx HC
        clear hc ha
        by_cases hf : nameI (c : Int) = true
        · by_cases hz : pos = 0
          · subst hz
            by_cases hd : digI (c : Int) = true
            · have HR := hid (speltB_digit (f := nameI) (m := m) (l := s.data.toList) hp' (by rw [← HC.out]; exact hd))
              go_wp2_with (first | (go_at_call 149; refine (ofName_any _ _).mono ?_; rintro e w' ⟨rfl, rfl⟩) | (go_at_call 145; refine (digit_any _ _).mono ?_; rintro e w' ⟨rfl, rfl⟩))
              go_ret
              exact ⟨ret_bool (by rw [HR.out]), (Ext.refl _).iter _ _⟩
            · have hd' : digI (c : Int) = false := by simpa using hd
              clear hd
              go_wp2_with (first | (go_at_call 149; refine (ofName_any _ _).mono ?_; rintro e w' ⟨rfl, rfl⟩) | (go_at_call 145; refine (digit_any _ _).mono ?_; rintro e w' ⟨rfl, rfl⟩))
              go_roundw
              case rel => exact ⟨1, rfl, hp, fun k hk h => by
                  obtain rfl : k = 0 := by omega
                  rw [← HC.out]; exact hf, fun _ _ => by rw [← HC.out]; exact hd'⟩
              case measure => simp; omega
          · have hz' : ((pos : Int) == 0) = false := by simp [hz]
            go_wp2_with (first | (go_at_call 149; refine (ofName_any _ _).mono ?_; rintro e w' ⟨rfl, rfl⟩) | (go_at_call 145; refine (digit_any _ _).mono ?_; rintro e w' ⟨rfl, rfl⟩))
            go_roundw
            case rel => exact ⟨pos + 1, rfl, hp, fun k hk h => by
                rcases Nat.lt_or_eq_of_le (Nat.le_of_lt_succ h) with h | h
                · exact HALL.out k hk h
                · subst h; rw [← HC.out]; exact hf, fun _ => HDIG.out (by omega)⟩
            case measure => simp; omega
        · have hf' : nameI (c : Int) = false := by simpa using hf
          have HR := hid (speltB_bad (f := nameI) (m := m) (l := s.data.toList) hp' (by rw [← HC.out]; exact hf'))
          clear hf
          go_wp2_with (first | (go_at_call 149; refine (ofName_any _ _).mono ?_; rintro e w' ⟨rfl, rfl⟩) | (go_at_call 145; refine (digit_any _ _).mono ?_; rintro e w' ⟨rfl, rfl⟩))
          go_ret
          exact ⟨ret_bool (by rw [HR.out]), (Ext.refl _).iter _ _⟩
      · have hhi := (decode_high s pos hp (by omega)).1
        have hnx : ∀ ty, (Instr.next (.pointer (some ⟨w.heap.size, 0, none⟩)) true ty).run Tryz.prog (w.iter s pos) = _ := fun ty => run_next_any w s pos ty hp
        have hf' : nameI ((Utf8.decode s pos).1 : Int) = false := high_nameI (by omega)
        have HR := hid (speltB_bad (f := nameI) (m := m) (l := s.data.toList) hp' (by rw [← hc]; exact high_nameI (by omega)))
        clear hhi ha hc
        go_wp2_with (first | (go_at_call 149; refine (ofName_any _ _).mono ?_; rintro e w' ⟨rfl, rfl⟩) | (go_at_call 145; refine (digit_any _ _).mono ?_; rintro e w' ⟨rfl, rfl⟩))
        go_ret
        exact ⟨ret_bool (by rw [HR.out]), (Ext.refl _).iter _ _⟩
    · have hnx : ∀ ty, (Instr.next (.pointer (some ⟨w.heap.size, 0, none⟩)) true ty).run Tryz.prog (w.iter s pos) = _ := fun ty => run_next_end w s pos ty hp
      have HR := hid (speltB_good (f := nameI) (m := m) (l := s.data.toList) (by rw [size_list]; exact hne) (by rw [size_list]; omega) (fun k h => HALL.out k h (by rw [size_list] at h; omega)) (HDIG.out (by omega) (by rw [size_list]; exact hne)))
      go_wp2
      go_ret
      exact ⟨ret_bool (by rw [HR.out]), (Ext.refl _).iter _ _⟩


theorem word_any (s : ByteArray) (w : World) : Calls Tryz.prog 87 #[.string s] w fun e w' => e = .returned (.bool (speltB wordI 16 s.data.toList)) ∧ Ext w w' := by
  go_enter Tryz.func87, Tryz.ntmps87
  go_wp2_with (go_at_call 105; refine (speltW s 16 _ (by decide)).mono ?_; rintro e w' ⟨rfl, hx⟩)
  go_ret
  exact ⟨rfl, hx⟩
theorem name_any (s : ByteArray) (w : World) : Calls Tryz.prog 121 #[.string s] w fun e w' => e = .returned (.bool (speltB nameI 32 s.data.toList)) ∧ Ext w w' := by
  go_enter Tryz.func121, Tryz.ntmps121
  go_wp2_with (go_at_call 105; refine (speltN s 32 _ (by decide)).mono ?_; rintro e w' ⟨rfl, hx⟩)
  go_ret
  exact ⟨rfl, hx⟩
end Go.Proofs.YtaafcmmmkalgjaaGreatDoor
/-
  Numbers of 64 bits: what is over, powers.
-/
namespace Go.Proofs.YtaafcmmmkalgjaaGreatDoor
open Go.RowKit
/-- A number of 64 bits. -/
def inR (x : Int) : Prop := -9223372036854775808 ≤ x ∧ x ≤ 9223372036854775807
instance (x : Int) : Decidable (inR x) := by unfold inR; infer_instance
theorem natAbs_two {x : Int} (h : ¬ inR x) : 9223372036854775808 ≤ x.natAbs := by unfold inR at h; omega
theorem out_of_abs {x : Int} (h : 9223372036854775809 ≤ x.natAbs) : ¬ inR x := by unfold inR; omega
theorem one_powI : ∀ n : Nat, (1 : Int) ^ n = 1
  | 0 => rfl
  | n + 1 => by rw [Int.pow_succ, one_powI n]; rfl
theorem small_pow (a : Int) (h1 : -1 ≤ a) (h2 : a ≤ 1) : ∀ n, inR (a ^ n)
  | 0 => by simp [inR]
  | n + 1 => by
    obtain rfl | rfl | rfl : a = -1 ∨ a = 0 ∨ a = 1 := by omega
    · have : ((-1 : Int) ^ (n + 1)).natAbs = 1 := by rw [Int.natAbs_pow]; simp
      unfold inR; omega
    · rw [Int.pow_succ]; simp [inR]
    · rw [one_powI]; simp [inR]
/-- Behind a power that is over all are. -/
theorem pow_out (a : Int) (j n : Nat) (h : j ≤ n) (ho : ¬ inR (a ^ j)) : ¬ inR (a ^ n) := by
  by_cases hs : -1 ≤ a ∧ a ≤ 1
  · exact absurd (small_pow a hs.1 hs.2 j) ho
  · by_cases hj : j = n
    · rw [← hj]; exact ho
    · have h2 : 2 ≤ a.natAbs := by omega
      have hb := natAbs_two ho
      rw [Int.natAbs_pow] at hb
      apply out_of_abs
      rw [Int.natAbs_pow]
      have e1 : a.natAbs ^ (j + 1) ≤ a.natAbs ^ n := Nat.pow_le_pow_right (by omega) (by omega)
      have e2 : a.natAbs ^ (j + 1) = a.natAbs ^ j * a.natAbs := Nat.pow_succ _ _
      have e3 : a.natAbs ^ j * 2 ≤ a.natAbs ^ j * a.natAbs := Nat.mul_le_mul_left _ h2
      omega
/-- Of -1, 0, 1 a power comes round again after two factors. -/
theorem pow_round (a : Int) (h1 : -1 ≤ a) (h2 : a ≤ 1) (n : Nat) (hn : 2 < n) : a ^ (2 - n % 2) = a ^ n := by
  obtain rfl | rfl | rfl : a = -1 ∨ a = 0 ∨ a = 1 := by omega
  · rcases Nat.mod_two_eq_zero_or_one n with h | h
    · obtain ⟨k, rfl⟩ : ∃ k, n = 2 * k := ⟨n / 2, by omega⟩
      rw [h, Int.pow_mul, show (-1 : Int) ^ 2 = 1 from rfl, one_powI]; done
    · obtain ⟨k, rfl⟩ : ∃ k, n = 2 * k + 1 := ⟨n / 2, by omega⟩
      rw [h, Int.pow_succ (n := 2 * k), Int.pow_mul, show (-1 : Int) ^ 2 = 1 from rfl, one_powI]; rfl
  · have e1 : 2 - n % 2 ≠ 0 := by omega
    have e2 : n ≠ 0 := by omega
    rw [Int.zero_pow e1, Int.zero_pow e2]
  · rw [one_powI, one_powI]
theorem abs_mul_div (a b : Int) (ha : inR a) (hb : inR b) : a.natAbs < 18446744073709551616 ∧ b.natAbs < 18446744073709551616 := by unfold inR at ha hb; omega
end Go.Proofs.YtaafcmmmkalgjaaGreatDoor
