/-
  What a slice of ints or of texts reads as; rows that a call made itself.
-/
import Derived.Test.YtecabbifkcnbeaaGreatDoorAid
import Derived.Test.YtecabbifkcnbeaaGreatDoorRows
import Derived.OwnWalk
import Derived.Deep.RegionWith
import Derived.WalkSmall
import Derived.Lib.SliceRun
import Derived.LoopTactic
import Derived.Deep.QuietTactic
import Derived.BigQuiet
import Derived.ProofKit
import Derived.OpenShut
import Derived.ChangeSlices
import Derived.SizedLaws
import Derived.Lib.LaidTab
namespace Go.Proofs.YtecabbifkcnbeaaGreatDoor
open Go.RowKit

/-- The slice v reads as vs, a cell each. -/
def Vals (w : World) (v : Value) (vs : List Value) : Prop :=
  (v = .slice none 0 0 ∧ vs = []) ∨ ∃ g off cap, v = .slice (some ⟨g, off, none⟩) vs.length cap ∧ ∀ (j : Nat) (u : Value), vs[j]? = some u → w.cell? ⟨g, off + j, none⟩ = some u
/-- The slice v of ints reads as xs. -/
def Ints (w : World) (v : Value) (xs : List Int) : Prop :=
  ((∃ a c, v = .slice a 0 c) ∧ xs = []) ∨ ∃ g off cap, v = .slice (some ⟨g, off, none⟩) xs.length cap ∧ ∀ (j : Nat) (u : Int), xs[j]? = some u → w.cell? ⟨g, off + j, none⟩ = some (.int .i64 u)
theorem Ints.nil (w : World) (a : Option Addr) (c : Nat) : Ints w (.slice a 0 c) [] := .inl ⟨⟨a, c, rfl⟩, rfl⟩
theorem Ints.shape {w : World} {v : Value} {xs : List Int} (h : Ints w v xs) : ∃ a c, v = .slice a xs.length c := by
  rcases h with ⟨⟨a, c, rfl⟩, rfl⟩ | ⟨g, off, cap, rfl, _⟩
  · exact ⟨_, _, rfl⟩
  · exact ⟨_, _, rfl⟩
theorem lt_of_cell {w : World} {a : Addr} {v : Value} (h : w.cell? a = some v) : a.block < w.heap.size := by
  rcases Nat.lt_or_ge a.block w.heap.size with h' | h'
  · exact h'
  · simp [World.cell?, Array.getElem?_eq_none h'] at h
theorem Ints.later {w w' : World} {v : Value} {xs : List Int} (h : Ints w v xs) (hx : Ext w w') : Ints w' v xs := by
  rcases h with h | ⟨g, off, cap, rfl, hc⟩
  · exact .inl h
  · exact .inr ⟨g, off, cap, rfl, fun j u hu => (Below.cell hx (lt_of_cell (hc j u hu))).trans (hc j u hu)⟩
theorem Vals.later {w w' : World} {v : Value} {xs : List Value} (h : Vals w v xs) (hx : Ext w w') : Vals w' v xs := by
  rcases h with h | ⟨g, off, cap, rfl, hc⟩
  · exact .inl h
  · exact .inr ⟨g, off, cap, rfl, fun j u hu => (Below.cell hx (lt_of_cell (hc j u hu))).trans (hc j u hu)⟩
theorem Vals.own {w : World} {base : Nat} {e : TypeId} {v : Value} {xs : List Value} {n : Nat} (hn : n = xs.length) (h : w.ownsRow base e 1 v n xs) : Vals w v xs := by
  subst hn
  obtain ⟨hl, hr⟩ := h
  rcases hr with ⟨rfl, h0⟩ | ⟨g, cap, cur, rfl, _, hb, h1, h2, h3, h4⟩
  · exact .inl ⟨rfl, List.eq_nil_of_length_eq_zero h0⟩
  · refine .inr ⟨g, 0, cap, rfl, fun j u hu => ?_⟩
    have hj : j < xs.length := (List.getElem?_eq_some_iff.1 hu).1
    have e : cur[j]? = some u := by
      have : (cur.toList.take (xs.length * 1))[j]? = some u := by rw [h4]; exact hu
      rw [List.getElem?_take_of_lt (by omega)] at this
      simpa using this
    rw [Nat.zero_add]
    exact cell_of hb e
theorem Vals.ints {w : World} {v : Value} {xs : List Int} (h : Vals w v (xs.map (Value.int .i64))) : Ints w v xs := by
  rcases h with ⟨rfl, h⟩ | ⟨g, off, cap, rfl, hc⟩
  · exact .inl ⟨⟨none, 0, rfl⟩, List.map_eq_nil_iff.1 h⟩
  · exact .inr ⟨g, off, cap, by simp, fun j u hu => hc j _ (by rw [List.getElem?_map, hu]; rfl)⟩
theorem Ints.own {w : World} {base : Nat} {v : Value} {xs : List Int} {n : Nat} (hn : n = xs.length) (h : w.ownsRow base 3 1 v n (xs.map (Value.int .i64))) : Ints w v xs :=
  Vals.ints (Vals.own (by rw [hn, List.length_map]) h)
theorem Ints.cell {w : World} {a : Option Addr} {n c : Nat} {xs : List Int} (h : Ints w (.slice a n c) xs) : n = xs.length ∧ ∀ (j : Nat) (hj : j < xs.length), ∃ g off, a = some ⟨g, off, none⟩ ∧ w.cell? ⟨g, off + j, none⟩ = some (.int .i64 xs[j]) := by
  rcases h with ⟨⟨a', c', h⟩, rfl⟩ | ⟨g, off, cap, h, hc⟩
  · cases h; exact ⟨rfl, fun j hj => absurd hj (Nat.not_lt_zero _)⟩
  · cases h; exact ⟨rfl, fun j hj => ⟨g, off, rfl, hc j _ (List.getElem?_eq_getElem hj)⟩⟩
theorem intInfo : (Tryz.prog.info? 3).map (fun i => (i.zero, i.size, i.bytes)) = some (some (.int .i64 0), 1, 8) := by kernel_rfl
theorem strInfo : (Tryz.prog.info? 9).map (fun i => (i.zero, i.size, i.bytes)) = some (some (.string ⟨#[]⟩), 1, 16) := by kernel_rfl
theorem row_mono {w : World} {base base' : Nat} {e : TypeId} {v : Value} {n : Nat} {xs : List Value} (h : w.ownsRow base e 1 v n xs) (hb : base' ≤ base) : w.ownsRow base' e 1 v n xs := by
  refine ⟨h.1, ?_⟩
  rcases h.2 with h | ⟨g, cap, cur, h1, h2, h3⟩
  · exact .inl h
  · exact .inr ⟨g, cap, cur, h1, Nat.le_trans hb h2, h3⟩
theorem row_set {w : World} {base T i : Nat} {e : TypeId} {v x : Value} {n : Nat} {xs : List Value} (h : w.ownsRow base e 1 v n xs) (hT : T < base) : (w.setCell ⟨T, i, none⟩ x).ownsRow base e 1 v n xs := by
  refine ⟨h.1, ?_⟩
  rcases h.2 with h | ⟨g, cap, cur, h1, h2, h3, h4⟩
  · exact .inl h
  · exact .inr ⟨g, cap, cur, h1, h2, (Below.heap_setCell w ⟨T, i, none⟩ x g (fun e => by have e' : g = T := e; omega)).trans h3, h4⟩
theorem row_ext {w w' : World} {base : Nat} {e : TypeId} {v : Value} {n : Nat} {xs : List Value} (h : w.ownsRow base e 1 v n xs) (hx : Below w.heap.size w w') : w'.ownsRow base e 1 v n xs := by
  refine ⟨h.1, ?_⟩
  rcases h.2 with h | ⟨g, cap, cur, h1, h2, h3, h4⟩
  · exact .inl h
  · exact .inr ⟨g, cap, cur, h1, h2, (hx.block g (lt_of_block h3)).trans h3, h4⟩
theorem ownsRow_slice {w : World} {base : Nat} {e : TypeId} {v : Value} {n : Nat} {xs : List Value} (h : w.ownsRow base e 1 v n xs) : ∃ a c, v = .slice a n c := by
  rcases h.2 with ⟨rfl, h0⟩ | ⟨g, cap, cur, rfl, _⟩
  · subst h0; exact ⟨_, _, rfl⟩
  · exact ⟨_, _, rfl⟩
theorem ret_int {k : IntKind} {a b : Int} (h : a = b) : Ending.returned (.int k a) = .returned (.int k b) := by rw [h]
theorem ret_bool {a b : Bool} (h : a = b) : Ending.returned (.bool a) = .returned (.bool b) := by rw [h]
theorem Ext.drewN {w w' : World} (h : Ext w w') (n : Nat) : Ext w (w'.drewN n) := below_drewN h n
end Go.Proofs.YtecabbifkcnbeaaGreatDoor
/-
  Texts that are equal.
-/
namespace Go.Proofs.YtecabbifkcnbeaaGreatDoor
open Go.RowKit
theorem toList_inj {a b : ByteArray} (e : a.toList = b.toList) : a = b := by
  rw [ByteArray.toList_eq, ByteArray.toList_eq] at e
  exact ByteArray.ext (Array.toList_inj.1 e)
theorem data_inj {a b : ByteArray} (e : a.data.toList = b.data.toList) : a = b := ByteArray.ext (Array.toList_inj.1 e)
end Go.Proofs.YtecabbifkcnbeaaGreatDoor
/-
  What a plain value in memory reads as; what a step keeps.
-/
namespace Go.Proofs.YtecabbifkcnbeaaGreatDoor
open Go.RowKit

/-- Of the blocks that lay there those of K lie as they lay. -/
structure Kp (K : Nat → Prop) (w w' : World) : Prop where
  os : w'.os = w.os
  tape : w'.tape = w.tape
  output : w'.output = w.output
  size : w.heap.size ≤ w'.heap.size
  block : ∀ k, k < w.heap.size → K k → w'.heap[k]? = w.heap[k]?
theorem Kp.refl (K : Nat → Prop) (w : World) : Kp K w w := ⟨rfl, rfl, rfl, Nat.le_refl _, fun _ _ _ => rfl⟩
theorem Kp.trans {K : Nat → Prop} {a b c : World} (h : Kp K a b) (k : Kp K b c) : Kp K a c :=
  ⟨k.os.trans h.os, k.tape.trans h.tape, k.output.trans h.output, Nat.le_trans h.size k.size, fun i hi hk => (k.block i (Nat.lt_of_lt_of_le hi h.size) hk).trans (h.block i hi hk)⟩
theorem Kp.trans' {K L : Nat → Prop} {n : Nat} {a b c : World} (h : Kp K a b) (k : Kp (fun q => q < n ∨ L q) b c) (hn : a.heap.size ≤ n := by first | exact Nat.le_refl _ | omega) : Kp K a c :=
  ⟨k.os.trans h.os, k.tape.trans h.tape, k.output.trans h.output, Nat.le_trans h.size k.size, fun i hi hk => (k.block i (Nat.lt_of_lt_of_le hi h.size) (.inl (Nat.lt_of_lt_of_le hi hn))).trans (h.block i hi hk)⟩
theorem Kp.mono {K L : Nat → Prop} {a b : World} (h : Kp K a b) (hl : ∀ k, k < a.heap.size → L k → K k) : Kp L a b :=
  ⟨h.os, h.tape, h.output, h.size, fun i hi hk => h.block i hi (hl i hi hk)⟩
theorem Ext.kp {a b : World} (h : Ext a b) (K : Nat → Prop) : Kp K a b := ⟨h.os, h.tape, h.output, h.size, fun i hi _ => Below.block h i hi⟩
theorem Kp.ext {a b : World} {K : Nat → Prop} (h : Kp K a b) (hk : ∀ k, k < a.heap.size → K k) : Ext a b := ⟨h.os, h.tape, h.output, h.size, fun i hi => h.block i hi (hk i hi)⟩
theorem Kp.set {K : Nat → Prop} (w : World) (b i : Nat) (v : Value) (hb : ¬ K b) : Kp K w (w.setCell ⟨b, i, none⟩ v) :=
  ⟨rfl, rfl, rfl, by simp [World.setCell], fun k hk hK => Below.heap_setCell w ⟨b, i, none⟩ v k (fun e => hb (by have e' : k = b := e; rw [← e']; exact hK))⟩
theorem Kp.drew {K : Nat → Prop} {a b : World} (h : Kp K a b) : Kp K a b.drew := h.trans ((Ext.refl b).drew.kp K)
theorem Kp.drewN {K : Nat → Prop} {a b : World} (h : Kp K a b) (n : Nat) : Kp K a (b.drewN n) := h.trans (((Ext.refl b).drewN n).kp K)
theorem Kp.alloc {K : Nat → Prop} {a b : World} (h : Kp K a b) (o : Obj) : Kp K a (b.alloc o) := h.trans ((Ext.alloc b o).kp K)
theorem Kp.block' {K : Nat → Prop} {a b : World} (h : Kp K a b) {k : Nat} {o : Obj} (hb : a.heap[k]? = some o) (hk : K k) : b.heap[k]? = some o := (h.block k (lt_of_block hb) hk).trans hb
theorem Kp.cell {K : Nat → Prop} {a b : World} (h : Kp K a b) {p : Addr} {v : Value} (hc : a.cell? p = some v) (hk : K p.block) : b.cell? p = some v := by
  have e := h.block p.block (lt_of_cell hc) hk
  rw [← hc]
  unfold World.cell?
  rw [e]
theorem set_at {w : World} {b : Nat} {cs : Array Value} {t : TypeId} (h : w.heap[b]? = some (.cells cs t)) (i : Nat) (v : Value) : (w.setCell ⟨b, i, none⟩ v).heap[b]? = some (.cells (cs.setIfInBounds i v) t) := by
  simp only [World.setCell]
  rw [Array.getElem?_modify, if_pos rfl, h]
  simp
theorem set_other {w : World} {b b' i : Nat} {o : Obj} (h : w.heap[b]? = some o) (hne : b ≠ b') (v : Value) : (w.setCell ⟨b', i, none⟩ v).heap[b]? = some o :=
  (Below.heap_setCell w ⟨b', i, none⟩ v b hne).trans h
theorem blkN {w : World} {o : Obj} {n : Nat} (h : w.heap.size = n) : (w.alloc o).heap[n]? = some o := h ▸ blk0 w o
theorem size_set (w : World) (p : Addr) (v : Value) : (w.setCell p v).heap.size = w.heap.size := by simp [World.setCell]
theorem Kp.extOf {w w1 w' : World} {b : Nat} (h : Ext w w1) (hk : Kp (· ≠ b) w1 w') (hb : w.heap.size ≤ b) : Ext w w' :=
  ⟨hk.os.trans h.os, hk.tape.trans h.tape, hk.output.trans h.output, Nat.le_trans h.size hk.size, fun i hi => (hk.block i (Nat.lt_of_lt_of_le hi h.size) (fun e => by have e' : i = b := e; omega)).trans (Below.block h i hi)⟩
/-- Four cells written. -/
def set4A (cs : Array Value) (i : Nat) (v0 v1 v2 v3 : Value) : Array Value := (((cs.setIfInBounds i v0).setIfInBounds (i + 1) v1).setIfInBounds (i + 2) v2).setIfInBounds (i + 3) v3
theorem set4A_size (cs : Array Value) (i : Nat) (v0 v1 v2 v3 : Value) : (set4A cs i v0 v1 v2 v3).size = cs.size := by simp [set4A]
theorem set4A_get {cs : Array Value} {i : Nat} (v0 v1 v2 v3 : Value) (h : i + 3 < cs.size) : (set4A cs i v0 v1 v2 v3)[i]? = some v0 ∧ (set4A cs i v0 v1 v2 v3)[i + 1]? = some v1 ∧ (set4A cs i v0 v1 v2 v3)[i + 2]? = some v2 ∧ (set4A cs i v0 v1 v2 v3)[i + 3]? = some v3 := by
  refine ⟨?_, ?_, ?_, ?_⟩ <;> simp [set4A, Array.getElem?_setIfInBounds] <;> omega
theorem set4A_other {cs : Array Value} {i j : Nat} (v0 v1 v2 v3 : Value) (h : j < i ∨ i + 3 < j) : (set4A cs i v0 v1 v2 v3)[j]? = cs[j]? := by
  have h1 : ¬ i = j := by omega
  have h2 : ¬ i + 1 = j := by omega
  have h3 : ¬ i + 2 = j := by omega
  have h4 : ¬ i + 3 = j := by omega
  simp [set4A, h1, h2, h3, h4]
theorem set4_block {w : World} {g : Nat} {cs : Array Value} {t : TypeId} (h : w.heap[g]? = some (.cells cs t)) (i : Nat) (v0 v1 v2 v3 : Value) :
    ((((w.setCell ⟨g, i, none⟩ v0).setCell ⟨g, i + 1, none⟩ v1).setCell ⟨g, i + 2, none⟩ v2).setCell ⟨g, i + 3, none⟩ v3).heap[g]? = some (.cells (set4A cs i v0 v1 v2 v3) t) := set_at (set_at (set_at (set_at h _ _) _ _) _ _) _ _
theorem Kp.set4 (w : World) (g i : Nat) (v0 v1 v2 v3 : Value) : Kp (· ≠ g) w ((((w.setCell ⟨g, i, none⟩ v0).setCell ⟨g, i + 1, none⟩ v1).setCell ⟨g, i + 2, none⟩ v2).setCell ⟨g, i + 3, none⟩ v3) :=
  (((Kp.set w g i v0 (fun h => h rfl)).trans (Kp.set _ g _ v1 (fun h => h rfl))).trans (Kp.set _ g _ v2 (fun h => h rfl))).trans (Kp.set _ g _ v3 (fun h => h rfl))
/-- Four cells in a row. -/
def Four (w : World) (g i : Nat) (v0 v1 v2 v3 : Value) : Prop :=
  w.cell? ⟨g, i, none⟩ = some v0 ∧ w.cell? ⟨g, i + 1, none⟩ = some v1 ∧ w.cell? ⟨g, i + 2, none⟩ = some v2 ∧ w.cell? ⟨g, i + 3, none⟩ = some v3
theorem Four.keep {K : Nat → Prop} {w w' : World} {g i : Nat} {v0 v1 v2 v3 : Value} (h : Four w g i v0 v1 v2 v3) (hk : Kp K w w') (hg : K g) : Four w' g i v0 v1 v2 v3 :=
  ⟨hk.cell h.1 hg, hk.cell h.2.1 hg, hk.cell h.2.2.1 hg, hk.cell h.2.2.2 hg⟩
/-- What the plain value v reads as, within d levels; its lists lie in blocks of K. -/
def Rd (K : Nat → Prop) (w : World) : Nat → Value → T → Prop
  | 0, _, _ => False
  | d + 1, v, .node k n x ks => ∃ a c, v = .agg #[.int .i64 k, .int .i64 n, .string x, .slice a ks.length c] ∧ x.size ≤ 140737488351232 ∧ ks.length * 56 ≤ 140737488351232 ∧
      (ks = [] ∨ ∃ g off, a = some ⟨g, off, none⟩ ∧ K g ∧ ∀ j, (h : j < ks.length) → ∃ u0 u1 u2 u3, Four w g (off + j * 4) u0 u1 u2 u3 ∧ Rd K w d (.agg #[u0, u1, u2, u3]) ks[j])
theorem Rd.shape {K : Nat → Prop} {w : World} {d : Nat} {u0 u1 u2 u3 : Value} {t : T} (h : Rd K w d (.agg #[u0, u1, u2, u3]) t) : ∃ k n x a c, u0 = .int .i64 k ∧ u1 = .int .i64 n ∧ u2 = .string x ∧ u3 = .slice a t.kids.length c := by
  obtain ⟨k, n, x, ks⟩ := t
  cases d with
  | zero => exact h.elim
  | succ d =>
    obtain ⟨a, c, h, _⟩ := h
    simp only [Value.agg.injEq, Array.mk.injEq, List.cons.injEq, and_true] at h
    exact ⟨k, n, x, a, c, h.1, h.2.1, h.2.2.1, h.2.2.2⟩
theorem Rd.agg {K : Nat → Prop} {w : World} {d : Nat} {v : Value} {t : T} (h : Rd K w d v t) : ∃ u0 u1 u2 u3, v = .agg #[u0, u1, u2, u3] := by
  obtain ⟨k, n, x, ks⟩ := t
  cases d with
  | zero => exact h.elim
  | succ d =>
    obtain ⟨a, c, rfl, _⟩ := h
    exact ⟨_, _, _, _, rfl⟩
theorem Rd.keep {K : Nat → Prop} {w w' : World} (hk : Kp K w w') : ∀ {d : Nat} {v : Value} {t : T}, Rd K w d v t → Rd K w' d v t
  | 0, _, _, h => h
  | d + 1, v, .node k n x ks, ⟨a, c, h1, h3, h4, h5⟩ => ⟨a, c, h1, h3, h4, h5.imp id fun ⟨g, off, ha, hg, hc⟩ => ⟨g, off, ha, hg, fun j hj => by
      obtain ⟨u0, u1, u2, u3, hf, hr⟩ := hc j hj
      exact ⟨u0, u1, u2, u3, hf.keep hk hg, Rd.keep hk hr⟩⟩⟩
theorem Rd.mono {K L : Nat → Prop} {w : World} (hl : ∀ k, k < w.heap.size → K k → L k) : ∀ {d : Nat} {v : Value} {t : T}, Rd K w d v t → Rd L w d v t
  | 0, _, _, h => h
  | d + 1, v, .node k n x ks, ⟨a, c, h1, h3, h4, h5⟩ => ⟨a, c, h1, h3, h4, by
      rcases h5 with h5 | ⟨g, off, ha, hg, hc⟩
      · exact .inl h5
      · by_cases h0 : 0 < ks.length
        · refine .inr ⟨g, off, ha, ?_, fun j hj => ?_⟩
          · obtain ⟨u0, u1, u2, u3, hf, _⟩ := hc 0 h0
            exact hl g (lt_of_cell hf.1) hg
          · obtain ⟨u0, u1, u2, u3, hf, hr⟩ := hc j hj
            exact ⟨u0, u1, u2, u3, hf, Rd.mono hl hr⟩
        · exact .inl (List.eq_nil_of_length_eq_zero (by omega))⟩
theorem Rd.low {K : Nat → Prop} {w : World} {d : Nat} {v : Value} {t : T} (h : Rd K w d v t) : Rd (· < w.heap.size) w d v t := h.mono (fun _ hk _ => hk)
theorem Rd.later {K : Nat → Prop} {w w' : World} {d : Nat} {v : Value} {t : T} (h : Rd K w d v t) (hx : Ext w w') : Rd K w' d v t := h.keep (hx.kp K)
end Go.Proofs.YtecabbifkcnbeaaGreatDoor
/-
  A plain value that comes in, opened.
-/
namespace Go.Proofs.YtecabbifkcnbeaaGreatDoor
open Go.ChangeShapes Go.WideShapes Go.ChangeAt Go.RowKit
set_option maxRecDepth 100000
theorem cells_3 : Tryz.prog.cellsOf 3 = 1 := by kernel_rfl
theorem cells_2 : Tryz.prog.cellsOf 2 = 1 := by kernel_rfl
theorem cells_9 : Tryz.prog.cellsOf 9 = 1 := by kernel_rfl
theorem cells_24 : Tryz.prog.cellsOf 24 = 1 := by kernel_rfl
theorem cells_34 : Tryz.prog.cellsOf 34 = 4 := by kernel_rfl
theorem bytes_34 : Tryz.prog.bytesOf 34 = 56 := by kernel_rfl
theorem Rd.deep {K : Nat → Prop} {w : World} : ∀ {d : Nat} {v : Value} {t : T}, Rd K w d v t → Rd K w (d + 1) v t
  | 0, _, _, h => h.elim
  | d + 1, v, .node k n x ks, ⟨a, c, h1, h3, h4, h5⟩ => ⟨a, c, h1, h3, h4, h5.imp id fun ⟨g, off, ha, hg, hc⟩ => ⟨g, off, ha, hg, fun j hj => by
      obtain ⟨u0, u1, u2, u3, hf, hr⟩ := hc j hj
      exact ⟨u0, u1, u2, u3, hf, Rd.deep hr⟩⟩⟩
theorem list4 {α : Type} {l : List α} (h : l.length = 4) : ∃ c0 c1 c2 c3, l = [c0, c1, c2, c3] := by
  rcases l with _ | ⟨c0, _ | ⟨c1, _ | ⟨c2, _ | ⟨c3, _ | ⟨c4, l⟩⟩⟩⟩⟩
  all_goals first
    | exact ⟨_, _, _, _, rfl⟩
    | (simp at h; done)
theorem array4 {cs : Array Value} (h : cs.size = 4) : ∃ c0 c1 c2 c3, cs = #[c0, c1, c2, c3] := by
  obtain ⟨l⟩ := cs
  obtain ⟨c0, c1, c2, c3, rfl⟩ := list4 (l := l) (by simpa using h)
  exact ⟨_, _, _, _, rfl⟩
theorem weightsAll_mem {H : Type} {P : Program} {e : TypeId} {d : DataW H} {l : List (DataW H)} (h : d ∈ l) {n : Nat} (hn : n ∈ DataW.weights P e d) : n ∈ DataW.weightsAll P e l := by
  induction l with
  | nil => cases h
  | cons x r ih =>
    simp only [DataW.weightsAll, List.mem_append]
    rcases List.mem_cons.1 h with rfl | h
    · exact .inl hn
    · exact .inr (ih h)
theorem text_reach (s : ByteArray) (h : s.data.toList.length ≤ reachBytes) : s.size ≤ 140737488351232 := by
  have e : s.data.toList.length = s.size := by rw [Array.length_toList]; rfl
  rw [e] at h
  exact h
theorem cell_spot {w : World} {g off : Nat} {sp : Option _} {v : Value} (h : w.cell? ⟨g, off, sp⟩ = some v) : sp = none := by
  cases sp with
  | none => rfl
  | some s =>
    exfalso
    unfold World.cell? at h
    split at h <;> simp at h
theorem ks_of {n : Nat} {P : Nat → T → Prop} (h : ∀ j, j < n → ∃ t, P j t) : ∃ ks : List T, ks.length = n ∧ ∀ j, (hj : j < ks.length) → P j ks[j] := by
  induction n with
  | zero => exact ⟨[], rfl, fun j hj => absurd hj (Nat.not_lt_zero _)⟩
  | succ n ih =>
    obtain ⟨ks, hl, hp⟩ := ih (fun j hj => h j (by omega))
    obtain ⟨t, ht⟩ := h n (by omega)
    refine ⟨ks ++ [t], by simp [hl], fun j hj => ?_⟩
    by_cases hjn : j < ks.length
    · rw [List.getElem_append_left hjn]; exact hp j hjn
    · have : j = ks.length := by simp at hj; omega
      subst this
      simp [hl]
      exact ht
section
variable {H : Type} {enc : TypeId × Value → H} {W : World}
set_option maxHeartbeats 1000000 in
theorem plain_read : ∀ (m : Nat) {b0 b1 b2 b3 : Value} {y : DataW H × List MemPlace}, DataW.trod enc Tryz.prog W 0 (fun _ => true) true m 34 [b0, b1, b2, b3] = some y →
    (DataW.weights Tryz.prog 34 y.1).all (· ≤ reachBytes) = true → ∃ t, Rd (fun _ => True) W m (.agg #[b0, b1, b2, b3]) t := by
  intro m
  induction m using Nat.strongRecOn with
  | ind m ih =>
  intro b0 b1 b2 b3 y h hz
  obtain ⟨ys, k, hm, hx, _, hl, hfld⟩ := DataW.trod_struct Tryz.underlying34 h
  subst hm
  obtain ⟨y0, y1, y2, y3, rfl⟩ := list4 (hl.trans rfl)
  have g0 : DataW.trod enc Tryz.prog W 0 (fun _ => true) true k 3 [b0] = some y0 := by have := hfld 0 _ rfl; simpa [cells_3] using this
  have g1 : DataW.trod enc Tryz.prog W 0 (fun _ => true) true k 2 [b1] = some y1 := by have := hfld 1 _ rfl; simpa [cells_2] using this
  have g2 : DataW.trod enc Tryz.prog W 0 (fun _ => true) true k 9 [b2] = some y2 := by have := hfld 2 _ rfl; simpa [cells_9] using this
  have g3 : DataW.trod enc Tryz.prog W 0 (fun _ => true) true k 24 [b3] = some y3 := by have := hfld 3 _ rfl; simpa [cells_24] using this
  obtain ⟨kd, e0, rfl, _⟩ := DataW.trod_int Tryz.underlying3 g0
  obtain ⟨n, e1, rfl, _⟩ := DataW.trod_int Tryz.underlying2 g1
  obtain ⟨tx, e2, rfl, _⟩ := DataW.trod_string Tryz.underlying9 g2
  simp only [List.cons.injEq, and_true] at e0 e1 e2
  subst e0; subst e1; subst e2
  subst hx
  simp only [List.map_cons, List.map_nil, DataW.weights, Tryz.underlying34, DataW.weightsEach, List.nil_append, List.append_nil, List.cons_append, List.all_cons, Bool.and_eq_true, decide_eq_true_eq] at hz
  obtain ⟨z2, z3⟩ := hz
  have s2 := text_reach tx z2
  rcases DataW.trod_slice Tryz.underlying24 g3 with ⟨h0, _⟩ | ⟨a, len, cap, elems, rest, m, hm, h0, hx, _, hlc, _, hel, hat, _, _⟩
  · simp only [List.cons.injEq, and_true] at h0
    subst h0
    exact ⟨.node kd n tx [], none, 0, rfl, s2, by decide, .inl rfl⟩
  simp only [List.cons.injEq, and_true] at h0
  subst h0; subst hx; subst hm
  by_cases hl0 : len = 0
  · subst hl0
    exact ⟨.node kd n tx [], some a, cap, rfl, s2, by decide, .inl rfl⟩
  simp only [DataW.weights, Tryz.underlying24, List.all_cons, List.all_append, Bool.and_eq_true, List.length_map, bytes_34, reachBytes] at z3
  obtain ⟨z31, z32, _⟩ := z3
  have z30 : (elems.length + rest.length) * 56 ≤ 140737488351232 := of_decide_eq_true z31
  have kid : ∀ i, i < len → ∃ u0 u1 u2 u3, W.cell? (a.add (i * 4)) = some u0 ∧ W.cell? ((a.add (i * 4)).add 1) = some u1 ∧ W.cell? ((a.add (i * 4)).add 2) = some u2 ∧ W.cell? ((a.add (i * 4)).add 3) = some u3 ∧ ∃ t, Rd (fun _ => True) W m (.agg #[u0, u1, u2, u3]) t := fun i hi => by
    have hi' : i < elems.length := by omega
    have h1 := hat i hi
    rw [cells_34, List.getElem?_eq_getElem hi'] at h1
    obtain ⟨cs, hcs, htr⟩ := Option.bind_eq_some_iff.1 h1
    unfold World.cells? at hcs
    rw [if_pos (Nat.zero_le _)] at hcs
    obtain ⟨x0, x1, x2, x3, rfl⟩ := list4 (by simpa using Lib.mapM_length hcs)
    have cell : ∀ (j : Nat) (b : Value), j < 4 → [x0, x1, x2, x3][j]? = some b → W.cell? ((a.add (i * 4)).add j) = some b := fun j b hj hb => by
      obtain ⟨b', h2, h3⟩ := Lib.mapM_at hcs j j (by rw [List.getElem?_range hj])
      rw [hb] at h2
      rw [h3, ← Option.some.inj h2]
    have c0 := cell 0 _ (by decide) rfl
    have ea : ∀ b : Addr, b.add 0 = b := fun b => by simp [Addr.add]
    rw [ea] at c0
    refine ⟨x0, x1, x2, x3, c0, cell 1 _ (by decide) rfl, cell 2 _ (by decide) rfl, cell 3 _ (by decide) rfl, ih m (by omega) htr (List.all_eq_true.2 fun n hn => ?_)⟩
    exact List.all_eq_true.1 z32 n (weightsAll_mem (List.mem_map.2 ⟨_, List.getElem_mem hi', rfl⟩) hn)
  obtain ⟨g, off, sp⟩ := a
  have hsp : sp = none := by
    obtain ⟨u0, _, _, _, h0, _⟩ := kid 0 (by omega)
    have e0 : Addr.add ⟨g, off, sp⟩ (0 * 4) = ⟨g, off, sp⟩ := by simp [Addr.add]
    rw [e0] at h0
    exact cell_spot h0
  subst hsp
  have ea : ∀ p j, Addr.add ⟨g, p, none⟩ j = ⟨g, p + j, none⟩ := fun p j => by
    by_cases hj : j = 0
    · subst hj; simp [Addr.add]
    · simp [Addr.add, hj]
  simp only [ea] at kid
  obtain ⟨ks, hkl, hks⟩ := ks_of (n := len) (P := fun i t => ∃ u0 u1 u2 u3, Four W g (off + i * 4) u0 u1 u2 u3 ∧ Rd (fun _ => True) W m (.agg #[u0, u1, u2, u3]) t) (fun i hi => by
    obtain ⟨u0, u1, u2, u3, h0, h1, h2, h3, t, ht⟩ := kid i hi
    exact ⟨t, u0, u1, u2, u3, ⟨h0, h1, h2, h3⟩, ht⟩)
  refine ⟨.node kd n tx ks, Rd.deep (d := m + 1) ⟨some ⟨g, off, none⟩, cap, by rw [hkl], s2, by rw [hkl]; omega, .inr ⟨g, off, rfl, trivial, hks⟩⟩⟩
theorem plain_open {r : Reach} {b0 : Nat} {v : Value} {d : DataW H} {p : List MemPlace} (hv : Value.okWide Tryz.prog W r b0 34 v) (h : DataW.Trod enc Tryz.prog W 0 (fun _ => true) true 34 v d p)
    (hz : (DataW.weights Tryz.prog 34 d).all (· ≤ reachBytes) = true) : ∃ m t, Rd (fun _ => True) W m v t := by
  simp only [Value.okWide, Tryz.underlying34] at hv
  obtain ⟨cs, rfl, hs, _⟩ := hv
  obtain ⟨c0, c1, c2, c3, rfl⟩ := array4 (hs.trans cells_34)
  obtain ⟨fuel, hf⟩ := h
  obtain ⟨t, ht⟩ := plain_read (y := (d, p)) fuel hf hz
  exact ⟨fuel, t, ht⟩
end
end Go.Proofs.YtecabbifkcnbeaaGreatDoor
