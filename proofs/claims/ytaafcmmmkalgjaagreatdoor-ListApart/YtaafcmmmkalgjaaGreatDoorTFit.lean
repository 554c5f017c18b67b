/-
  What a plain value in memory reads as; what a step keeps.
-/
import Derived.Test.YtaafcmmmkalgjaaGreatDoorMath
import Derived.Test.YtaafcmmmkalgjaaGreatDoorNMath
namespace Go.Proofs.YtaafcmmmkalgjaaGreatDoor
open Go.RowKit

/-- Of the blocks that lay there those of K lie as they lay. -/
structure Kp (K : Nat → Prop) (w w' : World) : Prop where
  os : w'.os = w.os
  tape : w'.tape = w.tape
  output : w'.output = w.output
  size : w.heap.size ≤ w'.heap.size
  block : ∀ k, k < w.heap.size → K k → w'.heap[k]? = w.heap[k]?
theorem Kp.refl (K : Nat → Prop) (w : World) : Kp K w w := ⟨rfl, rfl, rfl, Nat.le_refl _, fun _ _ _ => rfl⟩
theorem Kp.trans {K : Nat → Prop} {a b c : World} (h : Kp K a b) (k : Kp K b c) : Kp K a c :=
  ⟨k.os.trans h.os, k.tape.trans h.tape, k.output.trans h.output, Nat.le_trans h.size k.size, fun i hi hk => (k.block i (Nat.lt_of_lt_of_le hi h.size) hk).trans (h.block i hi hk)⟩
theorem Kp.trans' {K L : Nat → Prop} {n : Nat} {a b c : World} (h : Kp K a b) (k : Kp (fun q => q < n ∨ L q) b c) (hn : a.heap.size ≤ n := by first | exact Nat.le_refl _ | omega) : Kp K a c :=
  ⟨k.os.trans h.os, k.tape.trans h.tape, k.output.trans h.output, Nat.le_trans h.size k.size, fun i hi hk => (k.block i (Nat.lt_of_lt_of_le hi h.size) (.inl (Nat.lt_of_lt_of_le hi hn))).trans (h.block i hi hk)⟩
theorem Kp.mono {K L : Nat → Prop} {a b : World} (h : Kp K a b) (hl : ∀ k, k < a.heap.size → L k → K k) : Kp L a b :=
  ⟨h.os, h.tape, h.output, h.size, fun i hi hk => h.block i hi (hl i hi hk)⟩
theorem Ext.kp {a b : World} (h : Ext a b) (K : Nat → Prop) : Kp K a b := ⟨h.os, h.tape, h.output, h.size, fun i hi _ => Below.block h i hi⟩
theorem Kp.ext {a b : World} {K : Nat → Prop} (h : Kp K a b) (hk : ∀ k, k < a.heap.size → K k) : Ext a b := ⟨h.os, h.tape, h.output, h.size, fun i hi => h.block i hi (hk i hi)⟩
theorem Kp.set {K : Nat → Prop} (w : World) (b i : Nat) (v : Value) (hb : ¬ K b) : Kp K w (w.setCell ⟨b, i, none⟩ v) :=
  ⟨rfl, rfl, rfl, by simp [World.setCell], fun k hk hK => Below.heap_setCell w ⟨b, i, none⟩ v k (fun e => hb (by have e' : k = b := e; rw [← e']; exact hK))⟩
theorem Kp.drew {K : Nat → Prop} {a b : World} (h : Kp K a b) : Kp K a b.drew := h.trans ((Ext.refl b).drew.kp K)
theorem Kp.drewN {K : Nat → Prop} {a b : World} (h : Kp K a b) (n : Nat) : Kp K a (b.drewN n) := h.trans (((Ext.refl b).drewN n).kp K)
theorem Kp.alloc {K : Nat → Prop} {a b : World} (h : Kp K a b) (o : Obj) : Kp K a (b.alloc o) := h.trans ((Ext.alloc b o).kp K)
theorem Kp.block' {K : Nat → Prop} {a b : World} (h : Kp K a b) {k : Nat} {o : Obj} (hb : a.heap[k]? = some o) (hk : K k) : b.heap[k]? = some o := (h.block k (lt_of_block hb) hk).trans hb
theorem Kp.cell {K : Nat → Prop} {a b : World} (h : Kp K a b) {p : Addr} {v : Value} (hc : a.cell? p = some v) (hk : K p.block) : b.cell? p = some v := by
  have e := h.block p.block (lt_of_cell hc) hk
  rw [← hc]
  unfold World.cell?
  rw [e]
theorem set_at {w : World} {b : Nat} {cs : Array Value} {t : TypeId} (h : w.heap[b]? = some (.cells cs t)) (i : Nat) (v : Value) : (w.setCell ⟨b, i, none⟩ v).heap[b]? = some (.cells (cs.setIfInBounds i v) t) := by
  simp only [World.setCell]
  rw [Array.getElem?_modify, if_pos rfl, h]
  simp
theorem set_other {w : World} {b b' i : Nat} {o : Obj} (h : w.heap[b]? = some o) (hne : b ≠ b') (v : Value) : (w.setCell ⟨b', i, none⟩ v).heap[b]? = some o :=
  (Below.heap_setCell w ⟨b', i, none⟩ v b hne).trans h
theorem blkN {w : World} {o : Obj} {n : Nat} (h : w.heap.size = n) : (w.alloc o).heap[n]? = some o := h ▸ blk0 w o
theorem size_set (w : World) (p : Addr) (v : Value) : (w.setCell p v).heap.size = w.heap.size := by simp [World.setCell]
theorem Kp.extOf {w w1 w' : World} {b : Nat} (h : Ext w w1) (hk : Kp (· ≠ b) w1 w') (hb : w.heap.size ≤ b) : Ext w w' :=
  ⟨hk.os.trans h.os, hk.tape.trans h.tape, hk.output.trans h.output, Nat.le_trans h.size hk.size, fun i hi => (hk.block i (Nat.lt_of_lt_of_le hi h.size) (fun e => by have e' : i = b := e; omega)).trans (Below.block h i hi)⟩
/-- Four cells written. -/
def set4A (cs : Array Value) (i : Nat) (v0 v1 v2 v3 : Value) : Array Value := (((cs.setIfInBounds i v0).setIfInBounds (i + 1) v1).setIfInBounds (i + 2) v2).setIfInBounds (i + 3) v3
theorem set4A_size (cs : Array Value) (i : Nat) (v0 v1 v2 v3 : Value) : (set4A cs i v0 v1 v2 v3).size = cs.size := by simp [set4A]
theorem set4A_get {cs : Array Value} {i : Nat} (v0 v1 v2 v3 : Value) (h : i + 3 < cs.size) : (set4A cs i v0 v1 v2 v3)[i]? = some v0 ∧ (set4A cs i v0 v1 v2 v3)[i + 1]? = some v1 ∧ (set4A cs i v0 v1 v2 v3)[i + 2]? = some v2 ∧ (set4A cs i v0 v1 v2 v3)[i + 3]? = some v3 := by
  refine ⟨?_, ?_, ?_, ?_⟩ <;> simp [set4A, Array.getElem?_setIfInBounds] <;> omega
theorem set4A_other {cs : Array Value} {i j : Nat} (v0 v1 v2 v3 : Value) (h : j < i ∨ i + 3 < j) : (set4A cs i v0 v1 v2 v3)[j]? = cs[j]? := by
  have h1 : ¬ i = j := by omega
  have h2 : ¬ i + 1 = j := by omega
  have h3 : ¬ i + 2 = j := by omega
  have h4 : ¬ i + 3 = j := by omega
  simp [set4A, h1, h2, h3, h4]
theorem set4_block {w : World} {g : Nat} {cs : Array Value} {t : TypeId} (h : w.heap[g]? = some (.cells cs t)) (i : Nat) (v0 v1 v2 v3 : Value) :
    ((((w.setCell ⟨g, i, none⟩ v0).setCell ⟨g, i + 1, none⟩ v1).setCell ⟨g, i + 2, none⟩ v2).setCell ⟨g, i + 3, none⟩ v3).heap[g]? = some (.cells (set4A cs i v0 v1 v2 v3) t) := set_at (set_at (set_at (set_at h _ _) _ _) _ _) _ _
theorem Kp.set4 (w : World) (g i : Nat) (v0 v1 v2 v3 : Value) : Kp (· ≠ g) w ((((w.setCell ⟨g, i, none⟩ v0).setCell ⟨g, i + 1, none⟩ v1).setCell ⟨g, i + 2, none⟩ v2).setCell ⟨g, i + 3, none⟩ v3) :=
  (((Kp.set w g i v0 (fun h => h rfl)).trans (Kp.set _ g _ v1 (fun h => h rfl))).trans (Kp.set _ g _ v2 (fun h => h rfl))).trans (Kp.set _ g _ v3 (fun h => h rfl))
/-- Four cells in a row. -/
def Four (w : World) (g i : Nat) (v0 v1 v2 v3 : Value) : Prop :=
  w.cell? ⟨g, i, none⟩ = some v0 ∧ w.cell? ⟨g, i + 1, none⟩ = some v1 ∧ w.cell? ⟨g, i + 2, none⟩ = some v2 ∧ w.cell? ⟨g, i + 3, none⟩ = some v3
theorem Four.keep {K : Nat → Prop} {w w' : World} {g i : Nat} {v0 v1 v2 v3 : Value} (h : Four w g i v0 v1 v2 v3) (hk : Kp K w w') (hg : K g) : Four w' g i v0 v1 v2 v3 :=
  ⟨hk.cell h.1 hg, hk.cell h.2.1 hg, hk.cell h.2.2.1 hg, hk.cell h.2.2.2 hg⟩
/-- What the plain value v reads as, within d levels; its lists lie in blocks of K. -/
def Rd (K : Nat → Prop) (w : World) : Nat → Value → T → Prop
  | 0, _, _ => False
  | d + 1, v, .node k n x ks => ∃ a c, v = .agg #[.int .i64 k, .int .i64 n, .string x, .slice a ks.length c] ∧ x.size ≤ 140737488351232 ∧ ks.length * 56 ≤ 140737488351232 ∧
      (ks = [] ∨ ∃ g off, a = some ⟨g, off, none⟩ ∧ K g ∧ ∀ j, (h : j < ks.length) → ∃ u0 u1 u2 u3, Four w g (off + j * 4) u0 u1 u2 u3 ∧ Rd K w d (.agg #[u0, u1, u2, u3]) ks[j])
theorem Rd.shape {K : Nat → Prop} {w : World} {d : Nat} {u0 u1 u2 u3 : Value} {t : T} (h : Rd K w d (.agg #[u0, u1, u2, u3]) t) : ∃ k n x a c, u0 = .int .i64 k ∧ u1 = .int .i64 n ∧ u2 = .string x ∧ u3 = .slice a t.kids.length c := by
  obtain ⟨k, n, x, ks⟩ := t
  cases d with
  | zero => exact h.elim
  | succ d =>
    obtain ⟨a, c, h, _⟩ := h
    simp only [Value.agg.injEq, Array.mk.injEq, List.cons.injEq, and_true] at h
    exact ⟨k, n, x, a, c, h.1, h.2.1, h.2.2.1, h.2.2.2⟩
theorem Rd.agg {K : Nat → Prop} {w : World} {d : Nat} {v : Value} {t : T} (h : Rd K w d v t) : ∃ u0 u1 u2 u3, v = .agg #[u0, u1, u2, u3] := by
  obtain ⟨k, n, x, ks⟩ := t
  cases d with
  | zero => exact h.elim
  | succ d =>
    obtain ⟨a, c, rfl, _⟩ := h
    exact ⟨_, _, _, _, rfl⟩
theorem Rd.keep {K : Nat → Prop} {w w' : World} (hk : Kp K w w') : ∀ {d : Nat} {v : Value} {t : T}, Rd K w d v t → Rd K w' d v t
  | 0, _, _, h => h
  | d + 1, v, .node k n x ks, ⟨a, c, h1, h3, h4, h5⟩ => ⟨a, c, h1, h3, h4, h5.imp id fun ⟨g, off, ha, hg, hc⟩ => ⟨g, off, ha, hg, fun j hj => by
      obtain ⟨u0, u1, u2, u3, hf, hr⟩ := hc j hj
      exact ⟨u0, u1, u2, u3, hf.keep hk hg, Rd.keep hk hr⟩⟩⟩
theorem Rd.mono {K L : Nat → Prop} {w : World} (hl : ∀ k, k < w.heap.size → K k → L k) : ∀ {d : Nat} {v : Value} {t : T}, Rd K w d v t → Rd L w d v t
  | 0, _, _, h => h
  | d + 1, v, .node k n x ks, ⟨a, c, h1, h3, h4, h5⟩ => ⟨a, c, h1, h3, h4, by
      rcases h5 with h5 | ⟨g, off, ha, hg, hc⟩
      · exact .inl h5
      · by_cases h0 : 0 < ks.length
        · refine .inr ⟨g, off, ha, ?_, fun j hj => ?_⟩
          · obtain ⟨u0, u1, u2, u3, hf, _⟩ := hc 0 h0
            exact hl g (lt_of_cell hf.1) hg
          · obtain ⟨u0, u1, u2, u3, hf, hr⟩ := hc j hj
            exact ⟨u0, u1, u2, u3, hf, Rd.mono hl hr⟩
        · exact .inl (List.eq_nil_of_length_eq_zero (by omega))⟩
theorem Rd.low {K : Nat → Prop} {w : World} {d : Nat} {v : Value} {t : T} (h : Rd K w d v t) : Rd (· < w.heap.size) w d v t := h.mono (fun _ hk _ => hk)
theorem Rd.later {K : Nat → Prop} {w w' : World} {d : Nat} {v : Value} {t : T} (h : Rd K w d v t) (hx : Ext w w') : Rd K w' d v t := h.keep (hx.kp K)
end Go.Proofs.YtaafcmmmkalgjaaGreatDoor
/-
  What a value in memory stands for; values in memory of their own.
-/
namespace Go.Proofs.YtaafcmmmkalgjaaGreatDoor
open Go.RowKit
/-- The plain value that the value v stands for, within d levels; its lists lie in blocks of K. -/
def VRd (K : Nat → Prop) (w : World) : Nat → Value → T → Prop
  | 0, _, _ => False
  | d + 1, v, .node k n x ks =>
    (k = 1 ∧ n = 0 ∧ x = ⟨#[]⟩ ∧ ks = [] ∧ v = .iface 172 (.agg #[])) ∨
    (k = 2 ∧ x = ⟨#[]⟩ ∧ ks = [] ∧ ∃ b : Bool, n = (if b then 1 else 0) ∧ v = .iface 173 (.bool b)) ∨
    (k = 3 ∧ x = ⟨#[]⟩ ∧ ks = [] ∧ v = .iface 83 (.int .i64 n)) ∨
    (k = 4 ∧ n = 0 ∧ ks = [] ∧ x.size ≤ 140737488351232 ∧ v = .iface 174 (.string x)) ∨
    (k = 5 ∧ n = 0 ∧ x = ⟨#[]⟩ ∧ ks.length * 16 ≤ 140737488351232 ∧ ∃ a c, v = .iface 81 (.slice a ks.length c) ∧
      (ks = [] ∨ ∃ g off, a = some ⟨g, off, none⟩ ∧ K g ∧ ∀ j, (h : j < ks.length) → ∃ u, w.cell? ⟨g, off + j, none⟩ = some u ∧ VRd K w d u ks[j]))
theorem VRd.keep {K : Nat → Prop} {w w' : World} (hk : Kp K w w') : ∀ {d : Nat} {v : Value} {t : T}, VRd K w d v t → VRd K w' d v t
  | 0, _, _, h => h
  | d + 1, v, .node k n x ks, h => by
    rcases h with h | h | h | h | ⟨h1, h2, h3, h4, a, c, h5, h6⟩
    · exact .inl h
    · exact .inr (.inl h)
    · exact .inr (.inr (.inl h))
    · exact .inr (.inr (.inr (.inl h)))
    · refine .inr (.inr (.inr (.inr ⟨h1, h2, h3, h4, a, c, h5, ?_⟩)))
      rcases h6 with h6 | ⟨g, off, ha, hg, hc⟩
      · exact .inl h6
      · refine .inr ⟨g, off, ha, hg, fun j hj => ?_⟩
        obtain ⟨u, hu, hr⟩ := hc j hj
        exact ⟨u, hk.cell hu hg, VRd.keep hk hr⟩
theorem VRd.mono {K L : Nat → Prop} {w : World} (hl : ∀ k, k < w.heap.size → K k → L k) : ∀ {d : Nat} {v : Value} {t : T}, VRd K w d v t → VRd L w d v t
  | 0, _, _, h => h
  | d + 1, v, .node k n x ks, h => by
    rcases h with h | h | h | h | ⟨h1, h2, h3, h4, a, c, h5, h6⟩
    · exact .inl h
    · exact .inr (.inl h)
    · exact .inr (.inr (.inl h))
    · exact .inr (.inr (.inr (.inl h)))
    · refine .inr (.inr (.inr (.inr ⟨h1, h2, h3, h4, a, c, h5, ?_⟩)))
      rcases h6 with h6 | ⟨g, off, ha, hg, hc⟩
      · exact .inl h6
      · by_cases h0 : 0 < ks.length
        · refine .inr ⟨g, off, ha, ?_, fun j hj => ?_⟩
          · obtain ⟨u, hu, _⟩ := hc 0 h0
            exact hl g (lt_of_cell hu) hg
          · obtain ⟨u, hu, hr⟩ := hc j hj
            exact ⟨u, hu, VRd.mono hl hr⟩
        · exact .inl (List.eq_nil_of_length_eq_zero (by omega))
theorem VRd.low {K : Nat → Prop} {w : World} {d : Nat} {v : Value} {t : T} (h : VRd K w d v t) : VRd (· < w.heap.size) w d v t := h.mono (fun _ hk _ => hk)
theorem VRd.later {K : Nat → Prop} {w w' : World} {d : Nat} {v : Value} {t : T} (h : VRd K w d v t) (hx : Ext w w') : VRd K w' d v t := h.keep (hx.kp K)
/-- The value v lies in memory of its own: its lists are the blocks bs. -/
def VOwn (w : World) : Nat → Value → T → List Nat → Prop
  | 0, _, _, _ => False
  | d + 1, v, .node k n x ks, bs =>
    (k = 1 ∧ n = 0 ∧ x = ⟨#[]⟩ ∧ ks = [] ∧ bs = [] ∧ v = .iface 172 (.agg #[])) ∨
    (k = 2 ∧ x = ⟨#[]⟩ ∧ ks = [] ∧ bs = [] ∧ ∃ b : Bool, n = (if b then 1 else 0) ∧ v = .iface 173 (.bool b)) ∨
    (k = 3 ∧ x = ⟨#[]⟩ ∧ ks = [] ∧ bs = [] ∧ v = .iface 83 (.int .i64 n)) ∨
    (k = 4 ∧ n = 0 ∧ ks = [] ∧ bs = [] ∧ x.size ≤ 140737488351232 ∧ v = .iface 174 (.string x)) ∨
    (k = 5 ∧ n = 0 ∧ x = ⟨#[]⟩ ∧ ks.length * 16 ≤ 140737488351232 ∧ ∃ (g c : Nat) (cs : Array Value) (bss : List (List Nat)), v = .iface 81 (.slice (some ⟨g, 0, none⟩) ks.length c) ∧ ks.length ≤ c ∧ w.heap[g]? = some (.cells cs 35) ∧ cs.size = c ∧ bs = g :: bss.flatten ∧ bss.length = ks.length ∧
      ∀ j, (h : j < ks.length) → ∃ u b, cs[j]? = some u ∧ bss[j]? = some b ∧ VOwn w d u ks[j] b)
theorem VOwn.rd {w : World} : ∀ {d : Nat} {v : Value} {t : T} {bs : List Nat}, VOwn w d v t bs → VRd (· ∈ bs) w d v t
  | 0, _, _, _, h => h
  | d + 1, v, .node k n x ks, bs, h => by
    rcases h with ⟨h1, h2, h3, h4, _, h5⟩ | ⟨h1, h2, h3, _, h4⟩ | ⟨h1, h2, h3, _, h4⟩ | ⟨h1, h2, h3, _, h4⟩ | ⟨h1, h2, h3, h4, g, c, cs, bss, h5, h6, h7, h8, rfl, h9, hc⟩
    · exact .inl ⟨h1, h2, h3, h4, h5⟩
    · exact .inr (.inl ⟨h1, h2, h3, h4⟩)
    · exact .inr (.inr (.inl ⟨h1, h2, h3, h4⟩))
    · exact .inr (.inr (.inr (.inl ⟨h1, h2, h3, h4⟩)))
    · refine .inr (.inr (.inr (.inr ⟨h1, h2, h3, h4, _, c, h5, .inr ⟨g, 0, rfl, by simp, fun j hj => ?_⟩⟩)))
      obtain ⟨u, b, hu, hb, ho⟩ := hc j hj
      exact ⟨u, by rw [Nat.zero_add]; exact cell_of h7 hu, (VOwn.rd ho).mono (fun k _ hk => List.mem_cons_of_mem _ (List.mem_flatten.2 ⟨b, List.mem_of_getElem? hb, hk⟩))⟩
theorem VOwn.keep {w w' : World} : ∀ {d : Nat} {v : Value} {t : T} {bs : List Nat}, VOwn w d v t bs → Kp (· ∈ bs) w w' → VOwn w' d v t bs
  | 0, _, _, _, h, _ => h
  | d + 1, v, .node k n x ks, bs, h, hk => by
    rcases h with h | h | h | h | ⟨h1, h2, h3, h4, g, c, cs, bss, h5, h6, h7, h8, rfl, h9, hc⟩
    · exact .inl h
    · exact .inr (.inl h)
    · exact .inr (.inr (.inl h))
    · exact .inr (.inr (.inr (.inl h)))
    · refine .inr (.inr (.inr (.inr ⟨h1, h2, h3, h4, g, c, cs, bss, h5, h6, hk.block' h7 (by simp), h8, rfl, h9, fun j hj => ?_⟩)))
      obtain ⟨u, b, hu, hb, ho⟩ := hc j hj
      exact ⟨u, b, hu, hb, VOwn.keep ho (hk.mono (fun k _ hk => List.mem_cons_of_mem _ (List.mem_flatten.2 ⟨b, List.mem_of_getElem? hb, hk⟩)))⟩
theorem VOwn.lt {w : World} : ∀ {d : Nat} {v : Value} {t : T} {bs : List Nat}, VOwn w d v t bs → ∀ b ∈ bs, b < w.heap.size
  | 0, _, _, _, h => h.elim
  | d + 1, v, .node k n x ks, bs, h => by
    rcases h with ⟨_, _, _, _, rfl, _⟩ | ⟨_, _, _, rfl, _⟩ | ⟨_, _, _, rfl, _⟩ | ⟨_, _, _, rfl, _⟩ | ⟨h1, h2, h3, h4, g, c, cs, bss, h5, h6, h7, h8, rfl, h9, hc⟩
    · intro b hb; cases hb
    · intro b hb; cases hb
    · intro b hb; cases hb
    · intro b hb; cases hb
    · intro b hb
      rcases List.mem_cons.1 hb with rfl | hb
      · exact lt_of_block h7
      · obtain ⟨l, hl, hbl⟩ := List.mem_flatten.1 hb
        obtain ⟨j, hj, rfl⟩ := List.getElem_of_mem hl
        obtain ⟨u, b', _, hb', ho⟩ := hc j (by omega)
        rw [List.getElem?_eq_getElem hj] at hb'
        cases hb'
        exact VOwn.lt ho b hbl
theorem VOwn.later {w w' : World} {d : Nat} {v : Value} {t : T} {bs : List Nat} (h : VOwn w d v t bs) (hx : Ext w w') : VOwn w' d v t bs := h.keep (hx.kp _)
theorem VRd.iface {K : Nat → Prop} {w : World} {d : Nat} {v : Value} {t : T} (h : VRd K w d v t) : ∃ τ p, v = .iface τ p := by
  obtain ⟨k, n, x, ks⟩ := t
  cases d with
  | zero => exact h.elim
  | succ d =>
    rcases h with ⟨_, _, _, _, rfl⟩ | ⟨_, _, _, _, _, rfl⟩ | ⟨_, _, _, rfl⟩ | ⟨_, _, _, _, rfl⟩ | ⟨_, _, _, _, _, _, rfl, _⟩
    all_goals exact ⟨_, _, rfl⟩
end Go.Proofs.YtaafcmmmkalgjaaGreatDoor
/-
  list.items, number, came by contracts.
-/
namespace Go.Proofs.YtaafcmmmkalgjaaGreatDoor
open Go.RowKit
theorem lto_in (v : Value) (w : World) : (Instr.typeAssert (.iface 83 v) 35 83 false).run Tryz.prog w = .ok v w := by kernel_rfl
theorem lto_li (v : Value) (w : World) : (Instr.typeAssert (.iface 81 v) 35 81 false).run Tryz.prog w = .ok v w := by kernel_rfl
theorem number0_any (g m : Nat) (hm : 0 < m) (n : Int) (w : World) (h0 : w.cell? ⟨g, 0, none⟩ = some (.iface 83 (.int .i64 n))) : Calls Tryz.prog 76 #[.slice (some ⟨g, 0, none⟩) m m, .int .i64 0] w fun e w' => e = .returned (.int .i64 n) ∧ w' = w := by
  have hta := lto_in (.int .i64 n)
  have hm' : (0 : Int) < (m : Int) := by omega
  go_enter Tryz.func76, Tryz.ntmps76
  go_wp2_with fail
  go_ret
  exact ⟨rfl, rfl⟩
theorem number1_any (g m : Nat) (hm : 1 < m) (n : Int) (w : World) (h0 : w.cell? ⟨g, 1, none⟩ = some (.iface 83 (.int .i64 n))) : Calls Tryz.prog 76 #[.slice (some ⟨g, 0, none⟩) m m, .int .i64 1] w fun e w' => e = .returned (.int .i64 n) ∧ w' = w := by
  have hta := lto_in (.int .i64 n)
  have hm' : (1 : Int) < (m : Int) := by omega
  go_enter Tryz.func76, Tryz.ntmps76
  go_wp2_with fail
  go_ret
  exact ⟨rfl, rfl⟩
theorem number2_any (g m : Nat) (hm : 2 < m) (n : Int) (w : World) (h0 : w.cell? ⟨g, 2, none⟩ = some (.iface 83 (.int .i64 n))) : Calls Tryz.prog 76 #[.slice (some ⟨g, 0, none⟩) m m, .int .i64 2] w fun e w' => e = .returned (.int .i64 n) ∧ w' = w := by
  have hta := lto_in (.int .i64 n)
  have hm' : (2 : Int) < (m : Int) := by omega
  go_enter Tryz.func76, Tryz.ntmps76
  go_wp2_with fail
  go_ret
  exact ⟨rfl, rfl⟩
theorem items0_any (g m : Nat) (hm : 0 < m) (a : Option Addr) (l c : Nat) (w : World) (h0 : w.cell? ⟨g, 0, none⟩ = some (.iface 81 (.slice a l c))) : Calls Tryz.prog 75 #[.slice (some ⟨g, 0, none⟩) m m, .int .i64 0] w fun e w' => e = .returned (.slice a l c) ∧ w' = w := by
  have hta := lto_li (.slice a l c)
  have hm' : (0 : Int) < (m : Int) := by omega
  go_enter Tryz.func75, Tryz.ntmps75
  go_wp2_with fail
  go_ret
  exact ⟨rfl, rfl⟩
theorem items1_any (g m : Nat) (hm : 1 < m) (a : Option Addr) (l c : Nat) (w : World) (h0 : w.cell? ⟨g, 1, none⟩ = some (.iface 81 (.slice a l c))) : Calls Tryz.prog 75 #[.slice (some ⟨g, 0, none⟩) m m, .int .i64 1] w fun e w' => e = .returned (.slice a l c) ∧ w' = w := by
  have hta := lto_li (.slice a l c)
  have hm' : (1 : Int) < (m : Int) := by omega
  go_enter Tryz.func75, Tryz.ntmps75
  go_wp2_with fail
  go_ret
  exact ⟨rfl, rfl⟩

theorem lcame_any (v : Value) (w : World) : Calls Tryz.prog 73 #[v] w fun e w' => e = .returned (.tuple #[v, .int .i64 0, .string ⟨#[]⟩]) ∧ w' = w := by
  go_enter Tryz.func73, Tryz.ntmps73
  go_wp2_with fail
  go_ret3
  exact ⟨rfl, rfl⟩
end Go.Proofs.YtaafcmmmkalgjaaGreatDoor
/-
  Plain values whose numbers are of 64 bits.
-/
namespace Go.Proofs.YtaafcmmmkalgjaaGreatDoor
mutual
/-- The numbers of a plain value are of 64 bits. -/
def T.fitN : T → Prop | .node k n _ ks => (k = 3 → inR n) ∧ T.fitNL ks
def T.fitNL : List T → Prop | [] => True | t :: r => T.fitN t ∧ T.fitNL r
end
end Go.Proofs.YtaafcmmmkalgjaaGreatDoor
