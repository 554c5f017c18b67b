/-
  Sorts as data: what a sort in memory reads as; its shape.
-/
import Derived.Test.YtllbelglilkdpaaDoorBase
import Derived.Test.YtllbelglilkdpaaDoorSMath
namespace Go.Proofs.YtllbelglilkdpaaDoor
open Go.RowKit
/-- A sort. -/
inductive S where
  | node (x : ByteArray) (kids : List S)
namespace S
def name : S → ByteArray | node x _ => x
def kids : S → List S | node _ ks => ks
end S
/-- Two cells in a row. -/
def Two (w : World) (g i : Nat) (v0 v1 : Value) : Prop := w.cell? ⟨g, i, none⟩ = some v0 ∧ w.cell? ⟨g, i + 1, none⟩ = some v1
theorem Two.keep {K : Nat → Prop} {w w' : World} {g i : Nat} {v0 v1 : Value} (h : Two w g i v0 v1) (hk : Kp K w w') (hg : K g) : Two w' g i v0 v1 := ⟨hk.cell h.1 hg, hk.cell h.2 hg⟩
theorem two_of {w : World} {b : Nat} {v0 v1 : Value} {t : TypeId} (h : w.heap[b]? = some (.cells #[v0, v1] t)) : Two w b 0 v0 v1 := ⟨cell_of h rfl, cell_of h rfl⟩
theorem two_free {w : World} {b : Nat} {v0 v1 : Value} {t : TypeId} (h : w.heap[b]? = some (.cells #[v0, v1] t)) : w.frozen? ⟨b, 0, none⟩ = false ∧ w.frozen? ⟨b, 1, none⟩ = false := ⟨frozen_of h, frozen_of h⟩
theorem two_set {w : World} {b : Nat} {v0 v1 u0 u1 : Value} {t : TypeId} (h : w.heap[b]? = some (.cells #[v0, v1] t)) : ((w.setCell ⟨b, 0, none⟩ u0).setCell ⟨b, 1, none⟩ u1).heap[b]? = some (.cells #[u0, u1] t) := (set_at (set_at h 0 u0) 1 u1).trans rfl
theorem Kp.set2 (w : World) (g i : Nat) (v0 v1 : Value) : Kp (· ≠ g) w ((w.setCell ⟨g, i, none⟩ v0).setCell ⟨g, i + 1, none⟩ v1) := (Kp.set w g i v0 (fun h => h rfl)).trans (Kp.set _ g _ v1 (fun h => h rfl))
/-- What the sort v reads as, within d levels; its lists lie in blocks of K. -/
def SRd (K : Nat → Prop) (w : World) : Nat → Value → S → Prop
  | 0, _, _ => False
  | d + 1, v, .node x ks => ∃ a c, v = .agg #[.string x, .slice a ks.length c] ∧ x.size ≤ 140737488351232 ∧ ks.length * 40 ≤ 140737488351232 ∧
      (ks = [] ∨ ∃ g off, a = some ⟨g, off, none⟩ ∧ K g ∧ ∀ j, (h : j < ks.length) → ∃ u0 u1, Two w g (off + j * 2) u0 u1 ∧ SRd K w d (.agg #[u0, u1]) ks[j])
theorem SRd.shape {K : Nat → Prop} {w : World} {d : Nat} {v : Value} {t : S} (h : SRd K w d v t) : ∃ a c, v = .agg #[.string t.name, .slice a t.kids.length c] := by
  obtain ⟨x, ks⟩ := t
  cases d with
  | zero => exact h.elim
  | succ d => obtain ⟨a, c, h, _⟩ := h; exact ⟨a, c, h⟩
theorem SRd.size {K : Nat → Prop} {w : World} {d : Nat} {v : Value} {t : S} (h : SRd K w d v t) : t.name.size ≤ 140737488351232 ∧ t.kids.length * 40 ≤ 140737488351232 := by
  obtain ⟨x, ks⟩ := t
  cases d with
  | zero => exact h.elim
  | succ d => obtain ⟨a, c, _, h1, h2, _⟩ := h; exact ⟨h1, h2⟩
theorem SRd.keep {K : Nat → Prop} {w w' : World} (hk : Kp K w w') : ∀ {d : Nat} {v : Value} {t : S}, SRd K w d v t → SRd K w' d v t
  | 0, _, _, h => h
  | d + 1, v, .node x ks, ⟨a, c, h1, h3, h4, h5⟩ => ⟨a, c, h1, h3, h4, h5.imp id fun ⟨g, off, ha, hg, hc⟩ => ⟨g, off, ha, hg, fun j hj => by
      obtain ⟨u0, u1, hf, hr⟩ := hc j hj
      exact ⟨u0, u1, hf.keep hk hg, SRd.keep hk hr⟩⟩⟩
theorem SRd.mono {K L : Nat → Prop} {w : World} (hl : ∀ k, k < w.heap.size → K k → L k) : ∀ {d : Nat} {v : Value} {t : S}, SRd K w d v t → SRd L w d v t
  | 0, _, _, h => h
  | d + 1, v, .node x ks, ⟨a, c, h1, h3, h4, h5⟩ => ⟨a, c, h1, h3, h4, by
      rcases h5 with h5 | ⟨g, off, ha, hg, hc⟩
      · exact .inl h5
      · by_cases h0 : 0 < ks.length
        · refine .inr ⟨g, off, ha, ?_, fun j hj => ?_⟩
          · obtain ⟨u0, u1, hf, _⟩ := hc 0 h0
            exact hl g (lt_of_cell hf.1) hg
          · obtain ⟨u0, u1, hf, hr⟩ := hc j hj
            exact ⟨u0, u1, hf, SRd.mono hl hr⟩
        · exact .inl (List.eq_nil_of_length_eq_zero (by omega))⟩
theorem SRd.low {K : Nat → Prop} {w : World} {d : Nat} {v : Value} {t : S} (h : SRd K w d v t) : SRd (· < w.heap.size) w d v t := h.mono (fun _ hk _ => hk)
theorem SRd.later {K : Nat → Prop} {w w' : World} {d : Nat} {v : Value} {t : S} (h : SRd K w d v t) (hx : Ext w w') : SRd K w' d v t := h.keep (hx.kp K)
/-- The only one of its list. -/
theorem SRd.kid {K : Nat → Prop} {w : World} {d : Nat} {x : ByteArray} {t : S} {a : Option Addr} {c : Nat} (h : SRd K w d (.agg #[.string x, .slice a 1 c]) (.node x [t])) : ∃ g off a' c' d', a = some ⟨g, off, none⟩ ∧ K g ∧ Two w g off (.string t.name) (.slice a' t.kids.length c') ∧ SRd K w d' (.agg #[.string t.name, .slice a' t.kids.length c']) t := by
  cases d with
  | zero => exact h.elim
  | succ d =>
    obtain ⟨a1, c1, e, _, _, h5⟩ := h
    simp only [Value.agg.injEq, Array.mk.injEq, List.cons.injEq, and_true, Value.slice.injEq, true_and] at e
    obtain ⟨rfl, _, rfl⟩ := e
    rcases h5 with h5 | ⟨g, off, rfl, hg, hc⟩
    · cases h5
    · obtain ⟨u0, u1, hf, hr⟩ := hc 0 (by simp)
      have hr' : SRd K w d (.agg #[u0, u1]) t := hr
      obtain ⟨a2, c2, e2⟩ := hr'.shape
      simp only [Value.agg.injEq, Array.mk.injEq, List.cons.injEq, and_true] at e2
      obtain ⟨rfl, rfl⟩ := e2
      exact ⟨g, off, a2, c2, d, rfl, hg, by simpa using hf, hr'⟩
/-- The word list. -/
def wList : ByteArray := ⟨#[108, 105, 115, 116]⟩
/-- So many lists within one another, at most m, and what is in them. -/
def peel : Nat → S → Nat × S
  | 0, s => (0, s)
  | m + 1, .node x ks => match ks with
    | [t] => if x = wList then ((peel m t).1 + 1, (peel m t).2) else (0, .node x ks)
    | _ => (0, .node x ks)
/-- A sort's shape: lists, and the name within; or none. -/
def shp (s : S) : Option (Nat × ByteArray) := if (peel 64 s).2.kids.length = 0 ∧ leafL (peel 64 s).2.name.data.toList = true then some ((peel 64 s).1, (peel 64 s).2.name) else none
theorem shp_some {s : S} {n : Nat} {x : ByteArray} (h : shp s = some (n, x)) : (peel 64 s).1 = n ∧ (peel 64 s).2.name = x ∧ (peel 64 s).2.kids.length = 0 ∧ leafL x.data.toList = true := by
  unfold shp at h
  split at h
  · next hh =>
    simp only [Option.some.injEq, Prod.mk.injEq] at h
    obtain ⟨rfl, rfl⟩ := h
    exact ⟨rfl, rfl, hh.1, hh.2⟩
  · cases h
theorem peel_le : ∀ (m : Nat) (s : S), (peel m s).1 ≤ m
  | 0, s => by simp [peel]
  | m + 1, .node x ks => by
    unfold peel
    split
    · next t =>
      split
      · have := peel_le m t; show (peel m t).1 + 1 ≤ m + 1; omega
      · exact Nat.zero_le _
    · exact Nat.zero_le _
/-- A sort of so many lists. -/
def chain : Nat → ByteArray → S
  | 0, x => .node x []
  | n + 1, x => .node wList [chain n x]
theorem peel_chain : ∀ (n m : Nat) (x : ByteArray), n ≤ m → peel m (chain n x) = (n, .node x [])
  | 0, 0, x, _ => rfl
  | 0, m + 1, x, _ => rfl
  | n + 1, m + 1, x, h => by
    show peel (m + 1) (.node wList [chain n x]) = _
    unfold peel
    simp only [if_true]
    rw [peel_chain n m x (by omega)]
theorem shp_chain {n : Nat} {x : ByteArray} (hn : n ≤ 64) (hx : leafL x.data.toList = true) : shp (chain n x) = some (n, x) := by
  unfold shp
  rw [peel_chain n 64 x hn]
  exact if_pos ⟨rfl, hx⟩
end Go.Proofs.YtllbelglilkdpaaDoor
