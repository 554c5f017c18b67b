/-
  What a value in memory stands for; values in memory of their own.
-/
import Derived.Test.YtnmcmjgfnncdmaaGreatDoorZzBase
namespace Go.Proofs.YtnmcmjgfnncdmaaGreatDoor
open Go.RowKit
/-- The plain value that the value v stands for, within d levels; its lists lie in blocks of K. -/
def VRd (K : Nat → Prop) (w : World) : Nat → Value → T → Prop
  | 0, _, _ => False
  | d + 1, v, .node k n x ks =>
    (k = 1 ∧ n = 0 ∧ x = ⟨#[]⟩ ∧ ks = [] ∧ v = .iface 182 (.agg #[])) ∨
    (k = 2 ∧ x = ⟨#[]⟩ ∧ ks = [] ∧ ∃ b : Bool, n = (if b then 1 else 0) ∧ v = .iface 85 (.bool b)) ∨
    (k = 3 ∧ x = ⟨#[]⟩ ∧ ks = [] ∧ v = .iface 55 (.int .i64 n)) ∨
    (k = 4 ∧ n = 0 ∧ ks = [] ∧ x.size ≤ 140737488351232 ∧ v = .iface 161 (.string x)) ∨
    (k = 5 ∧ n = 0 ∧ x = ⟨#[]⟩ ∧ ks.length * 16 ≤ 140737488351232 ∧ ∃ a c, v = .iface 59 (.slice a ks.length c) ∧
      (ks = [] ∨ ∃ g off, a = some ⟨g, off, none⟩ ∧ K g ∧ ∀ j, (h : j < ks.length) → ∃ u, w.cell? ⟨g, off + j, none⟩ = some u ∧ VRd K w d u ks[j]))
theorem VRd.keep {K : Nat → Prop} {w w' : World} (hk : Kp K w w') : ∀ {d : Nat} {v : Value} {t : T}, VRd K w d v t → VRd K w' d v t
  | 0, _, _, h => h
  | d + 1, v, .node k n x ks, h => by
    rcases h with h | h | h | h | ⟨h1, h2, h3, h4, a, c, h5, h6⟩
    · exact .inl h
    · exact .inr (.inl h)
    · exact .inr (.inr (.inl h))
    · exact .inr (.inr (.inr (.inl h)))
    · refine .inr (.inr (.inr (.inr ⟨h1, h2, h3, h4, a, c, h5, ?_⟩)))
      rcases h6 with h6 | ⟨g, off, ha, hg, hc⟩
      · exact .inl h6
      · refine .inr ⟨g, off, ha, hg, fun j hj => ?_⟩
        obtain ⟨u, hu, hr⟩ := hc j hj
        exact ⟨u, hk.cell hu hg, VRd.keep hk hr⟩
theorem VRd.mono {K L : Nat → Prop} {w : World} (hl : ∀ k, k < w.heap.size → K k → L k) : ∀ {d : Nat} {v : Value} {t : T}, VRd K w d v t → VRd L w d v t
  | 0, _, _, h => h
  | d + 1, v, .node k n x ks, h => by
    rcases h with h | h | h | h | ⟨h1, h2, h3, h4, a, c, h5, h6⟩
    · exact .inl h
    · exact .inr (.inl h)
    · exact .inr (.inr (.inl h))
    · exact .inr (.inr (.inr (.inl h)))
    · refine .inr (.inr (.inr (.inr ⟨h1, h2, h3, h4, a, c, h5, ?_⟩)))
      rcases h6 with h6 | ⟨g, off, ha, hg, hc⟩
      · exact .inl h6
      · by_cases h0 : 0 < ks.length
        · refine .inr ⟨g, off, ha, ?_, fun j hj => ?_⟩
          · obtain ⟨u, hu, _⟩ := hc 0 h0
            exact hl g (lt_of_cell hu) hg
          · obtain ⟨u, hu, hr⟩ := hc j hj
            exact ⟨u, hu, VRd.mono hl hr⟩
        · exact .inl (List.eq_nil_of_length_eq_zero (by omega))
theorem VRd.low {K : Nat → Prop} {w : World} {d : Nat} {v : Value} {t : T} (h : VRd K w d v t) : VRd (· < w.heap.size) w d v t := h.mono (fun _ hk _ => hk)
theorem VRd.later {K : Nat → Prop} {w w' : World} {d : Nat} {v : Value} {t : T} (h : VRd K w d v t) (hx : Ext w w') : VRd K w' d v t := h.keep (hx.kp K)
/-- The value v lies in memory of its own: its lists are the blocks bs. -/
def VOwn (w : World) : Nat → Value → T → List Nat → Prop
  | 0, _, _, _ => False
  | d + 1, v, .node k n x ks, bs =>
    (k = 1 ∧ n = 0 ∧ x = ⟨#[]⟩ ∧ ks = [] ∧ bs = [] ∧ v = .iface 182 (.agg #[])) ∨
    (k = 2 ∧ x = ⟨#[]⟩ ∧ ks = [] ∧ bs = [] ∧ ∃ b : Bool, n = (if b then 1 else 0) ∧ v = .iface 85 (.bool b)) ∨
    (k = 3 ∧ x = ⟨#[]⟩ ∧ ks = [] ∧ bs = [] ∧ v = .iface 55 (.int .i64 n)) ∨
    (k = 4 ∧ n = 0 ∧ ks = [] ∧ bs = [] ∧ x.size ≤ 140737488351232 ∧ v = .iface 161 (.string x)) ∨
    (k = 5 ∧ n = 0 ∧ x = ⟨#[]⟩ ∧ ks.length * 16 ≤ 140737488351232 ∧ ∃ (g c : Nat) (cs : Array Value) (bss : List (List Nat)), v = .iface 59 (.slice (some ⟨g, 0, none⟩) ks.length c) ∧ ks.length ≤ c ∧ w.heap[g]? = some (.cells cs 33) ∧ cs.size = c ∧ bs = g :: bss.flatten ∧ bss.length = ks.length ∧
      ∀ j, (h : j < ks.length) → ∃ u b, cs[j]? = some u ∧ bss[j]? = some b ∧ VOwn w d u ks[j] b)
theorem VOwn.rd {w : World} : ∀ {d : Nat} {v : Value} {t : T} {bs : List Nat}, VOwn w d v t bs → VRd (· ∈ bs) w d v t
  | 0, _, _, _, h => h
  | d + 1, v, .node k n x ks, bs, h => by
    rcases h with ⟨h1, h2, h3, h4, _, h5⟩ | ⟨h1, h2, h3, _, h4⟩ | ⟨h1, h2, h3, _, h4⟩ | ⟨h1, h2, h3, _, h4⟩ | ⟨h1, h2, h3, h4, g, c, cs, bss, h5, h6, h7, h8, rfl, h9, hc⟩
    · exact .inl ⟨h1, h2, h3, h4, h5⟩
    · exact .inr (.inl ⟨h1, h2, h3, h4⟩)
    · exact .inr (.inr (.inl ⟨h1, h2, h3, h4⟩))
    · exact .inr (.inr (.inr (.inl ⟨h1, h2, h3, h4⟩)))
    · refine .inr (.inr (.inr (.inr ⟨h1, h2, h3, h4, _, c, h5, .inr ⟨g, 0, rfl, by simp, fun j hj => ?_⟩⟩)))
      obtain ⟨u, b, hu, hb, ho⟩ := hc j hj
      exact ⟨u, by rw [Nat.zero_add]; exact cell_of h7 hu, (VOwn.rd ho).mono (fun k _ hk => List.mem_cons_of_mem _ (List.mem_flatten.2 ⟨b, List.mem_of_getElem? hb, hk⟩))⟩
theorem VOwn.keep {w w' : World} : ∀ {d : Nat} {v : Value} {t : T} {bs : List Nat}, VOwn w d v t bs → Kp (· ∈ bs) w w' → VOwn w' d v t bs
  | 0, _, _, _, h, _ => h
  | d + 1, v, .node k n x ks, bs, h, hk => by
    rcases h with h | h | h | h | ⟨h1, h2, h3, h4, g, c, cs, bss, h5, h6, h7, h8, rfl, h9, hc⟩
    · exact .inl h
    · exact .inr (.inl h)
    · exact .inr (.inr (.inl h))
    · exact .inr (.inr (.inr (.inl h)))
    · refine .inr (.inr (.inr (.inr ⟨h1, h2, h3, h4, g, c, cs, bss, h5, h6, hk.block' h7 (by simp), h8, rfl, h9, fun j hj => ?_⟩)))
      obtain ⟨u, b, hu, hb, ho⟩ := hc j hj
      exact ⟨u, b, hu, hb, VOwn.keep ho (hk.mono (fun k _ hk => List.mem_cons_of_mem _ (List.mem_flatten.2 ⟨b, List.mem_of_getElem? hb, hk⟩)))⟩
theorem VOwn.lt {w : World} : ∀ {d : Nat} {v : Value} {t : T} {bs : List Nat}, VOwn w d v t bs → ∀ b ∈ bs, b < w.heap.size
  | 0, _, _, _, h => h.elim
  | d + 1, v, .node k n x ks, bs, h => by
    rcases h with ⟨_, _, _, _, rfl, _⟩ | ⟨_, _, _, rfl, _⟩ | ⟨_, _, _, rfl, _⟩ | ⟨_, _, _, rfl, _⟩ | ⟨h1, h2, h3, h4, g, c, cs, bss, h5, h6, h7, h8, rfl, h9, hc⟩
    · intro b hb; cases hb
    · intro b hb; cases hb
    · intro b hb; cases hb
    · intro b hb; cases hb
    · intro b hb
      rcases List.mem_cons.1 hb with rfl | hb
      · exact lt_of_block h7
      · obtain ⟨l, hl, hbl⟩ := List.mem_flatten.1 hb
        obtain ⟨j, hj, rfl⟩ := List.getElem_of_mem hl
        obtain ⟨u, b', _, hb', ho⟩ := hc j (by omega)
        rw [List.getElem?_eq_getElem hj] at hb'
        cases hb'
        exact VOwn.lt ho b hbl
theorem VOwn.later {w w' : World} {d : Nat} {v : Value} {t : T} {bs : List Nat} (h : VOwn w d v t bs) (hx : Ext w w') : VOwn w' d v t bs := h.keep (hx.kp _)
theorem VRd.iface {K : Nat → Prop} {w : World} {d : Nat} {v : Value} {t : T} (h : VRd K w d v t) : ∃ τ p, v = .iface τ p := by
  obtain ⟨k, n, x, ks⟩ := t
  cases d with
  | zero => exact h.elim
  | succ d =>
    rcases h with ⟨_, _, _, _, rfl⟩ | ⟨_, _, _, _, _, rfl⟩ | ⟨_, _, _, rfl⟩ | ⟨_, _, _, _, rfl⟩ | ⟨_, _, _, _, _, _, rfl, _⟩
    all_goals exact ⟨_, _, rfl⟩
end Go.Proofs.YtnmcmjgfnncdmaaGreatDoor
