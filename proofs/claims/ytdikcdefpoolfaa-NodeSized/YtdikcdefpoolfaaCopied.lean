/-
  copied by a contract: a tree in memory of its own.
-/
import Derived.Test.YtdikcdefpoolfaaGreat
import Derived.Laws.OwnMore
namespace Go.Proofs.Ytdikcdefpoolfaa
open Go.RowKit
theorem treeInfo : (Try.prog.info? 30).map (fun i => (i.zero, i.size, i.bytes)) = some (some (.agg #[.string ⟨#[]⟩, .int .i64 0, .string ⟨#[]⟩, .slice none 0 0]), 4, 64) := by kernel_rfl
/-- The tree v lies in memory of its own: its lists are the blocks bs. -/
def Own (w : World) : Nat → Value → T → List Nat → Prop
  | 0, _, _, _ => False
  | d + 1, v, .node k n x ks, bs => ∃ a, v = .agg #[.string k, .int .i64 n, .string x, .slice a ks.length ks.length] ∧ k.size ≤ 140737488351232 ∧ x.size ≤ 140737488351232 ∧ ks.length * 64 ≤ 140737488351232 ∧
      ((ks = [] ∧ a = none ∧ bs = []) ∨ ∃ (g : Nat) (cs : Array Value) (bss : List (List Nat)), a = some ⟨g, 0, none⟩ ∧ 0 < ks.length ∧ w.heap[g]? = some (.cells cs 30) ∧ cs.size = ks.length * 4 ∧ bs = g :: bss.flatten ∧ bss.length = ks.length ∧
        ∀ j, (h : j < ks.length) → ∃ u0 u1 u2 u3 b, cs[j * 4]? = some u0 ∧ cs[j * 4 + 1]? = some u1 ∧ cs[j * 4 + 2]? = some u2 ∧ cs[j * 4 + 3]? = some u3 ∧ bss[j]? = some b ∧ Own w d (.agg #[u0, u1, u2, u3]) ks[j] b)
theorem Own.rd {w : World} : ∀ {d : Nat} {v : Value} {t : T} {bs : List Nat}, Own w d v t bs → Rd (· ∈ bs) w d v t
  | 0, _, _, _, h => h
  | d + 1, v, .node k n x ks, bs, ⟨a, h1, h2, h3, h4, h5⟩ => ⟨a, _, h1, h2, h3, h4, by
      rcases h5 with ⟨h0, _, _⟩ | ⟨g, cs, bss, rfl, hp, hg, hs, rfl, hbl, hc⟩
      · exact .inl h0
      · refine .inr ⟨g, 0, rfl, by simp, fun j hj => ?_⟩
        obtain ⟨u0, u1, u2, u3, b, c0, c1, c2, c3, hb, ho⟩ := hc j hj
        refine ⟨u0, u1, u2, u3, ⟨by rw [Nat.zero_add]; exact cell_of hg c0, by rw [Nat.zero_add]; exact cell_of hg c1, by rw [Nat.zero_add]; exact cell_of hg c2, by rw [Nat.zero_add]; exact cell_of hg c3⟩, ?_⟩
        exact (Own.rd ho).mono (fun k _ hk => List.mem_cons_of_mem _ (List.mem_flatten.2 ⟨b, List.mem_of_getElem? hb, hk⟩))⟩
theorem Own.keep {w w' : World} : ∀ {d : Nat} {v : Value} {t : T} {bs : List Nat}, Own w d v t bs → Kp (· ∈ bs) w w' → Own w' d v t bs
  | 0, _, _, _, h, _ => h
  | d + 1, v, .node k n x ks, bs, ⟨a, h1, h2, h3, h4, h5⟩, hk => ⟨a, h1, h2, h3, h4, by
      rcases h5 with h5 | ⟨g, cs, bss, rfl, hp, hg, hs, rfl, hbl, hc⟩
      · exact .inl h5
      · refine .inr ⟨g, cs, bss, rfl, hp, hk.block' hg (by simp), hs, rfl, hbl, fun j hj => ?_⟩
        obtain ⟨u0, u1, u2, u3, b, c0, c1, c2, c3, hb, ho⟩ := hc j hj
        exact ⟨u0, u1, u2, u3, b, c0, c1, c2, c3, hb, Own.keep ho (hk.mono (fun k _ hk => List.mem_cons_of_mem _ (List.mem_flatten.2 ⟨b, List.mem_of_getElem? hb, hk⟩)))⟩⟩
theorem Own.lt {w : World} : ∀ {d : Nat} {v : Value} {t : T} {bs : List Nat}, Own w d v t bs → ∀ b ∈ bs, b < w.heap.size
  | 0, _, _, _, h => h.elim
  | d + 1, v, .node k n x ks, bs, ⟨a, h1, h2, h3, h4, h5⟩ => by
      rcases h5 with ⟨_, _, rfl⟩ | ⟨g, cs, bss, rfl, hp, hg, hs, rfl, hbl, hc⟩
      · intro b hb; cases hb
      · intro b hb
        rcases List.mem_cons.1 hb with rfl | hb
        · exact lt_of_block hg
        · obtain ⟨l, hl, hbl2⟩ := List.mem_flatten.1 hb
          obtain ⟨j, hj, rfl⟩ := List.getElem_of_mem hl
          obtain ⟨u0, u1, u2, u3, b', _, _, _, _, hb', ho⟩ := hc j (by omega)
          rw [List.getElem?_eq_getElem hj] at hb'
          cases hb'
          exact Own.lt ho b hbl2
/-- What copied answers. -/
def CopyR (w : World) (d : Nat) (t : T) (e : Ending) (w' : World) : Prop := ∃ v' bs, e = .returned v' ∧ Ext w w' ∧ Own w' d v' t bs ∧ (∀ b ∈ bs, w.heap.size ≤ b) ∧ bs.Nodup
end Go.Proofs.Ytdikcdefpoolfaa
