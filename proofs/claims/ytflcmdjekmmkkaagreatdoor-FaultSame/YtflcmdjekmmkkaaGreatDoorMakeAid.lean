/-
  append onto nil of a slice of ints, as one step of a region that draws its order: the new slice reads as the old one and lies in memory of its own.
-/
import Derived.Test.YtflcmdjekmmkkaaGreatDoorToldOf
import Derived.Deep.RegionHeldLaw
import Derived.Deep.AppendLies
namespace Go.Proofs.YtflcmdjekmmkkaaGreatDoor
open Go.RowKit
/-- The blocks from B on have not turned. -/
def Far (B : Nat) (w w' : World) : Prop := ∀ k o, B ≤ k → w.heap[k]? = some o → w'.heap[k]? = some o
theorem Far.refl (B : Nat) (w : World) : Far B w w := fun _ _ _ h => h
theorem Far.set {B : Nat} {w w' : World} (h : Far B w w') {T : Nat} (hT : T < B) (i : Nat) (v : Value) : Far B w (w'.setCell ⟨T, i, none⟩ v) := fun k o hk ho =>
  (Below.heap_setCell w' ⟨T, i, none⟩ v k (fun e => by have e' : k = T := e; omega)).trans (h k o hk ho)
theorem Far.drew {B : Nat} {w w' : World} (h : Far B w w') : Far B w w'.drew := h
theorem Far.ints {B : Nat} {w w' : World} {e : TypeId} {v : Value} {xs : List Int} (h : Far B w w') (ho : w.ownsRow B e 1 v xs.length (xs.map (Value.int .i64))) : w'.ownsRow B e 1 v xs.length (xs.map (Value.int .i64)) := by
  refine ⟨ho.1, ?_⟩
  rcases ho.2 with h' | ⟨g, cap, cur, h1, h2, h3, h4⟩
  · exact .inl h'
  · exact .inr ⟨g, cap, cur, h1, h2, h g _ h2 h3, h4⟩

theorem append_none (w : World) : (Builtin.append_ #[27, 27] 27 #[.slice none 0 0, .slice none 0 0]).run Tryz.prog w = .ok (.slice none 0 0) w := by kernel_rfl
theorem append_ints (a : Option Addr) (n c : Nat) (xs : List Int) (w : World) (hb : xs.length * 8 ≤ 140737488355328) (h : Ints w (.slice a n c) xs) :
    ∃ a' n' c' w', (Builtin.append_ #[27, 27] 27 #[.slice none 0 0, .slice a n c]).run Tryz.prog w = .ok (.slice a' n' c') w' ∧ w'.ownsRow w.heap.size 3 1 (.slice a' n' c') xs.length (xs.map (Value.int .i64)) ∧ Ext w w' := by
  obtain ⟨i0, hi0, hz0, hz1, hz2⟩ := info_parts intInfo
  rcases h with ⟨hv, rfl⟩ | ⟨g, off, cap, hv, hc⟩
  · injection hv with h1 h2 h3
    subst h1; subst h2; subst h3
    exact ⟨_, _, _, w, append_none w, World.ownsRow_nil _ _ _ _, Ext.refl _⟩
  · injection hv with h1 h2 h3
    subst h1; subst h2; subst h3
    have hnews : ∀ (j : Nat) (u : Value), (xs.map (Value.int .i64))[j]? = some u → w.cell? (Addr.add ⟨g, off, none⟩ j) = some u := by
      intro j u hu
      rw [List.getElem?_map] at hu
      obtain ⟨x, hx, rfl⟩ := Option.map_eq_some_iff.1 hu
      have ea : Addr.add ⟨g, off, none⟩ j = ⟨g, off + j, none⟩ := by
        by_cases hj : j = 0
        · subst hj; simp [Addr.add]
        · simp [Addr.add, hj]
      rw [ea]; exact hc j x hx
    have hone : ∀ u ∈ xs.map (Value.int .i64), u.oneCell' = true := by
      intro u hu
      obtain ⟨x, _, rfl⟩ := List.mem_map.1 hu
      rfl
    obtain ⟨v', w', hr, ho, hg, _, _⟩ := run_append_own_at (P := Tryz.prog) w w.heap.size 27 27 3 i0 (.int .i64 0) 1 8 Tryz.underlying27 hi0 hz0 hz1 hz2 rfl (by decide) (.slice none 0 0) 0 [] (World.ownsRow_nil _ _ _ _) ⟨g, off, none⟩ xs.length c (xs.map (Value.int .i64)) (by simp) hnews hone (by unfold maxLen; omega) (by simpa using hb) (Nat.le_refl _)
    have ho2 : w'.ownsRow w.heap.size 3 1 v' xs.length (xs.map (Value.int .i64)) := by simpa using ho
    obtain ⟨a', n', c', rfl⟩ := ownsRow_slice ho2
    exact ⟨a', n', c', w', hr, ho2, Below.grown (Ext.refl w) hg (Nat.le_refl _) (fun k hk => by simp [Value.ownBlock] at hk)⟩
theorem step_append_ints {ops : Array Oper} {o : Oper} {ac : Act} {K : Act → World → Prop} {Q : Exit → Act → World → Prop} {E : Prop} (w : World) (hgd : o.guard = none) (x : Operand)
    (ho : o.op = .call { callee := .builtin .append, args := #[.const (.slice none 0 0), x], argTypes := #[27, 27] }) (hty : o.type = 27)
    (a : Option Addr) (n c : Nat) (xs : List Int) (hx : ac.eval x = .slice a n c) (hb : xs.length * 8 ≤ 140737488355328) (hI : Ints w (.slice a n c) xs)
    (h : ∀ a' n' c' w', w'.ownsRow w.heap.size 3 1 (.slice a' n' c') xs.length (xs.map (Value.int .i64)) → Ext w w' → K (ac.put o.dst (.slice a' n' c')) w') :
    if Region.wanted o (yielded ops ac.tmps) = true then Oper.wp Tryz.prog o ac w K Q else E := by
  have hw : Region.wanted o (yielded ops ac.tmps) = true := by simp [Region.wanted, hgd]
  rw [if_pos hw]
  obtain ⟨a', n', c', w', hr, h2, h3⟩ := append_ints a n c xs w hb hI
  unfold Oper.wp execOp
  have hs : ac.eval (.const (.slice none 0 0)) = .slice none 0 0 := rfl
  simp only [ho, hty, resolve, invoke, builtin, Sem.run_bind, Sem.run_pure, Result.andThen_ok, List.map_toArray, List.map_cons, List.map_nil, hs, hx, hr]
  exact h a' n' c' w' h2 h3


end Go.Proofs.YtflcmdjekmmkkaaGreatDoor
