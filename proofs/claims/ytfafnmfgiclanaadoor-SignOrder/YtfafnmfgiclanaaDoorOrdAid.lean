/-
  append, as one step of a region that draws its order: onto nil of a slice of ints; onto a row of one's own of one int.
-/
import Derived.Test.YtfafnmfgiclanaaDoorHold
import Derived.Deep.RegionHeld3
import Derived.Deep.AppendLies
import Derived.Deep.Cut
import Derived.Deep.CutRange
import Derived.Deep.CutBlock
namespace Go.Proofs.YtfafnmfgiclanaaDoor
open Go.RowKit
theorem append_none (w : World) (c : Nat) : (Builtin.append_ #[25, 25] 25 #[.slice none 0 0, .slice none 0 c]).run Tryd.prog w = .ok (.slice none 0 0) w := by kernel_rfl
theorem add_none (g off j : Nat) : Addr.add ⟨g, off, none⟩ j = ⟨g, off + j, none⟩ := by
  by_cases hj : j = 0
  · subst hj; simp [Addr.add]
  · simp [Addr.add, hj]
theorem append_ints (a : Option Addr) (n c : Nat) (xs : List Int) (w : World) (hb : xs.length * 8 ≤ 140737488355328) (h : Ints w (.slice a n c) xs) :
    ∃ a' c' w', (Builtin.append_ #[25, 25] 25 #[.slice none 0 0, .slice a n c]).run Tryd.prog w = .ok (.slice a' xs.length c') w' ∧ w'.ownsRow w.heap.size 3 1 (.slice a' xs.length c') xs.length (xs.map (Value.int .i64)) ∧ Ext w w' := by
  obtain ⟨i0, hi0, hz0, hz1, hz2⟩ := info_parts intInfo
  rcases h with ⟨⟨a0, c0, hv⟩, rfl⟩ | ⟨g, off, cap, hv, hc⟩
  · injection hv with h1 h2 h3
    subst h2
    cases a with
    | none =>
      obtain ⟨v', w', hr⟩ : ∃ v' w', (Builtin.append_ #[25, 25] 25 #[.slice none 0 0, .slice none 0 c]).run Tryd.prog w = .ok v' w' ∧ v' = .slice none 0 0 ∧ w' = w := ⟨_, _, append_none w c, rfl, rfl⟩
      obtain ⟨hr, rfl, rfl⟩ := hr
      exact ⟨_, _, _, hr, World.ownsRow_nil _ _ _ _, Ext.refl _⟩
    | some ad =>
      obtain ⟨v', w', hr, ho, hg, _, _⟩ := run_append_own_at (P := Tryd.prog) w w.heap.size 25 25 3 i0 (.int .i64 0) 1 8 Tryd.underlying25 hi0 hz0 hz1 hz2 rfl (by decide) (.slice none 0 0) 0 [] (World.ownsRow_nil _ _ _ _) ad 0 c [] rfl (fun j u hu => by simp at hu) (fun u hu => by simp at hu) (by unfold maxLen; omega) (by omega) (Nat.le_refl _)
      have ho2 : w'.ownsRow w.heap.size 3 1 v' 0 [] := ho
      obtain ⟨a', c', rfl⟩ := ownsRow_slice ho2
      exact ⟨a', c', w', hr, ho2, Below.grown (Ext.refl w) hg (Nat.le_refl _) (fun k hk => by simp [Value.ownBlock] at hk)⟩
  · injection hv with h1 h2 h3
    subst h1; subst h2; subst h3
    have hnews : ∀ (j : Nat) (u : Value), (xs.map (Value.int .i64))[j]? = some u → w.cell? (Addr.add ⟨g, off, none⟩ j) = some u := by
      intro j u hu
      rw [List.getElem?_map] at hu
      obtain ⟨x, hx, rfl⟩ := Option.map_eq_some_iff.1 hu
      rw [add_none]; exact hc j x hx
    have hone : ∀ u ∈ xs.map (Value.int .i64), u.oneCell' = true := by
      intro u hu
      obtain ⟨x, _, rfl⟩ := List.mem_map.1 hu
      rfl
    obtain ⟨v', w', hr, ho, hg, _, _⟩ := run_append_own_at (P := Tryd.prog) w w.heap.size 25 25 3 i0 (.int .i64 0) 1 8 Tryd.underlying25 hi0 hz0 hz1 hz2 rfl (by decide) (.slice none 0 0) 0 [] (World.ownsRow_nil _ _ _ _) ⟨g, off, none⟩ xs.length c (xs.map (Value.int .i64)) (by simp) hnews hone (by unfold maxLen; omega) (by simpa using hb) (Nat.le_refl _)
    have ho2 : w'.ownsRow w.heap.size 3 1 v' xs.length (xs.map (Value.int .i64)) := by simpa using ho
    obtain ⟨a', c', rfl⟩ := ownsRow_slice ho2
    exact ⟨a', c', w', hr, ho2, Below.grown (Ext.refl w) hg (Nat.le_refl _) (fun k hk => by simp [Value.ownBlock] at hk)⟩
theorem append_snoc (base : Nat) (a : Option Addr) (n c : Nat) (xs : List Int) (g : Nat) (k : Int) (w : World) (hn : n = xs.length) (hb : (xs.length + 1) * 8 ≤ 140737488355328) (hB : base ≤ w.heap.size) (h : w.ownsRow base 3 1 (.slice a n c) xs.length (xs.map (Value.int .i64))) (hk : w.cell? ⟨g, 0, none⟩ = some (.int .i64 k)) :
    ∃ a' c' w', (Builtin.append_ #[25, 25] 25 #[.slice a n c, .slice (some ⟨g, 0, none⟩) 1 1]).run Tryd.prog w = .ok (.slice a' (xs ++ [k]).length c') w' ∧ w'.ownsRow base 3 1 (.slice a' (xs ++ [k]).length c') (xs ++ [k]).length ((xs ++ [k]).map (Value.int .i64)) ∧ w.grownBy w' (Value.slice a n c).ownBlock := by
  subst hn
  obtain ⟨i0, hi0, hz0, hz1, hz2⟩ := info_parts intInfo
  have hnews : ∀ (j : Nat) (u : Value), [Value.int .i64 k][j]? = some u → w.cell? (Addr.add ⟨g, 0, none⟩ j) = some u := by
    intro j u hu
    match j, hu with
    | 0, hu => simp at hu; subst hu; rw [add_none]; exact hk
  have hone : ∀ u ∈ [Value.int .i64 k], u.oneCell' = true := by
    intro u hu
    simp at hu; subst hu; rfl
  obtain ⟨v', w', hr, ho, hg, _, _⟩ := run_append_own_at (P := Tryd.prog) w base 25 25 3 i0 (.int .i64 0) 1 8 Tryd.underlying25 hi0 hz0 hz1 hz2 rfl (by decide) (.slice a xs.length c) xs.length (xs.map (Value.int .i64)) h ⟨g, 0, none⟩ 1 1 [.int .i64 k] rfl hnews hone (by unfold maxLen; omega) (by omega) hB
  have ho2 : w'.ownsRow base 3 1 v' (xs ++ [k]).length ((xs ++ [k]).map (Value.int .i64)) := by simpa using ho
  obtain ⟨a', c', rfl⟩ := ownsRow_slice ho2
  exact ⟨a', c', w', hr, ho2, hg⟩
theorem step_append_ints {ops : Array Oper} {o : Oper} {ac : Act} {K : Act → World → Prop} {Q : Exit → Act → World → Prop} {E : Prop} (w : World) (hgd : o.guard = none) (x : Operand)
    (ho : o.op = .call { callee := .builtin .append, args := #[.const (.slice none 0 0), x], argTypes := #[25, 25] }) (hty : o.type = 25)
    (a : Option Addr) (n c : Nat) (xs : List Int) (hx : ac.eval x = .slice a n c) (hb : xs.length * 8 ≤ 140737488355328) (hI : Ints w (.slice a n c) xs)
    (h : ∀ a' c' w', w'.ownsRow w.heap.size 3 1 (.slice a' xs.length c') xs.length (xs.map (Value.int .i64)) → Ext w w' → K (ac.put o.dst (.slice a' xs.length c')) w') :
    if Region.wanted o (yielded ops ac.tmps) = true then Oper.wp Tryd.prog o ac w K Q else E := by
  have hw : Region.wanted o (yielded ops ac.tmps) = true := by simp [Region.wanted, hgd]
  rw [if_pos hw]
  obtain ⟨a', c', w', hr, h2, h3⟩ := append_ints a n c xs w hb hI
  unfold Oper.wp execOp
  have hs : ac.eval (.const (.slice none 0 0)) = .slice none 0 0 := rfl
  simp only [ho, hty, resolve, invoke, builtin, Sem.run_bind, Sem.run_pure, Result.andThen_ok, List.map_toArray, List.map_cons, List.map_nil, hs, hx, hr]
  exact h a' c' w' h2 h3
theorem step_append_snoc {ops : Array Oper} {o : Oper} {ac : Act} {K : Act → World → Prop} {Q : Exit → Act → World → Prop} {E : Prop} (w : World) (hgd : o.guard = none) (x y : Operand)
    (ho : o.op = .call { callee := .builtin .append, args := #[x, y], argTypes := #[25, 25] }) (hty : o.type = 25)
    (base : Nat) (a : Option Addr) (n c : Nat) (xs : List Int) (g : Nat) (k : Int) (hx : ac.eval x = .slice a n c) (hy : ac.eval y = .slice (some ⟨g, 0, none⟩) 1 1) (hn : n = xs.length) (hb : (xs.length + 1) * 8 ≤ 140737488355328) (hB : base ≤ w.heap.size)
    (hO : w.ownsRow base 3 1 (.slice a n c) xs.length (xs.map (Value.int .i64))) (hk : w.cell? ⟨g, 0, none⟩ = some (.int .i64 k))
    (h : ∀ a' c' w', w'.ownsRow base 3 1 (.slice a' (xs ++ [k]).length c') (xs ++ [k]).length ((xs ++ [k]).map (Value.int .i64)) → w.grownBy w' (Value.slice a n c).ownBlock → K (ac.put o.dst (.slice a' (xs ++ [k]).length c')) w') :
    if Region.wanted o (yielded ops ac.tmps) = true then Oper.wp Tryd.prog o ac w K Q else E := by
  have hw : Region.wanted o (yielded ops ac.tmps) = true := by simp [Region.wanted, hgd]
  rw [if_pos hw]
  obtain ⟨a', c', w', hr, h2, h3⟩ := append_snoc base a n c xs g k w hn hb hB hO hk
  unfold Oper.wp execOp
  simp only [ho, hty, resolve, invoke, builtin, Sem.run_bind, Sem.run_pure, Result.andThen_ok, List.map_toArray, List.map_cons, List.map_nil, hx, hy, hr]
  exact h a' c' w' h2 h3
end Go.Proofs.YtfafnmfgiclanaaDoor
