/-
  A path of one's own, one number appended: as a step of a region that draws its order.
-/
import Derived.Test.YthdmoghooaccgaaFollow
import Derived.Deep.AppendLies
import Derived.Maps.AppendAt
namespace Go.Proofs.Ythdmoghooaccgaa
open Go.RowKit
theorem add_none (g off j : Nat) : Addr.add ⟨g, off, none⟩ j = ⟨g, off + j, none⟩ := by
  by_cases hj : j = 0
  · subst hj; simp [Addr.add]
  · simp [Addr.add, hj]
/-- The path pv, in a block of its own beyond n0, reads as p. -/
abbrev PathW (w : World) (n0 : Nat) (pv : Value) (p : List Int) : Prop := w.ownsRow n0 3 1 pv p.length (p.map (Value.int .i64))
theorem PathW.keep {K : Nat → Prop} {w w' : World} {n0 : Nat} {pv : Value} {p : List Int} (h : PathW w n0 pv p) (hk : Kp K w w') (hb : ∀ b, pv.ownBlock = some b → K b) : PathW w' n0 pv p := by
  refine ⟨h.1, ?_⟩
  rcases h.2 with h | ⟨g, cap, cur, rfl, h2, h3, h4⟩
  · exact .inl h
  · exact .inr ⟨g, cap, cur, rfl, h2, hk.block' h3 (hb g rfl), h4⟩
theorem PathW.block {w : World} {n0 : Nat} {pv : Value} {p : List Int} (h : PathW w n0 pv p) {b : Nat} (hb : pv.ownBlock = some b) : n0 ≤ b ∧ ∃ cur, w.heap[b]? = some (.cells cur 3) := by
  rcases h.2 with ⟨rfl, _⟩ | ⟨g, cap, cur, rfl, h2, h3, h4⟩
  · cases hb
  · cases hb; exact ⟨h2, cur, h3⟩
theorem PathW.ints {w : World} {n0 : Nat} {pv : Value} {p : List Int} (h : PathW w n0 pv p) : Ints w pv p := Ints.own rfl h
theorem PathW.shape {w : World} {n0 : Nat} {pv : Value} {p : List Int} (h : PathW w n0 pv p) : ∃ a c, pv = .slice a p.length c := ownsRow_slice h
theorem path_append (n0 : Nat) (a : Option Addr) (n c : Nat) (xs : List Int) (g : Nat) (k : Int) (w : World) (hn : n = xs.length) (hb : (xs.length + 1) * 8 ≤ 140737488355328) (hB : n0 ≤ w.heap.size) (h : PathW w n0 (.slice a n c) xs) (hk : w.cell? ⟨g, 0, none⟩ = some (.int .i64 k)) :
    ∃ a' c' w', (Builtin.append_ #[27, 27] 27 #[.slice a n c, .slice (some ⟨g, 0, none⟩) 1 1]).run Try.prog w = .ok (.slice a' (xs.length + 1) c') w' ∧ PathW w' n0 (.slice a' (xs.length + 1) c') (xs ++ [k]) ∧
      ((a' = a ∧ c' = c ∧ Kp (fun b => some b ≠ (Value.slice a n c).ownBlock) w w') ∨ (a' = some ⟨w.heap.size, 0, none⟩ ∧ Ext w w')) := by
  subst hn
  obtain ⟨i0, hi0, hz0, hz1, hz2⟩ := info_parts intInfo
  have hnews : ∀ (j : Nat) (u : Value), [Value.int .i64 k][j]? = some u → w.cell? (Addr.add ⟨g, 0, none⟩ j) = some u := by
    intro j u hu
    match j, hu with
    | 0, hu => simp at hu; subst hu; rw [add_none]; exact hk
  have hone : ∀ u ∈ [Value.int .i64 k], u.oneCell' = true := by
    intro u hu
    simp at hu; subst hu; rfl
  obtain ⟨v', w', hr, ho, hg, _, hob⟩ := run_append_own_at (P := Try.prog) w n0 27 27 3 i0 (.int .i64 0) 1 8 Try.underlying27 hi0 hz0 hz1 hz2 rfl (by decide) (.slice a xs.length c) xs.length (xs.map (Value.int .i64)) h ⟨g, 0, none⟩ 1 1 [.int .i64 k] rfl hnews hone (by unfold maxLen; omega) (by omega) hB
  have ho2 : PathW w' n0 v' (xs ++ [k]) := by
    show w'.ownsRow n0 3 1 v' (xs ++ [k]).length ((xs ++ [k]).map (Value.int .i64))
    simpa using ho
  have hl : (xs ++ [k]).length = xs.length + 1 := by simp
  obtain ⟨a', c', rfl⟩ := ho2.shape
  rw [hl] at hr ho2
  rcases h.2 with ⟨e, h0⟩ | ⟨g0, cap, cur, e, hbg, hgc, hnc, hcm, hcs, htake⟩
  · injection e with e1 e2 e3
    subst e1
    have hx : Ext w w' := ⟨hg.os, hg.tape, hg.output, hg.size, fun k hk => hg.block k hk (by simp [Value.ownBlock])⟩
    refine ⟨a', c', w', hr, ho2, .inr ⟨?_, hx⟩⟩
    rcases hob with hob | hob
    · rcases ho2.2 with ⟨e', h'⟩ | ⟨g', cap', cur', e', _⟩
      · rw [hl] at h'; exact absurd h' (Nat.succ_ne_zero _)
      · obtain ⟨e1, e2, e3⟩ := (Value.slice.injEq ..).mp e'
        subst e1
        simp [Value.ownBlock] at hob
    · rcases ho2.2 with ⟨e', h'⟩ | ⟨g', cap', cur', e', _⟩
      · rw [hl] at h'; exact absurd h' (Nat.succ_ne_zero _)
      · obtain ⟨e1, e2, e3⟩ := (Value.slice.injEq ..).mp e'
        subst e1
        simp [Value.ownBlock] at hob
        rw [hob]
  · injection e with e1 e2 e3
    subst e1; subst e3
    by_cases hroom : xs.length + 1 ≤ c
    · have hfit : xs.length * i0.size + [Value.int .i64 k].length ≤ cur.size := by rw [hz1, hcs]; simp; omega
      have hr2 := run_append_room (P := Try.prog) w 27 27 3 i0 Try.underlying27 hi0 g0 xs.length c cur hgc ⟨g, 0, none⟩ 1 1 [.int .i64 k] (by rw [hz1]; rfl) hnews hone hroom hfit
      rw [hr] at hr2
      injection hr2 with h1 h2
      injection h1 with e1 e2 e3
      subst e1; subst e3
      exact ⟨_, _, w', hr, ho2, .inl ⟨rfl, rfl, hg.os, hg.tape, hg.output, hg.size, fun k hk hne => hg.block k hk hne⟩⟩
    · have holds : ∀ j u, (xs.map (Value.int .i64))[j]? = some u → w.cell? ((⟨g0, 0, none⟩ : Addr).add j) = some u := h.cells (g := g0) rfl
      have hr2 := run_append_grow (P := Try.prog) w 27 27 3 i0 (.int .i64 0) Try.underlying27 hi0 hz0 ⟨g0, 0, none⟩ xs.length c (xs.map (Value.int .i64)) (by rw [hz1]; simp) holds ⟨g, 0, none⟩ 1 1 [.int .i64 k] (by rw [hz1]; rfl) hnews (by omega) (by omega) (growslice_fits (by omega) (by rw [hz2]; omega))
      rw [hr] at hr2
      injection hr2 with h1 h2
      injection h1 with e1 e2 e3
      subst e1; subst h2
      exact ⟨_, _, _, hr, ho2, .inr ⟨rfl, (Ext.refl w).drew.trans (Ext.alloc _ _)⟩⟩
theorem step_append_path {ops : Array Oper} {o : Oper} {ac : Act} {K : Act → World → Prop} {Q : Exit → Act → World → Prop} {E : Prop} (w : World) (hgd : o.guard = none) (x y : Operand)
    (ho : o.op = .call { callee := .builtin .append, args := #[x, y], argTypes := #[27, 27] }) (hty : o.type = 27)
    (n0 : Nat) (a : Option Addr) (n c : Nat) (xs : List Int) (g : Nat) (k : Int) (hx : ac.eval x = .slice a n c) (hy : ac.eval y = .slice (some ⟨g, 0, none⟩) 1 1) (hn : n = xs.length) (hb : (xs.length + 1) * 8 ≤ 140737488355328) (hB : n0 ≤ w.heap.size)
    (hO : PathW w n0 (.slice a n c) xs) (hk : w.cell? ⟨g, 0, none⟩ = some (.int .i64 k))
    (h : ∀ a' c' w', PathW w' n0 (.slice a' (xs.length + 1) c') (xs ++ [k]) → ((a' = a ∧ c' = c ∧ Kp (fun b => some b ≠ (Value.slice a n c).ownBlock) w w') ∨ (a' = some ⟨w.heap.size, 0, none⟩ ∧ Ext w w')) → K (ac.put o.dst (.slice a' (xs.length + 1) c')) w') :
    if Region.wanted o (yielded ops ac.tmps) = true then Oper.wp Try.prog o ac w K Q else E := by
  have hw : Region.wanted o (yielded ops ac.tmps) = true := by simp [Region.wanted, hgd]
  rw [if_pos hw]
  obtain ⟨a', c', w', hr, h2, h3⟩ := path_append n0 a n c xs g k w hn hb hB hO hk
  unfold Oper.wp execOp
  simp only [ho, hty, resolve, invoke, builtin, Sem.run_bind, Sem.run_pure, Result.andThen_ok, List.map_toArray, List.map_cons, List.map_nil, hx, hy, hr]
  exact h a' c' w' h2 h3
/-- What is left of a path when the last number is forgotten. -/
theorem PathW.shrink {w : World} {n0 : Nat} {a : Option Addr} {c : Nat} {p : List Int} {k : Int} (h : PathW w n0 (.slice a (p.length + 1) c) (p ++ [k])) : PathW w n0 (.slice a p.length c) p := by
  refine ⟨by simp, ?_⟩
  rcases h.2 with ⟨e, h'⟩ | ⟨g', cap', cur', e', h1, h2, h3, h4, h5, h6⟩
  · simp at h'
  · obtain ⟨e1, e2, e3⟩ := (Value.slice.injEq ..).mp e'
    subst e1; subst e3
    refine .inr ⟨g', c, cur', rfl, h1, h2, by simp at h3; omega, h4, h5, ?_⟩
    have h7 := congrArg (List.take (p.length * 1)) h6
    rw [List.take_take, Nat.min_eq_left (by simp)] at h7
    rw [h7, List.map_append, List.take_left' (by simp)]
end Go.Proofs.Ythdmoghooaccgaa
