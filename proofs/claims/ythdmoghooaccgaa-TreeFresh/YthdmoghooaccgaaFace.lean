/-
  Same, Copy, At, Each, each by a contract.
-/
import Derived.Test.YthdmoghooaccgaaFollow
import Derived.Test.YthdmoghooaccgaaPathAid
import Derived.Laws.EntriesVeiled
namespace Go.Proofs.Ythdmoghooaccgaa
open Go.RowKit
abbrev zeroTree : Value := .agg #[.string ⟨#[]⟩, .int .i64 0, .string ⟨#[]⟩, .slice none 0 0]
theorem four_of {w : World} {b : Nat} {v0 v1 v2 v3 : Value} {t : TypeId} (h : w.heap[b]? = some (.cells #[v0, v1, v2, v3] t)) :
    w.cell? ⟨b, 0, none⟩ = some v0 ∧ w.cell? ⟨b, 1, none⟩ = some v1 ∧ w.cell? ⟨b, 2, none⟩ = some v2 ∧ w.cell? ⟨b, 3, none⟩ = some v3 :=
  ⟨cell_of (i := 0) h rfl, cell_of (i := 1) h rfl, cell_of (i := 2) h rfl, cell_of (i := 3) h rfl⟩
theorem four_free {w : World} {b : Nat} {v0 v1 v2 v3 : Value} {t : TypeId} (h : w.heap[b]? = some (.cells #[v0, v1, v2, v3] t)) :
    w.frozen? ⟨b, 0, none⟩ = false ∧ w.frozen? ⟨b, 1, none⟩ = false ∧ w.frozen? ⟨b, 2, none⟩ = false ∧ w.frozen? ⟨b, 3, none⟩ = false :=
  ⟨frozen_of (i := 0) h, frozen_of (i := 1) h, frozen_of (i := 2) h, frozen_of (i := 3) h⟩
theorem four_set {w : World} {b : Nat} {v0 v1 v2 v3 u0 u1 u2 u3 : Value} {t : TypeId} (h : w.heap[b]? = some (.cells #[v0, v1, v2, v3] t)) :
    ((((w.setCell ⟨b, 0, none⟩ u0).setCell ⟨b, 1, none⟩ u1).setCell ⟨b, 2, none⟩ u2).setCell ⟨b, 3, none⟩ u3).heap[b]? = some (.cells #[u0, u1, u2, u3] t) := by
  have := set4_block h 0 u0 u1 u2 u3
  simpa [set4A] using this
set_option maxRecDepth 100000 in
set_option maxHeartbeats 1000000 in
theorem same_face {K K' : Nat → Prop} {d d' : Nat} {v v' : Value} {t t' : T} (w : World) (hr : Rd K w d v t) (hr' : Rd K' w d' v' t') :
    Calls Try.prog 17 #[v, v'] w fun e w' => e = .returned (.bool (decide t.small && decide t'.small && T.beq t t')) ∧ Ext w w' := by
  obtain ⟨u0, u1, u2, u3, rfl⟩ := hr.agg
  obtain ⟨k, n, x, a, c, rfl, rfl, rfl, rfl⟩ := hr.shape
  obtain ⟨u0, u1, u2, u3, rfl⟩ := hr'.agg
  obtain ⟨k', n', x', a', c', rfl, rfl, rfl, rfl⟩ := hr'.shape
  have C1 := hid (fun w1 (h : Ext w w1) => great_any w1 (hr.later h))
  have C2 := hid (fun w1 (h : Ext w w1) => great_any w1 (hr'.later h))
  have C3 := hid (fun w1 (h : Ext w w1) => same_any d _ _ t t' K K' w1 d' (hr.later h) (hr'.later h))
  clear hr hr'
  generalize (T.kids t).length = kt at *
  generalize (T.kids t').length = kt' at *
  by_cases h1 : t.small
  · rw [decide_eq_true h1] at C1
    by_cases h2 : t'.small
    · rw [decide_eq_true h2] at C2
      have HR := hid (show (decide t.small && decide t'.small && T.beq t t') = T.beq t t' by rw [decide_eq_true h1, decide_eq_true h2]; rfl)
      clear h1 h2
      go_enter Try.func17, Try.ntmps17
      go_wp2_with fail
      refine (C1.out _ (Ext.alloc2 _ _ _)).mono ?_
      rintro e w1 ⟨rfl, hx1⟩
      obtain ⟨p0, p1, p2, p3⟩ := four_of (hx1.block (blk1 w _ _))
      go_wp2_with fail
      refine (C2.out _ ((Ext.alloc2 _ _ _).trans hx1)).mono ?_
      rintro e w2 ⟨rfl, hx2⟩
      clear p0 p1 p2 p3
      obtain ⟨p0, p1, p2, p3⟩ := four_of (hx2.block (hx1.block (blk1 w _ _)))
      obtain ⟨q0, q1, q2, q3⟩ := four_of (hx2.block (hx1.block (blkOld _ (blk0 w _))))
      go_wp2_with fail
      refine (C3.out _ (((Ext.alloc2 _ _ _).trans hx1).trans hx2)).mono ?_
      rintro e w3 ⟨rfl, hx3⟩
      go_wp2_with fail
      go_ret
      exact ⟨ret_bool HR.out.symm, (((Ext.alloc2 _ _ _).trans hx1).trans hx2).trans hx3⟩
    · rw [decide_eq_false h2] at C2
      have HR := hid (show (decide t.small && decide t'.small && T.beq t t') = false by rw [decide_eq_false h2]; simp)
      clear h1 h2
      go_enter Try.func17, Try.ntmps17
      go_wp2_with fail
      refine (C1.out _ (Ext.alloc2 _ _ _)).mono ?_
      rintro e w1 ⟨rfl, hx1⟩
      obtain ⟨p0, p1, p2, p3⟩ := four_of (hx1.block (blk1 w _ _))
      go_wp2_with fail
      refine (C2.out _ ((Ext.alloc2 _ _ _).trans hx1)).mono ?_
      rintro e w2 ⟨rfl, hx2⟩
      go_wp2_with fail
      go_ret
      exact ⟨ret_bool HR.out.symm, ((Ext.alloc2 _ _ _).trans hx1).trans hx2⟩
  · rw [decide_eq_false h1] at C1
    have HR := hid (show (decide t.small && decide t'.small && T.beq t t') = false by rw [decide_eq_false h1]; rfl)
    clear h1
    go_enter Try.func17, Try.ntmps17
    go_wp2_with fail
    refine (C1.out _ (Ext.alloc2 _ _ _)).mono ?_
    rintro e w1 ⟨rfl, hx1⟩
    go_wp2_with fail
    go_ret
    exact ⟨ret_bool HR.out.symm, (Ext.alloc2 _ _ _).trans hx1⟩
/-- A tree of memory of its own and OK. -/
def GivenR (w : World) (d : Nat) (t : T) (e : Ending) (w' : World) : Prop := ∃ v' bs, e = .returned (.tuple #[v', .int .i64 0]) ∧ Own w' d v' t bs ∧ (∀ b ∈ bs, w.heap.size ≤ b) ∧ bs.Nodup
/-- What Copy answers. -/
def CopyF (w : World) (d : Nat) (t : T) (e : Ending) (w' : World) : Prop := Ext w w' ∧ ((t.small ∧ GivenR w d t e w') ∨ (¬ t.small ∧ e = .returned (.tuple #[zeroTree, .int .i64 2])))
set_option maxRecDepth 100000 in
set_option maxHeartbeats 1000000 in
theorem copy_face {K : Nat → Prop} {d : Nat} {v : Value} {t : T} (w : World) (hr : Rd K w d v t) : Calls Try.prog 20 #[v] w (CopyF w d t) := by
  obtain ⟨u0, u1, u2, u3, rfl⟩ := hr.agg
  obtain ⟨k, n, x, a, c, rfl, rfl, rfl, rfl⟩ := hr.shape
  have C1 := hid (fun w1 (h : Ext w w1) => great_any w1 (hr.later h))
  have C2 := hid (fun w1 (h : Ext w w1) => copied_any d _ t K w1 (hr.later h))
  clear hr
  generalize (T.kids t).length = kt at *
  by_cases h1 : t.small
  · rw [decide_eq_true h1] at C1
    have HS := hid h1
    clear h1
    go_enter Try.func20, Try.ntmps20
    go_wp2_with fail
    refine (C1.out _ (Ext.alloc2 _ _ _)).mono ?_
    rintro e w1 ⟨rfl, hx1⟩
    obtain ⟨p0, p1, p2, p3⟩ := four_of (hx1.block (blkOld _ (blk0 w _)))
    go_wp2_with fail
    refine (C2.out _ ((Ext.alloc2 _ _ _).trans hx1)).mono ?_
    rintro e w2 ⟨v', bs, rfl, hx2, hown, hge, hnd⟩
    obtain ⟨u0, u1, u2, u3, rfl⟩ := hown.rd.agg
    obtain ⟨k2, n2, x2, a2, c2, rfl, rfl, rfl, rfl⟩ := hown.rd.shape
    have hb := hx2.block (hx1.block (blk1 w _ _))
    have HB := hid hb
    obtain ⟨q0, q1, q2, q3⟩ := four_of hb
    obtain ⟨f0, f1, f2, f3⟩ := four_free hb
    have hsz := hx1.size
    simp only [World.size_alloc] at hsz
    have HO := hid hown
    have HX := hid (((Ext.alloc2 w _ _).trans hx1).trans hx2)
    have HG := hid (show ∀ b ∈ bs, w.heap.size + 1 < b from fun b hb => by have := hge b hb; omega)
    clear hb p0 p1 p2 p3 hown hge hx1 hx2
    generalize hkt : (T.kids t).length = kt2 at HO
    go_wp2_with fail
    have hk4 := Kp.set4 w2 (w.heap.size + 1) 0 (.string k2) (.int .i64 n2) (.string x2) (.slice a2 kt2 c2)
    obtain ⟨z0, z1, z2, z3⟩ := four_of (four_set (u0 := .string k2) (u1 := .int .i64 n2) (u2 := .string x2) (u3 := .slice a2 kt2 c2) HB.out)
    refine bodyPost_ret (v := .tuple #[.agg #[.string k2, .int .i64 n2, .string x2, .slice a2 kt2 c2], .int .i64 0]) (by simp [results, Try.results20, go_sem, z0, z1, z2, z3]) rfl ?_
    exact ⟨Kp.extOf HX.out hk4 (Nat.le_succ _), .inl ⟨HS.out, _, bs, rfl, HO.out.keep (hk4.mono (fun q _ hq e => by have := HG.out q hq; have e' : q = _ := e; omega)), fun b hb => by have := HG.out b hb; omega, hnd⟩⟩
  · rw [decide_eq_false h1] at C1
    have HS := hid h1
    clear h1
    go_enter Try.func20, Try.ntmps20
    go_wp2_with fail
    refine (C1.out _ (Ext.alloc2 _ _ _)).mono ?_
    rintro e w1 ⟨rfl, hx1⟩
    have hb := hx1.block (blk1 w _ _)
    have HB := hid hb
    obtain ⟨q0, q1, q2, q3⟩ := four_of hb
    obtain ⟨f0, f1, f2, f3⟩ := four_free hb
    have HX := hid ((Ext.alloc2 w _ _).trans hx1)
    clear hb hx1
    go_wp2_with fail
    have hk4 := Kp.set4 w1 (w.heap.size + 1) 0 (.string ⟨#[]⟩) (.int .i64 0) (.string ⟨#[]⟩) (.slice none 0 0)
    obtain ⟨z0, z1, z2, z3⟩ := four_of (four_set (u0 := .string ⟨#[]⟩) (u1 := .int .i64 0) (u2 := .string ⟨#[]⟩) (u3 := .slice none 0 0) HB.out)
    refine bodyPost_ret (v := .tuple #[zeroTree, .int .i64 2]) (by simp [results, Try.results20, go_sem, z0, z1, z2, z3]) rfl ?_
    exact ⟨Kp.extOf HX.out hk4 (Nat.le_succ _), .inr ⟨HS.out, rfl⟩⟩
end Go.Proofs.Ythdmoghooaccgaa
