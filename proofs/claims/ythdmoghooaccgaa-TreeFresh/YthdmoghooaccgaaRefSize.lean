/-
  The reference's Size, Small and Same, each by a contract.
-/
import Derived.Test.YthdmoghooaccgaaOver
import Derived.Test.YthdmoghooaccgaaRefEq
namespace Go.Proofs.Ythdmoghooaccgaa
open Go.RowKit
set_option maxRecDepth 100000 in
set_option maxHeartbeats 1000000 in
theorem refSize_any {K : Nat → Prop} {d : Nat} {v : Value} {t : T} (w : World) (hr : Rd K w d v t) :
    Calls Try.prog 35 #[v] w fun e w' => e = .returned (sizeV t) ∧ Ext w w' := by
  obtain ⟨u0, u1, u2, u3, rfl⟩ := hr.agg
  obtain ⟨k, n, x, a, c, rfl, rfl, rfl, rfl⟩ := hr.shape
  have HR := hid hr.low
  clear hr
  go_enter Try.func35, Try.ntmps35
  go_wp2_with fail
  refine (over_any d _ t (· < w.heap.size) _ (w.heap.size + 1) 0 0 0 1 (HR.out.later (Ext.alloc2 _ _ _)) (by omega) (blk1 _ _ _) (by omega) (by omega) (by omega) (by omega) (by omega)).mono ?_
  rintro e w2 ⟨⟨r, rfl⟩, hk, hcase⟩
  have HX := hid (hk.extOf (Ext.alloc2 w _ _) (Nat.le_succ _))
  clear hk
  rcases hcase with ⟨hok, hb⟩ | ⟨hno, xx, yy, zz, hb⟩
  · have HS := hid ((T.ok_small t).1 hok)
    clear hok
    have c0 := cell_of (i := 0) hb rfl
    have c1 := cell_of (i := 1) hb rfl
    have c2 := cell_of (i := 2) hb rfl
    have c3 := cell_of (i := 3) hb rfl
    simp only [List.getElem_toArray, List.getElem_cons_zero, List.getElem_cons_succ] at c0 c1 c2 c3
    clear hb
    generalize hN : ((0 + t.size : Nat) : Int) = N at c0
    generalize hD : ((max 0 (1 + t.height - 1) : Nat) : Int) = D at c1
    generalize hB : ((0 + t.bytes : Nat) : Int) = B at c2
    have HN := hid hN
    have HD := hid hD
    have HB := hid hB
    clear hN hD hB
    go_wp2_with fail
    go_quiet (fail)
    go_wp2_with fail
    go_ret3
    refine ⟨?_, HX.out.drewN _⟩
    rw [sizeV, if_pos HS.out, ← HN.out, ← HD.out, ← HB.out, show 0 + t.size = t.size by omega, show max 0 (1 + t.height - 1) = t.height by omega, show 0 + t.bytes = t.bytes by omega]
    rfl
  · have HS := hid (fun h => hno ((T.ok_small t).2 h))
    have c3 := cell_of (i := 3) hb rfl
    simp only [List.getElem_toArray, List.getElem_cons_zero, List.getElem_cons_succ] at c3
    clear hno hb
    go_wp2_with fail
    go_ret3
    refine ⟨?_, HX.out⟩
    rw [sizeV, if_neg HS.out]
    rfl
set_option maxRecDepth 100000 in
theorem refSmall_any {K : Nat → Prop} {d : Nat} {v : Value} {t : T} (w : World) (hr : Rd K w d v t) :
    Calls Try.prog 53 #[v] w fun e w' => e = .returned (.bool (decide t.small)) ∧ Ext w w' := by
  obtain ⟨u0, u1, u2, u3, rfl⟩ := hr.agg
  obtain ⟨k, n, x, a, c, rfl, rfl, rfl, rfl⟩ := hr.shape
  have HR := hid hr
  clear hr
  go_enter Try.func53, Try.ntmps53
  go_wp2_with fail
  refine (refSize_any _ (HR.out.later (Ext.alloc _ _))).mono ?_
  rintro e w2 ⟨rfl, hx⟩
  have HX := hid ((Ext.alloc w _).trans hx)
  clear hx
  by_cases hs : t.small
  · rw [show sizeV t = .tuple #[.int .i64 t.size, .int .i64 t.height, .int .i64 t.bytes] from if_pos hs]
    have HS := hid hs
    have q : decide ((t.size : Int) ≤ 1024) = true := decide_eq_true (by have := hs.1; omega)
    have q' : t.size ≤ 1024 := hs.1
    clear hs
    go_wp2_with fail
    go_ret
    exact ⟨ret_bool (by rw [decide_eq_true HS.out]), HX.out⟩
  · rw [show sizeV t = .tuple #[.int .i64 1025, .int .i64 65, .int .i64 16385] from if_neg hs]
    have HS := hid hs
    clear hs
    go_wp2_with fail
    go_ret
    exact ⟨ret_bool (by rw [decide_eq_false HS.out]; try rfl), HX.out⟩
set_option maxRecDepth 100000 in
set_option maxHeartbeats 1000000 in
theorem refSame_any {K K' : Nat → Prop} {d d' : Nat} {v v' : Value} {t t' : T} (w : World) (hr : Rd K w d v t) (hr' : Rd K' w d' v' t') :
    Calls Try.prog 36 #[v, v'] w fun e w' => e = .returned (.bool (decide t.small && decide t'.small && T.beq t t')) ∧ Ext w w' := by
  obtain ⟨u0, u1, u2, u3, rfl⟩ := hr.agg
  obtain ⟨k, n, x, a, c, rfl, rfl, rfl, rfl⟩ := hr.shape
  obtain ⟨u0, u1, u2, u3, rfl⟩ := hr'.agg
  obtain ⟨k', n', x', a', c', rfl, rfl, rfl, rfl⟩ := hr'.shape
  have C1 := hid (fun w1 (h : Ext w w1) => refSmall_any w1 (hr.later h))
  have C2 := hid (fun w1 (h : Ext w w1) => refSmall_any w1 (hr'.later h))
  have C3 := hid (fun w1 (h : Ext w w1) => eq_any d _ _ t t' K K' w1 d' (hr.later h) (hr'.later h))
  clear hr hr'
  generalize (T.kids t).length = kt at *
  generalize (T.kids t').length = kt' at *
  by_cases h1 : t.small
  · rw [decide_eq_true h1] at C1
    by_cases h2 : t'.small
    · rw [decide_eq_true h2] at C2
      have HR := hid (show (decide t.small && decide t'.small && T.beq t t') = T.beq t t' by rw [decide_eq_true h1, decide_eq_true h2]; rfl)
      clear h1 h2
      go_enter Try.func36, Try.ntmps36
      go_wp2_with fail
      refine (C1.out _ (Ext.alloc2 _ _ _)).mono ?_
      rintro e w1 ⟨rfl, hx1⟩
      obtain ⟨p0, p1, p2, p3⟩ := four_of (hx1.block (blk1 w _ _))
      go_wp2_with fail
      refine (C2.out _ ((Ext.alloc2 _ _ _).trans hx1)).mono ?_
      rintro e w2 ⟨rfl, hx2⟩
      clear p0 p1 p2 p3
      obtain ⟨p0, p1, p2, p3⟩ := four_of (hx2.block (hx1.block (blk1 w _ _)))
      obtain ⟨q0, q1, q2, q3⟩ := four_of (hx2.block (hx1.block (blkOld _ (blk0 w _))))
      go_wp2_with fail
      refine (C3.out _ (((Ext.alloc2 _ _ _).trans hx1).trans hx2)).mono ?_
      rintro e w3 ⟨rfl, hx3⟩
      go_wp2_with fail
      go_ret
      exact ⟨ret_bool HR.out.symm, (((Ext.alloc2 _ _ _).trans hx1).trans hx2).trans hx3⟩
    · rw [decide_eq_false h2] at C2
      have HR := hid (show (decide t.small && decide t'.small && T.beq t t') = false by rw [decide_eq_false h2]; simp)
      clear h1 h2
      go_enter Try.func36, Try.ntmps36
      go_wp2_with fail
      refine (C1.out _ (Ext.alloc2 _ _ _)).mono ?_
      rintro e w1 ⟨rfl, hx1⟩
      obtain ⟨p0, p1, p2, p3⟩ := four_of (hx1.block (blk1 w _ _))
      go_wp2_with fail
      refine (C2.out _ ((Ext.alloc2 _ _ _).trans hx1)).mono ?_
      rintro e w2 ⟨rfl, hx2⟩
      go_wp2_with fail
      go_ret
      exact ⟨ret_bool HR.out.symm, ((Ext.alloc2 _ _ _).trans hx1).trans hx2⟩
  · rw [decide_eq_false h1] at C1
    have HR := hid (show (decide t.small && decide t'.small && T.beq t t') = false by rw [decide_eq_false h1]; rfl)
    clear h1
    go_enter Try.func36, Try.ntmps36
    go_wp2_with fail
    refine (C1.out _ (Ext.alloc2 _ _ _)).mono ?_
    rintro e w1 ⟨rfl, hx1⟩
    go_wp2_with fail
    go_ret
    exact ⟨ret_bool HR.out.symm, (Ext.alloc2 _ _ _).trans hx1⟩
end Go.Proofs.Ythdmoghooaccgaa
