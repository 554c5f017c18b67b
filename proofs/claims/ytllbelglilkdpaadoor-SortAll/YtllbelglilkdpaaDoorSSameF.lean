/-
  Same of package sort by a contract.
-/
import Derived.Test.YtllbelglilkdpaaDoorSSame
namespace Go.Proofs.YtllbelglilkdpaaDoor
open Go.RowKit
/-- What Same answers. -/
def sameS (t u : S) : Bool := match shp t, shp u with
  | some (n, x), some (m, y) => decide (n = m) && decide (x = y)
  | _, _ => false
theorem nat_beq (n m : Nat) : ((n : Int) == (m : Int)) = decide (n = m) := by
  by_cases h : n = m
  · subst h; simp
  · rw [decide_eq_false h, beq_eq_false_iff_ne]; omega
theorem str_beq (x y : ByteArray) : (x.toList == y.toList) = decide (x = y) := by
  by_cases h : x = y
  · subst h; simp
  · rw [decide_eq_false h, beq_eq_false_iff_ne]; exact fun e => h (toList_inj e)
set_option maxRecDepth 100000 in
set_option maxHeartbeats 1000000 in
theorem sameS_any {K K' : Nat → Prop} {d d' : Nat} {v v' : Value} {t u : S} (w : World) (hr : SRd K w d v t) (hr' : SRd K' w d' v' u) : Calls Tryd.prog 12 #[v, v'] w fun e w' => e = .returned (.bool (sameS t u)) ∧ Ext w w' := by
  obtain ⟨a, c, rfl⟩ := hr.shape
  obtain ⟨a', c', rfl⟩ := hr'.shape
  have C1 := hid (fun w1 (h : Ext w w1) => shapesOf_any w1 (hr.later h) (hr'.later h))
  obtain ⟨ans, hans⟩ : ∃ ans, sameS t u = ans := ⟨_, rfl⟩
  rw [hans]
  clear hr hr'
  cases h1 : shp t with
  | none =>
    have HA := hid (show ans = false by rw [← hans]; unfold sameS; rw [h1])
    rw [show shsV t u = .tuple #[.agg #[.int .i64 0, .string ⟨#[]⟩], .agg #[.int .i64 0, .string ⟨#[]⟩], .int .i64 14] by unfold shsV; rw [h1]] at C1
    clear h1 hans
    generalize t.name = nt at *
    generalize t.kids.length = kt at *
    generalize u.name = nu at *
    generalize u.kids.length = ku at *
    go_enter Tryd.func12, Tryd.ntmps12
    go_wp2_with fail
    refine (C1.out _ (Ext.alloc2 _ _ _)).mono ?_
    rintro e w1 ⟨rfl, hx1⟩
    have HX1 := hid (((Ext.alloc2 w _ _).trans hx1).trans (Ext.alloc2 w1 (.cells #[.int .i64 0, .string ⟨#[]⟩] 58) (.cells #[.int .i64 0, .string ⟨#[]⟩] 58)))
    clear hx1
    go_wp2_with fail
    go_ret
    exact ⟨by rw [HA.out]; rfl, HX1.out⟩
  | some y =>
    obtain ⟨n, x⟩ := y
    cases h2 : shp u with
    | none =>
      have HA := hid (show ans = false by rw [← hans]; unfold sameS; rw [h1, h2])
      rw [show shsV t u = .tuple #[.agg #[.int .i64 n, .string x], .agg #[.int .i64 0, .string ⟨#[]⟩], .int .i64 14] by unfold shsV; rw [h1, h2]] at C1
      clear h1 h2 hans
      generalize t.name = nt at *
      generalize t.kids.length = kt at *
      generalize u.name = nu at *
      generalize u.kids.length = ku at *
      go_enter Tryd.func12, Tryd.ntmps12
      go_wp2_with fail
      refine (C1.out _ (Ext.alloc2 _ _ _)).mono ?_
      rintro e w1 ⟨rfl, hx1⟩
      have HX1 := hid (((Ext.alloc2 w _ _).trans hx1).trans (Ext.alloc2 w1 (.cells #[.int .i64 n, .string x] 58) (.cells #[.int .i64 0, .string ⟨#[]⟩] 58)))
      clear hx1
      go_wp2_with fail
      go_ret
      exact ⟨by rw [HA.out]; rfl, HX1.out⟩
    | some z =>
      obtain ⟨m, y⟩ := z
      have HA := hid (show ans = (decide (n = m) && (x.toList == y.toList)) by rw [← hans, str_beq]; unfold sameS; rw [h1, h2])
      rw [show shsV t u = .tuple #[.agg #[.int .i64 n, .string x], .agg #[.int .i64 m, .string y], .int .i64 0] by unfold shsV; rw [h1, h2]] at C1
      clear h1 h2 hans
      generalize t.name = nt at *
      generalize t.kids.length = kt at *
      generalize u.name = nu at *
      generalize u.kids.length = ku at *
      go_enter Tryd.func12, Tryd.ntmps12
      go_wp2_with fail
      refine (C1.out _ (Ext.alloc2 _ _ _)).mono ?_
      rintro e w1 ⟨rfl, hx1⟩
      have HX1 := hid (((Ext.alloc2 w _ _).trans hx1).trans (Ext.alloc2 w1 (.cells #[.int .i64 n, .string x] 58) (.cells #[.int .i64 m, .string y] 58)))
      obtain ⟨p0, p1⟩ := two_of (blkOld (.cells #[.int .i64 m, .string y] 58) (blk0 w1 (.cells #[.int .i64 n, .string x] 58)))
      obtain ⟨q0, q1⟩ := two_of (blk1 w1 (.cells #[.int .i64 n, .string x] 58) (.cells #[.int .i64 m, .string y] 58))
      clear hx1
      obtain ⟨b2, hb2⟩ : ∃ b2, (x.toList == y.toList) = b2 := ⟨_, rfl⟩
      rw [hb2] at HA
      by_cases hnm : n = m
      · subst hnm
        rw [decide_eq_true rfl] at HA
        cases b2 with
        | true =>
          go_wp2_with fail
          go_ret
          exact ⟨by rw [HA.out]; rfl, HX1.out⟩
        | false =>
          go_wp2_with fail
          go_ret
          exact ⟨by rw [HA.out]; rfl, HX1.out⟩
      · have q1 : ((n : Int) == (m : Int)) = false := by rw [beq_eq_false_iff_ne]; omega
        have q2 : ¬ (n : Int) = (m : Int) := by omega
        rw [decide_eq_false hnm] at HA
        clear hnm
        go_wp2_with fail
        go_ret
        exact ⟨by rw [HA.out]; rfl, HX1.out⟩
end Go.Proofs.YtllbelglilkdpaaDoor
