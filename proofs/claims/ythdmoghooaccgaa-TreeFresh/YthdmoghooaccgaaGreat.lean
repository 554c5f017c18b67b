/-
  great and Size, each by a contract.
-/
import Derived.Test.YthdmoghooaccgaaAdd
namespace Go.Proofs.Ythdmoghooaccgaa
open Go.RowKit
set_option maxRecDepth 100000 in
theorem great_any {K : Nat → Prop} {d : Nat} {v : Value} {t : T} (w : World) (hr : Rd K w d v t) :
    Calls Try.prog 49 #[v] w fun e w' => e = .returned (.bool (!decide t.small)) ∧ Ext w w' := by
  obtain ⟨u0, u1, u2, u3, rfl⟩ := hr.agg
  obtain ⟨k, n, x, a, c, rfl, rfl, rfl, rfl⟩ := hr.shape
  have HR := hid hr.low
  clear hr
  go_enter Try.func49, Try.ntmps49
  go_wp2_with fail
  refine (add_any d _ t (· < w.heap.size) _ (w.heap.size + 1) 0 0 0 1 (HR.out.later (Ext.alloc2 _ _ _)) (by omega) (blk1 _ _ _) (by omega) (by omega) (by omega) (by omega) (by omega)).mono ?_
  rintro e w2 ⟨hk, hcase⟩
  have HX := hid (hk.extOf (Ext.alloc2 w _ _) (Nat.le_succ _))
  clear hk
  rcases hcase with ⟨hok, rfl, _⟩ | ⟨hno, rfl, _⟩
  · have HS := hid ((T.ok_small t).1 hok)
    clear hok
    go_wp2_with fail
    go_ret
    exact ⟨ret_bool (by rw [decide_eq_true HS.out]; rfl), HX.out⟩
  · have HS := hid (fun h => hno ((T.ok_small t).2 h))
    clear hno
    go_wp2_with fail
    go_ret
    exact ⟨ret_bool (by rw [decide_eq_false HS.out]; rfl), HX.out⟩
/-- What Size tells. -/
def sizeV (t : T) : Value := if t.small then .tuple #[.int .i64 t.size, .int .i64 t.height, .int .i64 t.bytes] else .tuple #[.int .i64 1025, .int .i64 65, .int .i64 16385]
set_option maxRecDepth 100000 in
theorem size_any {K : Nat → Prop} {d : Nat} {v : Value} {t : T} (w : World) (hr : Rd K w d v t) :
    Calls Try.prog 14 #[v] w fun e w' => e = .returned (sizeV t) ∧ Ext w w' := by
  obtain ⟨u0, u1, u2, u3, rfl⟩ := hr.agg
  obtain ⟨k, n, x, a, c, rfl, rfl, rfl, rfl⟩ := hr.shape
  have HR := hid hr.low
  clear hr
  go_enter Try.func14, Try.ntmps14
  go_wp2_with fail
  refine (add_any d _ t (· < w.heap.size) _ (w.heap.size + 1) 0 0 0 1 (HR.out.later (Ext.alloc2 _ _ _)) (by omega) (blk1 _ _ _) (by omega) (by omega) (by omega) (by omega) (by omega)).mono ?_
  rintro e w2 ⟨hk, hcase⟩
  have HX := hid (hk.extOf (Ext.alloc2 w _ _) (Nat.le_succ _))
  clear hk
  rcases hcase with ⟨hok, rfl, hb⟩ | ⟨hno, rfl, _⟩
  · have HS := hid ((T.ok_small t).1 hok)
    clear hok
    have c0 := cell_of (i := 0) hb rfl
    have c1 := cell_of (i := 1) hb rfl
    have c2 := cell_of (i := 2) hb rfl
    simp only [List.getElem_toArray, List.getElem_cons_zero, List.getElem_cons_succ] at c0 c1 c2
    clear hb
    generalize hN : ((0 + t.size : Nat) : Int) = N at c0
    generalize hD : ((max 0 (1 + t.height - 1) : Nat) : Int) = D at c1
    generalize hB : ((0 + t.bytes : Nat) : Int) = B at c2
    have HN := hid hN
    have HD := hid hD
    have HB := hid hB
    clear hN hD hB
    go_wp2_with fail
    go_quiet (fail)
    go_wp2_with fail
    go_ret3
    refine ⟨?_, HX.out.drewN _⟩
    rw [sizeV, if_pos HS.out, ← HN.out, ← HD.out, ← HB.out, show 0 + t.size = t.size by omega, show max 0 (1 + t.height - 1) = t.height by omega, show 0 + t.bytes = t.bytes by omega]
    rfl
  · have HS := hid (fun h => hno ((T.ok_small t).2 h))
    clear hno
    go_wp2_with fail
    go_ret3
    refine ⟨?_, HX.out⟩
    rw [sizeV, if_neg HS.out]
    rfl
end Go.Proofs.Ythdmoghooaccgaa
