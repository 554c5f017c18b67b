/-
  The reference's All, by a contract.
-/
import Derived.Test.YthdmoghooaccgaaRefAll
namespace Go.Proofs.Ythdmoghooaccgaa
open Go.RowKit
set_option maxRecDepth 100000 in
theorem refAll_any {K : Nat → Prop} {d : Nat} {v : Value} {t : T} (w : World) (hr : Rd K w d v t) : Calls Try.prog 23 #[v] w fun e w' => ∃ v' xs, e = .returned v' ∧ Steps w' w.heap.size v' (if t.small then T.all [] t else []) xs ∧ Ext w w' := by
  obtain ⟨u0, u1, u2, u3, rfl⟩ := hr.agg
  obtain ⟨k, n, x, a, c, rfl, rfl, rfl, rfl⟩ := hr.shape
  have C1 := hid (fun w1 (h : Ext w w1) => refSmall_any w1 (hr.later h))
  have C2 := hid (fun w1 (h : Ext w w1) (hs : t.size ≤ 4000) (hh : t.height ≤ 4000) => rall_any d _ t K w1 w.heap.size (.slice none 0 0) [] [] none 0 [] (hr.later h) (Steps.nil _ _) (fun q hq => by cases hq) h.size (Ints.nil _ _ _) (fun q hq => by cases hq) (by simpa using hs) (by simpa using hh))
  clear hr
  generalize (T.kids t).length = kt at *
  by_cases h1 : t.small
  · rw [decide_eq_true h1] at C1
    rw [if_pos h1]
    have HS := hid (show t.size ≤ 4000 ∧ t.height ≤ 4000 by have := h1.1; have := h1.2.1; omega)
    clear h1
    go_enter Try.func23, Try.ntmps23
    go_wp2_with fail
    refine (C1.out _ (Ext.alloc _ _)).mono ?_
    rintro e w1 ⟨rfl, hx1⟩
    obtain ⟨p0, p1, p2, p3⟩ := four_of (hx1.block (blk0 w _))
    have hX1 := (Ext.alloc w _).trans hx1
    clear hx1
    go_wp2_with fail
    refine (C2.out _ hX1 HS.out.1 HS.out.2).mono ?_
    rintro e w2 ⟨v', xs, rfl, hst, hk, ho⟩
    have HX2 := hid (hX1.trans (hk.ext (fun q _ e => by cases e)))
    obtain ⟨a2, n2, c2, rfl⟩ := row5_any hst.1
    have HST := hid hst
    clear hk hst p0 p1 p2 p3 ho
    go_wp2_with fail
    go_ret
    exact ⟨_, xs, rfl, by simpa using HST.out, HX2.out⟩
  · rw [decide_eq_false h1] at C1
    rw [if_neg h1]
    clear h1
    go_enter Try.func23, Try.ntmps23
    go_wp2_with fail
    refine (C1.out _ (Ext.alloc _ _)).mono ?_
    rintro e w1 ⟨rfl, hx1⟩
    have HX := hid ((Ext.alloc w _).trans hx1)
    clear hx1
    go_wp2_with fail
    go_ret
    exact ⟨_, [], rfl, Steps.nil _ _, HX.out⟩
end Go.Proofs.Ythdmoghooaccgaa
