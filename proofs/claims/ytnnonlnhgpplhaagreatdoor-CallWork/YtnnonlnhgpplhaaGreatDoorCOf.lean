/-
  Of of package worth by a contract.
-/
import Derived.Test.YtnnonlnhgpplhaaGreatDoorHolds
import Derived.Test.YtnnonlnhgpplhaaGreatDoorValue
namespace Go.Proofs.YtnnonlnhgpplhaaGreatDoor
open Go.RowKit
theorem four_of {w : World} {b : Nat} {v0 v1 v2 v3 : Value} {t : TypeId} (h : w.heap[b]? = some (.cells #[v0, v1, v2, v3] t)) : Four w b 0 v0 v1 v2 v3 := ⟨cell_of h rfl, cell_of h rfl, cell_of h rfl, cell_of h rfl⟩
theorem may_to {K : Nat → Prop} {d : Nat} {v : Value} {t : T} {w : World} (hr : Rd K w d v t) (b : Bool) (hb : decide t.may = b) (w1 : World) (hx : Ext w w1) : Calls Tryz.prog 112 #[v] w1 fun e w' => e = .returned (.bool b) ∧ Ext w1 w' := by
  have := may_any w1 (hr.later hx)
  rw [hb] at this
  exact this
/-- What Of answers. -/
def OfR (w : World) (d : Nat) (t : T) (e : Ending) (w' : World) : Prop := Ext w w' ∧ ((t.may ∧ ∃ u bs, e = .returned (.tuple #[u, .int .i64 0]) ∧ VOwn w' d u t bs ∧ (∀ b ∈ bs, w.heap.size ≤ b) ∧ bs.Nodup) ∨ (¬ t.may ∧ e = .returned (.tuple #[.nilIface, .int .i64 1])))
set_option maxRecDepth 100000 in
set_option maxHeartbeats 1000000 in
theorem of_any {K : Nat → Prop} {d : Nat} {v : Value} {t : T} (w : World) (hr : Rd K w d v t) : Calls Tryz.prog 70 #[v] w (OfR w d t) := by
  obtain ⟨u0, u1, u2, u3, rfl⟩ := hr.agg
  obtain ⟨k, n, x, a, c, rfl, rfl, rfl, rfl⟩ := hr.shape
  have HR := hid hr
  generalize t.kids.length = l at *
  by_cases hm : t.may
  · have HM := hid (may_to hr true (decide_eq_true hm))
    have HG := hid hm
    clear hr hm
    go_enter Tryz.func70, Tryz.ntmps70
    go_wp2_with fail
    refine (HM.out _ (Ext.alloc _ _)).mono ?_
    rintro e w1 ⟨rfl, hx1⟩
    obtain ⟨p0, p1, p2, p3⟩ := four_of (hx1.block (blk0 w _))
    have HX1 := hid ((Ext.alloc w _).trans hx1)
    clear hx1
    go_wp2_with fail
    refine (value_any d _ t K w1 (HR.out.later HX1.out) HG.out.1).mono ?_
    rintro e w2 ⟨u, bs, rfl, hx2, ho, hge, hnd⟩
    obtain ⟨τ, p, rfl⟩ := ho.rd.iface
    clear p0 p1 p2 p3
    have HO := hid ho
    have HX2 := hid (HX1.out.trans hx2)
    have HGE := hid hge
    clear ho hx2 hge
    go_wp2_with fail
    go_ret2
    exact ⟨HX2.out, .inl ⟨HG.out, _, bs, rfl, HO.out, fun b hb => Nat.le_trans HX1.out.size (HGE.out b hb), hnd⟩⟩
  · have HM := hid (may_to hr false (decide_eq_false hm))
    have HG := hid hm
    clear hr hm
    go_enter Tryz.func70, Tryz.ntmps70
    go_wp2_with fail
    refine (HM.out _ (Ext.alloc _ _)).mono ?_
    rintro e w1 ⟨rfl, hx1⟩
    have HX1 := hid ((Ext.alloc w _).trans hx1)
    clear hx1
    go_wp2_with fail
    go_ret2
    exact ⟨HX1.out, .inr ⟨HG.out, rfl⟩⟩
end Go.Proofs.YtnnonlnhgpplhaaGreatDoor
