/-
  The reference's Copy and At, each by a contract.
-/
import Derived.Test.YthdmoghooaccgaaRefOwn
import Derived.Test.YthdmoghooaccgaaFaceAt
namespace Go.Proofs.Ythdmoghooaccgaa
open Go.RowKit
/-- A tree that reads as t, in lists that were not there, and OK. -/
def NewR (w : World) (d : Nat) (t : T) (e : Ending) (w' : World) : Prop := ∃ v', e = .returned (.tuple #[v', .int .i64 0]) ∧ Rd (fun q => w.heap.size ≤ q) w' d v' t
def RCopyF (w : World) (d : Nat) (t : T) (e : Ending) (w' : World) : Prop := Ext w w' ∧ ((t.small ∧ NewR w d t e w') ∨ (¬ t.small ∧ e = .returned (.tuple #[zeroTree, .int .i64 2])))
set_option maxRecDepth 100000 in
set_option maxHeartbeats 1000000 in
theorem refCopy_any {K : Nat → Prop} {d : Nat} {v : Value} {t : T} (w : World) (hr : Rd K w d v t) : Calls Try.prog 37 #[v] w (RCopyF w d t) := by
  obtain ⟨u0, u1, u2, u3, rfl⟩ := hr.agg
  obtain ⟨k, n, x, a, c, rfl, rfl, rfl, rfl⟩ := hr.shape
  have C1 := hid (fun w1 (h : Ext w w1) => refSmall_any w1 (hr.later h))
  have C2 := hid (fun w1 (h : Ext w w1) => own_any d _ t K w1 (hr.later h))
  clear hr
  generalize (T.kids t).length = kt at *
  by_cases h1 : t.small
  · rw [decide_eq_true h1] at C1
    have HS := hid h1
    clear h1
    go_enter Try.func37, Try.ntmps37
    go_wp2_with fail
    refine (C1.out _ (Ext.alloc2 _ _ _)).mono ?_
    rintro e w1 ⟨rfl, hx1⟩
    obtain ⟨p0, p1, p2, p3⟩ := four_of (hx1.block (blkOld _ (blk0 w _)))
    have hX1 := (Ext.alloc2 w _ _).trans hx1
    have HB := hid (hx1.block (blk1 w _ _))
    have hsz := hx1.size
    simp only [World.size_alloc] at hsz
    clear hx1
    go_wp2_with fail
    refine (C2.out _ hX1).mono ?_
    rintro e w2 ⟨v', rfl, hrd, hx2⟩
    obtain ⟨u0, u1, u2, u3, rfl⟩ := hrd.agg
    obtain ⟨k3, n3, x3, a3, c3, rfl, rfl, rfl, rfl⟩ := hrd.shape
    have hb := hx2.block HB.out
    have HB3 := hid hb
    obtain ⟨q0, q1, q2, q3⟩ := four_of hb
    obtain ⟨f0, f1, f2, f3⟩ := four_free hb
    have HRD := hid hrd
    have HX2 := hid (hX1.trans hx2)
    clear hb hrd hx2 hX1 p0 p1 p2 p3
    generalize (T.kids t).length = kt2 at HRD
    go_wp2_with fail
    have hk4 := Kp.set4 w2 (w.heap.size + 1) 0 (.string k3) (.int .i64 n3) (.string x3) (.slice a3 kt2 c3)
    obtain ⟨z0, z1, z2, z3⟩ := four_of (four_set (u0 := .string k3) (u1 := .int .i64 n3) (u2 := .string x3) (u3 := .slice a3 kt2 c3) HB3.out)
    refine bodyPost_ret (v := .tuple #[.agg #[.string k3, .int .i64 n3, .string x3, .slice a3 kt2 c3], .int .i64 0]) (by simp [results, Try.results37, go_sem, z0, z1, z2, z3]) rfl ?_
    exact ⟨Kp.extOf HX2.out hk4 (Nat.le_succ _), .inl ⟨HS.out, _, rfl, (HRD.out.keep (hk4.mono (fun q _ hq e => by have hq' : w1.heap.size ≤ q := hq; have e' : q = _ := e; omega))).mono (fun q _ hq => by have hq' : w1.heap.size ≤ q := hq; show w.heap.size ≤ q; omega)⟩⟩
  · rw [decide_eq_false h1] at C1
    have HS := hid h1
    clear h1
    go_enter Try.func37, Try.ntmps37
    go_wp2_with fail
    refine (C1.out _ (Ext.alloc2 _ _ _)).mono ?_
    rintro e w1 ⟨rfl, hx1⟩
    have hb := hx1.block (blk1 w _ _)
    have HB := hid hb
    obtain ⟨q0, q1, q2, q3⟩ := four_of hb
    obtain ⟨f0, f1, f2, f3⟩ := four_free hb
    have HX := hid ((Ext.alloc2 w _ _).trans hx1)
    clear hb hx1
    go_wp2_with fail
    have hk4 := Kp.set4 w1 (w.heap.size + 1) 0 (.string ⟨#[]⟩) (.int .i64 0) (.string ⟨#[]⟩) (.slice none 0 0)
    obtain ⟨z0, z1, z2, z3⟩ := four_of (four_set (u0 := .string ⟨#[]⟩) (u1 := .int .i64 0) (u2 := .string ⟨#[]⟩) (u3 := .slice none 0 0) HB.out)
    refine bodyPost_ret (v := .tuple #[zeroTree, .int .i64 2]) (by simp [results, Try.results37, go_sem, z0, z1, z2, z3]) rfl ?_
    exact ⟨Kp.extOf HX.out hk4 (Nat.le_succ _), .inr ⟨HS.out, rfl⟩⟩
end Go.Proofs.Ythdmoghooaccgaa
