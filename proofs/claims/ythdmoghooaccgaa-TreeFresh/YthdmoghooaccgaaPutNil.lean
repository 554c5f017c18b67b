/-
  Put at the root, by a contract.
-/
import Derived.Test.YthdmoghooaccgaaFaceAt
namespace Go.Proofs.Ythdmoghooaccgaa
open Go.RowKit
set_option maxRecDepth 100000 in
set_option maxHeartbeats 1000000 in
theorem put_root {K K' : Nat → Prop} {d d' : Nat} {v v' : Value} {t u : T} (w : World) (hr : Rd K w d v t) (hr' : Rd K' w d' v' u) (hs : t.small) (hs' : u.small) : Calls Try.prog 19 #[v, .slice none 0 0, v'] w fun e w' => Ext w w' ∧ GivenR w d' u e w' := by
  obtain ⟨u0, u1, u2, u3, rfl⟩ := hr.agg
  obtain ⟨k, n, x, a, c, rfl, rfl, rfl, rfl⟩ := hr.shape
  obtain ⟨u0, u1, u2, u3, rfl⟩ := hr'.agg
  obtain ⟨k', n', x', a', c', rfl, rfl, rfl, rfl⟩ := hr'.shape
  have C1 := hid (fun w1 (h : Ext w w1) => great_any w1 (hr.later h))
  have C2 := hid (fun w1 (h : Ext w w1) => great_any w1 (hr'.later h))
  have C3 := hid (fun w1 (h : Ext w w1) => copied_any d _ t K w1 (hr.later h))
  have C4 := hid (fun w1 (h : Ext w w1) => copied_any d' _ u K' w1 (hr'.later h))
  rw [decide_eq_true hs] at C1
  rw [decide_eq_true hs'] at C2
  have HS' := hid hs'
  clear hr hr' hs hs'
  generalize (T.kids t).length = kt at *
  generalize (T.kids u).length = ku at *
  go_enter Try.func19, Try.ntmps19
  go_wp2_with fail
  refine (C1.out _ (Ext.alloc3 _ _ _ _)).mono ?_
  rintro e w1 ⟨rfl, hx1⟩
  have hX1 : Ext w w1 := (Ext.alloc3 w _ _ _).trans hx1
  have b0 := hx1.block (blkOld _ (blkOld _ (blk0 w _)))
  have b1 := hx1.block (blkOld _ (blk1 w _ _))
  have b2 := hx1.block (blk2 w _ _ _)
  obtain ⟨p0, p1, p2, p3⟩ := four_of b1
  have hsz := hx1.size
  simp only [World.size_alloc] at hsz
  have HB := hid (And.intro b0 (And.intro b1 b2))
  clear b0 b1 b2 hx1
  go_wp2_with fail
  refine (C2.out _ hX1).mono ?_
  rintro e w2 ⟨rfl, hx2⟩
  clear p0 p1 p2 p3
  obtain ⟨p0, p1, p2, p3⟩ := four_of (hx2.block HB.out.1)
  have hX2 : Ext w w2 := hX1.trans hx2
  have HB2 := hid (And.intro (hx2.block HB.out.2.1) (hx2.block HB.out.2.2))
  have hs2 := hx2.size
  go_wp2_with fail
  refine (C3.out _ hX2).mono ?_
  rintro e w3 ⟨v', bs, rfl, hx3, hown, hge, hnd⟩
  obtain ⟨u0, u1, u2, u3, rfl⟩ := hown.rd.agg
  obtain ⟨k3, n3, x3, a3, c3, rfl, rfl, rfl, rfl⟩ := hown.rd.shape
  have hX3 : Ext w w3 := hX2.trans hx3
  have HB3 := hid (And.intro (hx3.block HB2.out.1) (hx3.block HB2.out.2))
  have hs3 := hx3.size
  clear p0 p1 p2 p3
  have HF := hid (show ∀ o, Calls Try.prog 50 #[.pointer (some ⟨w3.heap.size, 0, none⟩), .slice none 0 0] (w3.alloc (.cells #[.string k3, .int .i64 n3, .string x3, .slice a3 o c3] 26)) fun e w' => e = .returned (.pointer (some ⟨w3.heap.size, 0, none⟩)) ∧ w' = (w3.alloc (.cells #[.string k3, .int .i64 n3, .string x3, .slice a3 o c3] 26)) from fun o => by
    go_enter Try.func50, Try.ntmps50
    go_wp2_with fail
    go_loop [0, 9] (fun t0 i => i = .int .i64 0 ∧ t0 = .pointer (some ⟨w3.heap.size, 0, none⟩)) (fun _ _ => 0)
    case atStart => exact ⟨rfl, rfl⟩
    case round =>
      obtain ⟨rfl, rfl⟩ := hrel
      go_wp2_with fail
      go_ret
      exact ⟨rfl, rfl⟩)
  generalize (T.kids t).length = kt3 at *
  clear hown hge hnd
  go_wp2_with fail
  refine (HF.out _).mono ?_
  rintro e w4 ⟨rfl, hw⟩
  obtain rfl := hw
  have hX4 : Ext w (w3.alloc (.cells #[.string k3, .int .i64 n3, .string x3, .slice a3 kt3 c3] 26)) := hX3.trans (Ext.alloc _ _)
  obtain ⟨p0, p1, p2, p3⟩ := four_of (blkOld (.cells #[.string k3, .int .i64 n3, .string x3, .slice a3 kt3 c3] 26) HB3.out.1)
  go_wp2_with fail
  refine (C4.out _ hX4).mono ?_
  rintro e w5 ⟨v'', bs', rfl, hx5, hown, hge, hnd⟩
  obtain ⟨u0, u1, u2, u3, rfl⟩ := hown.rd.agg
  obtain ⟨k5, n5, x5, a5, c5, rfl, rfl, rfl, rfl⟩ := hown.rd.shape
  clear p0 p1 p2 p3
  have hb5 := hx5.block (blk0 w3 (.cells #[.string k3, .int .i64 n3, .string x3, .slice a3 kt3 c3] 26))
  obtain ⟨q0, q1, q2, q3⟩ := four_of hb5
  obtain ⟨f0, f1, f2, f3⟩ := four_free hb5
  have hs5 := hx5.size
  simp only [World.size_alloc] at hs5
  have hX5 : Ext w w5 := hX4.trans hx5
  have HB5 := hid hb5
  have HR5 := hid (hx5.block (blkOld (.cells #[.string k3, .int .i64 n3, .string x3, .slice a3 kt3 c3] 26) HB3.out.2))
  have HO := hid hown
  have HG := hid (show ∀ b ∈ bs', w3.heap.size < b from fun b hb => by have := hge b hb; simp at this; omega)
  clear hb5 hown hge
  generalize (T.kids u).length = ku5 at HO
  go_wp2_with fail
  have hk6 := Kp.set4 w5 w3.heap.size 0 (.string k5) (.int .i64 n5) (.string x5) (.slice a5 ku5 c5)
  have hb6 := four_set (u0 := .string k5) (u1 := .int .i64 n5) (u2 := .string x5) (u3 := .slice a5 ku5 c5) HB5.out
  simp only [Nat.zero_add] at hk6
  have hX6 := Kp.extOf hX5 hk6 (by omega)
  have hr6 := hk6.block' HR5.out (show w.heap.size + 1 + 1 ≠ _ by omega)
  have ho6 := HO.out.keep (hk6.mono (fun q _ hq e => by have := HG.out q hq; have e' : q = _ := e; omega))
  generalize (((w5.setCell ⟨w3.heap.size, 0, none⟩ (.string k5)).setCell ⟨w3.heap.size, 1, none⟩ (.int .i64 n5)).setCell ⟨w3.heap.size, 2, none⟩ (.string x5)).setCell ⟨w3.heap.size, 3, none⟩ (.slice a5 ku5 c5) = W6 at hb6 hX6 hr6 ho6 ⊢
  have C6 := great_any W6 ho6.rd
  rw [decide_eq_true HS'.out] at C6
  have HB6 := hid (And.intro hb6 hr6)
  have HO6 := hid ho6
  clear hb6 hr6 ho6 q0 q1 q2 q3 f0 f1 f2 f3 hk6
  refine C6.mono ?_
  rintro e w7 ⟨rfl, hx7⟩
  obtain ⟨p0, p1, p2, p3⟩ := four_of (hx7.block HB6.out.1)
  have hb7 := hx7.block HB6.out.2
  have HB7 := hid hb7
  obtain ⟨q0, q1, q2, q3⟩ := four_of hb7
  obtain ⟨f0, f1, f2, f3⟩ := four_free hb7
  have HX7 := hid (hX6.trans hx7)
  have HO7 := hid (HO6.out.keep (hx7.kp _))
  clear hb7 C6 hx7
  go_wp2_with fail
  have hk4 := Kp.set4 w7 (w.heap.size + 1 + 1) 0 (.string k5) (.int .i64 n5) (.string x5) (.slice a5 ku5 c5)
  obtain ⟨z0, z1, z2, z3⟩ := four_of (four_set (u0 := .string k5) (u1 := .int .i64 n5) (u2 := .string x5) (u3 := .slice a5 ku5 c5) HB7.out)
  refine bodyPost_ret (v := .tuple #[.agg #[.string k5, .int .i64 n5, .string x5, .slice a5 ku5 c5], .int .i64 0]) (by simp [results, Try.results19, go_sem, z0, z1, z2, z3]) rfl ?_
  exact ⟨Kp.extOf HX7.out hk4 (by omega), _, bs', rfl, HO7.out.keep (hk4.mono (fun q _ hq e => by have := HG.out q hq; have e' : q = _ := e; omega)), fun b hb => by have := HG.out b hb; omega, hnd⟩
end Go.Proofs.Ythdmoghooaccgaa
