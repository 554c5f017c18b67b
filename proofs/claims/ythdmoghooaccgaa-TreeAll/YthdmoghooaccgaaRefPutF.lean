/-
  The reference's Put, by a contract.
-/
import Derived.Test.YthdmoghooaccgaaRefPut
import Derived.Test.YthdmoghooaccgaaPutAny
namespace Go.Proofs.Ythdmoghooaccgaa
open Go.RowKit
def RPutF (w : World) (t : T) (p : List Int) (u : T) (e : Ending) (w' : World) : Prop :=
  Ext w w' ∧ ((¬ (t.small ∧ u.small) ∧ e = .returned (.tuple #[zeroTree, .int .i64 2])) ∨ (t.small ∧ u.small ∧ T.at? t p = none ∧ e = .returned (.tuple #[zeroTree, .int .i64 23])) ∨
    (t.small ∧ u.small ∧ (∃ y, T.at? t p = some y) ∧ ((¬ (T.put t p u).small ∧ e = .returned (.tuple #[zeroTree, .int .i64 2])) ∨ ((T.put t p u).small ∧ ∃ d, NewR w d (T.put t p u) e w'))))
set_option maxRecDepth 100000 in
set_option maxHeartbeats 2000000 in
theorem refPut_any {K K' : Nat → Prop} {d d' : Nat} {v v' : Value} {t u : T} (w : World) (pa : Option Addr) (pc : Nat) (p : List Int) (hr : Rd K w d v t) (hr' : Rd K' w d' v' u) (hI : Ints w (.slice pa p.length pc) p) (hb : p.length * 8 ≤ 140737488355328) (hcap : p.length ≤ pc) : Calls Try.prog 39 #[v, .slice pa p.length pc, v'] w (RPutF w t p u) := by
  obtain ⟨u0, u1, u2, u3, rfl⟩ := hr.agg
  obtain ⟨k, n, x, a, c, rfl, rfl, rfl, rfl⟩ := hr.shape
  obtain ⟨u0, u1, u2, u3, rfl⟩ := hr'.agg
  obtain ⟨k', n', x', a', c', rfl, rfl, rfl, rfl⟩ := hr'.shape
  have C1 := hid (fun w1 (h : Ext w w1) => refSmall_any w1 (hr.later h))
  have C2 := hid (fun w1 (h : Ext w w1) => refSmall_any w1 (hr'.later h))
  have C3 := hid (fun w1 (h : Ext w w1) => refAt_any w1 pa pc p (hr.later h) (hI.later h) hb)
  have C4 := hid (fun w1 y (h : Ext w w1) (hy : T.at? t p = some y) => rput_any p t u y _ _ d d' (· < w.heap.size) (· < w.heap.size) w1 pa pc (hr.low.later h) (hr'.low.later h) (hI.later h) hb hcap hy)
  clear hr hr' hI
  generalize (T.kids t).length = kt at *
  generalize (T.kids u).length = ku at *
  obtain ⟨W, hW⟩ : ∃ W, ((w.alloc (.cells #[.string k, .int .i64 n, .string x, .slice a kt c] 26)).alloc (.cells #[.string k', .int .i64 n', .string x', .slice a' ku c'] 26)).alloc (.cells #[.string ⟨#[]⟩, .int .i64 0, .string ⟨#[]⟩, .slice none 0 0] 26) = W := ⟨_, rfl⟩
  have HXW := hid (show Ext w W from hW ▸ Ext.alloc3 _ _ _ _)
  have hsW : W.heap.size = w.heap.size + 3 := by rw [← hW]; simp
  have HBT := hid (show W.heap[w.heap.size]? = some (.cells #[.string k, .int .i64 n, .string x, .slice a kt c] 26) from hW ▸ blkOld _ (blkOld _ (blk0 _ _)))
  have HBU := hid (show W.heap[w.heap.size + 1]? = some (.cells #[.string k', .int .i64 n', .string x', .slice a' ku c'] 26) from hW ▸ blkOld _ (blk1 _ _ _))
  have HBR := hid (show W.heap[w.heap.size + 1 + 1]? = some (.cells #[.string ⟨#[]⟩, .int .i64 0, .string ⟨#[]⟩, .slice none 0 0] 26) from hW ▸ blk2 _ _ _ _)
  obtain ⟨t0, t1, t2, t3⟩ := four_of HBT.out
  -- the end with a zero tree
  have HZ := hid (show ∀ (w1 : World) (e : Int), Ext W w1 → Ext w ((((w1.setCell ⟨w.heap.size + 1 + 1, 0, none⟩ (.string ⟨#[]⟩)).setCell ⟨w.heap.size + 1 + 1, 0 + 1, none⟩ (.int .i64 0)).setCell ⟨w.heap.size + 1 + 1, 0 + 2, none⟩ (.string ⟨#[]⟩)).setCell ⟨w.heap.size + 1 + 1, 0 + 3, none⟩ (.slice none 0 0)) from fun w1 e h => Kp.extOf (HXW.out.trans h) (Kp.set4 w1 (w.heap.size + 1 + 1) 0 (.string ⟨#[]⟩) (.int .i64 0) (.string ⟨#[]⟩) (.slice none 0 0)) (by omega))
  by_cases h1 : t.small
  · rw [decide_eq_true h1] at C1
    have HS1 := hid h1
    clear h1
    by_cases h2 : u.small
    · rw [decide_eq_true h2] at C2
      have HS2 := hid h2
      clear h2
      go_enter Try.func39, Try.ntmps39
      go_wp2_with fail
      refine (C1.out _ HXW.out).mono ?_
      rintro e w1 ⟨rfl, hx1⟩
      obtain ⟨p0, p1, p2, p3⟩ := four_of (hx1.block HBU.out)
      have HX1 := hid hx1
      clear hx1
      go_wp2_with fail
      refine (C2.out _ (HXW.out.trans HX1.out)).mono ?_
      rintro e w2 ⟨rfl, hx2⟩
      have HX2 := hid (HX1.out.trans hx2)
      obtain ⟨s0, s1, s2, s3⟩ := four_of (HX2.out.block HBT.out)
      clear hx2 p0 p1 p2 p3
      go_wp2_with fail
      refine (C3.out _ (HXW.out.trans HX2.out)).mono ?_
      rintro e w3 ⟨hx3, hcase⟩
      have HX3 := hid (HX2.out.trans hx3)
      clear hx3 s0 s1 s2 s3
      rcases hcase with ⟨hn, rfl⟩ | ⟨_, hat, rfl⟩ | ⟨_, y, dy, hat, vy, rfl, hry⟩
      · exact absurd HS1.out hn
      · have HAT := hid hat
        obtain ⟨q0, q1, q2, q3⟩ := four_of (blkOld (.cells #[.string ⟨#[]⟩, .int .i64 0, .string ⟨#[]⟩, .slice none 0 0] 26) (HX3.out.block HBR.out))
        obtain ⟨f0, f1, f2, f3⟩ := four_free (blkOld (.cells #[.string ⟨#[]⟩, .int .i64 0, .string ⟨#[]⟩, .slice none 0 0] 26) (HX3.out.block HBR.out))
        clear hat
        go_wp2_with fail
        have hbb := HX3.out.more (.cells #[.string ⟨#[]⟩, .int .i64 0, .string ⟨#[]⟩, .slice none 0 0] 26)
        obtain ⟨z0, z1, z2, z3⟩ := four_of (four_set (u0 := .string ⟨#[]⟩) (u1 := .int .i64 0) (u2 := .string ⟨#[]⟩) (u3 := .slice none 0 0) (hbb.block HBR.out))
        refine bodyPost_ret (v := .tuple #[zeroTree, .int .i64 23]) (by simp [results, Try.results39, go_sem, z0, z1, z2, z3]) rfl ?_
        exact ⟨HZ.out _ 0 hbb, .inr (.inl ⟨HS1.out, HS2.out, HAT.out, rfl⟩)⟩
      · obtain ⟨b0, b1, b2, b3, rfl⟩ := hry.agg
        obtain ⟨k2, n2, x2, a2, c2, rfl, rfl, rfl, rfl⟩ := hry.shape
        generalize (T.kids y).length = ky at *
        clear hry
        have HAT := hid hat
        clear hat
        have HX4 := hid (HX3.out.more (.cells #[.string k2, .int .i64 n2, .string x2, .slice a2 ky c2] 26))
        obtain ⟨s0, s1, s2, s3⟩ := four_of (HX4.out.block HBT.out)
        obtain ⟨p0, p1, p2, p3⟩ := four_of (HX4.out.block HBU.out)
        go_wp2_with fail
        refine (C4.out _ y (HXW.out.trans HX4.out) HAT.out).mono ?_
        rintro e w5 ⟨v5, d5, rfl, hr5, hx5⟩
        obtain ⟨b0, b1, b2, b3, rfl⟩ := hr5.agg
        obtain ⟨k5, n5, x5, a5, c5, rfl, rfl, rfl, rfl⟩ := hr5.shape
        generalize hkl : (T.kids (T.put t p u)).length = k5l at *
        have HX5 := hid (HX4.out.trans hx5)
        have HX6 := hid (HX5.out.more (.cells #[.string k5, .int .i64 n5, .string x5, .slice a5 k5l c5] 26))
        have HR6 := hid (hr5.later (Ext.alloc w5 (.cells #[.string k5, .int .i64 n5, .string x5, .slice a5 k5l c5] 26)))
        obtain ⟨m0, m1, m2, m3⟩ := four_of (blk0 w5 (.cells #[.string k5, .int .i64 n5, .string x5, .slice a5 k5l c5] 26))
        clear hr5 hx5 hkl s0 s1 s2 s3 p0 p1 p2 p3
        by_cases h3 : (T.put t p u).small
        · have HS3 := hid h3
          have C5 := hid (refSmall_any _ HR6.out)
          rw [decide_eq_true h3] at C5
          clear h3
          go_wp2_with fail
          refine C5.out.mono ?_
          rintro e w7 ⟨rfl, hx7⟩
          obtain ⟨s0, s1, s2, s3⟩ := four_of (hx7.block (blk0 w5 (.cells #[.string k5, .int .i64 n5, .string x5, .slice a5 k5l c5] 26)))
          have HX7 := hid (HX6.out.trans hx7)
          have C6 := hid (own_any d5 _ _ _ w7 (HR6.out.later hx7))
          clear hx7 m0 m1 m2 m3
          go_wp2_with fail
          refine C6.out.mono ?_
          rintro e w8 ⟨v8, rfl, hr8, hx8⟩
          obtain ⟨b0, b1, b2, b3, rfl⟩ := hr8.agg
          obtain ⟨k8, n8, x8, a8, c8, rfl, rfl, rfl, rfl⟩ := hr8.shape
          generalize (T.kids (T.put t p u)).length = k8l at *
          have HX8 := hid (HX7.out.trans hx8)
          have HR8 := hid hr8
          have hsz7 := HX7.out.size
          obtain ⟨q0, q1, q2, q3⟩ := four_of (HX8.out.block HBR.out)
          obtain ⟨f0, f1, f2, f3⟩ := four_free (HX8.out.block HBR.out)
          clear hr8 hx8 s0 s1 s2 s3
          go_wp2_with fail
          have hk4 := Kp.set4 w8 (w.heap.size + 1 + 1) 0 (.string k8) (.int .i64 n8) (.string x8) (.slice a8 k8l c8)
          obtain ⟨z0, z1, z2, z3⟩ := four_of (four_set (u0 := .string k8) (u1 := .int .i64 n8) (u2 := .string x8) (u3 := .slice a8 k8l c8) (HX8.out.block HBR.out))
          refine bodyPost_ret (v := .tuple #[.agg #[.string k8, .int .i64 n8, .string x8, .slice a8 k8l c8], .int .i64 0]) (by simp [results, Try.results39, go_sem, z0, z1, z2, z3]) rfl ?_
          exact ⟨Kp.extOf (HXW.out.trans HX8.out) hk4 (by omega), .inr (.inr ⟨HS1.out, HS2.out, ⟨y, HAT.out⟩, .inr ⟨HS3.out, d5, _, rfl, (HR8.out.keep (hk4.mono (fun q _ hq e => by have hq' : w7.heap.size ≤ q := hq; have e' : q = _ := e; omega))).mono (fun q _ hq => by have hq' : w7.heap.size ≤ q := hq; show w.heap.size ≤ q; omega)⟩⟩)⟩
        · have HS3 := hid h3
          have C5 := hid (refSmall_any _ HR6.out)
          rw [decide_eq_false h3] at C5
          clear h3
          go_wp2_with fail
          refine C5.out.mono ?_
          rintro e w7 ⟨rfl, hx7⟩
          have HX7 := hid (HX6.out.trans hx7)
          obtain ⟨q0, q1, q2, q3⟩ := four_of (HX7.out.block HBR.out)
          obtain ⟨f0, f1, f2, f3⟩ := four_free (HX7.out.block HBR.out)
          clear hx7 m0 m1 m2 m3
          go_wp2_with fail
          obtain ⟨z0, z1, z2, z3⟩ := four_of (four_set (u0 := .string ⟨#[]⟩) (u1 := .int .i64 0) (u2 := .string ⟨#[]⟩) (u3 := .slice none 0 0) (HX7.out.block HBR.out))
          refine bodyPost_ret (v := .tuple #[zeroTree, .int .i64 2]) (by simp [results, Try.results39, go_sem, z0, z1, z2, z3]) rfl ?_
          exact ⟨HZ.out _ 0 HX7.out, .inr (.inr ⟨HS1.out, HS2.out, ⟨y, HAT.out⟩, .inl ⟨HS3.out, rfl⟩⟩)⟩
    · rw [decide_eq_false h2] at C2
      have HS2 := hid h2
      clear h2
      go_enter Try.func39, Try.ntmps39
      go_wp2_with fail
      refine (C1.out _ HXW.out).mono ?_
      rintro e w1 ⟨rfl, hx1⟩
      obtain ⟨p0, p1, p2, p3⟩ := four_of (hx1.block HBU.out)
      have HX1 := hid hx1
      clear hx1
      go_wp2_with fail
      refine (C2.out _ (HXW.out.trans HX1.out)).mono ?_
      rintro e w2 ⟨rfl, hx2⟩
      have HX2 := hid (HX1.out.trans hx2)
      obtain ⟨q0, q1, q2, q3⟩ := four_of (HX2.out.block HBR.out)
      obtain ⟨f0, f1, f2, f3⟩ := four_free (HX2.out.block HBR.out)
      clear hx2 p0 p1 p2 p3
      go_wp2_with fail
      obtain ⟨z0, z1, z2, z3⟩ := four_of (four_set (u0 := .string ⟨#[]⟩) (u1 := .int .i64 0) (u2 := .string ⟨#[]⟩) (u3 := .slice none 0 0) (HX2.out.block HBR.out))
      refine bodyPost_ret (v := .tuple #[zeroTree, .int .i64 2]) (by simp [results, Try.results39, go_sem, z0, z1, z2, z3]) rfl ?_
      exact ⟨HZ.out _ 0 HX2.out, .inl ⟨fun h => HS2.out h.2, rfl⟩⟩
  · rw [decide_eq_false h1] at C1
    have HS := hid h1
    clear h1
    go_enter Try.func39, Try.ntmps39
    go_wp2_with fail
    refine (C1.out _ HXW.out).mono ?_
    rintro e w1 ⟨rfl, hx1⟩
    have HX1 := hid hx1
    obtain ⟨q0, q1, q2, q3⟩ := four_of (HX1.out.block HBR.out)
    obtain ⟨f0, f1, f2, f3⟩ := four_free (HX1.out.block HBR.out)
    clear hx1
    go_wp2_with fail
    obtain ⟨z0, z1, z2, z3⟩ := four_of (four_set (u0 := .string ⟨#[]⟩) (u1 := .int .i64 0) (u2 := .string ⟨#[]⟩) (u3 := .slice none 0 0) (HX1.out.block HBR.out))
    refine bodyPost_ret (v := .tuple #[zeroTree, .int .i64 2]) (by simp [results, Try.results39, go_sem, z0, z1, z2, z3]) rfl ?_
    exact ⟨HZ.out _ 0 HX1.out, .inl ⟨fun h => HS.out h.1, rfl⟩⟩
end Go.Proofs.Ythdmoghooaccgaa
