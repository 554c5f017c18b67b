/-
  marks and Kept of the statements, by contracts: of a plain value whose marks stand, and which reads as the other one.
-/
import Derived.Test.YtbpbkihcfdnphaaGreatDoorPTwin
namespace Go.Proofs.YtbpbkihcfdnphaaGreatDoor
open Go.RowKit
set_option maxRecDepth 100000 in
set_option maxHeartbeats 2000000 in
theorem marks_any : ∀ (d : Nat) (v : Value) (t : T) (K : Nat → Prop) (w : World), MRd K w d v t →
    Calls Tryz.prog 36 #[v] w fun e w' => e = .returned (.bool true) ∧ Ext w w' := by
  intro d
  induction d with
  | zero => intro v t K w h; exact h.elim
  | succ d ih =>
    intro v t K w hr
    obtain ⟨k, n, x, ks⟩ := t
    obtain ⟨a, c, rfl, hx, hl, hm⟩ := hr
    have HIH := hid ih
    have hl' : (ks.length : Int) ≤ 140737488355328 := by omega
    clear ih hx
    rcases hm with ⟨rfl, rfl⟩ | ⟨g, off, rfl, hg, _, hc, ⟨m1, m2, m3, hm⟩, hks⟩
    · go_enter Tryz.func36, Tryz.ntmps36
      go_wp2_with fail
      go_loopw [4] (fun i wr => i = .int .i64 0 ∧ Ext w wr) (fun _ _ => 0)
      case atStart => exact ⟨rfl, Ext.alloc _ _⟩
      case round =>
        obtain ⟨rfl, hx⟩ := hrel
        have HX := hid hx
        clear hx
        go_wp2_with fail
        go_ret
        exact ⟨rfl, HX.out⟩
    · have HKS := hid hks
      have hc' : (ks.length : Int) < c := by omega
      have hc1 : (ks.length : Int) + 1 ≤ c := by omega
      obtain ⟨q0, q1, q2, q3⟩ := hm.keep ((Ext.alloc w (.cells #[.int .i64 k, .int .i64 n, .string x, .slice (some ⟨g, off, none⟩) ks.length c] 27)).kp K) hg
      have HG := hid hg
      have hgl := lt_of_cell q0
      clear hm hks hg
      have hle : decide ((c : Int) ≤ ks.length) = false := decide_eq_false (by omega)
      go_enter Tryz.func36, Tryz.ntmps36
      go_wp2_with fail
      go_loopw [4] (fun i wr => ∃ j : Nat, j ≤ ks.length ∧ i = .int .i64 j ∧ wr.heap[w.heap.size]? = some (.cells #[.int .i64 k, .int .i64 n, .string x, .slice (some ⟨g, off, none⟩) ks.length c] 27) ∧ Ext w wr) (fun i _ => ks.length - (intOf i).toNat)
      case atStart => exact ⟨0, Nat.zero_le _, rfl, blk0 _ _, Ext.alloc _ _⟩
      case round =>
        obtain ⟨j, hj, rfl, hbt, hx⟩ := hrel
        have HX := hid hx
        have HBT := hid hbt
        obtain ⟨t0, t1, t2, t3⟩ := four_of hbt
        clear hx hbt
        by_cases hlt : j < ks.length
        · have hlt' : (j : Int) < ks.length := by omega
          obtain ⟨u0, u1, u2, u3, h4, hrd⟩ := HKS.out j hlt
          obtain ⟨k', n', x', a', c', rfl, rfl, rfl, rfl⟩ := hrd.rd.shape
          obtain ⟨o0, o1, o2, o3⟩ := h4.keep (HX.out.kp K) HG.out
          have HC := hid (HIH.out _ ks[j] K wr (hrd.later HX.out))
          generalize (T.kids ks[j]).length = kl at *
          clear h4 hrd q0 q1 q2 q3
          go_wp2_with fail
          refine HC.out.mono ?_
          rintro e w2 ⟨rfl, hy⟩
          have HY := hid hy
          clear hy HC t0 t1 t2 t3 o0 o1 o2 o3
          go_wp2_with fail
          go_roundw
          case rel => exact ⟨j + 1, hlt, by go_num, HY.out.block HBT.out, HX.out.trans HY.out⟩
          case measure => simp [intOf]; omega
        · clear q0 q1 q2 q3
          go_wp2_with fail
          go_ret
          exact ⟨rfl, HX.out⟩
set_option maxRecDepth 100000 in
theorem kept_any {K K' : Nat → Prop} {d d' : Nat} {v v' : Value} {t : T} (w : World) (hr : MRd K w d v t) (hr' : Rd K' w d' v' t) :
    Calls Tryz.prog 19 #[v, v'] w fun e w' => e = .returned (.bool true) ∧ Ext w w' := by
  obtain ⟨u0, u1, u2, u3, rfl⟩ := hr.rd.agg
  obtain ⟨k, n, x, a, c, rfl, rfl, rfl, rfl⟩ := hr.rd.shape
  obtain ⟨u0, u1, u2, u3, rfl⟩ := hr'.agg
  obtain ⟨k', n', x', a', c', rfl, rfl, rfl, rfl⟩ := hr'.shape
  have C1 := hid (fun w1 (h : Ext w w1) => eq_any d _ _ t t K K' w1 d' (hr.rd.later h) (hr'.later h))
  have C2 := hid (fun w1 (h : Ext w w1) => marks_any d _ t K w1 (hr.later h))
  have HB := hid ((T.beq_eq t t).2 rfl)
  rw [HB.out] at C1
  clear hr hr'
  generalize (T.kids t).length = kt at *
  go_enter Tryz.func19, Tryz.ntmps19
  go_wp2_with fail
  refine (C1.out _ (Ext.alloc2 _ _ _)).mono ?_
  rintro e w1 ⟨rfl, hx1⟩
  obtain ⟨p0, p1, p2, p3⟩ := four_of (hx1.block (blkOld _ (blk0 w _)))
  have hX1 := (Ext.alloc2 w _ _).trans hx1
  clear hx1
  go_wp2_with fail
  refine (C2.out _ hX1).mono ?_
  rintro e w2 ⟨rfl, hx2⟩
  have HX2 := hid (hX1.trans hx2)
  clear hx2 p0 p1 p2 p3
  go_wp2_with fail
  go_ret
  exact ⟨rfl, HX2.out⟩
end Go.Proofs.YtbpbkihcfdnphaaGreatDoor
