/-
  marks and Kept of the statements, by contracts: of a plain value whose marks stand, and which reads as the other one.
-/
import Derived.Test.YtecabbifkcnbeaaGreatDoorPTwin
import Derived.Test.YtecabbifkcnbeaaGreatDoorCIn
namespace Go.Proofs.YtecabbifkcnbeaaGreatDoor
open Go.RowKit
set_option maxRecDepth 100000 in
set_option maxHeartbeats 2000000 in
theorem marks_any : ∀ (d : Nat) (v : Value) (t : T) (K : Nat → Prop) (w : World), MRd K w d v t →
    Calls Tryz.prog 69 #[v] w fun e w' => e = .returned (.bool true) ∧ Ext w w' := by
  intro d
  induction d with
  | zero => intro v t K w h; exact h.elim
  | succ d ih =>
    intro v t K w hr
    obtain ⟨k, n, x, ks⟩ := t
    obtain ⟨a, c, rfl, hx, hl, hm⟩ := hr
    have HIH := hid ih
    have hl' : (ks.length : Int) ≤ 140737488355328 := by omega
    clear ih hx
    rcases hm with ⟨rfl, rfl⟩ | ⟨g, off, rfl, hg, _, hc, ⟨m1, m2, m3, hm⟩, hks⟩
    · go_enter Tryz.func69, Tryz.ntmps69
      go_wp2_with fail
      go_loopw [4] (fun i wr => i = .int .i64 0 ∧ Ext w wr) (fun _ _ => 0)
      case atStart => exact ⟨rfl, Ext.alloc _ _⟩
      case round =>
        obtain ⟨rfl, hx⟩ := hrel
        have HX := hid hx
        clear hx
        go_wp2_with fail
        go_ret
        exact ⟨rfl, HX.out⟩
    · have HKS := hid hks
      have hc' : (ks.length : Int) < c := by omega
      have hc1 : (ks.length : Int) + 1 ≤ c := by omega
      obtain ⟨q0, q1, q2, q3⟩ := hm.keep ((Ext.alloc w (.cells #[.int .i64 k, .int .i64 n, .string x, .slice (some ⟨g, off, none⟩) ks.length c] 34)).kp K) hg
      have HG := hid hg
      have hgl := lt_of_cell q0
      clear hm hks hg
      have hle : decide ((c : Int) ≤ ks.length) = false := decide_eq_false (by omega)
      go_enter Tryz.func69, Tryz.ntmps69
      go_wp2_with fail
      go_loopw [4] (fun i wr => ∃ j : Nat, j ≤ ks.length ∧ i = .int .i64 j ∧ wr.heap[w.heap.size]? = some (.cells #[.int .i64 k, .int .i64 n, .string x, .slice (some ⟨g, off, none⟩) ks.length c] 34) ∧ Ext w wr) (fun i _ => ks.length - (intOf i).toNat)
      case atStart => exact ⟨0, Nat.zero_le _, rfl, blk0 _ _, Ext.alloc _ _⟩
      case round =>
        obtain ⟨j, hj, rfl, hbt, hx⟩ := hrel
        have HX := hid hx
        have HBT := hid hbt
        obtain ⟨t0, t1, t2, t3⟩ := four_of hbt
        clear hx hbt
        by_cases hlt : j < ks.length
        · have hlt' : (j : Int) < ks.length := by omega
          obtain ⟨u0, u1, u2, u3, h4, hrd⟩ := HKS.out j hlt
          obtain ⟨k', n', x', a', c', rfl, rfl, rfl, rfl⟩ := hrd.rd.shape
          obtain ⟨o0, o1, o2, o3⟩ := h4.keep (HX.out.kp K) HG.out
          have HC := hid (HIH.out _ ks[j] K wr (hrd.later HX.out))
          generalize (T.kids ks[j]).length = kl at *
          clear h4 hrd q0 q1 q2 q3
          go_wp2_with fail
          refine HC.out.mono ?_
          rintro e w2 ⟨rfl, hy⟩
          have HY := hid hy
          clear hy HC t0 t1 t2 t3 o0 o1 o2 o3
          go_wp2_with fail
          go_roundw
          case rel => exact ⟨j + 1, hlt, by go_num, HY.out.block HBT.out, HX.out.trans HY.out⟩
          case measure => simp [intOf]; omega
        · clear q0 q1 q2 q3
          go_wp2_with fail
          go_ret
          exact ⟨rfl, HX.out⟩
set_option maxRecDepth 100000 in
theorem kept_any {K K' : Nat → Prop} {d d' : Nat} {v v' : Value} {t : T} (w : World) (hr : MRd K w d v t) (hr' : Rd K' w d' v' t) :
    Calls Tryz.prog 35 #[v, v'] w fun e w' => e = .returned (.bool true) ∧ Ext w w' := by
  obtain ⟨u0, u1, u2, u3, rfl⟩ := hr.rd.agg
  obtain ⟨k, n, x, a, c, rfl, rfl, rfl, rfl⟩ := hr.rd.shape
  obtain ⟨u0, u1, u2, u3, rfl⟩ := hr'.agg
  obtain ⟨k', n', x', a', c', rfl, rfl, rfl, rfl⟩ := hr'.shape
  have C1 := hid (fun w1 (h : Ext w w1) => eq_any d _ _ t t K K' w1 d' (hr.rd.later h) (hr'.later h))
  have C2 := hid (fun w1 (h : Ext w w1) => marks_any d _ t K w1 (hr.later h))
  have HB := hid ((T.beq_eq t t).2 rfl)
  rw [HB.out] at C1
  clear hr hr'
  generalize (T.kids t).length = kt at *
  go_enter Tryz.func35, Tryz.ntmps35
  go_wp2_with fail
  refine (C1.out _ (Ext.alloc2 _ _ _)).mono ?_
  rintro e w1 ⟨rfl, hx1⟩
  obtain ⟨p0, p1, p2, p3⟩ := four_of (hx1.block (blkOld _ (blk0 w _)))
  have hX1 := (Ext.alloc2 w _ _).trans hx1
  clear hx1
  go_wp2_with fail
  refine (C2.out _ hX1).mono ?_
  rintro e w2 ⟨rfl, hx2⟩
  have HX2 := hid (hX1.trans hx2)
  clear hx2 p0 p1 p2 p3
  go_wp2_with fail
  go_ret
  exact ⟨rfl, HX2.out⟩
end Go.Proofs.YtecabbifkcnbeaaGreatDoor
/-
  Light of the statements: whether a plain value is so small that it is played; by a contract.
-/
namespace Go.Proofs.YtecabbifkcnbeaaGreatDoor
open Go.RowKit
mutual
/-- What is left of a number behind a plain value. -/
def lightN (n : Int) (dp : Nat) : T → Int
  | .node _ _ x ks => if 70 < dp then -1 else lightL (n - 1 - (x.size / 4 : Nat)) (dp + 1) ks
def lightL (n : Int) (dp : Nat) : List T → Int
  | [] => n
  | t :: r => if 0 ≤ n then lightL (lightN n dp t) dp r else n
end
def lightB (t : T) : Bool := decide (0 ≤ lightN 70000 0 t)
theorem lightL_neg {n : Int} (h : ¬ 0 ≤ n) (dp : Nat) (l : List T) : lightL n dp l = n := by
  cases l with
  | nil => simp only [lightL]
  | cons t r => simp only [lightL]; rw [if_neg h]
theorem lightL_step {n : Int} (h : 0 ≤ n) (dp : Nat) (l : List T) (j : Nat) (hj : j < l.length) : lightL n dp (l.drop j) = lightL (lightN n dp l[j]) dp (l.drop (j + 1)) := by
  rw [List.drop_eq_getElem_cons hj]
  simp only [lightL]
  rw [if_pos h]
theorem lightL_end (n : Int) (dp : Nat) (l : List T) (j : Nat) (hj : ¬ j < l.length) : lightL n dp (l.drop j) = n := by
  rw [List.drop_eq_nil_of_le (by omega)]
  simp only [lightL]
def LightR (w : World) (n : Int) (dp : Nat) (t : T) (e : Ending) (w' : World) : Prop := ∃ m : Int, e = .returned (.int .i64 m) ∧ m = lightN n dp t ∧ -35184372087810 ≤ m ∧ m ≤ 70000 ∧ Ext w w'
set_option maxRecDepth 100000 in
set_option maxHeartbeats 2000000 in
theorem light_any : ∀ (d : Nat) (v : Value) (t : T) (K : Nat → Prop) (w : World) (n : Int) (dp : Nat), Rd K w d v t → 0 ≤ n → n ≤ 70000 → dp ≤ 71 →
    Calls Tryz.prog 42 #[v, .int .i64 n, .int .i64 dp] w (LightR w n dp t) := by
  intro d
  induction d with
  | zero => intro v t K w n dp h; exact h.elim
  | succ d ih =>
    intro v t K w n dp hr hn0 hn1 hdp
    obtain ⟨k, m, x, ks⟩ := t
    have hxs : x.size ≤ 140737488351232 := by obtain ⟨_, _, _, h2, _⟩ := hr; exact h2
    obtain ⟨a, c, rfl, hkl⟩ := hr.kidsL
    have HK := hid hkl
    have HIH := hid ih
    have hl' : (ks.length : Int) ≤ 140737488355328 := by have := hkl.1; omega
    have hdq : (x.size : Int).tdiv 4 = ((x.size / 4 : Nat) : Int) := by rw [Int.tdiv_eq_ediv_of_nonneg (by omega)]; rfl
    have HD := hid (show lightN n dp (.node k m x ks) = if 70 < dp then -1 else lightL (n - 1 - (x.size / 4 : Nat)) (dp + 1) ks by simp only [lightN])
    have hq : x.size / 4 ≤ 35184372087808 := by omega
    clear hr hkl ih
    generalize x.size / 4 = q at *
    have hq' : (q : Int) ≤ 35184372087808 := by omega
    have hxs' : (x.size : Int) ≤ 140737488351232 := by omega
    have hq0 : 0 ≤ (q : Int) := by omega
    by_cases h70 : 70 < dp
    · have h70' : (70 : Int) < dp := by omega
      have HR := hid (show lightN n dp (.node k m x ks) = -1 by rw [HD.out, if_pos h70])
      clear h70 HD
      go_enter Tryz.func42, Tryz.ntmps42
      go_wp2_with fail
      go_ret
      exact ⟨-1, rfl, HR.out.symm, by decide, by decide, Ext.alloc _ _⟩
    · have h70' : ¬ (70 : Int) < dp := by omega
      have HR := hid (show lightN n dp (.node k m x ks) = lightL (n - 1 - (q : Int)) (dp + 1) (ks.drop 0) by rw [HD.out, if_neg h70, List.drop_zero])
      have hdp' : (dp : Int) ≤ 70 := by omega
      have hdp2 : dp + 1 ≤ 71 := by omega
      have hdc : (dp : Int) + 1 = ((dp + 1 : Nat) : Int) := by omega
      have HDP := hid hdc
      clear h70 HD hdc
      go_enter Tryz.func42, Tryz.ntmps42
      go_wp2_with fail
      go_loopw [1, 7] (fun q1 i wr => ∃ (j : Nat) (nn : Int), j ≤ ks.length ∧ i = .int .i64 j ∧ q1 = .int .i64 nn ∧ lightN n dp (.node k m x ks) = lightL nn (dp + 1) (ks.drop j) ∧ -35184372087810 ≤ nn ∧ nn ≤ 70000 ∧ wr.heap[w.heap.size]? = some (.cells #[.int .i64 k, .int .i64 m, .string x, .slice a ks.length c] 34) ∧ Ext w wr) (fun _ i _ => ks.length - (intOf i).toNat)
      case atStart => exact ⟨0, _, Nat.zero_le _, rfl, rfl, HR.out, by omega, by omega, blk0 _ _, Ext.alloc _ _⟩
      case round =>
        obtain ⟨j, nn, hj, rfl, rfl, hrec, hb1, hb2, hbt, hx⟩ := hrel
        have HX := hid hx
        have HBT := hid hbt
        have HREC := hid hrec
        obtain ⟨t0, t1, t2, t3⟩ := four_of hbt
        clear hx hbt hrec
        by_cases hlt : j < ks.length
        · have hlt' : (j : Int) < ks.length := by omega
          by_cases h0 : 0 ≤ nn
          · obtain ⟨g, off, k', n', x', a', l', c', rfl, hg, h4, hrd⟩ := HK.out.kid hlt
            obtain ⟨o0, o1, o2, o3⟩ := Four.keep h4 (HX.out.kp K) hg
            have hgl := lt_of_cell o0
            have HC := hid (HIH.out _ ks[j] K wr nn (dp + 1) (hrd.later HX.out) h0 hb2 hdp2)
            rw [← HDP.out] at HC
            clear h4 hrd
            have HREC2 := hid (HREC.out.trans (lightL_step h0 (dp + 1) ks j hlt))
            go_wp2_with fail
            refine HC.out.mono ?_
            rintro e w2 ⟨m2, rfl, hm2, hb3, hb4, hy⟩
            have HM2 := hid hm2
            have HY := hid hy
            clear hy hm2 HC t0 t1 t2 t3 o0 o1 o2 o3
            go_wp2_with fail
            go_roundw
            case rel => exact ⟨j + 1, m2, hlt, by go_num, rfl, by rw [HREC2.out, HM2.out], hb3, hb4, HY.out.block HBT.out, HX.out.trans HY.out⟩
            case measure => simp [intOf]; omega
          · have HF := hid (HREC.out.trans (lightL_neg h0 _ _))
            have h0' : decide (0 ≤ nn) = false := decide_eq_false h0
            go_wp2_with fail
            go_ret
            exact ⟨nn, rfl, HF.out.symm, hb1, hb2, HX.out⟩
        · have HF := hid (HREC.out.trans (lightL_end _ _ _ _ hlt))
          have hlt' : ¬ (j : Int) < ks.length := by omega
          go_wp2_with fail
          go_ret
          exact ⟨nn, rfl, HF.out.symm, hb1, hb2, HX.out⟩
set_option maxRecDepth 100000 in
theorem Light_any {K : Nat → Prop} {d : Nat} {v : Value} {t : T} (w : World) (hr : Rd K w d v t) : Calls Tryz.prog 27 #[v] w fun e w' => e = .returned (.bool (lightB t)) ∧ Ext w w' := by
  obtain ⟨u0, u1, u2, u3, rfl⟩ := hr.agg
  obtain ⟨k, n, x, a, c, rfl, rfl, rfl, rfl⟩ := hr.shape
  have HC := hid (fun w1 (h : Ext w w1) => light_any d _ t K w1 70000 0 (hr.later h) (by decide) (by decide) (by decide))
  have HB := hid (show lightB t = decide (0 ≤ lightN 70000 0 t) from rfl)
  clear hr
  generalize (T.kids t).length = kt at *
  go_enter Tryz.func27, Tryz.ntmps27
  go_wp2_with fail
  refine (HC.out _ (Ext.alloc _ _)).mono ?_
  rintro e w2 ⟨m2, rfl, hm2, hb3, hb4, hy⟩
  have HY := hid ((Ext.alloc w _).trans hy)
  have HM2 := hid hm2
  clear hy hm2 HC
  go_wp2_with fail
  go_ret
  exact ⟨by rw [HB.out, HM2.out]; rfl, HY.out⟩
end Go.Proofs.YtecabbifkcnbeaaGreatDoor
