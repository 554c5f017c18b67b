/-
  whole, count and kinds of the document's package list, by contracts.
-/
import Derived.Test.YtaafcmmmkalgjaaGreatDoorRApp
import Derived.Test.YtaafcmmmkalgjaaGreatDoorLFOwn
import Derived.Test.YtaafcmmmkalgjaaGreatDoorPTwin
import Derived.Test.YtaafcmmmkalgjaaGreatDoorRLeft
import Derived.Test.YtaafcmmmkalgjaaGreatDoorYRef
import Derived.BigQuiet
import Derived.Deep.QuietTactic
import Derived.Deep.RegionLaw
namespace Go.Proofs.YtaafcmmmkalgjaaGreatDoor
open Go.RowKit
/-- What the document answers: its lists lie in blocks of K. -/
def AnsK (K : Nat → Prop) (r : Ans) (w : World) (R : Value) : Prop := match r with
  | .bad c x => R = .tuple #[.agg #[.int .i64 0, .int .i64 0, .string ⟨#[]⟩, .slice none 0 0], .int .i64 c, .string x]
  | .good t => ∃ d p, R = .tuple #[p, .int .i64 0, .string ⟨#[]⟩] ∧ Rd K w d p t
theorem AnsK.keep {K : Nat → Prop} {r : Ans} {w w' : World} {R : Value} (h : AnsK K r w R) (hk : Kp K w w') : AnsK K r w' R := by
  cases r with
  | bad c x => exact h
  | good t =>
    obtain ⟨d, p, e, hr⟩ := h
    exact ⟨d, p, e, Rd.keep hk hr⟩
theorem AnsK.mono {K L : Nat → Prop} {r : Ans} {w : World} {R : Value} (h : AnsK K r w R) (hl : ∀ k, k < w.heap.size → K k → L k) : AnsK L r w R := by
  cases r with
  | bad c x => exact h
  | good t =>
    obtain ⟨d, p, e, hr⟩ := h
    exact ⟨d, p, e, Rd.mono hl hr⟩
theorem AnsK.p {K : Nat → Prop} {r : Ans} {w : World} {R : Value} (h : AnsK K r w R) : AnsP r w R := by
  cases r with
  | bad c x => exact h
  | good t =>
    obtain ⟨d, p, e, hr⟩ := h
    exact ⟨K, d, p, e, hr⟩
theorem AnsK.shape {K : Nat → Prop} {r : Ans} {w : World} {R : Value} (h : AnsK K r w R) : ∃ k n x a l c ec ex, R = .tuple #[.agg #[.int .i64 k, .int .i64 n, .string x, .slice a l c], .int .i64 ec, .string ex] := by
  cases r with
  | bad c x => exact ⟨_, _, _, _, _, _, _, _, h⟩
  | good t =>
    obtain ⟨d, p, e, hr⟩ := h
    obtain ⟨u0, u1, u2, u3, rfl⟩ := hr.agg
    obtain ⟨k, n, x, a, c, rfl, rfl, rfl, rfl⟩ := hr.shape
    exact ⟨_, _, _, _, _, _, _, _, e⟩
set_option maxRecDepth 100000 in
set_option maxHeartbeats 2000000 in
theorem whole_any {K : Nat → Prop} {d : Nat} {ao : Option Addr} {ks : List T} (c : Nat) (w : World) (h : RdL K w d ao ks) : Calls Tryz.prog 21 #[.slice ao ks.length c] w fun e w' => ∃ R, e = .returned R ∧ AnsK K (lonF ks) w' R ∧ Ext w w' := by
  have HN := hid (fun W (hx : Ext w W) => RdL.node c (h.keep (hx.kp _)))
  clear h
  generalize ks.length = n at *
  go_enter Tryz.func21, Tryz.ntmps21
  go_wp2_with fail
  refine (rmay_any _ (HN.out _ (Ext.alloc2 _ _ _))).mono ?_
  rintro e w1 ⟨rfl, hx1⟩
  have HX := hid ((Ext.alloc2 w (.cells #[.int .i64 0, .int .i64 0, .string ⟨#[]⟩, .slice none 0 0] 30) (.cells #[.int .i64 5, .int .i64 0, .string ⟨#[]⟩, .slice ao n c] 30)).trans hx1)
  have HB := hid (hx1.block (blkOld (.cells #[.int .i64 5, .int .i64 0, .string ⟨#[]⟩, .slice ao n c] 30) (blk0 w (.cells #[.int .i64 0, .int .i64 0, .string ⟨#[]⟩, .slice none 0 0] 30))))
  have HP := hid (hx1.block (blk1 w (.cells #[.int .i64 0, .int .i64 0, .string ⟨#[]⟩, .slice none 0 0] 30) (.cells #[.int .i64 5, .int .i64 0, .string ⟨#[]⟩, .slice ao n c] 30)))
  clear hx1
  obtain ⟨z0, z1, z2, z3⟩ := four_of HB.out
  obtain ⟨f0, f1, f2, f3⟩ := four_free HB.out
  by_cases hm : (T.node 5 0 ⟨#[]⟩ ks).may
  · rw [decide_eq_true hm]
    have HL := hid (lonF_good hm)
    clear hm
    obtain ⟨o0, o1, o2, o3⟩ := four_of HP.out
    have hpl := lt_of_cell o0
    go_wp2_with fail
    have HB2 := hid (four_set (u0 := .int .i64 5) (u1 := .int .i64 0) (u2 := .string ⟨#[]⟩) (u3 := .slice ao n c) HB.out)
    have HKZ := hid (Kp.set4 w1 w.heap.size 0 (.int .i64 5) (.int .i64 0) (.string ⟨#[]⟩) (.slice ao n c))
    have HE := hid (HKZ.out.extOf HX.out (Nat.le_refl _))
    obtain ⟨y0, y1, y2, y3⟩ := four_of HB2.out
    refine bodyPost_ret (v := .tuple #[.agg #[.int .i64 5, .int .i64 0, .string ⟨#[]⟩, .slice ao n c], .int .i64 0, .string ⟨#[]⟩]) (by simp [results, Tryz.results21, go_sem, y0, y1, y2, y3]) rfl ?_
    refine ⟨_, rfl, ?_, HE.out⟩
    rw [HL.out]
    exact ⟨d + 1, _, rfl, HN.out _ HE.out⟩
  · rw [decide_eq_false hm]
    have HL := hid (lonF_two hm)
    clear hm
    go_wp2_with fail
    have HB2 := hid (four_set (u0 := .int .i64 0) (u1 := .int .i64 0) (u2 := .string ⟨#[]⟩) (u3 := .slice none 0 0) HB.out)
    have HKZ := hid (Kp.set4 w1 w.heap.size 0 (.int .i64 0) (.int .i64 0) (.string ⟨#[]⟩) (.slice none 0 0))
    have HE := hid (HKZ.out.extOf HX.out (Nat.le_refl _))
    obtain ⟨y0, y1, y2, y3⟩ := four_of HB2.out
    refine bodyPost_ret (v := .tuple #[.agg #[.int .i64 0, .int .i64 0, .string ⟨#[]⟩, .slice none 0 0], .int .i64 2, .string ⟨#[]⟩]) (by simp [results, Tryz.results21, go_sem, y0, y1, y2, y3]) rfl ?_
    refine ⟨_, rfl, ?_, HE.out⟩
    rw [HL.out]
    rfl
set_option maxRecDepth 100000 in
set_option maxHeartbeats 2000000 in
theorem kdRSize (g off c : Nat) (k1 : Int) (w : World) (h0 : w.cell? ⟨g, off, none⟩ = some (.int .i64 k1)) : Calls Tryz.prog 20 #[.string nSize, .slice (some ⟨g, off, none⟩) 1 c] w fun e w' => e = .returned (.bool (decide (k1 = 5))) ∧ w' = w := by
  unfold nSize
  have hgl := lt_of_cell h0
  by_cases c0 : k1 = 5
  case neg =>
    have q0 : (k1 == 5) = false := by rw [beq_eq_false_iff_ne]; exact c0
    have qn0 : (k1 != 5) = true := by unfold bne; rw [q0]; rfl
    have HC := hid (show (decide (k1 = 5)) = false by simp [c0])
    rw [HC.out]
    clear HC c0
    go_enter Tryz.func20, Tryz.ntmps20
    go_wp2_with fail
    go_ret
    exact ⟨rfl, rfl⟩
  subst c0
  rw [show (decide ((5 : Int) = 5)) = true from rfl]
  go_enter Tryz.func20, Tryz.ntmps20
  go_wp2_with fail
  go_loopw [6] (fun q6 wr => (q6 = .int .i64 1) ∧ wr = w) (fun q6 _ => 2 - (intOf q6).toNat)
  case atStart => exact ⟨rfl, rfl⟩
  case round =>
    obtain ⟨rfl, hw⟩ := hrel
    rw [hw]
    all_goals
      go_wp2_with fail
      first
        | (go_ret; exact ⟨rfl, rfl⟩)
        | (go_roundw; (case rel => simp); (case measure => simp [intOf]))
set_option maxRecDepth 100000 in
set_option maxHeartbeats 2000000 in
theorem kdRAt (g off c : Nat) (k1 k2 : Int) (w : World) (h0 : w.cell? ⟨g, off, none⟩ = some (.int .i64 k1)) (h1 : w.cell? ⟨g, off + 4, none⟩ = some (.int .i64 k2)) : Calls Tryz.prog 20 #[.string nAt, .slice (some ⟨g, off, none⟩) 2 c] w fun e w' => e = .returned (.bool (decide (k1 = 5) && decide (k2 = 3))) ∧ w' = w := by
  unfold nAt
  have hgl := lt_of_cell h0
  by_cases c0 : k1 = 5
  case neg =>
    have q0 : (k1 == 5) = false := by rw [beq_eq_false_iff_ne]; exact c0
    have qn0 : (k1 != 5) = true := by unfold bne; rw [q0]; rfl
    have HC := hid (show (decide (k1 = 5) && decide (k2 = 3)) = false by simp [c0])
    rw [HC.out]
    clear HC c0
    go_enter Tryz.func20, Tryz.ntmps20
    go_wp2_with fail
    go_ret
    exact ⟨rfl, rfl⟩
  subst c0
  by_cases c1 : k2 = 3
  case neg =>
    have q1 : (k2 == 3) = false := by rw [beq_eq_false_iff_ne]; exact c1
    have qn1 : (k2 != 3) = true := by unfold bne; rw [q1]; rfl
    have HC := hid (show (decide ((5 : Int) = 5) && decide (k2 = 3)) = false by simp [c1])
    rw [HC.out]
    clear HC c1
    go_enter Tryz.func20, Tryz.ntmps20
    go_wp2_with fail
    go_loopw [6] (fun q6 wr => (q6 = .int .i64 1) ∧ wr = w) (fun q6 _ => 3 - (intOf q6).toNat)
    case atStart => exact ⟨rfl, rfl⟩
    case round =>
      obtain ⟨rfl, hw⟩ := hrel
      rw [hw]
      all_goals
        go_wp2_with fail
        first
          | (go_ret; exact ⟨rfl, rfl⟩)
          | (go_roundw; (case rel => simp); (case measure => simp [intOf]))
  subst c1
  rw [show (decide ((5 : Int) = 5) && decide ((3 : Int) = 3)) = true from rfl]
  go_enter Tryz.func20, Tryz.ntmps20
  go_wp2_with fail
  go_loopw [6] (fun q6 wr => (q6 = .int .i64 1 ∨ q6 = .int .i64 2) ∧ wr = w) (fun q6 _ => 3 - (intOf q6).toNat)
  case atStart => exact ⟨.inl rfl, rfl⟩
  case round =>
    obtain ⟨rfl | rfl, hw⟩ := hrel
    all_goals rw [hw]
    all_goals
      go_wp2_with fail
      first
        | (go_ret; exact ⟨rfl, rfl⟩)
        | (go_roundw; (case rel => simp); (case measure => simp [intOf]))
set_option maxRecDepth 100000 in
set_option maxHeartbeats 2000000 in
theorem kdRJoin (g off c : Nat) (k1 k2 : Int) (w : World) (h0 : w.cell? ⟨g, off, none⟩ = some (.int .i64 k1)) (h1 : w.cell? ⟨g, off + 4, none⟩ = some (.int .i64 k2)) : Calls Tryz.prog 20 #[.string nJoin, .slice (some ⟨g, off, none⟩) 2 c] w fun e w' => e = .returned (.bool (decide (k1 = 5) && decide (k2 = 5))) ∧ w' = w := by
  unfold nJoin
  have hgl := lt_of_cell h0
  by_cases c0 : k1 = 5
  case neg =>
    have q0 : (k1 == 5) = false := by rw [beq_eq_false_iff_ne]; exact c0
    have qn0 : (k1 != 5) = true := by unfold bne; rw [q0]; rfl
    have HC := hid (show (decide (k1 = 5) && decide (k2 = 5)) = false by simp [c0])
    rw [HC.out]
    clear HC c0
    go_enter Tryz.func20, Tryz.ntmps20
    go_wp2_with fail
    go_ret
    exact ⟨rfl, rfl⟩
  subst c0
  by_cases c1 : k2 = 5
  case neg =>
    have q1 : (k2 == 5) = false := by rw [beq_eq_false_iff_ne]; exact c1
    have qn1 : (k2 != 5) = true := by unfold bne; rw [q1]; rfl
    have HC := hid (show (decide ((5 : Int) = 5) && decide (k2 = 5)) = false by simp [c1])
    rw [HC.out]
    clear HC c1
    go_enter Tryz.func20, Tryz.ntmps20
    go_wp2_with fail
    go_ret
    exact ⟨rfl, rfl⟩
  subst c1
  rw [show (decide ((5 : Int) = 5) && decide ((5 : Int) = 5)) = true from rfl]
  go_enter Tryz.func20, Tryz.ntmps20
  go_wp2_with fail
  go_ret
  exact ⟨rfl, rfl⟩
set_option maxRecDepth 100000 in
set_option maxHeartbeats 2000000 in
theorem kdRAdd (g off c : Nat) (k1 : Int) (w : World) (h0 : w.cell? ⟨g, off, none⟩ = some (.int .i64 k1)) : Calls Tryz.prog 20 #[.string nAdd, .slice (some ⟨g, off, none⟩) 2 c] w fun e w' => e = .returned (.bool (decide (k1 = 5))) ∧ w' = w := by
  unfold nAdd
  have hgl := lt_of_cell h0
  by_cases c0 : k1 = 5
  case neg =>
    have q0 : (k1 == 5) = false := by rw [beq_eq_false_iff_ne]; exact c0
    have qn0 : (k1 != 5) = true := by unfold bne; rw [q0]; rfl
    have HC := hid (show (decide (k1 = 5)) = false by simp [c0])
    rw [HC.out]
    clear HC c0
    go_enter Tryz.func20, Tryz.ntmps20
    go_wp2_with fail
    go_ret
    exact ⟨rfl, rfl⟩
  subst c0
  rw [show (decide ((5 : Int) = 5)) = true from rfl]
  go_enter Tryz.func20, Tryz.ntmps20
  go_wp2_with fail
  go_loopw [6] (fun q6 wr => (q6 = .int .i64 1) ∧ wr = w) (fun q6 _ => 3 - (intOf q6).toNat)
  case atStart => exact ⟨rfl, rfl⟩
  case round =>
    obtain ⟨rfl, hw⟩ := hrel
    rw [hw]
    all_goals
      go_wp2_with fail
      first
        | (go_ret; exact ⟨rfl, rfl⟩)
        | (go_roundw; (case rel => simp); (case measure => simp [intOf]))
set_option maxRecDepth 100000 in
set_option maxHeartbeats 2000000 in
theorem kdRCut (g off c : Nat) (k1 k2 k3 : Int) (w : World) (h0 : w.cell? ⟨g, off, none⟩ = some (.int .i64 k1)) (h1 : w.cell? ⟨g, off + 4, none⟩ = some (.int .i64 k2)) (h2 : w.cell? ⟨g, off + 8, none⟩ = some (.int .i64 k3)) : Calls Tryz.prog 20 #[.string nCut, .slice (some ⟨g, off, none⟩) 3 c] w fun e w' => e = .returned (.bool (decide (k1 = 5) && decide (k2 = 3) && decide (k3 = 3))) ∧ w' = w := by
  unfold nCut
  have hgl := lt_of_cell h0
  by_cases c0 : k1 = 5
  case neg =>
    have q0 : (k1 == 5) = false := by rw [beq_eq_false_iff_ne]; exact c0
    have qn0 : (k1 != 5) = true := by unfold bne; rw [q0]; rfl
    have HC := hid (show (decide (k1 = 5) && decide (k2 = 3) && decide (k3 = 3)) = false by simp [c0])
    rw [HC.out]
    clear HC c0
    go_enter Tryz.func20, Tryz.ntmps20
    go_wp2_with fail
    go_ret
    exact ⟨rfl, rfl⟩
  subst c0
  by_cases c1 : k2 = 3
  case neg =>
    have q1 : (k2 == 3) = false := by rw [beq_eq_false_iff_ne]; exact c1
    have qn1 : (k2 != 3) = true := by unfold bne; rw [q1]; rfl
    have HC := hid (show (decide ((5 : Int) = 5) && decide (k2 = 3) && decide (k3 = 3)) = false by simp [c1])
    rw [HC.out]
    clear HC c1
    go_enter Tryz.func20, Tryz.ntmps20
    go_wp2_with fail
    go_loopw [6] (fun q6 wr => (q6 = .int .i64 1) ∧ wr = w) (fun q6 _ => 4 - (intOf q6).toNat)
    case atStart => exact ⟨rfl, rfl⟩
    case round =>
      obtain ⟨rfl, hw⟩ := hrel
      rw [hw]
      all_goals
        go_wp2_with fail
        first
          | (go_ret; exact ⟨rfl, rfl⟩)
          | (go_roundw; (case rel => simp); (case measure => simp [intOf]))
  subst c1
  by_cases c2 : k3 = 3
  case neg =>
    have q2 : (k3 == 3) = false := by rw [beq_eq_false_iff_ne]; exact c2
    have qn2 : (k3 != 3) = true := by unfold bne; rw [q2]; rfl
    have HC := hid (show (decide ((5 : Int) = 5) && decide ((3 : Int) = 3) && decide (k3 = 3)) = false by simp [c2])
    rw [HC.out]
    clear HC c2
    go_enter Tryz.func20, Tryz.ntmps20
    go_wp2_with fail
    go_loopw [6] (fun q6 wr => (q6 = .int .i64 1 ∨ q6 = .int .i64 2) ∧ wr = w) (fun q6 _ => 4 - (intOf q6).toNat)
    case atStart => exact ⟨.inl rfl, rfl⟩
    case round =>
      obtain ⟨rfl | rfl, hw⟩ := hrel
      all_goals rw [hw]
      all_goals
        go_wp2_with fail
        first
          | (go_ret; exact ⟨rfl, rfl⟩)
          | (go_roundw; (case rel => simp); (case measure => simp [intOf]))
  subst c2
  rw [show (decide ((5 : Int) = 5) && decide ((3 : Int) = 3) && decide ((3 : Int) = 3)) = true from rfl]
  go_enter Tryz.func20, Tryz.ntmps20
  go_wp2_with fail
  go_loopw [6] (fun q6 wr => (q6 = .int .i64 1 ∨ q6 = .int .i64 2 ∨ q6 = .int .i64 3) ∧ wr = w) (fun q6 _ => 4 - (intOf q6).toNat)
  case atStart => exact ⟨.inl rfl, rfl⟩
  case round =>
    obtain ⟨rfl | rfl | rfl, hw⟩ := hrel
    all_goals rw [hw]
    all_goals
      go_wp2_with fail
      first
        | (go_ret; exact ⟨rfl, rfl⟩)
        | (go_roundw; (case rel => simp); (case measure => simp [intOf]))
set_option maxRecDepth 100000 in
set_option maxHeartbeats 2000000 in
theorem kdRTurn (g off c : Nat) (k1 : Int) (w : World) (h0 : w.cell? ⟨g, off, none⟩ = some (.int .i64 k1)) : Calls Tryz.prog 20 #[.string nTurn, .slice (some ⟨g, off, none⟩) 1 c] w fun e w' => e = .returned (.bool (decide (k1 = 5))) ∧ w' = w := by
  unfold nTurn
  have hgl := lt_of_cell h0
  by_cases c0 : k1 = 5
  case neg =>
    have q0 : (k1 == 5) = false := by rw [beq_eq_false_iff_ne]; exact c0
    have qn0 : (k1 != 5) = true := by unfold bne; rw [q0]; rfl
    have HC := hid (show (decide (k1 = 5)) = false by simp [c0])
    rw [HC.out]
    clear HC c0
    go_enter Tryz.func20, Tryz.ntmps20
    go_wp2_with fail
    go_ret
    exact ⟨rfl, rfl⟩
  subst c0
  rw [show (decide ((5 : Int) = 5)) = true from rfl]
  go_enter Tryz.func20, Tryz.ntmps20
  go_wp2_with fail
  go_loopw [6] (fun q6 wr => (q6 = .int .i64 1) ∧ wr = w) (fun q6 _ => 2 - (intOf q6).toNat)
  case atStart => exact ⟨rfl, rfl⟩
  case round =>
    obtain ⟨rfl, hw⟩ := hrel
    rw [hw]
    all_goals
      go_wp2_with fail
      first
        | (go_ret; exact ⟨rfl, rfl⟩)
        | (go_roundw; (case rel => simp); (case measure => simp [intOf]))
set_option maxRecDepth 100000 in
set_option maxHeartbeats 2000000 in
theorem kdRCount (g off c : Nat) (k1 : Int) (w : World) (h0 : w.cell? ⟨g, off, none⟩ = some (.int .i64 k1)) : Calls Tryz.prog 20 #[.string nCount, .slice (some ⟨g, off, none⟩) 1 c] w fun e w' => e = .returned (.bool (decide (k1 = 3))) ∧ w' = w := by
  unfold nCount
  have hgl := lt_of_cell h0
  by_cases c0 : k1 = 3
  case neg =>
    have q0 : (k1 == 3) = false := by rw [beq_eq_false_iff_ne]; exact c0
    have qn0 : (k1 != 3) = true := by unfold bne; rw [q0]; rfl
    have HC := hid (show (decide (k1 = 3)) = false by simp [c0])
    rw [HC.out]
    clear HC c0
    go_enter Tryz.func20, Tryz.ntmps20
    go_wp2_with fail
    go_ret
    exact ⟨rfl, rfl⟩
  subst c0
  rw [show (decide ((3 : Int) = 3)) = true from rfl]
  go_enter Tryz.func20, Tryz.ntmps20
  go_wp2_with fail
  go_loopw [6] (fun q6 wr => (q6 = .int .i64 1) ∧ wr = w) (fun q6 _ => 2 - (intOf q6).toNat)
  case atStart => exact ⟨rfl, rfl⟩
  case round =>
    obtain ⟨rfl, hw⟩ := hrel
    rw [hw]
    all_goals
      go_wp2_with fail
      first
        | (go_ret; exact ⟨rfl, rfl⟩)
        | (go_roundw; (case rel => simp); (case measure => simp [intOf]))

end Go.Proofs.YtaafcmmmkalgjaaGreatDoor
/-
  count of the document's package list, by a contract.
-/
namespace Go.Proofs.YtaafcmmmkalgjaaGreatDoor
open Go.RowKit
def upL (m : Nat) : List T := (List.range m).map fun (i : Nat) => intT (i : Int)
theorem upL_len (m : Nat) : (upL m).length = m := by simp [upL]
theorem upL_snoc (m : Nat) : upL m ++ [intT (m : Int)] = upL (m + 1) := by simp [upL, List.range_succ]
set_option maxRecDepth 100000 in
set_option maxHeartbeats 4000000 in
theorem rcount_any (x : Int) (B : Nat) (w : World) (hB : B < w.heap.size) : Calls Tryz.prog 22 #[.int .i64 x] w fun e w' => ∃ R, e = .returned R ∧ AnsK (fun q => B < q) (countF x) w' R ∧ Ext w w' := by
  have HB9 := hid hB
  clear hB
  have HBK := hid (blk0 w (.cells #[.int .i64 0, .int .i64 0, .string ⟨#[]⟩, .slice none 0 0] 30))
  obtain ⟨z0, z1, z2, z3⟩ := four_of HBK.out
  obtain ⟨f0, f1, f2, f3⟩ := four_free HBK.out
  have HX := hid (Ext.alloc w (.cells #[.int .i64 0, .int .i64 0, .string ⟨#[]⟩, .slice none 0 0] 30))
  by_cases h0 : x < 0
  · have HF := hid (show countF x = .one 23 by unfold countF; rw [if_pos h0])
    go_enter Tryz.func22, Tryz.ntmps22
    go_wp2_with fail
    refine bodyPost_ret (v := .tuple #[.agg #[.int .i64 0, .int .i64 0, .string ⟨#[]⟩, .slice none 0 0], .int .i64 23, .string ⟨#[]⟩]) (by simp [results, Tryz.results22, go_sem, z0, z1, z2, z3]) rfl ?_
    exact ⟨_, rfl, by rw [HF.out]; rfl, HX.out⟩
  by_cases h1 : 65535 < x
  · have HF := hid (show countF x = .one 2 by unfold countF; rw [if_neg h0, if_pos h1])
    have h2 : (65536 : Int) ≤ x := by omega
    clear h1
    go_enter Tryz.func22, Tryz.ntmps22
    go_wp2_with fail
    refine bodyPost_ret (v := .tuple #[.agg #[.int .i64 0, .int .i64 0, .string ⟨#[]⟩, .slice none 0 0], .int .i64 2, .string ⟨#[]⟩]) (by simp [results, Tryz.results22, go_sem, z0, z1, z2, z3]) rfl ?_
    exact ⟨_, rfl, by rw [HF.out]; rfl, HX.out⟩
  obtain ⟨m, rfl⟩ : ∃ m : Nat, x = (m : Int) := ⟨x.toNat, by omega⟩
  have hm : m ≤ 65535 := by omega
  have hm2 : ¬ (65536 : Int) ≤ (m : Int) := by omega
  have hm3 : ¬ (m : Int) < 0 := by omega
  have HF := hid (show countF (m : Int) = lonF (upL m) by
    have := upT_may hm
    unfold countF
    rw [if_neg (by omega), if_neg (by omega), Int.toNat_natCast]
    exact (lonF_good this).symm)
  clear h0 h1 z0 z1 z2 z3 f0 f1 f2 f3
  go_enter Tryz.func22, Tryz.ntmps22
  go_wp2_with fail
  go_loopw [5, 6] (fun q5 q6 wr => ∃ (j : Nat) (ao : Option Addr) (c1 : Nat), j ≤ m ∧ q6 = .int .i64 j ∧ q5 = .slice ao j c1 ∧ RIt wr 0 (w.heap.size + 1) 1 (.slice ao j c1) (upL j) ∧ wr.heap[w.heap.size]? = some (.cells #[.int .i64 0, .int .i64 0, .string ⟨#[]⟩, .slice none 0 0] 30) ∧ Ext w wr) (fun _ q6 _ => m - (intOf q6).toNat)
  case atStart => exact ⟨0, none, 0, Nat.zero_le _, rfl, rfl, RIt.nil _ _ _, HBK.out, HX.out⟩
  case round =>
    obtain ⟨j, ao, c1, hj, rfl, rfl, hit, hbk, hx⟩ := hrel
    have HIT := hid hit
    have HBW := hid hbk
    have X := hid hx
    clear hit hbk hx HBK
    by_cases hlt : j < m
    · have hlt' : (j : Int) < (m : Int) := by omega
      have hsz : w.heap.size + 1 ≤ wr.heap.size := by have := lt_of_block HBW.out; omega
      have HSR := hid (show SRow (wr.alloc (.cells #[.int .i64 3, .int .i64 (j : Int), .string ⟨#[]⟩, .slice none 0 0] 30)) 0 1 (some ⟨wr.heap.size, 0, none⟩) [intT (j : Int)] from .inr ⟨_, 0, rfl, fun i hi => by
        obtain rfl : i = 0 := by simpa using hi
        obtain ⟨s0, s1, s2, s3⟩ := four_of (blk0 wr (.cells #[.int .i64 3, .int .i64 (j : Int), .string ⟨#[]⟩, .slice none 0 0] 30))
        exact ⟨_, _, _, _, ⟨s0, s1, s2, s3⟩, none, 0, rfl, by decide, by decide, .inl rfl⟩⟩)
      have HIA := hid (HIT.out.later (Ext.alloc wr (.cells #[.int .i64 3, .int .i64 (j : Int), .string ⟨#[]⟩, .slice none 0 0] 30)))
      go_wp2_with (at_builtin; refine app_rits rfl _ _ rfl rfl 0 (w.heap.size + 1) 1 _ (upL j) (some ⟨wr.heap.size, 0, none⟩) 1 1 [intT (j : Int)] rfl rfl rfl (Nat.zero_le _) (by rw [blkS]; omega) HIA.out HSR.out (by rw [upL_len]; omega) (j + 1) (by rw [upL_len]) (upL (j + 1)) (upL_snoc j) ?_; intro a9 c9 w9 hit9 hb9 _; have HI9 := hid hit9; have HB9' := hid hb9; clear hit9 hb9)
      go_roundw
      case rel =>
        have hsz := lt_of_block HBW.out
        refine ⟨j + 1, a9, c9, hlt, by go_num, rfl, HI9.out, ?_, ?_⟩
        · exact (HB9'.out.block w.heap.size (by omega)).trans (blkOld _ HBW.out)
        · exact Below.trans (X.out.trans (Ext.alloc _ _)) (HB9'.out.mono (by omega))
      case measure => simp [intOf]; omega
    · obtain rfl : j = m := by omega
      have hlt3 : ¬ (j : Int) < (j : Int) := by omega
      have HWH := hid (whole_any (K := fun x => w.heap.size < x) c1 wr (HIT.out.rdl (fun x hx => by omega) (by rw [upL_len]; omega)))
      rw [upL_len] at HWH
      go_wp2_with fail
      refine HWH.out.mono ?_
      rintro e w4 ⟨R, rfl, hr, hx4⟩
      obtain ⟨pk, pn, px, pa, pl', pc, ec, ex, rfl⟩ := hr.shape
      have HR := hid hr
      have HX4 := hid (X.out.trans hx4)
      have HB4 := hid (hx4.block HBW.out)
      obtain ⟨z0, z1, z2, z3⟩ := four_of HB4.out
      obtain ⟨f0, f1, f2, f3⟩ := four_free HB4.out
      clear hr hx4
      go_wp2_with fail
      have HB2 := hid (four_set (u0 := .int .i64 pk) (u1 := .int .i64 pn) (u2 := .string px) (u3 := (.slice pa pl' pc)) HB4.out)
      have HKZ := hid (Kp.set4 w4 w.heap.size 0 (.int .i64 pk) (.int .i64 pn) (.string px) ((.slice pa pl' pc)))
      have HE := hid (HKZ.out.extOf HX4.out (Nat.le_refl _))
      obtain ⟨y0, y1, y2, y3⟩ := four_of HB2.out
      refine bodyPost_ret (v := .tuple #[.agg #[.int .i64 pk, .int .i64 pn, .string px, (.slice pa pl' pc)], .int .i64 ec, .string ex]) (by simp [results, Tryz.results22, go_sem, y0, y1, y2, y3]) rfl ?_
      exact ⟨_, rfl, by rw [HF.out]; exact (HR.out.keep (HKZ.out.mono (fun k _ hk e => by have hk2 : w.heap.size < k := hk; have e2 : k = w.heap.size := e; omega))).mono (fun k _ hk => by have hk2 : w.heap.size < k := hk; show B < k; have := HB9.out; omega), HE.out⟩

end Go.Proofs.YtaafcmmmkalgjaaGreatDoor
/-
  espalierref11.Work by a contract, operation by operation.
-/
namespace Go.Proofs.YtaafcmmmkalgjaaGreatDoor
open Go.RowKit
theorem listR_eq : listK.map kdRow = listR := by kernel_rfl
theorem listTab : TabK listK where
  strict := by
    intro k hk
    obtain ⟨i, hi, rfl⟩ := List.getElem_of_mem hk
    rw [listLen] at hi
    match i, hi with
    | 0, _ => exact (show anyS strictS (kdRow (listK[0]'(by decide))).abs = true from by kernel_rfl)
    | 1, _ => exact (show anyS strictS (kdRow (listK[1]'(by decide))).abs = true from by kernel_rfl)
    | 2, _ => exact (show anyS strictS (kdRow (listK[2]'(by decide))).abs = true from by kernel_rfl)
    | 3, _ => exact (show anyS strictS (kdRow (listK[3]'(by decide))).abs = true from by kernel_rfl)
    | 4, _ => exact (show anyS strictS (kdRow (listK[4]'(by decide))).abs = true from by kernel_rfl)
    | 5, _ => exact (show anyS strictS (kdRow (listK[5]'(by decide))).abs = true from by kernel_rfl)
    | 6, _ => exact (show anyS strictS (kdRow (listK[6]'(by decide))).abs = true from by kernel_rfl)
    | 7, _ => exact (show anyS strictS (kdRow (listK[7]'(by decide))).abs = true from by kernel_rfl)
    | 8, _ => exact (show anyS strictS (kdRow (listK[8]'(by decide))).abs = false from by kernel_rfl)
    | 9, _ => exact (show anyS strictS (kdRow (listK[9]'(by decide))).abs = false from by kernel_rfl)
    | n + 10, h => exact absurd h (by omega)
  nodup := by decide
  max := by
    intro k hk
    obtain ⟨i, hi, rfl⟩ := List.getElem_of_mem hk
    rw [listLen] at hi
    match i, hi with
    | 0, _ => exact .inl rfl
    | 1, _ => exact .inr (show (0 : Int) ≤ 1 by decide)
    | 2, _ => exact .inr (show (0 : Int) ≤ 2 by decide)
    | 3, _ => exact .inr (show (0 : Int) ≤ 2 by decide)
    | 4, _ => exact .inr (show (0 : Int) ≤ 2 by decide)
    | 5, _ => exact .inr (show (0 : Int) ≤ 3 by decide)
    | 6, _ => exact .inr (show (0 : Int) ≤ 1 by decide)
    | 7, _ => exact .inr (show (0 : Int) ≤ 1 by decide)
    | 8, _ => exact .inr (show (0 : Int) ≤ 2 by decide)
    | 9, _ => exact .inr (show (0 : Int) ≤ 2 by decide)
    | n + 10, h => exact absurd h (by omega)

theorem mayL_any {K : Nat → Prop} {d : Nat} (op : ByteArray) (a : Option Addr) (c : Nat) (ts : List T) (w : World) (h : RdL K w d a ts) : Calls Tryz.prog 19 #[.string op, .slice a ts.length c] w fun e w' => e = .returned (.int .i64 (askK listK op ts)) ∧ Ext w w' := by
  have := mayL_gen (K := K) (d := d) listR op a c ts w (by decide) (by decide) refRowsL_any h
  rwa [← listR_eq, ask_eq listK listTab] at this
theorem rdl_low {K : Nat → Prop} {w : World} {d : Nat} {a : Option Addr} {ks : List T} (h : RdL K w d a ks) : RdL (· < w.heap.size) w d a ks := by
  refine ⟨h.1, ?_⟩
  rcases h.2 with h | ⟨g, off, ha, _, hc⟩
  · exact .inl h
  · by_cases h0 : 0 < ks.length
    · refine .inr ⟨g, off, ha, ?_, fun j hj => ?_⟩
      · obtain ⟨_, _, _, _, h4, _⟩ := hc 0 h0
        exact lt_of_cell h4.1
      · obtain ⟨u0, u1, u2, u3, h4, hr⟩ := hc j hj
        exact ⟨u0, u1, u2, u3, h4, hr.low⟩
    · exact .inl (List.eq_nil_of_length_eq_zero (by omega))
theorem rdl_srow {w : World} {B d : Nat} {a : Option Addr} {ks : List T} (h : RdL (· < B) w d a ks) : SRow w B d a ks :=
  h.2.imp id fun ⟨g, off, ha, _, hc⟩ => ⟨g, off, ha, hc⟩
theorem arg_any {K : Nat → Prop} {w : World} {d : Nat} {a : Option Addr} {ts : List T} (h : RdL K w d a ts) {j : Nat} {t : T} (ht : ts[j]? = some t) : ∃ g off k n x a0 l0 c0, a = some ⟨g, off, none⟩ ∧ K g ∧ Four w g (off + j * 4) (.int .i64 k) (.int .i64 n) (.string x) (.slice a0 l0 c0) ∧ Rd K w d (.agg #[.int .i64 k, .int .i64 n, .string x, .slice a0 l0 c0]) t := by
  obtain ⟨hj, rfl⟩ := List.getElem?_eq_some_iff.1 ht
  exact h.kid hj
theorem arg_list {K : Nat → Prop} {w : World} {d : Nat} {a : Option Addr} {ts : List T} (h : RdL K w d a ts) {j : Nat} {ks : List T} (ht : ts[j]? = some (listT ks)) : ∃ g off d' a0 c0, a = some ⟨g, off, none⟩ ∧ K g ∧ Four w g (off + j * 4) (.int .i64 5) (.int .i64 0) (.string ⟨#[]⟩) (.slice a0 ks.length c0) ∧ RdL K w d' a0 ks := by
  obtain ⟨g, off, k, n, x, a0, l0, c0, ha, hg, h4, hr⟩ := arg_any h ht
  cases d with
  | zero => exact hr.elim
  | succ d =>
    obtain ⟨a1, c1, e, hk⟩ := Rd.kidsL (show Rd K w (d + 1) _ (.node 5 0 ⟨#[]⟩ ks) from hr)
    simp only [Value.agg.injEq, Array.mk.injEq, List.cons.injEq, and_true, Value.int.injEq, Value.string.injEq, true_and] at e
    obtain ⟨rfl, rfl, rfl, e4⟩ := e
    rw [e4] at h4
    exact ⟨g, off, d, a1, c1, ha, hg, h4, hk⟩
theorem arg_int {K : Nat → Prop} {w : World} {d : Nat} {a : Option Addr} {ts : List T} (h : RdL K w d a ts) {j : Nat} {i : Int} (ht : ts[j]? = some (intT i)) : ∃ g off q l c, a = some ⟨g, off, none⟩ ∧ Four w g (off + j * 4) (.int .i64 3) (.int .i64 i) (.string ⟨#[]⟩) (.slice q l c) := by
  obtain ⟨g, off, k, n, x, a0, l0, c0, ha, hg, h4, hr⟩ := arg_any h ht
  cases d with
  | zero => exact hr.elim
  | succ d =>
    obtain ⟨a1, c1, e, _⟩ := Rd.kidsL (show Rd K w (d + 1) _ (.node 3 i ⟨#[]⟩ []) from hr)
    simp only [Value.agg.injEq, Array.mk.injEq, List.cons.injEq, and_true, Value.int.injEq, Value.string.injEq, true_and] at e
    obtain ⟨rfl, rfl, rfl, _⟩ := e
    exact ⟨g, off, a0, l0, c0, ha, h4⟩
theorem kdROf (a : Option Addr) (n c : Nat) (w : World) : Calls Tryz.prog 20 #[.string nOf, .slice a n c] w fun e w' => e = .returned (.bool true) ∧ w' = w := by
  unfold nOf
  go_enter Tryz.func20, Tryz.ntmps20
  go_wp2_with fail
  go_ret
  exact ⟨rfl, rfl⟩
/-- Below b, or behind N. -/
def KB (b N : Nat) (x : Nat) : Prop := x < b ∨ N < x
theorem kb_keep {b N : Nat} (hb : b ≤ N) {w w' : World} (h : Kp (· ≠ N) w w') : Kp (KB b N) w w' := h.mono fun k _ hk e => by
  have h1 : k < b ∨ N < k := hk
  have h2 : k = N := e
  omega
/-- What a call of Work comes to. -/
def WorkR (b : Nat) (r : Ans) (w : World) (e : Ending) (w' : World) : Prop := ∃ R, e = .returned R ∧ AnsK (KB b w.heap.size) r w' R ∧ Ext w w'
set_option maxRecDepth 100000 in
set_option maxHeartbeats 4000000 in
theorem rwL_bad {d : Nat} (a : Option Addr) (c : Nat) (op : ByteArray) (ts : List T) (w : World) (bq : Nat) (_ : bq ≤ w.heap.size) (h : RdL (· < bq) w d a ts) (V : Int) (hV : askK listK op ts = V) (hz : (V == 0) = false) : Calls Tryz.prog 7 #[.string op, .slice a ts.length c] w (WorkR bq (Ans.one V) w) := by
  have HA := hid (fun w1 (hx : Ext w w1) => mayL_any (K := (· < bq)) (d := d) op a c ts w1 (h.keep (hx.kp _)))
  rw [hV] at HA
  have hz' : (V != 0) = true := by unfold bne; rw [hz]; rfl
  clear h hV
  generalize ts.length = n at *
  go_enter Tryz.func7, Tryz.ntmps7
  go_wp2_with fail
  refine (HA.out _ (Ext.alloc _ _)).mono ?_
  rintro e w1 ⟨rfl, hx1⟩
  have HX := hid ((Ext.alloc w (.cells #[.int .i64 0, .int .i64 0, .string ⟨#[]⟩, .slice none 0 0] 30)).trans hx1)
  have HB := hid (hx1.block (blk0 w (.cells #[.int .i64 0, .int .i64 0, .string ⟨#[]⟩, .slice none 0 0] 30)))
  have HSZ := hid (lt_of_block HB.out)
  obtain ⟨z0, z1, z2, z3⟩ := four_of HB.out
  obtain ⟨f0, f1, f2, f3⟩ := four_free HB.out
  clear hx1
  go_wp2_with fail
  have HB2 := hid (four_set (u0 := .int .i64 0) (u1 := .int .i64 0) (u2 := .string ⟨#[]⟩) (u3 := .slice none 0 0) HB.out)
  have HKZ := hid (Kp.set4 w1 w.heap.size 0 (.int .i64 0) (.int .i64 0) (.string ⟨#[]⟩) (.slice none 0 0))
  have HE := hid (HKZ.out.extOf HX.out (Nat.le_refl _))
  obtain ⟨y0, y1, y2, y3⟩ := four_of HB2.out
  refine bodyPost_ret (v := .tuple #[.agg #[.int .i64 0, .int .i64 0, .string ⟨#[]⟩, .slice none 0 0], .int .i64 V, .string ⟨#[]⟩]) (by simp [results, Tryz.results7, go_sem, y0, y1, y2, y3]) rfl ?_
  first | exact ⟨_, rfl, rfl, HE.out⟩ | exact ⟨_, rfl, rfl, HE.out.drew⟩
set_option maxRecDepth 100000 in
set_option maxHeartbeats 4000000 in
theorem rwL_kind {d : Nat} (a : Option Addr) (c : Nat) (op : ByteArray) (ts : List T) (w : World) (bq : Nat) (_ : bq ≤ w.heap.size) (h : RdL (· < bq) w d a ts) (hV : askK listK op ts = 0) (hk : ∀ w1, Ext w w1 → Calls Tryz.prog 20 #[.string op, .slice a ts.length c] w1 fun e w' => e = .returned (.bool false) ∧ w' = w1) : Calls Tryz.prog 7 #[.string op, .slice a ts.length c] w (WorkR bq (Ans.one 20) w) := by
  have HA := hid (fun w1 (hx : Ext w w1) => mayL_any (K := (· < bq)) (d := d) op a c ts w1 (h.keep (hx.kp _)))
  rw [hV] at HA
  have HKD := hid hk
  clear h hV hk
  generalize ts.length = n at *
  go_enter Tryz.func7, Tryz.ntmps7
  go_wp2_with fail
  refine (HA.out _ (Ext.alloc _ _)).mono ?_
  rintro e w1 ⟨rfl, hx1⟩
  have HX := hid ((Ext.alloc w (.cells #[.int .i64 0, .int .i64 0, .string ⟨#[]⟩, .slice none 0 0] 30)).trans hx1)
  have HB := hid (hx1.block (blk0 w (.cells #[.int .i64 0, .int .i64 0, .string ⟨#[]⟩, .slice none 0 0] 30)))
  have HSZ := hid (lt_of_block HB.out)
  obtain ⟨z0, z1, z2, z3⟩ := four_of HB.out
  obtain ⟨f0, f1, f2, f3⟩ := four_free HB.out
  clear hx1
  go_wp2_with fail
  refine (HKD.out _ HX.out).mono ?_
  rintro e w2 ⟨rfl, hw2⟩
  rw [hw2]
  clear hw2 w2
  go_wp2_with fail
  have HB2 := hid (four_set (u0 := .int .i64 0) (u1 := .int .i64 0) (u2 := .string ⟨#[]⟩) (u3 := .slice none 0 0) HB.out)
  have HKZ := hid (Kp.set4 w1 w.heap.size 0 (.int .i64 0) (.int .i64 0) (.string ⟨#[]⟩) (.slice none 0 0))
  have HE := hid (HKZ.out.extOf HX.out (Nat.le_refl _))
  obtain ⟨y0, y1, y2, y3⟩ := four_of HB2.out
  refine bodyPost_ret (v := .tuple #[.agg #[.int .i64 0, .int .i64 0, .string ⟨#[]⟩, .slice none 0 0], .int .i64 20, .string ⟨#[]⟩]) (by simp [results, Tryz.results7, go_sem, y0, y1, y2, y3]) rfl ?_
  first | exact ⟨_, rfl, rfl, HE.out⟩ | exact ⟨_, rfl, rfl, HE.out.drew⟩
set_option maxRecDepth 100000 in
set_option maxHeartbeats 4000000 in
theorem rwL_of {d : Nat} (a : Option Addr) (c : Nat) (ts : List T) (w : World) (bq : Nat) (hbq : bq ≤ w.heap.size) (h : RdL (· < bq) w d a ts) (hV : askK listK nOf ts = 0) : Calls Tryz.prog 7 #[.string nOf, .slice a ts.length c] w (WorkR bq (lonF ts) w) := by
  have HA := hid (fun w1 (hx : Ext w w1) => mayL_any (K := (· < bq)) (d := d) nOf a c ts w1 (h.keep (hx.kp _)))
  rw [hV] at HA
  have HKD := hid (fun w1 (_ : Ext w w1) => kdROf a ts.length c w1)
  have HS := hid (fun w1 (hx : Ext w w1) => (rdl_srow h).later hx)
  have hlen := h.1
  clear h hV
  obtain ⟨n, hne⟩ : ∃ n, ts.length = n := ⟨_, rfl⟩
  have HNE := hid hne
  rw [hne] at HA HKD hlen ⊢
  clear hne
  unfold nOf at *
  go_enter Tryz.func7, Tryz.ntmps7
  go_wp2_with fail
  refine (HA.out _ (Ext.alloc _ _)).mono ?_
  rintro e w1 ⟨rfl, hx1⟩
  have HX := hid ((Ext.alloc w (.cells #[.int .i64 0, .int .i64 0, .string ⟨#[]⟩, .slice none 0 0] 30)).trans hx1)
  have HB := hid (hx1.block (blk0 w (.cells #[.int .i64 0, .int .i64 0, .string ⟨#[]⟩, .slice none 0 0] 30)))
  have HSZ := hid (lt_of_block HB.out)
  obtain ⟨z0, z1, z2, z3⟩ := four_of HB.out
  obtain ⟨f0, f1, f2, f3⟩ := four_free HB.out
  clear hx1
  go_wp2_with fail
  refine (HKD.out _ HX.out).mono ?_
  rintro e w2 ⟨rfl, hw2⟩
  rw [hw2]
  clear hw2 w2
  go_wp2_with (at_builtin; refine app_rits rfl _ _ rfl rfl bq (w.heap.size + 1) d (.slice none 0 0) [] a n c ts rfl rfl HNE.out (by omega) (by have := HSZ.out; omega) (RIt.nil _ _ _) (HS.out _ HX.out) (by simp; omega) n (by simp) ts (List.nil_append _) ?_; intro a9 c9 w9 hit9 _ hx9; have HI9 := hid hit9; have X9 := hid (hx9 rfl); clear hit9 hx9)
  have HBW := hid (X9.out.block HB.out)
  have HWH := hid (whole_any (K := KB bq w.heap.size) c9 w9 (HI9.out.rdl (fun x hx => by show x < bq ∨ w.heap.size < x; omega) (by rw [HNE.out]; omega)))
  rw [HNE.out] at HWH
  clear z0 z1 z2 z3 f0 f1 f2 f3
  refine HWH.out.mono ?_
  rintro e w4 ⟨R, rfl, hr, hx4⟩
  obtain ⟨pk, pn, px, pa, pl', pc, ec, ex, rfl⟩ := hr.shape
  have HR := hid hr
  have HX4 := hid ((HX.out.trans X9.out).trans hx4)
  have HB4 := hid (hx4.block HBW.out)
  obtain ⟨z0, z1, z2, z3⟩ := four_of HB4.out
  obtain ⟨f0, f1, f2, f3⟩ := four_free HB4.out
  clear hr hx4
  go_wp2_with fail
  have HB2 := hid (four_set (u0 := .int .i64 pk) (u1 := .int .i64 pn) (u2 := .string px) (u3 := (.slice pa pl' pc)) HB4.out)
  have HKZ := hid (Kp.set4 w4 w.heap.size 0 (.int .i64 pk) (.int .i64 pn) (.string px) ((.slice pa pl' pc)))
  have HE := hid (HKZ.out.extOf HX4.out (Nat.le_refl _))
  obtain ⟨y0, y1, y2, y3⟩ := four_of HB2.out
  refine bodyPost_ret (v := .tuple #[.agg #[.int .i64 pk, .int .i64 pn, .string px, (.slice pa pl' pc)], .int .i64 ec, .string ex]) (by simp [results, Tryz.results7, go_sem, y0, y1, y2, y3]) rfl ?_
  first | exact ⟨_, rfl, (HR.out.keep (kb_keep hbq HKZ.out)), HE.out⟩ | exact ⟨_, rfl, (HR.out.keep (kb_keep hbq HKZ.out)), HE.out.drew⟩

end Go.Proofs.YtaafcmmmkalgjaaGreatDoor
/-
  espalierref11.Work: size, at, count, turn, cut; by contracts.
-/
namespace Go.Proofs.YtaafcmmmkalgjaaGreatDoor
open Go.RowKit
/-- The room of a list that came in is no less than its length. -/
def CapL (w : World) (a : Option Addr) (n : Nat) : Prop := ∀ g off, a = some ⟨g, off, none⟩ → ∀ j, j < n → ∀ q l c, w.cell? ⟨g, off + j * 4 + 3, none⟩ = some (.slice q l c) → l ≤ c
set_option maxRecDepth 100000 in
set_option maxHeartbeats 4000000 in
theorem rwL_size {d : Nat} (a : Option Addr) (c : Nat) (ks : List T) (w : World) (bq : Nat) (_ : bq ≤ w.heap.size) (h : RdL (· < bq) w d a [listT ks]) (hV : askK listK nSize [listT ks] = 0) : Calls Tryz.prog 7 #[.string nSize, .slice a 1 c] w (WorkR bq (.good (intT (ks.length : Int))) w) := by
  obtain ⟨g, off, d', a0, c0, rfl, hg, h40, hks⟩ := arg_list (j := 0) h (show [listT ks][0]? = some (listT ks) from rfl)
  have H40 := hid (show ∀ w1, Ext w w1 → Four w1 g off (.int .i64 5) (.int .i64 0) (.string ⟨#[]⟩) (.slice a0 ks.length c0) from fun w1 hx => by
    have := Four.keep h40 (hx.kp (fun _ => True)) trivial
    rwa [Nat.zero_mul, Nat.add_zero] at this)
  have HKS := hid hks
  have hgw : g < w.heap.size := lt_of_cell h40.1
  have hlen := hks.1
  have HA := hid (show ∀ w1, Ext w w1 → Calls Tryz.prog 19 #[.string nSize, .slice (some ⟨g, off, none⟩) 1 c] w1 (fun e w' => e = .returned (.int .i64 0) ∧ Ext w1 w') from fun w1 hx => by
    have := mayL_any (K := (· < bq)) (d := d) nSize (some ⟨g, off, none⟩) c [listT ks] w1 (h.keep (hx.kp _))
    rwa [hV] at this)
  have HKD := hid (show ∀ w1, Ext w w1 → Calls Tryz.prog 20 #[.string nSize, .slice (some ⟨g, off, none⟩) 1 c] w1 (fun e w' => e = .returned (.bool true) ∧ w' = w1) from fun w1 hx => kdRSize g off c 5 w1 (H40.out w1 hx).1)
  clear h hV h40 hks hg
  generalize ks.length = n at *
  have hn' : (n : Int) ≤ 140737488351232 := by omega
  unfold nSize at *
  go_enter Tryz.func7, Tryz.ntmps7
  go_wp2_with fail
  refine (HA.out _ (Ext.alloc _ _)).mono ?_
  rintro e w1 ⟨rfl, hx1⟩
  have HX := hid ((Ext.alloc w (.cells #[.int .i64 0, .int .i64 0, .string ⟨#[]⟩, .slice none 0 0] 30)).trans hx1)
  have HB := hid (hx1.block (blk0 w (.cells #[.int .i64 0, .int .i64 0, .string ⟨#[]⟩, .slice none 0 0] 30)))
  have HSZ := hid (lt_of_block HB.out)
  obtain ⟨z0, z1, z2, z3⟩ := four_of HB.out
  obtain ⟨f0, f1, f2, f3⟩ := four_free HB.out
  clear hx1
  go_wp2_with fail
  refine (HKD.out _ HX.out).mono ?_
  rintro e w2 ⟨rfl, hw2⟩
  rw [hw2]
  clear hw2 w2
  obtain ⟨o0, o1, o2, o3⟩ := H40.out _ HX.out
  have hgl := lt_of_cell o0
  clear o0 o1 o2
  go_wp2_with fail
  have HB2 := hid (four_set (u0 := .int .i64 3) (u1 := .int .i64 (n : Int)) (u2 := .string ⟨#[]⟩) (u3 := .slice none 0 0) HB.out)
  have HKZ := hid (Kp.set4 w1 w.heap.size 0 (.int .i64 3) (.int .i64 (n : Int)) (.string ⟨#[]⟩) (.slice none 0 0))
  have HE := hid (HKZ.out.extOf HX.out (Nat.le_refl _))
  obtain ⟨y0, y1, y2, y3⟩ := four_of HB2.out
  refine bodyPost_ret (v := .tuple #[.agg #[.int .i64 3, .int .i64 (n : Int), .string ⟨#[]⟩, .slice none 0 0], .int .i64 0, .string ⟨#[]⟩]) (by simp [results, Tryz.results7, go_sem, y0, y1, y2, y3]) rfl ?_
  first | exact ⟨_, rfl, ⟨1, _, rfl, none, 0, rfl, by decide, by decide, .inl rfl⟩, HE.out⟩ | exact ⟨_, rfl, ⟨1, _, rfl, none, 0, rfl, by decide, by decide, .inl rfl⟩, HE.out.drew⟩
set_option maxRecDepth 100000 in
set_option maxHeartbeats 4000000 in
theorem rwL_count {d : Nat} (a : Option Addr) (c : Nat) (x : Int) (w : World) (bq : Nat) (hbq : bq ≤ w.heap.size) (h : RdL (· < bq) w d a [intT x]) (hV : askK listK nCount [intT x] = 0) : Calls Tryz.prog 7 #[.string nCount, .slice a 1 c] w (WorkR bq (countF x) w) := by
  obtain ⟨g, off, q0, l0, c0, rfl, h40⟩ := arg_int (j := 0) h (show [intT x][0]? = some (intT x) from rfl)
  have H40 := hid (show ∀ w1, Ext w w1 → Four w1 g off (.int .i64 3) (.int .i64 x) (.string ⟨#[]⟩) (.slice q0 l0 c0) from fun w1 hx => by
    have := Four.keep h40 (hx.kp (fun _ => True)) trivial
    rwa [Nat.zero_mul, Nat.add_zero] at this)
  have HA := hid (show ∀ w1, Ext w w1 → Calls Tryz.prog 19 #[.string nCount, .slice (some ⟨g, off, none⟩) 1 c] w1 (fun e w' => e = .returned (.int .i64 0) ∧ Ext w1 w') from fun w1 hx => by
    have := mayL_any (K := (· < bq)) (d := d) nCount (some ⟨g, off, none⟩) c [intT x] w1 (h.keep (hx.kp _))
    rwa [hV] at this)
  have HKD := hid (show ∀ w1, Ext w w1 → Calls Tryz.prog 20 #[.string nCount, .slice (some ⟨g, off, none⟩) 1 c] w1 (fun e w' => e = .returned (.bool true) ∧ w' = w1) from fun w1 hx => kdRCount g off c 3 w1 (H40.out w1 hx).1)
  clear h hV h40
  unfold nCount at *
  go_enter Tryz.func7, Tryz.ntmps7
  go_wp2_with fail
  refine (HA.out _ (Ext.alloc _ _)).mono ?_
  rintro e w1 ⟨rfl, hx1⟩
  have HX := hid ((Ext.alloc w (.cells #[.int .i64 0, .int .i64 0, .string ⟨#[]⟩, .slice none 0 0] 30)).trans hx1)
  have HB := hid (hx1.block (blk0 w (.cells #[.int .i64 0, .int .i64 0, .string ⟨#[]⟩, .slice none 0 0] 30)))
  have HSZ := hid (lt_of_block HB.out)
  obtain ⟨z0, z1, z2, z3⟩ := four_of HB.out
  obtain ⟨f0, f1, f2, f3⟩ := four_free HB.out
  clear hx1
  go_wp2_with fail
  refine (HKD.out _ HX.out).mono ?_
  rintro e w2 ⟨rfl, hw2⟩
  rw [hw2]
  clear hw2 w2
  obtain ⟨o0, o1, o2, o3⟩ := H40.out _ HX.out
  have hgl := lt_of_cell o0
  clear o0 o2 o3
  have HBW := HB
  have HCN := hid (show Calls Tryz.prog 22 #[.int .i64 x] w1 (fun e w' => ∃ R, e = .returned R ∧ AnsK (KB bq w.heap.size) (countF x) w' R ∧ Ext w1 w') from (rcount_any x w.heap.size w1 HSZ.out).mono fun e w' ⟨R, he, hr, hx⟩ => ⟨R, he, hr.mono (fun k _ hk => .inr hk), hx⟩)
  go_wp2_with fail
  clear o1 hgl z0 z1 z2 z3 f0 f1 f2 f3
  refine HCN.out.mono ?_
  rintro e w4 ⟨R, rfl, hr, hx4⟩
  obtain ⟨pk, pn, px, pa, pl', pc, ec, ex, rfl⟩ := hr.shape
  have HR := hid hr
  have HX4 := hid (HX.out.trans hx4)
  have HB4 := hid (hx4.block HBW.out)
  obtain ⟨z0, z1, z2, z3⟩ := four_of HB4.out
  obtain ⟨f0, f1, f2, f3⟩ := four_free HB4.out
  clear hr hx4
  go_wp2_with fail
  have HB2 := hid (four_set (u0 := .int .i64 pk) (u1 := .int .i64 pn) (u2 := .string px) (u3 := (.slice pa pl' pc)) HB4.out)
  have HKZ := hid (Kp.set4 w4 w.heap.size 0 (.int .i64 pk) (.int .i64 pn) (.string px) ((.slice pa pl' pc)))
  have HE := hid (HKZ.out.extOf HX4.out (Nat.le_refl _))
  obtain ⟨y0, y1, y2, y3⟩ := four_of HB2.out
  refine bodyPost_ret (v := .tuple #[.agg #[.int .i64 pk, .int .i64 pn, .string px, (.slice pa pl' pc)], .int .i64 ec, .string ex]) (by simp [results, Tryz.results7, go_sem, y0, y1, y2, y3]) rfl ?_
  first | exact ⟨_, rfl, (HR.out.keep (kb_keep hbq HKZ.out)), HE.out⟩ | exact ⟨_, rfl, (HR.out.keep (kb_keep hbq HKZ.out)), HE.out.drew⟩
set_option maxRecDepth 100000 in
set_option maxHeartbeats 4000000 in
theorem rwL_at {d : Nat} (a : Option Addr) (c : Nat) (ks : List T) (i : Int) (w : World) (bq : Nat) (hbq : bq ≤ w.heap.size) (h : RdL (· < bq) w d a [listT ks, intT i]) (hV : askK listK nAt [listT ks, intT i] = 0) : Calls Tryz.prog 7 #[.string nAt, .slice a 2 c] w (WorkR bq (if i < 0 ∨ (ks.length : Int) ≤ i then .one 23 else .good (ks.getD i.toNat unitT)) w) := by
  obtain ⟨g, off, d', a0, c0, rfl, hg, h40, hks⟩ := arg_list (j := 0) h (show [listT ks, intT i][0]? = some (listT ks) from rfl)
  have H40 := hid (show ∀ w1, Ext w w1 → Four w1 g off (.int .i64 5) (.int .i64 0) (.string ⟨#[]⟩) (.slice a0 ks.length c0) from fun w1 hx => by
    have := Four.keep h40 (hx.kp (fun _ => True)) trivial
    rwa [Nat.zero_mul, Nat.add_zero] at this)
  have HKS := hid hks
  have hgw : g < w.heap.size := lt_of_cell h40.1
  have hlen := hks.1
  obtain ⟨ig, ioff, iq, il, ic, ea, h4i⟩ := arg_int (j := 1) h (show [listT ks, intT i][1]? = some (intT i) from rfl)
  obtain ⟨rfl, rfl⟩ : g = ig ∧ off = ioff := by injection ea with ea; injection ea with ea eb; exact ⟨ea, eb⟩
  clear ea
  have H4i := hid (show ∀ w1, Ext w w1 → Four w1 g (off + 4) (.int .i64 3) (.int .i64 i) (.string ⟨#[]⟩) (.slice iq il ic) from fun w1 hx => Four.keep h4i (hx.kp (fun _ => True)) trivial)
  clear h4i
  have HA := hid (show ∀ w1, Ext w w1 → Calls Tryz.prog 19 #[.string nAt, .slice (some ⟨g, off, none⟩) 2 c] w1 (fun e w' => e = .returned (.int .i64 0) ∧ Ext w1 w') from fun w1 hx => by
    have := mayL_any (K := (· < bq)) (d := d) nAt (some ⟨g, off, none⟩) c [listT ks, intT i] w1 (h.keep (hx.kp _))
    rwa [hV] at this)
  have HKD := hid (show ∀ w1, Ext w w1 → Calls Tryz.prog 20 #[.string nAt, .slice (some ⟨g, off, none⟩) 2 c] w1 (fun e w' => e = .returned (.bool true) ∧ w' = w1) from fun w1 hx => kdRAt g off c 5 3 w1 (H40.out w1 hx).1 (H4i.out w1 hx).1)
  clear h hV h40 hks hg
  unfold nAt at *
  by_cases b1 : i < 0
  · rw [if_pos (.inl b1)]
    generalize ks.length = n at *
    have hn' : (n : Int) ≤ 140737488351232 := by omega
    go_enter Tryz.func7, Tryz.ntmps7
    go_wp2_with fail
    refine (HA.out _ (Ext.alloc _ _)).mono ?_
    rintro e w1 ⟨rfl, hx1⟩
    have HX := hid ((Ext.alloc w (.cells #[.int .i64 0, .int .i64 0, .string ⟨#[]⟩, .slice none 0 0] 30)).trans hx1)
    have HB := hid (hx1.block (blk0 w (.cells #[.int .i64 0, .int .i64 0, .string ⟨#[]⟩, .slice none 0 0] 30)))
    have HSZ := hid (lt_of_block HB.out)
    obtain ⟨z0, z1, z2, z3⟩ := four_of HB.out
    obtain ⟨f0, f1, f2, f3⟩ := four_free HB.out
    clear hx1
    go_wp2_with fail
    refine (HKD.out _ HX.out).mono ?_
    rintro e w2 ⟨rfl, hw2⟩
    rw [hw2]
    clear hw2 w2
    obtain ⟨o0, o1, o2, o3⟩ := H40.out _ HX.out
    obtain ⟨p0, p1, p2, p3⟩ := H4i.out _ HX.out
    have hgl := lt_of_cell o0
    clear o0 o1 o2 p0 p2 p3
    go_wp2_with fail
    have HB2 := hid (four_set (u0 := .int .i64 0) (u1 := .int .i64 0) (u2 := .string ⟨#[]⟩) (u3 := .slice none 0 0) HB.out)
    have HKZ := hid (Kp.set4 w1 w.heap.size 0 (.int .i64 0) (.int .i64 0) (.string ⟨#[]⟩) (.slice none 0 0))
    have HE := hid (HKZ.out.extOf HX.out (Nat.le_refl _))
    obtain ⟨y0, y1, y2, y3⟩ := four_of HB2.out
    refine bodyPost_ret (v := .tuple #[.agg #[.int .i64 0, .int .i64 0, .string ⟨#[]⟩, .slice none 0 0], .int .i64 23, .string ⟨#[]⟩]) (by simp [results, Tryz.results7, go_sem, y0, y1, y2, y3]) rfl ?_
    first | exact ⟨_, rfl, rfl, HE.out⟩ | exact ⟨_, rfl, rfl, HE.out.drew⟩
  by_cases b2 : (ks.length : Int) ≤ i
  · rw [if_pos (.inr b2)]
    generalize ks.length = n at *
    have hn' : (n : Int) ≤ 140737488351232 := by omega
    go_enter Tryz.func7, Tryz.ntmps7
    go_wp2_with fail
    refine (HA.out _ (Ext.alloc _ _)).mono ?_
    rintro e w1 ⟨rfl, hx1⟩
    have HX := hid ((Ext.alloc w (.cells #[.int .i64 0, .int .i64 0, .string ⟨#[]⟩, .slice none 0 0] 30)).trans hx1)
    have HB := hid (hx1.block (blk0 w (.cells #[.int .i64 0, .int .i64 0, .string ⟨#[]⟩, .slice none 0 0] 30)))
    have HSZ := hid (lt_of_block HB.out)
    obtain ⟨z0, z1, z2, z3⟩ := four_of HB.out
    obtain ⟨f0, f1, f2, f3⟩ := four_free HB.out
    clear hx1
    go_wp2_with fail
    refine (HKD.out _ HX.out).mono ?_
    rintro e w2 ⟨rfl, hw2⟩
    rw [hw2]
    clear hw2 w2
    obtain ⟨o0, o1, o2, o3⟩ := H40.out _ HX.out
    obtain ⟨p0, p1, p2, p3⟩ := H4i.out _ HX.out
    have hgl := lt_of_cell o0
    clear o0 o1 o2 p0 p2 p3
    go_wp2_with fail
    have HB2 := hid (four_set (u0 := .int .i64 0) (u1 := .int .i64 0) (u2 := .string ⟨#[]⟩) (u3 := .slice none 0 0) HB.out)
    have HKZ := hid (Kp.set4 w1 w.heap.size 0 (.int .i64 0) (.int .i64 0) (.string ⟨#[]⟩) (.slice none 0 0))
    have HE := hid (HKZ.out.extOf HX.out (Nat.le_refl _))
    obtain ⟨y0, y1, y2, y3⟩ := four_of HB2.out
    refine bodyPost_ret (v := .tuple #[.agg #[.int .i64 0, .int .i64 0, .string ⟨#[]⟩, .slice none 0 0], .int .i64 23, .string ⟨#[]⟩]) (by simp [results, Tryz.results7, go_sem, y0, y1, y2, y3]) rfl ?_
    first | exact ⟨_, rfl, rfl, HE.out⟩ | exact ⟨_, rfl, rfl, HE.out.drew⟩
  rw [if_neg (fun h => h.elim b1 b2)]
  obtain ⟨j, rfl⟩ : ∃ j : Nat, i = (j : Int) := ⟨i.toNat, by omega⟩
  have hj : j < ks.length := by omega
  rw [Int.toNat_natCast, show ks.getD j unitT = ks[j] by rw [List.getD_eq_getElem?_getD, List.getElem?_eq_getElem hj]; rfl]
  obtain ⟨g0, o0', k', n', x', a', l', c', rfl, _, h4j, hrj⟩ := HKS.out.kid hj
  have H4J := hid (show ∀ w1, Ext w w1 → Four w1 g0 (o0' + j * 4) (.int .i64 k') (.int .i64 n') (.string x') (.slice a' l' c') from fun w1 hx => Four.keep h4j (hx.kp (fun _ => True)) trivial)
  have HRJ := hid hrj
  have hg0 : g0 < w.heap.size := lt_of_cell h4j.1
  clear h4j hrj HKS
  generalize ks[j] = tj at *
  generalize ks.length = n at *
  have hn' : (n : Int) ≤ 140737488351232 := by omega
  have hj' : (j : Int) < (n : Int) := by omega
  have b3 : ¬ (n : Int) ≤ (j : Int) := b2
  go_enter Tryz.func7, Tryz.ntmps7
  go_wp2_with fail
  refine (HA.out _ (Ext.alloc _ _)).mono ?_
  rintro e w1 ⟨rfl, hx1⟩
  have HX := hid ((Ext.alloc w (.cells #[.int .i64 0, .int .i64 0, .string ⟨#[]⟩, .slice none 0 0] 30)).trans hx1)
  have HB := hid (hx1.block (blk0 w (.cells #[.int .i64 0, .int .i64 0, .string ⟨#[]⟩, .slice none 0 0] 30)))
  have HSZ := hid (lt_of_block HB.out)
  obtain ⟨z0, z1, z2, z3⟩ := four_of HB.out
  obtain ⟨f0, f1, f2, f3⟩ := four_free HB.out
  clear hx1
  go_wp2_with fail
  refine (HKD.out _ HX.out).mono ?_
  rintro e w2 ⟨rfl, hw2⟩
  rw [hw2]
  clear hw2 w2
  obtain ⟨o0, o1, o2, o3⟩ := H40.out _ HX.out
  obtain ⟨p0, p1, p2, p3⟩ := H4i.out _ HX.out
  obtain ⟨r0, r1, r2, r3⟩ := H4J.out _ HX.out
  have hgl := lt_of_cell o0
  have hgl2 := lt_of_cell r0
  clear o0 o1 o2 p0 p2 p3
  go_wp2_with fail
  have HB2 := hid (four_set (u0 := .int .i64 k') (u1 := .int .i64 n') (u2 := .string x') (u3 := (.slice a' l' c')) HB.out)
  have HKZ := hid (Kp.set4 w1 w.heap.size 0 (.int .i64 k') (.int .i64 n') (.string x') ((.slice a' l' c')))
  have HE := hid (HKZ.out.extOf HX.out (Nat.le_refl _))
  obtain ⟨y0, y1, y2, y3⟩ := four_of HB2.out
  refine bodyPost_ret (v := .tuple #[.agg #[.int .i64 k', .int .i64 n', .string x', (.slice a' l' c')], .int .i64 0, .string ⟨#[]⟩]) (by simp [results, Tryz.results7, go_sem, y0, y1, y2, y3]) rfl ?_
  first | exact ⟨_, rfl, ⟨d', _, rfl, ((HRJ.out.later HX.out).mono (fun k _ hk => .inl hk)).keep (kb_keep hbq HKZ.out)⟩, HE.out⟩ | exact ⟨_, rfl, ⟨d', _, rfl, ((HRJ.out.later HX.out).mono (fun k _ hk => .inl hk)).keep (kb_keep hbq HKZ.out)⟩, HE.out.drew⟩

end Go.Proofs.YtaafcmmmkalgjaaGreatDoor
