/-
  whole, count and kinds of the document's package list, by contracts.
-/
import Derived.Test.YtaafcmmmkalgjaaGreatDoorRLeft
import Derived.Test.YtaafcmmmkalgjaaGreatDoorLBoth
import Derived.Test.YtaafcmmmkalgjaaGreatDoorPMarks
namespace Go.Proofs.YtaafcmmmkalgjaaGreatDoor
open Go.RowKit
/-- What the document answers: its lists lie in blocks of K. -/
def AnsK (K : Nat → Prop) (r : Ans) (w : World) (R : Value) : Prop := match r with
  | .bad c x => R = .tuple #[.agg #[.int .i64 0, .int .i64 0, .string ⟨#[]⟩, .slice none 0 0], .int .i64 c, .string x]
  | .good t => ∃ d p, R = .tuple #[p, .int .i64 0, .string ⟨#[]⟩] ∧ Rd K w d p t
theorem AnsK.keep {K : Nat → Prop} {r : Ans} {w w' : World} {R : Value} (h : AnsK K r w R) (hk : Kp K w w') : AnsK K r w' R := by
  cases r with
  | bad c x => exact h
  | good t =>
    obtain ⟨d, p, e, hr⟩ := h
    exact ⟨d, p, e, Rd.keep hk hr⟩
theorem AnsK.mono {K L : Nat → Prop} {r : Ans} {w : World} {R : Value} (h : AnsK K r w R) (hl : ∀ k, k < w.heap.size → K k → L k) : AnsK L r w R := by
  cases r with
  | bad c x => exact h
  | good t =>
    obtain ⟨d, p, e, hr⟩ := h
    exact ⟨d, p, e, Rd.mono hl hr⟩
theorem AnsK.p {K : Nat → Prop} {r : Ans} {w : World} {R : Value} (h : AnsK K r w R) : AnsP r w R := by
  cases r with
  | bad c x => exact h
  | good t =>
    obtain ⟨d, p, e, hr⟩ := h
    exact ⟨K, d, p, e, hr⟩
theorem AnsK.shape {K : Nat → Prop} {r : Ans} {w : World} {R : Value} (h : AnsK K r w R) : ∃ k n x a l c ec ex, R = .tuple #[.agg #[.int .i64 k, .int .i64 n, .string x, .slice a l c], .int .i64 ec, .string ex] := by
  cases r with
  | bad c x => exact ⟨_, _, _, _, _, _, _, _, h⟩
  | good t =>
    obtain ⟨d, p, e, hr⟩ := h
    obtain ⟨u0, u1, u2, u3, rfl⟩ := hr.agg
    obtain ⟨k, n, x, a, c, rfl, rfl, rfl, rfl⟩ := hr.shape
    exact ⟨_, _, _, _, _, _, _, _, e⟩
set_option maxRecDepth 100000 in
set_option maxHeartbeats 2000000 in
theorem whole_any {K : Nat → Prop} {d : Nat} {ao : Option Addr} {ks : List T} (c : Nat) (w : World) (h : RdL K w d ao ks) : Calls Tryz.prog 21 #[.slice ao ks.length c] w fun e w' => ∃ R, e = .returned R ∧ AnsK K (lonF ks) w' R ∧ Ext w w' := by
  have HN := hid (fun W (hx : Ext w W) => RdL.node c (h.keep (hx.kp _)))
  clear h
  generalize ks.length = n at *
  go_enter Tryz.func21, Tryz.ntmps21
  go_wp2_with fail
  refine (rmay_any _ (HN.out _ (Ext.alloc2 _ _ _))).mono ?_
  rintro e w1 ⟨rfl, hx1⟩
  have HX := hid ((Ext.alloc2 w (.cells #[.int .i64 0, .int .i64 0, .string ⟨#[]⟩, .slice none 0 0] 30) (.cells #[.int .i64 5, .int .i64 0, .string ⟨#[]⟩, .slice ao n c] 30)).trans hx1)
  have HB := hid (hx1.block (blkOld (.cells #[.int .i64 5, .int .i64 0, .string ⟨#[]⟩, .slice ao n c] 30) (blk0 w (.cells #[.int .i64 0, .int .i64 0, .string ⟨#[]⟩, .slice none 0 0] 30))))
  have HP := hid (hx1.block (blk1 w (.cells #[.int .i64 0, .int .i64 0, .string ⟨#[]⟩, .slice none 0 0] 30) (.cells #[.int .i64 5, .int .i64 0, .string ⟨#[]⟩, .slice ao n c] 30)))
  clear hx1
  obtain ⟨z0, z1, z2, z3⟩ := four_of HB.out
  obtain ⟨f0, f1, f2, f3⟩ := four_free HB.out
  by_cases hm : (T.node 5 0 ⟨#[]⟩ ks).may
  · rw [decide_eq_true hm]
    have HL := hid (lonF_good hm)
    clear hm
    obtain ⟨o0, o1, o2, o3⟩ := four_of HP.out
    have hpl := lt_of_cell o0
    go_wp2_with fail
    have HB2 := hid (four_set (u0 := .int .i64 5) (u1 := .int .i64 0) (u2 := .string ⟨#[]⟩) (u3 := .slice ao n c) HB.out)
    have HKZ := hid (Kp.set4 w1 w.heap.size 0 (.int .i64 5) (.int .i64 0) (.string ⟨#[]⟩) (.slice ao n c))
    have HE := hid (HKZ.out.extOf HX.out (Nat.le_refl _))
    obtain ⟨y0, y1, y2, y3⟩ := four_of HB2.out
    refine bodyPost_ret (v := .tuple #[.agg #[.int .i64 5, .int .i64 0, .string ⟨#[]⟩, .slice ao n c], .int .i64 0, .string ⟨#[]⟩]) (by simp [results, Tryz.results21, go_sem, y0, y1, y2, y3]) rfl ?_
    refine ⟨_, rfl, ?_, HE.out⟩
    rw [HL.out]
    exact ⟨d + 1, _, rfl, HN.out _ HE.out⟩
  · rw [decide_eq_false hm]
    have HL := hid (lonF_two hm)
    clear hm
    go_wp2_with fail
    have HB2 := hid (four_set (u0 := .int .i64 0) (u1 := .int .i64 0) (u2 := .string ⟨#[]⟩) (u3 := .slice none 0 0) HB.out)
    have HKZ := hid (Kp.set4 w1 w.heap.size 0 (.int .i64 0) (.int .i64 0) (.string ⟨#[]⟩) (.slice none 0 0))
    have HE := hid (HKZ.out.extOf HX.out (Nat.le_refl _))
    obtain ⟨y0, y1, y2, y3⟩ := four_of HB2.out
    refine bodyPost_ret (v := .tuple #[.agg #[.int .i64 0, .int .i64 0, .string ⟨#[]⟩, .slice none 0 0], .int .i64 2, .string ⟨#[]⟩]) (by simp [results, Tryz.results21, go_sem, y0, y1, y2, y3]) rfl ?_
    refine ⟨_, rfl, ?_, HE.out⟩
    rw [HL.out]
    rfl
set_option maxRecDepth 100000 in
set_option maxHeartbeats 2000000 in
theorem kdRSize (g off c : Nat) (k1 : Int) (w : World) (h0 : w.cell? ⟨g, off, none⟩ = some (.int .i64 k1)) : Calls Tryz.prog 20 #[.string nSize, .slice (some ⟨g, off, none⟩) 1 c] w fun e w' => e = .returned (.bool (decide (k1 = 5))) ∧ w' = w := by
  unfold nSize
  have hgl := lt_of_cell h0
  by_cases c0 : k1 = 5
  case neg =>
    have q0 : (k1 == 5) = false := by rw [beq_eq_false_iff_ne]; exact c0
    have qn0 : (k1 != 5) = true := by unfold bne; rw [q0]; rfl
    have HC := hid (show (decide (k1 = 5)) = false by simp [c0])
    rw [HC.out]
    clear HC c0
    go_enter Tryz.func20, Tryz.ntmps20
    go_wp2_with fail
    go_ret
    exact ⟨rfl, rfl⟩
  subst c0
  rw [show (decide ((5 : Int) = 5)) = true from rfl]
  go_enter Tryz.func20, Tryz.ntmps20
  go_wp2_with fail
  go_loopw [6] (fun q6 wr => (q6 = .int .i64 1) ∧ wr = w) (fun q6 _ => 2 - (intOf q6).toNat)
  case atStart => exact ⟨rfl, rfl⟩
  case round =>
    obtain ⟨rfl, hw⟩ := hrel
    rw [hw]
    all_goals
      go_wp2_with fail
      first
        | (go_ret; exact ⟨rfl, rfl⟩)
        | (go_roundw; (case rel => simp); (case measure => simp [intOf]))
set_option maxRecDepth 100000 in
set_option maxHeartbeats 2000000 in
theorem kdRAt (g off c : Nat) (k1 k2 : Int) (w : World) (h0 : w.cell? ⟨g, off, none⟩ = some (.int .i64 k1)) (h1 : w.cell? ⟨g, off + 4, none⟩ = some (.int .i64 k2)) : Calls Tryz.prog 20 #[.string nAt, .slice (some ⟨g, off, none⟩) 2 c] w fun e w' => e = .returned (.bool (decide (k1 = 5) && decide (k2 = 3))) ∧ w' = w := by
  unfold nAt
  have hgl := lt_of_cell h0
  by_cases c0 : k1 = 5
  case neg =>
    have q0 : (k1 == 5) = false := by rw [beq_eq_false_iff_ne]; exact c0
    have qn0 : (k1 != 5) = true := by unfold bne; rw [q0]; rfl
    have HC := hid (show (decide (k1 = 5) && decide (k2 = 3)) = false by simp [c0])
    rw [HC.out]
    clear HC c0
    go_enter Tryz.func20, Tryz.ntmps20
    go_wp2_with fail
    go_ret
    exact ⟨rfl, rfl⟩
  subst c0
  by_cases c1 : k2 = 3
  case neg =>
    have q1 : (k2 == 3) = false := by rw [beq_eq_false_iff_ne]; exact c1
    have qn1 : (k2 != 3) = true := by unfold bne; rw [q1]; rfl
    have HC := hid (show (decide ((5 : Int) = 5) && decide (k2 = 3)) = false by simp [c1])
    rw [HC.out]
    clear HC c1
    go_enter Tryz.func20, Tryz.ntmps20
    go_wp2_with fail
    go_loopw [6] (fun q6 wr => (q6 = .int .i64 1) ∧ wr = w) (fun q6 _ => 3 - (intOf q6).toNat)
    case atStart => exact ⟨rfl, rfl⟩
    case round =>
      obtain ⟨rfl, hw⟩ := hrel
      rw [hw]
      all_goals
        go_wp2_with fail
        first
          | (go_ret; exact ⟨rfl, rfl⟩)
          | (go_roundw; (case rel => simp); (case measure => simp [intOf]))
  subst c1
  rw [show (decide ((5 : Int) = 5) && decide ((3 : Int) = 3)) = true from rfl]
  go_enter Tryz.func20, Tryz.ntmps20
  go_wp2_with fail
  go_loopw [6] (fun q6 wr => (q6 = .int .i64 1 ∨ q6 = .int .i64 2) ∧ wr = w) (fun q6 _ => 3 - (intOf q6).toNat)
  case atStart => exact ⟨.inl rfl, rfl⟩
  case round =>
    obtain ⟨rfl | rfl, hw⟩ := hrel
    all_goals rw [hw]
    all_goals
      go_wp2_with fail
      first
        | (go_ret; exact ⟨rfl, rfl⟩)
        | (go_roundw; (case rel => simp); (case measure => simp [intOf]))
set_option maxRecDepth 100000 in
set_option maxHeartbeats 2000000 in
theorem kdRJoin (g off c : Nat) (k1 k2 : Int) (w : World) (h0 : w.cell? ⟨g, off, none⟩ = some (.int .i64 k1)) (h1 : w.cell? ⟨g, off + 4, none⟩ = some (.int .i64 k2)) : Calls Tryz.prog 20 #[.string nJoin, .slice (some ⟨g, off, none⟩) 2 c] w fun e w' => e = .returned (.bool (decide (k1 = 5) && decide (k2 = 5))) ∧ w' = w := by
  unfold nJoin
  have hgl := lt_of_cell h0
  by_cases c0 : k1 = 5
  case neg =>
    have q0 : (k1 == 5) = false := by rw [beq_eq_false_iff_ne]; exact c0
    have qn0 : (k1 != 5) = true := by unfold bne; rw [q0]; rfl
    have HC := hid (show (decide (k1 = 5) && decide (k2 = 5)) = false by simp [c0])
    rw [HC.out]
    clear HC c0
    go_enter Tryz.func20, Tryz.ntmps20
    go_wp2_with fail
    go_ret
    exact ⟨rfl, rfl⟩
  subst c0
  by_cases c1 : k2 = 5
  case neg =>
    have q1 : (k2 == 5) = false := by rw [beq_eq_false_iff_ne]; exact c1
    have qn1 : (k2 != 5) = true := by unfold bne; rw [q1]; rfl
    have HC := hid (show (decide ((5 : Int) = 5) && decide (k2 = 5)) = false by simp [c1])
    rw [HC.out]
    clear HC c1
    go_enter Tryz.func20, Tryz.ntmps20
    go_wp2_with fail
    go_ret
    exact ⟨rfl, rfl⟩
  subst c1
  rw [show (decide ((5 : Int) = 5) && decide ((5 : Int) = 5)) = true from rfl]
  go_enter Tryz.func20, Tryz.ntmps20
  go_wp2_with fail
  go_ret
  exact ⟨rfl, rfl⟩
set_option maxRecDepth 100000 in
set_option maxHeartbeats 2000000 in
theorem kdRAdd (g off c : Nat) (k1 : Int) (w : World) (h0 : w.cell? ⟨g, off, none⟩ = some (.int .i64 k1)) : Calls Tryz.prog 20 #[.string nAdd, .slice (some ⟨g, off, none⟩) 2 c] w fun e w' => e = .returned (.bool (decide (k1 = 5))) ∧ w' = w := by
  unfold nAdd
  have hgl := lt_of_cell h0
  by_cases c0 : k1 = 5
  case neg =>
    have q0 : (k1 == 5) = false := by rw [beq_eq_false_iff_ne]; exact c0
    have qn0 : (k1 != 5) = true := by unfold bne; rw [q0]; rfl
    have HC := hid (show (decide (k1 = 5)) = false by simp [c0])
    rw [HC.out]
    clear HC c0
    go_enter Tryz.func20, Tryz.ntmps20
    go_wp2_with fail
    go_ret
    exact ⟨rfl, rfl⟩
  subst c0
  rw [show (decide ((5 : Int) = 5)) = true from rfl]
  go_enter Tryz.func20, Tryz.ntmps20
  go_wp2_with fail
  go_loopw [6] (fun q6 wr => (q6 = .int .i64 1) ∧ wr = w) (fun q6 _ => 3 - (intOf q6).toNat)
  case atStart => exact ⟨rfl, rfl⟩
  case round =>
    obtain ⟨rfl, hw⟩ := hrel
    rw [hw]
    all_goals
      go_wp2_with fail
      first
        | (go_ret; exact ⟨rfl, rfl⟩)
        | (go_roundw; (case rel => simp); (case measure => simp [intOf]))
set_option maxRecDepth 100000 in
set_option maxHeartbeats 2000000 in
theorem kdRCut (g off c : Nat) (k1 k2 k3 : Int) (w : World) (h0 : w.cell? ⟨g, off, none⟩ = some (.int .i64 k1)) (h1 : w.cell? ⟨g, off + 4, none⟩ = some (.int .i64 k2)) (h2 : w.cell? ⟨g, off + 8, none⟩ = some (.int .i64 k3)) : Calls Tryz.prog 20 #[.string nCut, .slice (some ⟨g, off, none⟩) 3 c] w fun e w' => e = .returned (.bool (decide (k1 = 5) && decide (k2 = 3) && decide (k3 = 3))) ∧ w' = w := by
  unfold nCut
  have hgl := lt_of_cell h0
  by_cases c0 : k1 = 5
  case neg =>
    have q0 : (k1 == 5) = false := by rw [beq_eq_false_iff_ne]; exact c0
    have qn0 : (k1 != 5) = true := by unfold bne; rw [q0]; rfl
    have HC := hid (show (decide (k1 = 5) && decide (k2 = 3) && decide (k3 = 3)) = false by simp [c0])
    rw [HC.out]
    clear HC c0
    go_enter Tryz.func20, Tryz.ntmps20
    go_wp2_with fail
    go_ret
    exact ⟨rfl, rfl⟩
  subst c0
  by_cases c1 : k2 = 3
  case neg =>
    have q1 : (k2 == 3) = false := by rw [beq_eq_false_iff_ne]; exact c1
    have qn1 : (k2 != 3) = true := by unfold bne; rw [q1]; rfl
    have HC := hid (show (decide ((5 : Int) = 5) && decide (k2 = 3) && decide (k3 = 3)) = false by simp [c1])
    rw [HC.out]
    clear HC c1
    go_enter Tryz.func20, Tryz.ntmps20
    go_wp2_with fail
    go_loopw [6] (fun q6 wr => (q6 = .int .i64 1) ∧ wr = w) (fun q6 _ => 4 - (intOf q6).toNat)
    case atStart => exact ⟨rfl, rfl⟩
    case round =>
      obtain ⟨rfl, hw⟩ := hrel
      rw [hw]
      all_goals
        go_wp2_with fail
        first
          | (go_ret; exact ⟨rfl, rfl⟩)
          | (go_roundw; (case rel => simp); (case measure => simp [intOf]))
  subst c1
  by_cases c2 : k3 = 3
  case neg =>
    have q2 : (k3 == 3) = false := by rw [beq_eq_false_iff_ne]; exact c2
    have qn2 : (k3 != 3) = true := by unfold bne; rw [q2]; rfl
    have HC := hid (show (decide ((5 : Int) = 5) && decide ((3 : Int) = 3) && decide (k3 = 3)) = false by simp [c2])
    rw [HC.out]
    clear HC c2
    go_enter Tryz.func20, Tryz.ntmps20
    go_wp2_with fail
    go_loopw [6] (fun q6 wr => (q6 = .int .i64 1 ∨ q6 = .int .i64 2) ∧ wr = w) (fun q6 _ => 4 - (intOf q6).toNat)
    case atStart => exact ⟨.inl rfl, rfl⟩
    case round =>
      obtain ⟨rfl | rfl, hw⟩ := hrel
      all_goals rw [hw]
      all_goals
        go_wp2_with fail
        first
          | (go_ret; exact ⟨rfl, rfl⟩)
          | (go_roundw; (case rel => simp); (case measure => simp [intOf]))
  subst c2
  rw [show (decide ((5 : Int) = 5) && decide ((3 : Int) = 3) && decide ((3 : Int) = 3)) = true from rfl]
  go_enter Tryz.func20, Tryz.ntmps20
  go_wp2_with fail
  go_loopw [6] (fun q6 wr => (q6 = .int .i64 1 ∨ q6 = .int .i64 2 ∨ q6 = .int .i64 3) ∧ wr = w) (fun q6 _ => 4 - (intOf q6).toNat)
  case atStart => exact ⟨.inl rfl, rfl⟩
  case round =>
    obtain ⟨rfl | rfl | rfl, hw⟩ := hrel
    all_goals rw [hw]
    all_goals
      go_wp2_with fail
      first
        | (go_ret; exact ⟨rfl, rfl⟩)
        | (go_roundw; (case rel => simp); (case measure => simp [intOf]))
set_option maxRecDepth 100000 in
set_option maxHeartbeats 2000000 in
theorem kdRTurn (g off c : Nat) (k1 : Int) (w : World) (h0 : w.cell? ⟨g, off, none⟩ = some (.int .i64 k1)) : Calls Tryz.prog 20 #[.string nTurn, .slice (some ⟨g, off, none⟩) 1 c] w fun e w' => e = .returned (.bool (decide (k1 = 5))) ∧ w' = w := by
  unfold nTurn
  have hgl := lt_of_cell h0
  by_cases c0 : k1 = 5
  case neg =>
    have q0 : (k1 == 5) = false := by rw [beq_eq_false_iff_ne]; exact c0
    have qn0 : (k1 != 5) = true := by unfold bne; rw [q0]; rfl
    have HC := hid (show (decide (k1 = 5)) = false by simp [c0])
    rw [HC.out]
    clear HC c0
    go_enter Tryz.func20, Tryz.ntmps20
    go_wp2_with fail
    go_ret
    exact ⟨rfl, rfl⟩
  subst c0
  rw [show (decide ((5 : Int) = 5)) = true from rfl]
  go_enter Tryz.func20, Tryz.ntmps20
  go_wp2_with fail
  go_loopw [6] (fun q6 wr => (q6 = .int .i64 1) ∧ wr = w) (fun q6 _ => 2 - (intOf q6).toNat)
  case atStart => exact ⟨rfl, rfl⟩
  case round =>
    obtain ⟨rfl, hw⟩ := hrel
    rw [hw]
    all_goals
      go_wp2_with fail
      first
        | (go_ret; exact ⟨rfl, rfl⟩)
        | (go_roundw; (case rel => simp); (case measure => simp [intOf]))
set_option maxRecDepth 100000 in
set_option maxHeartbeats 2000000 in
theorem kdRCount (g off c : Nat) (k1 : Int) (w : World) (h0 : w.cell? ⟨g, off, none⟩ = some (.int .i64 k1)) : Calls Tryz.prog 20 #[.string nCount, .slice (some ⟨g, off, none⟩) 1 c] w fun e w' => e = .returned (.bool (decide (k1 = 3))) ∧ w' = w := by
  unfold nCount
  have hgl := lt_of_cell h0
  by_cases c0 : k1 = 3
  case neg =>
    have q0 : (k1 == 3) = false := by rw [beq_eq_false_iff_ne]; exact c0
    have qn0 : (k1 != 3) = true := by unfold bne; rw [q0]; rfl
    have HC := hid (show (decide (k1 = 3)) = false by simp [c0])
    rw [HC.out]
    clear HC c0
    go_enter Tryz.func20, Tryz.ntmps20
    go_wp2_with fail
    go_ret
    exact ⟨rfl, rfl⟩
  subst c0
  rw [show (decide ((3 : Int) = 3)) = true from rfl]
  go_enter Tryz.func20, Tryz.ntmps20
  go_wp2_with fail
  go_loopw [6] (fun q6 wr => (q6 = .int .i64 1) ∧ wr = w) (fun q6 _ => 2 - (intOf q6).toNat)
  case atStart => exact ⟨rfl, rfl⟩
  case round =>
    obtain ⟨rfl, hw⟩ := hrel
    rw [hw]
    all_goals
      go_wp2_with fail
      first
        | (go_ret; exact ⟨rfl, rfl⟩)
        | (go_roundw; (case rel => simp); (case measure => simp [intOf]))

end Go.Proofs.YtaafcmmmkalgjaaGreatDoor
/-
  count of the document's package list, by a contract.
-/
namespace Go.Proofs.YtaafcmmmkalgjaaGreatDoor
open Go.RowKit
def upL (m : Nat) : List T := (List.range m).map fun (i : Nat) => intT (i : Int)
theorem upL_len (m : Nat) : (upL m).length = m := by simp [upL]
theorem upL_snoc (m : Nat) : upL m ++ [intT (m : Int)] = upL (m + 1) := by simp [upL, List.range_succ]
set_option maxRecDepth 100000 in
set_option maxHeartbeats 4000000 in
theorem rcount_any (x : Int) (B : Nat) (w : World) (hB : B < w.heap.size) : Calls Tryz.prog 22 #[.int .i64 x] w fun e w' => ∃ R, e = .returned R ∧ AnsK (fun q => B < q) (countF x) w' R ∧ Ext w w' := by
  have HB9 := hid hB
  clear hB
  have HBK := hid (blk0 w (.cells #[.int .i64 0, .int .i64 0, .string ⟨#[]⟩, .slice none 0 0] 30))
  obtain ⟨z0, z1, z2, z3⟩ := four_of HBK.out
  obtain ⟨f0, f1, f2, f3⟩ := four_free HBK.out
  have HX := hid (Ext.alloc w (.cells #[.int .i64 0, .int .i64 0, .string ⟨#[]⟩, .slice none 0 0] 30))
  by_cases h0 : x < 0
  · have HF := hid (show countF x = .one 23 by unfold countF; rw [if_pos h0])
    go_enter Tryz.func22, Tryz.ntmps22
    go_wp2_with fail
    refine bodyPost_ret (v := .tuple #[.agg #[.int .i64 0, .int .i64 0, .string ⟨#[]⟩, .slice none 0 0], .int .i64 23, .string ⟨#[]⟩]) (by simp [results, Tryz.results22, go_sem, z0, z1, z2, z3]) rfl ?_
    exact ⟨_, rfl, by rw [HF.out]; rfl, HX.out⟩
  by_cases h1 : 65535 < x
  · have HF := hid (show countF x = .one 2 by unfold countF; rw [if_neg h0, if_pos h1])
    have h2 : (65536 : Int) ≤ x := by omega
    clear h1
    go_enter Tryz.func22, Tryz.ntmps22
    go_wp2_with fail
    refine bodyPost_ret (v := .tuple #[.agg #[.int .i64 0, .int .i64 0, .string ⟨#[]⟩, .slice none 0 0], .int .i64 2, .string ⟨#[]⟩]) (by simp [results, Tryz.results22, go_sem, z0, z1, z2, z3]) rfl ?_
    exact ⟨_, rfl, by rw [HF.out]; rfl, HX.out⟩
  obtain ⟨m, rfl⟩ : ∃ m : Nat, x = (m : Int) := ⟨x.toNat, by omega⟩
  have hm : m ≤ 65535 := by omega
  have hm2 : ¬ (65536 : Int) ≤ (m : Int) := by omega
  have hm3 : ¬ (m : Int) < 0 := by omega
  have HF := hid (show countF (m : Int) = lonF (upL m) by
    have := upT_may hm
    unfold countF
    rw [if_neg (by omega), if_neg (by omega), Int.toNat_natCast]
    exact (lonF_good this).symm)
  clear h0 h1 z0 z1 z2 z3 f0 f1 f2 f3
  go_enter Tryz.func22, Tryz.ntmps22
  go_wp2_with fail
  go_loopw [5, 6] (fun q5 q6 wr => ∃ (j : Nat) (ao : Option Addr) (c1 : Nat), j ≤ m ∧ q6 = .int .i64 j ∧ q5 = .slice ao j c1 ∧ RIt wr 0 (w.heap.size + 1) 1 (.slice ao j c1) (upL j) ∧ wr.heap[w.heap.size]? = some (.cells #[.int .i64 0, .int .i64 0, .string ⟨#[]⟩, .slice none 0 0] 30) ∧ Ext w wr) (fun _ q6 _ => m - (intOf q6).toNat)
  case atStart => exact ⟨0, none, 0, Nat.zero_le _, rfl, rfl, RIt.nil _ _ _, HBK.out, HX.out⟩
  case round =>
    obtain ⟨j, ao, c1, hj, rfl, rfl, hit, hbk, hx⟩ := hrel
    have HIT := hid hit
    have HBW := hid hbk
    have X := hid hx
    clear hit hbk hx HBK
    by_cases hlt : j < m
    · have hlt' : (j : Int) < (m : Int) := by omega
      have hsz : w.heap.size + 1 ≤ wr.heap.size := by have := lt_of_block HBW.out; omega
      have HSR := hid (show SRow (wr.alloc (.cells #[.int .i64 3, .int .i64 (j : Int), .string ⟨#[]⟩, .slice none 0 0] 30)) 0 1 (some ⟨wr.heap.size, 0, none⟩) [intT (j : Int)] from .inr ⟨_, 0, rfl, fun i hi => by
        obtain rfl : i = 0 := by simpa using hi
        obtain ⟨s0, s1, s2, s3⟩ := four_of (blk0 wr (.cells #[.int .i64 3, .int .i64 (j : Int), .string ⟨#[]⟩, .slice none 0 0] 30))
        exact ⟨_, _, _, _, ⟨s0, s1, s2, s3⟩, none, 0, rfl, by decide, by decide, .inl rfl⟩⟩)
      have HIA := hid (HIT.out.later (Ext.alloc wr (.cells #[.int .i64 3, .int .i64 (j : Int), .string ⟨#[]⟩, .slice none 0 0] 30)))
      go_wp2_with (at_builtin; refine app_rits rfl _ _ rfl rfl 0 (w.heap.size + 1) 1 _ (upL j) (some ⟨wr.heap.size, 0, none⟩) 1 1 [intT (j : Int)] rfl rfl rfl (Nat.zero_le _) (by rw [blkS]; omega) HIA.out HSR.out (by rw [upL_len]; omega) (j + 1) (by rw [upL_len]) (upL (j + 1)) (upL_snoc j) ?_; intro a9 c9 w9 hit9 hb9 _; have HI9 := hid hit9; have HB9' := hid hb9; clear hit9 hb9)
      go_roundw
      case rel =>
        have hsz := lt_of_block HBW.out
        refine ⟨j + 1, a9, c9, hlt, by go_num, rfl, HI9.out, ?_, ?_⟩
        · exact (HB9'.out.block w.heap.size (by omega)).trans (blkOld _ HBW.out)
        · exact Below.trans (X.out.trans (Ext.alloc _ _)) (HB9'.out.mono (by omega))
      case measure => simp [intOf]; omega
    · obtain rfl : j = m := by omega
      have hlt3 : ¬ (j : Int) < (j : Int) := by omega
      have HWH := hid (whole_any (K := fun x => w.heap.size < x) c1 wr (HIT.out.rdl (fun x hx => by omega) (by rw [upL_len]; omega)))
      rw [upL_len] at HWH
      go_wp2_with fail
      refine HWH.out.mono ?_
      rintro e w4 ⟨R, rfl, hr, hx4⟩
      obtain ⟨pk, pn, px, pa, pl', pc, ec, ex, rfl⟩ := hr.shape
      have HR := hid hr
      have HX4 := hid (X.out.trans hx4)
      have HB4 := hid (hx4.block HBW.out)
      obtain ⟨z0, z1, z2, z3⟩ := four_of HB4.out
      obtain ⟨f0, f1, f2, f3⟩ := four_free HB4.out
      clear hr hx4
      go_wp2_with fail
      have HB2 := hid (four_set (u0 := .int .i64 pk) (u1 := .int .i64 pn) (u2 := .string px) (u3 := (.slice pa pl' pc)) HB4.out)
      have HKZ := hid (Kp.set4 w4 w.heap.size 0 (.int .i64 pk) (.int .i64 pn) (.string px) ((.slice pa pl' pc)))
      have HE := hid (HKZ.out.extOf HX4.out (Nat.le_refl _))
      obtain ⟨y0, y1, y2, y3⟩ := four_of HB2.out
      refine bodyPost_ret (v := .tuple #[.agg #[.int .i64 pk, .int .i64 pn, .string px, (.slice pa pl' pc)], .int .i64 ec, .string ex]) (by simp [results, Tryz.results22, go_sem, y0, y1, y2, y3]) rfl ?_
      exact ⟨_, rfl, by rw [HF.out]; exact (HR.out.keep (HKZ.out.mono (fun k _ hk e => by have hk2 : w.heap.size < k := hk; have e2 : k = w.heap.size := e; omega))).mono (fun k _ hk => by have hk2 : w.heap.size < k := hk; show B < k; have := HB9.out; omega), HE.out⟩

end Go.Proofs.YtaafcmmmkalgjaaGreatDoor
