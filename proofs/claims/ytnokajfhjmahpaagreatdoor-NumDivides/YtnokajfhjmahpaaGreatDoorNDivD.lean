/-
  espalierlaw8.NumDivides: it tells true, where the divisor is nought, or the quotient is over.
-/
import Derived.Test.YtnokajfhjmahpaaGreatDoorNDivH
namespace Go.Proofs.YtnokajfhjmahpaaGreatDoor
open Go.RowKit
set_option maxRecDepth 100000 in
set_option maxHeartbeats 8000000 in
theorem div_zero (a b : Int) (ha : inR a) (hb : inR b) (w : World) (hm : MaxAt w) (hl : Laid w) (hA : inR (a + b)) (hS : inR (a - b)) (h0 : b = 0) : Calls Tryz.prog 5 #[.int .i64 a, .int .i64 b] w fun e w' => e = .returned (.bool true) ∧ Ext w w' := by
  have HM := hid hm
  have HB := hid (begun_any w hm hl)
  have HQU := hid (fun w1 a' c => wk_quo a b ha hb a' c w1)
  have HMO := hid (fun w1 a' c => wk_mod a b ha hb a' c w1)
  have HAD := hid (fun w1 a' c => wk_add a b ha hb a' c w1)
  have HSU := hid (fun w1 a' c => wk_sub a b ha hb a' c w1)
  have HS2 := hid (fun w1 a' c => wk_sub (a + b) b hA hb a' c w1)
  rw [show subV (a + b) b = cameV a by unfold subV; rw [show a + b - b = a by omega, if_pos ha]] at HS2
  rw [show addV a b = cameV (a + b) from if_pos hA] at HAD
  obtain ⟨hA1, hA2⟩ := hA
  have HA2 := hid (fun w1 a' c => wk_add (a - b) b hS hb a' c w1)
  rw [show addV (a - b) b = cameV a by unfold addV; rw [show a - b + b = a by omega, if_pos ha]] at HA2
  rw [show subV a b = cameV (a - b) from if_pos hS] at HSU
  obtain ⟨hS1, hS2⟩ := hS
  rw [show quoV a b = refV 22 from if_pos h0] at HQU
  rw [show modW a b = refV 22 from if_pos h0] at HMO
  obtain ⟨ha1, ha2⟩ := ha
  obtain ⟨hb1, hb2⟩ := hb
  have hq0 : (b == 0) = true := by rw [beq_iff_eq]; exact h0
  clear hm hl h0
  go_enter Tryz.func5, Tryz.ntmps5
  go_wp2_with fail
  refine HB.out.mono ?_
  rintro e w1 ⟨rfl, hx1⟩
  have X1 := hid hx1
  clear hx1
  go_wp2_with fail
  refine (lw2 ⟨#[110, 117, 109, 46, 113, 117, 111]⟩ a b _ (refV 22) _ (HM.out.later (X1.out.trans (Ext.alloc _ _))) (blk0 _ _) (.inr ⟨22, by decide, rfl⟩) (fun w1 a' c h1 h2 => HQU.out w1 a' c h1 h2)).mono ?_
  rintro e w2 ⟨rfl, hx2⟩
  rw [lawV_ref]
  have X2 := hid (X1.out.trans ((Ext.alloc _ _).trans hx2))
  clear hx2
  go_wp2_with fail
  refine (lw2 ⟨#[110, 117, 109, 46, 109, 111, 100]⟩ a b _ (refV 22) _ (HM.out.later (X2.out.trans (Ext.alloc _ _))) (blk0 _ _) (.inr ⟨22, by decide, rfl⟩) (fun w1 a' c h1 h2 => HMO.out w1 a' c h1 h2)).mono ?_
  rintro e w3 ⟨rfl, hx3⟩
  rw [lawV_ref]
  have X3 := hid (X2.out.trans ((Ext.alloc _ _).trans hx3))
  clear hx3
  go_wp2_with fail
  refine (lw2 ⟨#[110, 117, 109, 46, 97, 100, 100]⟩ a b _ (cameV (a + b)) _ (HM.out.later (X3.out.trans (Ext.alloc _ _))) (blk0 _ _) (.inl ⟨_, rfl⟩) (fun w1 a' c h1 h2 => HAD.out w1 a' c h1 h2)).mono ?_
  rintro e w4 ⟨rfl, hx4⟩
  rw [lawV_came]
  have X4 := hid (X3.out.trans ((Ext.alloc _ _).trans hx4))
  clear hx4
  go_wp2_with fail
  refine (lw2 ⟨#[110, 117, 109, 46, 115, 117, 98]⟩ a b _ (cameV (a - b)) _ (HM.out.later (X4.out.trans (Ext.alloc _ _))) (blk0 _ _) (.inl ⟨_, rfl⟩) (fun w1 a' c h1 h2 => HSU.out w1 a' c h1 h2)).mono ?_
  rintro e w5 ⟨rfl, hx5⟩
  rw [lawV_came]
  have X5 := hid (X4.out.trans ((Ext.alloc _ _).trans hx5))
  clear hx5
  go_wp2_with fail
  refine (lw2 ⟨#[110, 117, 109, 46, 115, 117, 98]⟩ (a + b) b _ (cameV a) _ (HM.out.later (X5.out.trans (Ext.alloc _ _))) (blk0 _ _) (.inl ⟨_, rfl⟩) (fun w1 a' c h1 h2 => HS2.out w1 a' c h1 h2)).mono ?_
  rintro e w6 ⟨rfl, hx6⟩
  rw [lawV_came]
  have X6 := hid (X5.out.trans ((Ext.alloc _ _).trans hx6))
  clear hx6
  go_wp2_with fail
  refine (lw2 ⟨#[110, 117, 109, 46, 97, 100, 100]⟩ (a - b) b _ (cameV a) _ (HM.out.later (X6.out.trans (Ext.alloc _ _))) (blk0 _ _) (.inl ⟨_, rfl⟩) (fun w1 a' c h1 h2 => HA2.out w1 a' c h1 h2)).mono ?_
  rintro e w7 ⟨rfl, hx7⟩
  rw [lawV_came]
  have X7 := hid (X6.out.trans ((Ext.alloc _ _).trans hx7))
  clear hx7
  go_wp2_with fail
  all_goals
    go_ret
    exact ⟨by first | rfl | (apply ret_bool; simp; done) | (apply ret_bool; simp; omega), X7.out⟩
set_option maxRecDepth 100000 in
set_option maxHeartbeats 8000000 in
theorem div_least (a b : Int) (ha : inR a) (hb : inR b) (w : World) (hm : MaxAt w) (hl : Laid w) (hA : ¬ inR (a + b)) (hS : inR (a - b)) (h0 : a = -9223372036854775808) (h1 : b = -1) : Calls Tryz.prog 5 #[.int .i64 a, .int .i64 b] w fun e w' => e = .returned (.bool true) ∧ Ext w w' := by
  have HM := hid hm
  have HB := hid (begun_any w hm hl)
  have HQU := hid (fun w1 a' c => wk_quo a b ha hb a' c w1)
  have HMO := hid (fun w1 a' c => wk_mod a b ha hb a' c w1)
  have HAD := hid (fun w1 a' c => wk_add a b ha hb a' c w1)
  have HSU := hid (fun w1 a' c => wk_sub a b ha hb a' c w1)
  rw [show addV a b = refV 21 from if_neg hA] at HAD
  have HA2 := hid (fun w1 a' c => wk_add (a - b) b hS hb a' c w1)
  rw [show addV (a - b) b = cameV a by unfold addV; rw [show a - b + b = a by omega, if_pos ha]] at HA2
  rw [show subV a b = cameV (a - b) from if_pos hS] at HSU
  obtain ⟨hS1, hS2⟩ := hS
  rw [show quoV a b = refV 21 by rw [h0, h1]; unfold quoV; rw [if_neg (by decide), if_neg (by unfold inR; decide)]] at HQU
  rw [show modW a b = cameV 0 by rw [h0, h1]; kernel_rfl] at HMO
  obtain ⟨ha1, ha2⟩ := ha
  obtain ⟨hb1, hb2⟩ := hb
  have hq0 : (b == 0) = false := by rw [beq_eq_false_iff_ne]; omega
  have hq1 : (b == -1) = true := by rw [beq_iff_eq]; exact h1
  have hq2 : (a == -9223372036854775808) = true := by rw [beq_iff_eq]; exact h0
  have hq3 : b < 0 := by omega
  have hq4 : b ≤ -1 := by omega
  have hq5 : ¬ b = 0 := by omega
  clear hm hl h0 h1 hA
  go_enter Tryz.func5, Tryz.ntmps5
  go_wp2_with fail
  refine HB.out.mono ?_
  rintro e w1 ⟨rfl, hx1⟩
  have X1 := hid hx1
  clear hx1
  go_wp2_with fail
  refine (lw2 ⟨#[110, 117, 109, 46, 113, 117, 111]⟩ a b _ (refV 21) _ (HM.out.later (X1.out.trans (Ext.alloc _ _))) (blk0 _ _) (.inr ⟨21, by decide, rfl⟩) (fun w1 a' c h1 h2 => HQU.out w1 a' c h1 h2)).mono ?_
  rintro e w2 ⟨rfl, hx2⟩
  rw [lawV_ref]
  have X2 := hid (X1.out.trans ((Ext.alloc _ _).trans hx2))
  clear hx2
  go_wp2_with fail
  refine (lw2 ⟨#[110, 117, 109, 46, 109, 111, 100]⟩ a b _ (cameV (0)) _ (HM.out.later (X2.out.trans (Ext.alloc _ _))) (blk0 _ _) (.inl ⟨_, rfl⟩) (fun w1 a' c h1 h2 => HMO.out w1 a' c h1 h2)).mono ?_
  rintro e w3 ⟨rfl, hx3⟩
  rw [lawV_came]
  have X3 := hid (X2.out.trans ((Ext.alloc _ _).trans hx3))
  clear hx3
  go_wp2_with fail
  refine (lw2 ⟨#[110, 117, 109, 46, 97, 100, 100]⟩ a b _ (refV 21) _ (HM.out.later (X3.out.trans (Ext.alloc _ _))) (blk0 _ _) (.inr ⟨21, by decide, rfl⟩) (fun w1 a' c h1 h2 => HAD.out w1 a' c h1 h2)).mono ?_
  rintro e w4 ⟨rfl, hx4⟩
  rw [lawV_ref]
  have X4 := hid (X3.out.trans ((Ext.alloc _ _).trans hx4))
  clear hx4
  go_wp2_with fail
  refine (lw2 ⟨#[110, 117, 109, 46, 115, 117, 98]⟩ a b _ (cameV (a - b)) _ (HM.out.later (X4.out.trans (Ext.alloc _ _))) (blk0 _ _) (.inl ⟨_, rfl⟩) (fun w1 a' c h1 h2 => HSU.out w1 a' c h1 h2)).mono ?_
  rintro e w5 ⟨rfl, hx5⟩
  rw [lawV_came]
  have X5 := hid (X4.out.trans ((Ext.alloc _ _).trans hx5))
  clear hx5
  go_wp2_with fail
  refine (lw2 ⟨#[110, 117, 109, 46, 97, 100, 100]⟩ (a - b) b _ (cameV a) _ (HM.out.later (X5.out.trans (Ext.alloc _ _))) (blk0 _ _) (.inl ⟨_, rfl⟩) (fun w1 a' c h1 h2 => HA2.out w1 a' c h1 h2)).mono ?_
  rintro e w6 ⟨rfl, hx6⟩
  rw [lawV_came]
  have X6 := hid (X5.out.trans ((Ext.alloc _ _).trans hx6))
  clear hx6
  go_wp2_with fail
  all_goals
    go_ret
    exact ⟨by first | rfl | (apply ret_bool; simp; done) | (apply ret_bool; simp; omega), X6.out⟩
end Go.Proofs.YtnokajfhjmahpaaGreatDoor
