/-
  espalierlaw8.NumOrder: it tells true.
-/
import Derived.Test.YtnokajfhjmahpaaGreatDoorNBeg8
namespace Go.Proofs.YtnokajfhjmahpaaGreatDoor
open Go.RowKit
theorem negV_ires (a : Int) : IRes (negV a) := by unfold negV; split; exact .inl ⟨_, rfl⟩; exact .inr ⟨21, by decide, rfl⟩
theorem absV_ires (a : Int) : IRes (absV a) := by unfold absV; split; exact negV_ires a; exact .inl ⟨_, rfl⟩
set_option maxRecDepth 100000 in
set_option maxHeartbeats 4000000 in
theorem order_true (a b : Int) (ha : inR a) (hb : inR b) (w : World) (hm : MaxAt w) (hl : Laid w) : Calls Tryz.prog 7 #[.int .i64 a, .int .i64 b] w fun e w' => e = .returned (.bool true) ∧ Ext w w' := by
  have HM := hid hm
  have HB := hid (begun_any w hm hl)
  have HMN := hid (fun w1 a' c => wk_min a b ha hb a' c w1)
  have HMX := hid (fun w1 a' c => wk_max a b ha hb a' c w1)
  have HLS := hid (fun w1 a' c => wk_less a b ha hb a' c w1)
  have HMS := hid (fun w1 a' c => wk_most a b ha hb a' c w1)
  have HAB := hid (fun w1 a' c => wk_abs a ha a' c w1)
  have HNG := hid (fun w1 a' c => wk_neg a ha a' c w1)
  have hqt : ∀ (b : Bool) (w : World), (binOp .neq 34 (.iface 54 (.bool b)) (.iface 54 (.bool b))).run Tryz.prog w = .ok (.bool false) w := fun b _ => by cases b <;> kernel_rfl
  obtain ⟨ha1, ha2⟩ := ha
  obtain ⟨hb1, hb2⟩ := hb
  clear hm hl
  obtain ⟨mn, hmn⟩ : ∃ m, min a b = m := ⟨_, rfl⟩
  obtain ⟨mx, hmx⟩ : ∃ m, max a b = m := ⟨_, rfl⟩
  rw [hmn] at HMN
  rw [hmx] at HMX
  go_enter Tryz.func7, Tryz.ntmps7
  go_wp2_with fail
  refine HB.out.mono ?_
  rintro e w1 ⟨rfl, hx1⟩
  have X1 := hid hx1
  clear hx1
  go_wp2_with fail
  refine (lw2 ⟨#[110, 117, 109, 46, 109, 105, 110]⟩ a b _ (cameV mn) _ (HM.out.later (X1.out.trans (Ext.alloc _ _))) (blk0 _ _) (.inl ⟨_, rfl⟩) (fun w1 a' c h1 h2 => HMN.out w1 a' c h1 h2)).mono ?_
  rintro e w2 ⟨rfl, hx2⟩
  rw [lawV_came]
  have X2 := hid (X1.out.trans ((Ext.alloc _ _).trans hx2))
  clear hx2
  go_wp2_with fail
  refine (lw2 ⟨#[110, 117, 109, 46, 109, 97, 120]⟩ a b _ (cameV mx) _ (HM.out.later (X2.out.trans (Ext.alloc _ _))) (blk0 _ _) (.inl ⟨_, rfl⟩) (fun w1 a' c h1 h2 => HMX.out w1 a' c h1 h2)).mono ?_
  rintro e w3 ⟨rfl, hx3⟩
  rw [lawV_came]
  have X3 := hid (X2.out.trans ((Ext.alloc _ _).trans hx3))
  clear hx3
  go_wp2_with fail
  refine (whole_any a _).mono ?_
  rintro e w5 ⟨rfl, hx5⟩
  go_wp2_with fail
  refine (whole_any b _).mono ?_
  rintro e w6 ⟨rfl, hx6⟩
  have X6 := hid (X3.out.trans (hx5.trans hx6))
  clear hx5 hx6
  go_wp2_with fail
  refine (HLS.out _ _ _ (HM.out.later (X6.out.trans (Ext.alloc _ _))) (prow2 (blk0 _ _) rfl rfl)).mono ?_
  rintro e w7 ⟨rfl, hx7⟩
  unfold toldV
  have X7 := hid (X6.out.trans ((Ext.alloc _ _).trans hx7))
  clear hx7
  go_wp2_with fail
  refine (whole_any a _).mono ?_
  rintro e w8 ⟨rfl, hx8⟩
  go_wp2_with fail
  refine (whole_any b _).mono ?_
  rintro e w9 ⟨rfl, hx9⟩
  have X9 := hid (X7.out.trans (hx8.trans hx9))
  clear hx8 hx9
  go_wp2_with fail
  refine (HMS.out _ _ _ (HM.out.later (X9.out.trans (Ext.alloc _ _))) (prow2 (blk0 _ _) rfl rfl)).mono ?_
  rintro e wa ⟨rfl, hxa⟩
  unfold toldV
  have XA := hid (X9.out.trans ((Ext.alloc _ _).trans hxa))
  clear hxa
  by_cases hab : a ≤ b
  · obtain rfl : a = mn := by omega
    obtain rfl : b = mx := by omega
    have hmin : min a b = a := by omega
    clear hmn hmx
    by_cases heq : a = b
    · have hne : (b == a) = true := by rw [beq_iff_eq]; exact heq.symm
      have hba : b ≤ a := by omega
      clear heq
      by_cases hq : a = -9223372036854775808
      · have HRA := hid (show absV a = refV 21 by unfold absV negV; rw [if_pos (by omega), if_neg (by unfold inR; omega)])
        have HRN := hid (show negV a = refV 21 by unfold negV; rw [if_neg (by unfold inR; omega)])
        have hqq : (a == -9223372036854775808) = true := by rw [beq_iff_eq]; exact hq
        clear hq
        go_wp2_with fail
        refine (lw1 ⟨#[110, 117, 109, 46, 97, 98, 115]⟩ a _ (absV a) _ (HM.out.later (XA.out.trans (Ext.alloc _ _))) (blk0 _ _) (absV_ires a) (fun w1 a' c h1 h2 => HAB.out w1 a' c h1 h2)).mono ?_
        rintro e wb ⟨rfl, hxb⟩
        rw [HRA.out, lawV_ref]
        have XB := hid (XA.out.trans ((Ext.alloc _ _).trans hxb))
        clear hxb
        go_wp2_with fail
        refine (lw1 ⟨#[110, 117, 109, 46, 110, 101, 103]⟩ a _ (negV a) _ (HM.out.later (XB.out.trans (Ext.alloc _ _))) (blk0 _ _) (negV_ires a) (fun w1 a' c h1 h2 => HNG.out w1 a' c h1 h2)).mono ?_
        rintro e wc ⟨rfl, hxc⟩
        rw [HRN.out, lawV_ref]
        have XC := hid (XB.out.trans ((Ext.alloc _ _).trans hxc))
        clear hxc
        go_wp2_with fail
        all_goals
          go_ret
          exact ⟨by first | rfl | (apply ret_bool; simp; try omega), XC.out⟩
      · have hqq : (a == -9223372036854775808) = false := by rw [beq_eq_false_iff_ne]; exact hq
        have HRN := hid (show negV a = cameV (-a) by unfold negV; rw [if_pos (by unfold inR; omega)])
        have ha3 : -9223372036854775807 ≤ a := by omega
        by_cases hs : a < 0
        · have HRA := hid (show absV a = cameV (-a) by unfold absV; rw [if_pos hs, HRN.out])
          clear hq
          go_wp2_with fail
          refine (lw1 ⟨#[110, 117, 109, 46, 97, 98, 115]⟩ a _ (absV a) _ (HM.out.later (XA.out.trans (Ext.alloc _ _))) (blk0 _ _) (absV_ires a) (fun w1 a' c h1 h2 => HAB.out w1 a' c h1 h2)).mono ?_
          rintro e wb ⟨rfl, hxb⟩
          rw [HRA.out, lawV_came]
          have XB := hid (XA.out.trans ((Ext.alloc _ _).trans hxb))
          clear hxb
          go_wp2_with fail
          refine (lw1 ⟨#[110, 117, 109, 46, 110, 101, 103]⟩ a _ (negV a) _ (HM.out.later (XB.out.trans (Ext.alloc _ _))) (blk0 _ _) (negV_ires a) (fun w1 a' c h1 h2 => HNG.out w1 a' c h1 h2)).mono ?_
          rintro e wc ⟨rfl, hxc⟩
          rw [HRN.out, lawV_came]
          have XC := hid (XB.out.trans ((Ext.alloc _ _).trans hxc))
          clear hxc
          go_wp2_with fail
          all_goals
            go_ret
            exact ⟨by first | rfl | (apply ret_bool; simp; try omega), XC.out⟩
        · have HRA := hid (show absV a = cameV a by unfold absV; rw [if_neg hs])
          clear hq
          go_wp2_with fail
          refine (lw1 ⟨#[110, 117, 109, 46, 97, 98, 115]⟩ a _ (absV a) _ (HM.out.later (XA.out.trans (Ext.alloc _ _))) (blk0 _ _) (absV_ires a) (fun w1 a' c h1 h2 => HAB.out w1 a' c h1 h2)).mono ?_
          rintro e wb ⟨rfl, hxb⟩
          rw [HRA.out, lawV_came]
          have XB := hid (XA.out.trans ((Ext.alloc _ _).trans hxb))
          clear hxb
          go_wp2_with fail
          refine (lw1 ⟨#[110, 117, 109, 46, 110, 101, 103]⟩ a _ (negV a) _ (HM.out.later (XB.out.trans (Ext.alloc _ _))) (blk0 _ _) (negV_ires a) (fun w1 a' c h1 h2 => HNG.out w1 a' c h1 h2)).mono ?_
          rintro e wc ⟨rfl, hxc⟩
          rw [HRN.out, lawV_came]
          have XC := hid (XB.out.trans ((Ext.alloc _ _).trans hxc))
          clear hxc
          go_wp2_with fail
          all_goals
            go_ret
            exact ⟨by first | rfl | (apply ret_bool; simp; try omega), XC.out⟩
    · have hne : (b == a) = false := by rw [beq_eq_false_iff_ne]; exact fun h => heq h.symm
      have hba : a < b := by omega
      clear heq
      by_cases hq : a = -9223372036854775808
      · have HRA := hid (show absV a = refV 21 by unfold absV negV; rw [if_pos (by omega), if_neg (by unfold inR; omega)])
        have HRN := hid (show negV a = refV 21 by unfold negV; rw [if_neg (by unfold inR; omega)])
        have hqq : (a == -9223372036854775808) = true := by rw [beq_iff_eq]; exact hq
        clear hq
        go_wp2_with fail
        refine (lw1 ⟨#[110, 117, 109, 46, 97, 98, 115]⟩ a _ (absV a) _ (HM.out.later (XA.out.trans (Ext.alloc _ _))) (blk0 _ _) (absV_ires a) (fun w1 a' c h1 h2 => HAB.out w1 a' c h1 h2)).mono ?_
        rintro e wb ⟨rfl, hxb⟩
        rw [HRA.out, lawV_ref]
        have XB := hid (XA.out.trans ((Ext.alloc _ _).trans hxb))
        clear hxb
        go_wp2_with fail
        refine (lw1 ⟨#[110, 117, 109, 46, 110, 101, 103]⟩ a _ (negV a) _ (HM.out.later (XB.out.trans (Ext.alloc _ _))) (blk0 _ _) (negV_ires a) (fun w1 a' c h1 h2 => HNG.out w1 a' c h1 h2)).mono ?_
        rintro e wc ⟨rfl, hxc⟩
        rw [HRN.out, lawV_ref]
        have XC := hid (XB.out.trans ((Ext.alloc _ _).trans hxc))
        clear hxc
        go_wp2_with fail
        all_goals
          go_ret
          exact ⟨by first | rfl | (apply ret_bool; simp; try omega), XC.out⟩
      · have hqq : (a == -9223372036854775808) = false := by rw [beq_eq_false_iff_ne]; exact hq
        have HRN := hid (show negV a = cameV (-a) by unfold negV; rw [if_pos (by unfold inR; omega)])
        have ha3 : -9223372036854775807 ≤ a := by omega
        by_cases hs : a < 0
        · have HRA := hid (show absV a = cameV (-a) by unfold absV; rw [if_pos hs, HRN.out])
          clear hq
          go_wp2_with fail
          refine (lw1 ⟨#[110, 117, 109, 46, 97, 98, 115]⟩ a _ (absV a) _ (HM.out.later (XA.out.trans (Ext.alloc _ _))) (blk0 _ _) (absV_ires a) (fun w1 a' c h1 h2 => HAB.out w1 a' c h1 h2)).mono ?_
          rintro e wb ⟨rfl, hxb⟩
          rw [HRA.out, lawV_came]
          have XB := hid (XA.out.trans ((Ext.alloc _ _).trans hxb))
          clear hxb
          go_wp2_with fail
          refine (lw1 ⟨#[110, 117, 109, 46, 110, 101, 103]⟩ a _ (negV a) _ (HM.out.later (XB.out.trans (Ext.alloc _ _))) (blk0 _ _) (negV_ires a) (fun w1 a' c h1 h2 => HNG.out w1 a' c h1 h2)).mono ?_
          rintro e wc ⟨rfl, hxc⟩
          rw [HRN.out, lawV_came]
          have XC := hid (XB.out.trans ((Ext.alloc _ _).trans hxc))
          clear hxc
          go_wp2_with fail
          all_goals
            go_ret
            exact ⟨by first | rfl | (apply ret_bool; simp; try omega), XC.out⟩
        · have HRA := hid (show absV a = cameV a by unfold absV; rw [if_neg hs])
          clear hq
          go_wp2_with fail
          refine (lw1 ⟨#[110, 117, 109, 46, 97, 98, 115]⟩ a _ (absV a) _ (HM.out.later (XA.out.trans (Ext.alloc _ _))) (blk0 _ _) (absV_ires a) (fun w1 a' c h1 h2 => HAB.out w1 a' c h1 h2)).mono ?_
          rintro e wb ⟨rfl, hxb⟩
          rw [HRA.out, lawV_came]
          have XB := hid (XA.out.trans ((Ext.alloc _ _).trans hxb))
          clear hxb
          go_wp2_with fail
          refine (lw1 ⟨#[110, 117, 109, 46, 110, 101, 103]⟩ a _ (negV a) _ (HM.out.later (XB.out.trans (Ext.alloc _ _))) (blk0 _ _) (negV_ires a) (fun w1 a' c h1 h2 => HNG.out w1 a' c h1 h2)).mono ?_
          rintro e wc ⟨rfl, hxc⟩
          rw [HRN.out, lawV_came]
          have XC := hid (XB.out.trans ((Ext.alloc _ _).trans hxc))
          clear hxc
          go_wp2_with fail
          all_goals
            go_ret
            exact ⟨by first | rfl | (apply ret_bool; simp; try omega), XC.out⟩
  · obtain rfl : b = mn := by omega
    obtain rfl : a = mx := by omega
    have hmin : min a b = b := by omega
    clear hmn hmx
    by_cases hq : a = -9223372036854775808
    · have HRA := hid (show absV a = refV 21 by unfold absV negV; rw [if_pos (by omega), if_neg (by unfold inR; omega)])
      have HRN := hid (show negV a = refV 21 by unfold negV; rw [if_neg (by unfold inR; omega)])
      have hqq : (a == -9223372036854775808) = true := by rw [beq_iff_eq]; exact hq
      clear hq
      go_wp2_with fail
      refine (lw1 ⟨#[110, 117, 109, 46, 97, 98, 115]⟩ a _ (absV a) _ (HM.out.later (XA.out.trans (Ext.alloc _ _))) (blk0 _ _) (absV_ires a) (fun w1 a' c h1 h2 => HAB.out w1 a' c h1 h2)).mono ?_
      rintro e wb ⟨rfl, hxb⟩
      rw [HRA.out, lawV_ref]
      have XB := hid (XA.out.trans ((Ext.alloc _ _).trans hxb))
      clear hxb
      go_wp2_with fail
      refine (lw1 ⟨#[110, 117, 109, 46, 110, 101, 103]⟩ a _ (negV a) _ (HM.out.later (XB.out.trans (Ext.alloc _ _))) (blk0 _ _) (negV_ires a) (fun w1 a' c h1 h2 => HNG.out w1 a' c h1 h2)).mono ?_
      rintro e wc ⟨rfl, hxc⟩
      rw [HRN.out, lawV_ref]
      have XC := hid (XB.out.trans ((Ext.alloc _ _).trans hxc))
      clear hxc
      go_wp2_with fail
      all_goals
        go_ret
        exact ⟨by first | rfl | (apply ret_bool; simp; try omega), XC.out⟩
    · have hqq : (a == -9223372036854775808) = false := by rw [beq_eq_false_iff_ne]; exact hq
      have HRN := hid (show negV a = cameV (-a) by unfold negV; rw [if_pos (by unfold inR; omega)])
      have ha3 : -9223372036854775807 ≤ a := by omega
      by_cases hs : a < 0
      · have HRA := hid (show absV a = cameV (-a) by unfold absV; rw [if_pos hs, HRN.out])
        clear hq
        go_wp2_with fail
        refine (lw1 ⟨#[110, 117, 109, 46, 97, 98, 115]⟩ a _ (absV a) _ (HM.out.later (XA.out.trans (Ext.alloc _ _))) (blk0 _ _) (absV_ires a) (fun w1 a' c h1 h2 => HAB.out w1 a' c h1 h2)).mono ?_
        rintro e wb ⟨rfl, hxb⟩
        rw [HRA.out, lawV_came]
        have XB := hid (XA.out.trans ((Ext.alloc _ _).trans hxb))
        clear hxb
        go_wp2_with fail
        refine (lw1 ⟨#[110, 117, 109, 46, 110, 101, 103]⟩ a _ (negV a) _ (HM.out.later (XB.out.trans (Ext.alloc _ _))) (blk0 _ _) (negV_ires a) (fun w1 a' c h1 h2 => HNG.out w1 a' c h1 h2)).mono ?_
        rintro e wc ⟨rfl, hxc⟩
        rw [HRN.out, lawV_came]
        have XC := hid (XB.out.trans ((Ext.alloc _ _).trans hxc))
        clear hxc
        go_wp2_with fail
        all_goals
          go_ret
          exact ⟨by first | rfl | (apply ret_bool; simp; try omega), XC.out⟩
      · have HRA := hid (show absV a = cameV a by unfold absV; rw [if_neg hs])
        clear hq
        go_wp2_with fail
        refine (lw1 ⟨#[110, 117, 109, 46, 97, 98, 115]⟩ a _ (absV a) _ (HM.out.later (XA.out.trans (Ext.alloc _ _))) (blk0 _ _) (absV_ires a) (fun w1 a' c h1 h2 => HAB.out w1 a' c h1 h2)).mono ?_
        rintro e wb ⟨rfl, hxb⟩
        rw [HRA.out, lawV_came]
        have XB := hid (XA.out.trans ((Ext.alloc _ _).trans hxb))
        clear hxb
        go_wp2_with fail
        refine (lw1 ⟨#[110, 117, 109, 46, 110, 101, 103]⟩ a _ (negV a) _ (HM.out.later (XB.out.trans (Ext.alloc _ _))) (blk0 _ _) (negV_ires a) (fun w1 a' c h1 h2 => HNG.out w1 a' c h1 h2)).mono ?_
        rintro e wc ⟨rfl, hxc⟩
        rw [HRN.out, lawV_came]
        have XC := hid (XB.out.trans ((Ext.alloc _ _).trans hxc))
        clear hxc
        go_wp2_with fail
        all_goals
          go_ret
          exact ⟨by first | rfl | (apply ret_bool; simp; try omega), XC.out⟩
end Go.Proofs.YtnokajfhjmahpaaGreatDoor
