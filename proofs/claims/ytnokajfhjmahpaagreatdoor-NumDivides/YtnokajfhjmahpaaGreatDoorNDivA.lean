/-
  espalierlaw8.NumDivides: it tells true, where sum and difference are numbers.
-/
import Derived.Test.YtnokajfhjmahpaaGreatDoorNDivH
namespace Go.Proofs.YtnokajfhjmahpaaGreatDoor
open Go.RowKit
set_option maxRecDepth 100000 in
set_option maxHeartbeats 8000000 in
theorem div_ii (a b : Int) (ha : inR a) (hb : inR b) (w : World) (hm : MaxAt w) (hl : Laid w) (hA : inR (a + b)) (hS : inR (a - b)) (h0 : b ≠ 0) (hmm : ¬ (a = -9223372036854775808 ∧ b = -1)) : Calls Tryz.prog 5 #[.int .i64 a, .int .i64 b] w fun e w' => e = .returned (.bool true) ∧ Ext w w' := by
  have HF := hid (divF a b ha hb h0 hmm)
  have HM := hid hm
  have HB := hid (begun_any w hm hl)
  have HQU := hid (fun w1 a' c => wk_quo a b ha hb a' c w1)
  have HMO := hid (fun w1 a' c => wk_mod a b ha hb a' c w1)
  have HAD := hid (fun w1 a' c => wk_add a b ha hb a' c w1)
  have HSU := hid (fun w1 a' c => wk_sub a b ha hb a' c w1)
  have HS2 := hid (fun w1 a' c => wk_sub (a + b) b hA hb a' c w1)
  rw [show subV (a + b) b = cameV a by unfold subV; rw [show a + b - b = a by omega, if_pos ha]] at HS2
  rw [show addV a b = cameV (a + b) from if_pos hA] at HAD
  obtain ⟨hA1, hA2⟩ := hA
  have HA2 := hid (fun w1 a' c => wk_add (a - b) b hS hb a' c w1)
  rw [show addV (a - b) b = cameV a by unfold addV; rw [show a - b + b = a by omega, if_pos ha]] at HA2
  rw [show subV a b = cameV (a - b) from if_pos hS] at HSU
  obtain ⟨hS1, hS2⟩ := hS
  rw [show quoV a b = cameV (a.tdiv b) by unfold quoV; rw [if_neg h0, if_pos (tdiv_in a b ha hb h0 hmm)]] at HQU
  rw [show modW a b = cameV (modI a b) from if_neg h0] at HMO
  obtain ⟨ha1, ha2⟩ := ha
  obtain ⟨hb1, hb2⟩ := hb
  clear hm hl
  generalize a.tdiv b = q at *
  generalize a.tmod b = t at *
  generalize modI a b = m at *
  obtain ⟨q1, q2, p1, p2, hr, t1, t2, sg, mf, lt⟩ := HF.out
  have HMM := hid hmm
  have hq0 : (b == 0) = false := by rw [beq_eq_false_iff_ne]; exact h0
  have HSG := hid sg
  have HLT := hid lt
  have HMF := hid mf
  clear HF hmm sg lt mf
  have hmin : decide (a = -9223372036854775808) = true → (b == -1) = false := fun h => by
    rw [beq_eq_false_iff_ne]
    exact fun h2 => HMM.out ⟨of_decide_eq_true h, h2⟩
  have HMN := hid hmin
  clear hmin
  have hz : ∃ z, (t == 0) = z := ⟨_, rfl⟩
  have hsq : (t == 0) = false → (decide (t < 0) == decide (a < 0)) = true := fun h => by
    rcases HSG.out with h1 | h1
    · rw [h1] at h; cases h
    · simp [h1]
  have HSQ := hid hsq
  clear hsq hz
  by_cases hbs : 0 < b
  · rcases HMF.out with ⟨hm1, hm2⟩ | ⟨hm1, hm2, hm3⟩
    · have n1 : 0 ≤ m := by
        rcases hm2 with h | h
        · omega
        · have : ¬ t < 0 := by rw [h]; omega
          omega
      have n2 : m < b := by have := HLT.out; omega
      have e1 : (t == m) = true := by rw [hm1]; simp
      have HE1 := hid e1
      clear hm1 hm2
      obtain ⟨z, hz⟩ : ∃ z, (t == 0) = z := ⟨_, rfl⟩
      cases z with
      | true =>
        by_cases hmn : a = -9223372036854775808
        · have hmn1 : (a == -9223372036854775808) = true := by rw [beq_iff_eq]; exact hmn
          have hmn2 := HMN.out (decide_eq_true hmn)
          clear hmn h0
          go_enter Tryz.func5, Tryz.ntmps5
          go_wp2_with fail
          refine HB.out.mono ?_
          rintro e w1 ⟨rfl, hx1⟩
          have X1 := hid hx1
          clear hx1
          go_wp2_with fail
          refine (lw2 ⟨#[110, 117, 109, 46, 113, 117, 111]⟩ a b _ (cameV (q)) _ (HM.out.later (X1.out.trans (Ext.alloc _ _))) (blk0 _ _) (.inl ⟨_, rfl⟩) (fun w1 a' c h1 h2 => HQU.out w1 a' c h1 h2)).mono ?_
          rintro e w2 ⟨rfl, hx2⟩
          rw [lawV_came]
          have X2 := hid (X1.out.trans ((Ext.alloc _ _).trans hx2))
          clear hx2
          go_wp2_with fail
          refine (lw2 ⟨#[110, 117, 109, 46, 109, 111, 100]⟩ a b _ (cameV (m)) _ (HM.out.later (X2.out.trans (Ext.alloc _ _))) (blk0 _ _) (.inl ⟨_, rfl⟩) (fun w1 a' c h1 h2 => HMO.out w1 a' c h1 h2)).mono ?_
          rintro e w3 ⟨rfl, hx3⟩
          rw [lawV_came]
          have X3 := hid (X2.out.trans ((Ext.alloc _ _).trans hx3))
          clear hx3
          go_wp2_with fail
          refine (lw2 ⟨#[110, 117, 109, 46, 97, 100, 100]⟩ a b _ (cameV (a + b)) _ (HM.out.later (X3.out.trans (Ext.alloc _ _))) (blk0 _ _) (.inl ⟨_, rfl⟩) (fun w1 a' c h1 h2 => HAD.out w1 a' c h1 h2)).mono ?_
          rintro e w4 ⟨rfl, hx4⟩
          rw [lawV_came]
          have X4 := hid (X3.out.trans ((Ext.alloc _ _).trans hx4))
          clear hx4
          go_wp2_with fail
          refine (lw2 ⟨#[110, 117, 109, 46, 115, 117, 98]⟩ a b _ (cameV (a - b)) _ (HM.out.later (X4.out.trans (Ext.alloc _ _))) (blk0 _ _) (.inl ⟨_, rfl⟩) (fun w1 a' c h1 h2 => HSU.out w1 a' c h1 h2)).mono ?_
          rintro e w5 ⟨rfl, hx5⟩
          rw [lawV_came]
          have X5 := hid (X4.out.trans ((Ext.alloc _ _).trans hx5))
          clear hx5
          go_wp2_with fail
          refine (lw2 ⟨#[110, 117, 109, 46, 115, 117, 98]⟩ (a + b) b _ (cameV a) _ (HM.out.later (X5.out.trans (Ext.alloc _ _))) (blk0 _ _) (.inl ⟨_, rfl⟩) (fun w1 a' c h1 h2 => HS2.out w1 a' c h1 h2)).mono ?_
          rintro e w6 ⟨rfl, hx6⟩
          rw [lawV_came]
          have X6 := hid (X5.out.trans ((Ext.alloc _ _).trans hx6))
          clear hx6
          go_wp2_with fail
          refine (lw2 ⟨#[110, 117, 109, 46, 97, 100, 100]⟩ (a - b) b _ (cameV a) _ (HM.out.later (X6.out.trans (Ext.alloc _ _))) (blk0 _ _) (.inl ⟨_, rfl⟩) (fun w1 a' c h1 h2 => HA2.out w1 a' c h1 h2)).mono ?_
          rintro e w7 ⟨rfl, hx7⟩
          rw [lawV_came]
          have X7 := hid (X6.out.trans ((Ext.alloc _ _).trans hx7))
          clear hx7
          go_wp2_with fail
          all_goals
            go_ret
            exact ⟨by first | rfl | (apply ret_bool; simp; done) | (apply ret_bool; simp; omega), X7.out⟩
        · have hmn1 : (a == -9223372036854775808) = false := by rw [beq_eq_false_iff_ne]; exact hmn
          clear hmn h0
          go_enter Tryz.func5, Tryz.ntmps5
          go_wp2_with fail
          refine HB.out.mono ?_
          rintro e w1 ⟨rfl, hx1⟩
          have X1 := hid hx1
          clear hx1
          go_wp2_with fail
          refine (lw2 ⟨#[110, 117, 109, 46, 113, 117, 111]⟩ a b _ (cameV (q)) _ (HM.out.later (X1.out.trans (Ext.alloc _ _))) (blk0 _ _) (.inl ⟨_, rfl⟩) (fun w1 a' c h1 h2 => HQU.out w1 a' c h1 h2)).mono ?_
          rintro e w2 ⟨rfl, hx2⟩
          rw [lawV_came]
          have X2 := hid (X1.out.trans ((Ext.alloc _ _).trans hx2))
          clear hx2
          go_wp2_with fail
          refine (lw2 ⟨#[110, 117, 109, 46, 109, 111, 100]⟩ a b _ (cameV (m)) _ (HM.out.later (X2.out.trans (Ext.alloc _ _))) (blk0 _ _) (.inl ⟨_, rfl⟩) (fun w1 a' c h1 h2 => HMO.out w1 a' c h1 h2)).mono ?_
          rintro e w3 ⟨rfl, hx3⟩
          rw [lawV_came]
          have X3 := hid (X2.out.trans ((Ext.alloc _ _).trans hx3))
          clear hx3
          go_wp2_with fail
          refine (lw2 ⟨#[110, 117, 109, 46, 97, 100, 100]⟩ a b _ (cameV (a + b)) _ (HM.out.later (X3.out.trans (Ext.alloc _ _))) (blk0 _ _) (.inl ⟨_, rfl⟩) (fun w1 a' c h1 h2 => HAD.out w1 a' c h1 h2)).mono ?_
          rintro e w4 ⟨rfl, hx4⟩
          rw [lawV_came]
          have X4 := hid (X3.out.trans ((Ext.alloc _ _).trans hx4))
          clear hx4
          go_wp2_with fail
          refine (lw2 ⟨#[110, 117, 109, 46, 115, 117, 98]⟩ a b _ (cameV (a - b)) _ (HM.out.later (X4.out.trans (Ext.alloc _ _))) (blk0 _ _) (.inl ⟨_, rfl⟩) (fun w1 a' c h1 h2 => HSU.out w1 a' c h1 h2)).mono ?_
          rintro e w5 ⟨rfl, hx5⟩
          rw [lawV_came]
          have X5 := hid (X4.out.trans ((Ext.alloc _ _).trans hx5))
          clear hx5
          go_wp2_with fail
          refine (lw2 ⟨#[110, 117, 109, 46, 115, 117, 98]⟩ (a + b) b _ (cameV a) _ (HM.out.later (X5.out.trans (Ext.alloc _ _))) (blk0 _ _) (.inl ⟨_, rfl⟩) (fun w1 a' c h1 h2 => HS2.out w1 a' c h1 h2)).mono ?_
          rintro e w6 ⟨rfl, hx6⟩
          rw [lawV_came]
          have X6 := hid (X5.out.trans ((Ext.alloc _ _).trans hx6))
          clear hx6
          go_wp2_with fail
          refine (lw2 ⟨#[110, 117, 109, 46, 97, 100, 100]⟩ (a - b) b _ (cameV a) _ (HM.out.later (X6.out.trans (Ext.alloc _ _))) (blk0 _ _) (.inl ⟨_, rfl⟩) (fun w1 a' c h1 h2 => HA2.out w1 a' c h1 h2)).mono ?_
          rintro e w7 ⟨rfl, hx7⟩
          rw [lawV_came]
          have X7 := hid (X6.out.trans ((Ext.alloc _ _).trans hx7))
          clear hx7
          go_wp2_with fail
          all_goals
            go_ret
            exact ⟨by first | rfl | (apply ret_bool; simp; done) | (apply ret_bool; simp; omega), X7.out⟩
      | false =>
        have hs3 := HSQ.out hz
        by_cases hmn : a = -9223372036854775808
        · have hmn1 : (a == -9223372036854775808) = true := by rw [beq_iff_eq]; exact hmn
          have hmn2 := HMN.out (decide_eq_true hmn)
          clear hmn h0
          go_enter Tryz.func5, Tryz.ntmps5
          go_wp2_with fail
          refine HB.out.mono ?_
          rintro e w1 ⟨rfl, hx1⟩
          have X1 := hid hx1
          clear hx1
          go_wp2_with fail
          refine (lw2 ⟨#[110, 117, 109, 46, 113, 117, 111]⟩ a b _ (cameV (q)) _ (HM.out.later (X1.out.trans (Ext.alloc _ _))) (blk0 _ _) (.inl ⟨_, rfl⟩) (fun w1 a' c h1 h2 => HQU.out w1 a' c h1 h2)).mono ?_
          rintro e w2 ⟨rfl, hx2⟩
          rw [lawV_came]
          have X2 := hid (X1.out.trans ((Ext.alloc _ _).trans hx2))
          clear hx2
          go_wp2_with fail
          refine (lw2 ⟨#[110, 117, 109, 46, 109, 111, 100]⟩ a b _ (cameV (m)) _ (HM.out.later (X2.out.trans (Ext.alloc _ _))) (blk0 _ _) (.inl ⟨_, rfl⟩) (fun w1 a' c h1 h2 => HMO.out w1 a' c h1 h2)).mono ?_
          rintro e w3 ⟨rfl, hx3⟩
          rw [lawV_came]
          have X3 := hid (X2.out.trans ((Ext.alloc _ _).trans hx3))
          clear hx3
          go_wp2_with fail
          refine (lw2 ⟨#[110, 117, 109, 46, 97, 100, 100]⟩ a b _ (cameV (a + b)) _ (HM.out.later (X3.out.trans (Ext.alloc _ _))) (blk0 _ _) (.inl ⟨_, rfl⟩) (fun w1 a' c h1 h2 => HAD.out w1 a' c h1 h2)).mono ?_
          rintro e w4 ⟨rfl, hx4⟩
          rw [lawV_came]
          have X4 := hid (X3.out.trans ((Ext.alloc _ _).trans hx4))
          clear hx4
          go_wp2_with fail
          refine (lw2 ⟨#[110, 117, 109, 46, 115, 117, 98]⟩ a b _ (cameV (a - b)) _ (HM.out.later (X4.out.trans (Ext.alloc _ _))) (blk0 _ _) (.inl ⟨_, rfl⟩) (fun w1 a' c h1 h2 => HSU.out w1 a' c h1 h2)).mono ?_
          rintro e w5 ⟨rfl, hx5⟩
          rw [lawV_came]
          have X5 := hid (X4.out.trans ((Ext.alloc _ _).trans hx5))
          clear hx5
          go_wp2_with fail
          refine (lw2 ⟨#[110, 117, 109, 46, 115, 117, 98]⟩ (a + b) b _ (cameV a) _ (HM.out.later (X5.out.trans (Ext.alloc _ _))) (blk0 _ _) (.inl ⟨_, rfl⟩) (fun w1 a' c h1 h2 => HS2.out w1 a' c h1 h2)).mono ?_
          rintro e w6 ⟨rfl, hx6⟩
          rw [lawV_came]
          have X6 := hid (X5.out.trans ((Ext.alloc _ _).trans hx6))
          clear hx6
          go_wp2_with fail
          refine (lw2 ⟨#[110, 117, 109, 46, 97, 100, 100]⟩ (a - b) b _ (cameV a) _ (HM.out.later (X6.out.trans (Ext.alloc _ _))) (blk0 _ _) (.inl ⟨_, rfl⟩) (fun w1 a' c h1 h2 => HA2.out w1 a' c h1 h2)).mono ?_
          rintro e w7 ⟨rfl, hx7⟩
          rw [lawV_came]
          have X7 := hid (X6.out.trans ((Ext.alloc _ _).trans hx7))
          clear hx7
          go_wp2_with fail
          all_goals
            go_ret
            exact ⟨by first | rfl | (apply ret_bool; simp; done) | (apply ret_bool; simp; omega), X7.out⟩
        · have hmn1 : (a == -9223372036854775808) = false := by rw [beq_eq_false_iff_ne]; exact hmn
          clear hmn h0
          go_enter Tryz.func5, Tryz.ntmps5
          go_wp2_with fail
          refine HB.out.mono ?_
          rintro e w1 ⟨rfl, hx1⟩
          have X1 := hid hx1
          clear hx1
          go_wp2_with fail
          refine (lw2 ⟨#[110, 117, 109, 46, 113, 117, 111]⟩ a b _ (cameV (q)) _ (HM.out.later (X1.out.trans (Ext.alloc _ _))) (blk0 _ _) (.inl ⟨_, rfl⟩) (fun w1 a' c h1 h2 => HQU.out w1 a' c h1 h2)).mono ?_
          rintro e w2 ⟨rfl, hx2⟩
          rw [lawV_came]
          have X2 := hid (X1.out.trans ((Ext.alloc _ _).trans hx2))
          clear hx2
          go_wp2_with fail
          refine (lw2 ⟨#[110, 117, 109, 46, 109, 111, 100]⟩ a b _ (cameV (m)) _ (HM.out.later (X2.out.trans (Ext.alloc _ _))) (blk0 _ _) (.inl ⟨_, rfl⟩) (fun w1 a' c h1 h2 => HMO.out w1 a' c h1 h2)).mono ?_
          rintro e w3 ⟨rfl, hx3⟩
          rw [lawV_came]
          have X3 := hid (X2.out.trans ((Ext.alloc _ _).trans hx3))
          clear hx3
          go_wp2_with fail
          refine (lw2 ⟨#[110, 117, 109, 46, 97, 100, 100]⟩ a b _ (cameV (a + b)) _ (HM.out.later (X3.out.trans (Ext.alloc _ _))) (blk0 _ _) (.inl ⟨_, rfl⟩) (fun w1 a' c h1 h2 => HAD.out w1 a' c h1 h2)).mono ?_
          rintro e w4 ⟨rfl, hx4⟩
          rw [lawV_came]
          have X4 := hid (X3.out.trans ((Ext.alloc _ _).trans hx4))
          clear hx4
          go_wp2_with fail
          refine (lw2 ⟨#[110, 117, 109, 46, 115, 117, 98]⟩ a b _ (cameV (a - b)) _ (HM.out.later (X4.out.trans (Ext.alloc _ _))) (blk0 _ _) (.inl ⟨_, rfl⟩) (fun w1 a' c h1 h2 => HSU.out w1 a' c h1 h2)).mono ?_
          rintro e w5 ⟨rfl, hx5⟩
          rw [lawV_came]
          have X5 := hid (X4.out.trans ((Ext.alloc _ _).trans hx5))
          clear hx5
          go_wp2_with fail
          refine (lw2 ⟨#[110, 117, 109, 46, 115, 117, 98]⟩ (a + b) b _ (cameV a) _ (HM.out.later (X5.out.trans (Ext.alloc _ _))) (blk0 _ _) (.inl ⟨_, rfl⟩) (fun w1 a' c h1 h2 => HS2.out w1 a' c h1 h2)).mono ?_
          rintro e w6 ⟨rfl, hx6⟩
          rw [lawV_came]
          have X6 := hid (X5.out.trans ((Ext.alloc _ _).trans hx6))
          clear hx6
          go_wp2_with fail
          refine (lw2 ⟨#[110, 117, 109, 46, 97, 100, 100]⟩ (a - b) b _ (cameV a) _ (HM.out.later (X6.out.trans (Ext.alloc _ _))) (blk0 _ _) (.inl ⟨_, rfl⟩) (fun w1 a' c h1 h2 => HA2.out w1 a' c h1 h2)).mono ?_
          rintro e w7 ⟨rfl, hx7⟩
          rw [lawV_came]
          have X7 := hid (X6.out.trans ((Ext.alloc _ _).trans hx7))
          clear hx7
          go_wp2_with fail
          all_goals
            go_ret
            exact ⟨by first | rfl | (apply ret_bool; simp; done) | (apply ret_bool; simp; omega), X7.out⟩
    · have ht : t < 0 := by
        by_cases h : t < 0
        · exact h
        · exact absurd (by simp [h]; omega) hm3
      have has : a < 0 := by
        rcases HSG.out with h | h
        · omega
        · rw [← h]; exact ht
      have n1 : 0 ≤ m := by have := HLT.out; omega
      have n2 : m < b := by omega
      have e1 : (t == m) = false := by rw [beq_eq_false_iff_ne]; omega
      have e2 : (t == m - b) = true := by rw [beq_iff_eq]; omega
      have hz : (t == 0) = false := by rw [beq_eq_false_iff_ne]; exact hm2
      have hs3 := HSQ.out hz
      clear hm1 hm2 hm3
      by_cases hmn : a = -9223372036854775808
      · have hmn1 : (a == -9223372036854775808) = true := by rw [beq_iff_eq]; exact hmn
        have hmn2 := HMN.out (decide_eq_true hmn)
        clear hmn h0
        go_enter Tryz.func5, Tryz.ntmps5
        go_wp2_with fail
        refine HB.out.mono ?_
        rintro e w1 ⟨rfl, hx1⟩
        have X1 := hid hx1
        clear hx1
        go_wp2_with fail
        refine (lw2 ⟨#[110, 117, 109, 46, 113, 117, 111]⟩ a b _ (cameV (q)) _ (HM.out.later (X1.out.trans (Ext.alloc _ _))) (blk0 _ _) (.inl ⟨_, rfl⟩) (fun w1 a' c h1 h2 => HQU.out w1 a' c h1 h2)).mono ?_
        rintro e w2 ⟨rfl, hx2⟩
        rw [lawV_came]
        have X2 := hid (X1.out.trans ((Ext.alloc _ _).trans hx2))
        clear hx2
        go_wp2_with fail
        refine (lw2 ⟨#[110, 117, 109, 46, 109, 111, 100]⟩ a b _ (cameV (m)) _ (HM.out.later (X2.out.trans (Ext.alloc _ _))) (blk0 _ _) (.inl ⟨_, rfl⟩) (fun w1 a' c h1 h2 => HMO.out w1 a' c h1 h2)).mono ?_
        rintro e w3 ⟨rfl, hx3⟩
        rw [lawV_came]
        have X3 := hid (X2.out.trans ((Ext.alloc _ _).trans hx3))
        clear hx3
        go_wp2_with fail
        refine (lw2 ⟨#[110, 117, 109, 46, 97, 100, 100]⟩ a b _ (cameV (a + b)) _ (HM.out.later (X3.out.trans (Ext.alloc _ _))) (blk0 _ _) (.inl ⟨_, rfl⟩) (fun w1 a' c h1 h2 => HAD.out w1 a' c h1 h2)).mono ?_
        rintro e w4 ⟨rfl, hx4⟩
        rw [lawV_came]
        have X4 := hid (X3.out.trans ((Ext.alloc _ _).trans hx4))
        clear hx4
        go_wp2_with fail
        refine (lw2 ⟨#[110, 117, 109, 46, 115, 117, 98]⟩ a b _ (cameV (a - b)) _ (HM.out.later (X4.out.trans (Ext.alloc _ _))) (blk0 _ _) (.inl ⟨_, rfl⟩) (fun w1 a' c h1 h2 => HSU.out w1 a' c h1 h2)).mono ?_
        rintro e w5 ⟨rfl, hx5⟩
        rw [lawV_came]
        have X5 := hid (X4.out.trans ((Ext.alloc _ _).trans hx5))
        clear hx5
        go_wp2_with fail
        refine (lw2 ⟨#[110, 117, 109, 46, 115, 117, 98]⟩ (a + b) b _ (cameV a) _ (HM.out.later (X5.out.trans (Ext.alloc _ _))) (blk0 _ _) (.inl ⟨_, rfl⟩) (fun w1 a' c h1 h2 => HS2.out w1 a' c h1 h2)).mono ?_
        rintro e w6 ⟨rfl, hx6⟩
        rw [lawV_came]
        have X6 := hid (X5.out.trans ((Ext.alloc _ _).trans hx6))
        clear hx6
        go_wp2_with fail
        refine (lw2 ⟨#[110, 117, 109, 46, 97, 100, 100]⟩ (a - b) b _ (cameV a) _ (HM.out.later (X6.out.trans (Ext.alloc _ _))) (blk0 _ _) (.inl ⟨_, rfl⟩) (fun w1 a' c h1 h2 => HA2.out w1 a' c h1 h2)).mono ?_
        rintro e w7 ⟨rfl, hx7⟩
        rw [lawV_came]
        have X7 := hid (X6.out.trans ((Ext.alloc _ _).trans hx7))
        clear hx7
        go_wp2_with fail
        all_goals
          go_ret
          exact ⟨by first | rfl | (apply ret_bool; simp; done) | (apply ret_bool; simp; omega), X7.out⟩
      · have hmn1 : (a == -9223372036854775808) = false := by rw [beq_eq_false_iff_ne]; exact hmn
        clear hmn h0
        go_enter Tryz.func5, Tryz.ntmps5
        go_wp2_with fail
        refine HB.out.mono ?_
        rintro e w1 ⟨rfl, hx1⟩
        have X1 := hid hx1
        clear hx1
        go_wp2_with fail
        refine (lw2 ⟨#[110, 117, 109, 46, 113, 117, 111]⟩ a b _ (cameV (q)) _ (HM.out.later (X1.out.trans (Ext.alloc _ _))) (blk0 _ _) (.inl ⟨_, rfl⟩) (fun w1 a' c h1 h2 => HQU.out w1 a' c h1 h2)).mono ?_
        rintro e w2 ⟨rfl, hx2⟩
        rw [lawV_came]
        have X2 := hid (X1.out.trans ((Ext.alloc _ _).trans hx2))
        clear hx2
        go_wp2_with fail
        refine (lw2 ⟨#[110, 117, 109, 46, 109, 111, 100]⟩ a b _ (cameV (m)) _ (HM.out.later (X2.out.trans (Ext.alloc _ _))) (blk0 _ _) (.inl ⟨_, rfl⟩) (fun w1 a' c h1 h2 => HMO.out w1 a' c h1 h2)).mono ?_
        rintro e w3 ⟨rfl, hx3⟩
        rw [lawV_came]
        have X3 := hid (X2.out.trans ((Ext.alloc _ _).trans hx3))
        clear hx3
        go_wp2_with fail
        refine (lw2 ⟨#[110, 117, 109, 46, 97, 100, 100]⟩ a b _ (cameV (a + b)) _ (HM.out.later (X3.out.trans (Ext.alloc _ _))) (blk0 _ _) (.inl ⟨_, rfl⟩) (fun w1 a' c h1 h2 => HAD.out w1 a' c h1 h2)).mono ?_
        rintro e w4 ⟨rfl, hx4⟩
        rw [lawV_came]
        have X4 := hid (X3.out.trans ((Ext.alloc _ _).trans hx4))
        clear hx4
        go_wp2_with fail
        refine (lw2 ⟨#[110, 117, 109, 46, 115, 117, 98]⟩ a b _ (cameV (a - b)) _ (HM.out.later (X4.out.trans (Ext.alloc _ _))) (blk0 _ _) (.inl ⟨_, rfl⟩) (fun w1 a' c h1 h2 => HSU.out w1 a' c h1 h2)).mono ?_
        rintro e w5 ⟨rfl, hx5⟩
        rw [lawV_came]
        have X5 := hid (X4.out.trans ((Ext.alloc _ _).trans hx5))
        clear hx5
        go_wp2_with fail
        refine (lw2 ⟨#[110, 117, 109, 46, 115, 117, 98]⟩ (a + b) b _ (cameV a) _ (HM.out.later (X5.out.trans (Ext.alloc _ _))) (blk0 _ _) (.inl ⟨_, rfl⟩) (fun w1 a' c h1 h2 => HS2.out w1 a' c h1 h2)).mono ?_
        rintro e w6 ⟨rfl, hx6⟩
        rw [lawV_came]
        have X6 := hid (X5.out.trans ((Ext.alloc _ _).trans hx6))
        clear hx6
        go_wp2_with fail
        refine (lw2 ⟨#[110, 117, 109, 46, 97, 100, 100]⟩ (a - b) b _ (cameV a) _ (HM.out.later (X6.out.trans (Ext.alloc _ _))) (blk0 _ _) (.inl ⟨_, rfl⟩) (fun w1 a' c h1 h2 => HA2.out w1 a' c h1 h2)).mono ?_
        rintro e w7 ⟨rfl, hx7⟩
        rw [lawV_came]
        have X7 := hid (X6.out.trans ((Ext.alloc _ _).trans hx7))
        clear hx7
        go_wp2_with fail
        all_goals
          go_ret
          exact ⟨by first | rfl | (apply ret_bool; simp; done) | (apply ret_bool; simp; omega), X7.out⟩
  · rcases HMF.out with ⟨hm1, hm2⟩ | ⟨hm1, hm2, hm3⟩
    · have n1 : m ≤ 0 := by
        rcases hm2 with h | h
        · omega
        · have : t < 0 := by rw [h]; omega
          omega
      have n2 : b < m := by have := HLT.out; omega
      have e1 : (t == m) = true := by rw [hm1]; simp
      have HE1 := hid e1
      clear hm1 hm2
      obtain ⟨z, hz⟩ : ∃ z, (t == 0) = z := ⟨_, rfl⟩
      cases z with
      | true =>
        by_cases hmn : a = -9223372036854775808
        · have hmn1 : (a == -9223372036854775808) = true := by rw [beq_iff_eq]; exact hmn
          have hmn2 := HMN.out (decide_eq_true hmn)
          clear hmn h0
          go_enter Tryz.func5, Tryz.ntmps5
          go_wp2_with fail
          refine HB.out.mono ?_
          rintro e w1 ⟨rfl, hx1⟩
          have X1 := hid hx1
          clear hx1
          go_wp2_with fail
          refine (lw2 ⟨#[110, 117, 109, 46, 113, 117, 111]⟩ a b _ (cameV (q)) _ (HM.out.later (X1.out.trans (Ext.alloc _ _))) (blk0 _ _) (.inl ⟨_, rfl⟩) (fun w1 a' c h1 h2 => HQU.out w1 a' c h1 h2)).mono ?_
          rintro e w2 ⟨rfl, hx2⟩
          rw [lawV_came]
          have X2 := hid (X1.out.trans ((Ext.alloc _ _).trans hx2))
          clear hx2
          go_wp2_with fail
          refine (lw2 ⟨#[110, 117, 109, 46, 109, 111, 100]⟩ a b _ (cameV (m)) _ (HM.out.later (X2.out.trans (Ext.alloc _ _))) (blk0 _ _) (.inl ⟨_, rfl⟩) (fun w1 a' c h1 h2 => HMO.out w1 a' c h1 h2)).mono ?_
          rintro e w3 ⟨rfl, hx3⟩
          rw [lawV_came]
          have X3 := hid (X2.out.trans ((Ext.alloc _ _).trans hx3))
          clear hx3
          go_wp2_with fail
          refine (lw2 ⟨#[110, 117, 109, 46, 97, 100, 100]⟩ a b _ (cameV (a + b)) _ (HM.out.later (X3.out.trans (Ext.alloc _ _))) (blk0 _ _) (.inl ⟨_, rfl⟩) (fun w1 a' c h1 h2 => HAD.out w1 a' c h1 h2)).mono ?_
          rintro e w4 ⟨rfl, hx4⟩
          rw [lawV_came]
          have X4 := hid (X3.out.trans ((Ext.alloc _ _).trans hx4))
          clear hx4
          go_wp2_with fail
          refine (lw2 ⟨#[110, 117, 109, 46, 115, 117, 98]⟩ a b _ (cameV (a - b)) _ (HM.out.later (X4.out.trans (Ext.alloc _ _))) (blk0 _ _) (.inl ⟨_, rfl⟩) (fun w1 a' c h1 h2 => HSU.out w1 a' c h1 h2)).mono ?_
          rintro e w5 ⟨rfl, hx5⟩
          rw [lawV_came]
          have X5 := hid (X4.out.trans ((Ext.alloc _ _).trans hx5))
          clear hx5
          go_wp2_with fail
          refine (lw2 ⟨#[110, 117, 109, 46, 115, 117, 98]⟩ (a + b) b _ (cameV a) _ (HM.out.later (X5.out.trans (Ext.alloc _ _))) (blk0 _ _) (.inl ⟨_, rfl⟩) (fun w1 a' c h1 h2 => HS2.out w1 a' c h1 h2)).mono ?_
          rintro e w6 ⟨rfl, hx6⟩
          rw [lawV_came]
          have X6 := hid (X5.out.trans ((Ext.alloc _ _).trans hx6))
          clear hx6
          go_wp2_with fail
          refine (lw2 ⟨#[110, 117, 109, 46, 97, 100, 100]⟩ (a - b) b _ (cameV a) _ (HM.out.later (X6.out.trans (Ext.alloc _ _))) (blk0 _ _) (.inl ⟨_, rfl⟩) (fun w1 a' c h1 h2 => HA2.out w1 a' c h1 h2)).mono ?_
          rintro e w7 ⟨rfl, hx7⟩
          rw [lawV_came]
          have X7 := hid (X6.out.trans ((Ext.alloc _ _).trans hx7))
          clear hx7
          go_wp2_with fail
          all_goals
            go_ret
            exact ⟨by first | rfl | (apply ret_bool; simp; done) | (apply ret_bool; simp; omega), X7.out⟩
        · have hmn1 : (a == -9223372036854775808) = false := by rw [beq_eq_false_iff_ne]; exact hmn
          clear hmn h0
          go_enter Tryz.func5, Tryz.ntmps5
          go_wp2_with fail
          refine HB.out.mono ?_
          rintro e w1 ⟨rfl, hx1⟩
          have X1 := hid hx1
          clear hx1
          go_wp2_with fail
          refine (lw2 ⟨#[110, 117, 109, 46, 113, 117, 111]⟩ a b _ (cameV (q)) _ (HM.out.later (X1.out.trans (Ext.alloc _ _))) (blk0 _ _) (.inl ⟨_, rfl⟩) (fun w1 a' c h1 h2 => HQU.out w1 a' c h1 h2)).mono ?_
          rintro e w2 ⟨rfl, hx2⟩
          rw [lawV_came]
          have X2 := hid (X1.out.trans ((Ext.alloc _ _).trans hx2))
          clear hx2
          go_wp2_with fail
          refine (lw2 ⟨#[110, 117, 109, 46, 109, 111, 100]⟩ a b _ (cameV (m)) _ (HM.out.later (X2.out.trans (Ext.alloc _ _))) (blk0 _ _) (.inl ⟨_, rfl⟩) (fun w1 a' c h1 h2 => HMO.out w1 a' c h1 h2)).mono ?_
          rintro e w3 ⟨rfl, hx3⟩
          rw [lawV_came]
          have X3 := hid (X2.out.trans ((Ext.alloc _ _).trans hx3))
          clear hx3
          go_wp2_with fail
          refine (lw2 ⟨#[110, 117, 109, 46, 97, 100, 100]⟩ a b _ (cameV (a + b)) _ (HM.out.later (X3.out.trans (Ext.alloc _ _))) (blk0 _ _) (.inl ⟨_, rfl⟩) (fun w1 a' c h1 h2 => HAD.out w1 a' c h1 h2)).mono ?_
          rintro e w4 ⟨rfl, hx4⟩
          rw [lawV_came]
          have X4 := hid (X3.out.trans ((Ext.alloc _ _).trans hx4))
          clear hx4
          go_wp2_with fail
          refine (lw2 ⟨#[110, 117, 109, 46, 115, 117, 98]⟩ a b _ (cameV (a - b)) _ (HM.out.later (X4.out.trans (Ext.alloc _ _))) (blk0 _ _) (.inl ⟨_, rfl⟩) (fun w1 a' c h1 h2 => HSU.out w1 a' c h1 h2)).mono ?_
          rintro e w5 ⟨rfl, hx5⟩
          rw [lawV_came]
          have X5 := hid (X4.out.trans ((Ext.alloc _ _).trans hx5))
          clear hx5
          go_wp2_with fail
          refine (lw2 ⟨#[110, 117, 109, 46, 115, 117, 98]⟩ (a + b) b _ (cameV a) _ (HM.out.later (X5.out.trans (Ext.alloc _ _))) (blk0 _ _) (.inl ⟨_, rfl⟩) (fun w1 a' c h1 h2 => HS2.out w1 a' c h1 h2)).mono ?_
          rintro e w6 ⟨rfl, hx6⟩
          rw [lawV_came]
          have X6 := hid (X5.out.trans ((Ext.alloc _ _).trans hx6))
          clear hx6
          go_wp2_with fail
          refine (lw2 ⟨#[110, 117, 109, 46, 97, 100, 100]⟩ (a - b) b _ (cameV a) _ (HM.out.later (X6.out.trans (Ext.alloc _ _))) (blk0 _ _) (.inl ⟨_, rfl⟩) (fun w1 a' c h1 h2 => HA2.out w1 a' c h1 h2)).mono ?_
          rintro e w7 ⟨rfl, hx7⟩
          rw [lawV_came]
          have X7 := hid (X6.out.trans ((Ext.alloc _ _).trans hx7))
          clear hx7
          go_wp2_with fail
          all_goals
            go_ret
            exact ⟨by first | rfl | (apply ret_bool; simp; done) | (apply ret_bool; simp; omega), X7.out⟩
      | false =>
        have hs3 := HSQ.out hz
        by_cases hmn : a = -9223372036854775808
        · have hmn1 : (a == -9223372036854775808) = true := by rw [beq_iff_eq]; exact hmn
          have hmn2 := HMN.out (decide_eq_true hmn)
          clear hmn h0
          go_enter Tryz.func5, Tryz.ntmps5
          go_wp2_with fail
          refine HB.out.mono ?_
          rintro e w1 ⟨rfl, hx1⟩
          have X1 := hid hx1
          clear hx1
          go_wp2_with fail
          refine (lw2 ⟨#[110, 117, 109, 46, 113, 117, 111]⟩ a b _ (cameV (q)) _ (HM.out.later (X1.out.trans (Ext.alloc _ _))) (blk0 _ _) (.inl ⟨_, rfl⟩) (fun w1 a' c h1 h2 => HQU.out w1 a' c h1 h2)).mono ?_
          rintro e w2 ⟨rfl, hx2⟩
          rw [lawV_came]
          have X2 := hid (X1.out.trans ((Ext.alloc _ _).trans hx2))
          clear hx2
          go_wp2_with fail
          refine (lw2 ⟨#[110, 117, 109, 46, 109, 111, 100]⟩ a b _ (cameV (m)) _ (HM.out.later (X2.out.trans (Ext.alloc _ _))) (blk0 _ _) (.inl ⟨_, rfl⟩) (fun w1 a' c h1 h2 => HMO.out w1 a' c h1 h2)).mono ?_
          rintro e w3 ⟨rfl, hx3⟩
          rw [lawV_came]
          have X3 := hid (X2.out.trans ((Ext.alloc _ _).trans hx3))
          clear hx3
          go_wp2_with fail
          refine (lw2 ⟨#[110, 117, 109, 46, 97, 100, 100]⟩ a b _ (cameV (a + b)) _ (HM.out.later (X3.out.trans (Ext.alloc _ _))) (blk0 _ _) (.inl ⟨_, rfl⟩) (fun w1 a' c h1 h2 => HAD.out w1 a' c h1 h2)).mono ?_
          rintro e w4 ⟨rfl, hx4⟩
          rw [lawV_came]
          have X4 := hid (X3.out.trans ((Ext.alloc _ _).trans hx4))
          clear hx4
          go_wp2_with fail
          refine (lw2 ⟨#[110, 117, 109, 46, 115, 117, 98]⟩ a b _ (cameV (a - b)) _ (HM.out.later (X4.out.trans (Ext.alloc _ _))) (blk0 _ _) (.inl ⟨_, rfl⟩) (fun w1 a' c h1 h2 => HSU.out w1 a' c h1 h2)).mono ?_
          rintro e w5 ⟨rfl, hx5⟩
          rw [lawV_came]
          have X5 := hid (X4.out.trans ((Ext.alloc _ _).trans hx5))
          clear hx5
          go_wp2_with fail
          refine (lw2 ⟨#[110, 117, 109, 46, 115, 117, 98]⟩ (a + b) b _ (cameV a) _ (HM.out.later (X5.out.trans (Ext.alloc _ _))) (blk0 _ _) (.inl ⟨_, rfl⟩) (fun w1 a' c h1 h2 => HS2.out w1 a' c h1 h2)).mono ?_
          rintro e w6 ⟨rfl, hx6⟩
          rw [lawV_came]
          have X6 := hid (X5.out.trans ((Ext.alloc _ _).trans hx6))
          clear hx6
          go_wp2_with fail
          refine (lw2 ⟨#[110, 117, 109, 46, 97, 100, 100]⟩ (a - b) b _ (cameV a) _ (HM.out.later (X6.out.trans (Ext.alloc _ _))) (blk0 _ _) (.inl ⟨_, rfl⟩) (fun w1 a' c h1 h2 => HA2.out w1 a' c h1 h2)).mono ?_
          rintro e w7 ⟨rfl, hx7⟩
          rw [lawV_came]
          have X7 := hid (X6.out.trans ((Ext.alloc _ _).trans hx7))
          clear hx7
          go_wp2_with fail
          all_goals
            go_ret
            exact ⟨by first | rfl | (apply ret_bool; simp; done) | (apply ret_bool; simp; omega), X7.out⟩
        · have hmn1 : (a == -9223372036854775808) = false := by rw [beq_eq_false_iff_ne]; exact hmn
          clear hmn h0
          go_enter Tryz.func5, Tryz.ntmps5
          go_wp2_with fail
          refine HB.out.mono ?_
          rintro e w1 ⟨rfl, hx1⟩
          have X1 := hid hx1
          clear hx1
          go_wp2_with fail
          refine (lw2 ⟨#[110, 117, 109, 46, 113, 117, 111]⟩ a b _ (cameV (q)) _ (HM.out.later (X1.out.trans (Ext.alloc _ _))) (blk0 _ _) (.inl ⟨_, rfl⟩) (fun w1 a' c h1 h2 => HQU.out w1 a' c h1 h2)).mono ?_
          rintro e w2 ⟨rfl, hx2⟩
          rw [lawV_came]
          have X2 := hid (X1.out.trans ((Ext.alloc _ _).trans hx2))
          clear hx2
          go_wp2_with fail
          refine (lw2 ⟨#[110, 117, 109, 46, 109, 111, 100]⟩ a b _ (cameV (m)) _ (HM.out.later (X2.out.trans (Ext.alloc _ _))) (blk0 _ _) (.inl ⟨_, rfl⟩) (fun w1 a' c h1 h2 => HMO.out w1 a' c h1 h2)).mono ?_
          rintro e w3 ⟨rfl, hx3⟩
          rw [lawV_came]
          have X3 := hid (X2.out.trans ((Ext.alloc _ _).trans hx3))
          clear hx3
          go_wp2_with fail
          refine (lw2 ⟨#[110, 117, 109, 46, 97, 100, 100]⟩ a b _ (cameV (a + b)) _ (HM.out.later (X3.out.trans (Ext.alloc _ _))) (blk0 _ _) (.inl ⟨_, rfl⟩) (fun w1 a' c h1 h2 => HAD.out w1 a' c h1 h2)).mono ?_
          rintro e w4 ⟨rfl, hx4⟩
          rw [lawV_came]
          have X4 := hid (X3.out.trans ((Ext.alloc _ _).trans hx4))
          clear hx4
          go_wp2_with fail
          refine (lw2 ⟨#[110, 117, 109, 46, 115, 117, 98]⟩ a b _ (cameV (a - b)) _ (HM.out.later (X4.out.trans (Ext.alloc _ _))) (blk0 _ _) (.inl ⟨_, rfl⟩) (fun w1 a' c h1 h2 => HSU.out w1 a' c h1 h2)).mono ?_
          rintro e w5 ⟨rfl, hx5⟩
          rw [lawV_came]
          have X5 := hid (X4.out.trans ((Ext.alloc _ _).trans hx5))
          clear hx5
          go_wp2_with fail
          refine (lw2 ⟨#[110, 117, 109, 46, 115, 117, 98]⟩ (a + b) b _ (cameV a) _ (HM.out.later (X5.out.trans (Ext.alloc _ _))) (blk0 _ _) (.inl ⟨_, rfl⟩) (fun w1 a' c h1 h2 => HS2.out w1 a' c h1 h2)).mono ?_
          rintro e w6 ⟨rfl, hx6⟩
          rw [lawV_came]
          have X6 := hid (X5.out.trans ((Ext.alloc _ _).trans hx6))
          clear hx6
          go_wp2_with fail
          refine (lw2 ⟨#[110, 117, 109, 46, 97, 100, 100]⟩ (a - b) b _ (cameV a) _ (HM.out.later (X6.out.trans (Ext.alloc _ _))) (blk0 _ _) (.inl ⟨_, rfl⟩) (fun w1 a' c h1 h2 => HA2.out w1 a' c h1 h2)).mono ?_
          rintro e w7 ⟨rfl, hx7⟩
          rw [lawV_came]
          have X7 := hid (X6.out.trans ((Ext.alloc _ _).trans hx7))
          clear hx7
          go_wp2_with fail
          all_goals
            go_ret
            exact ⟨by first | rfl | (apply ret_bool; simp; done) | (apply ret_bool; simp; omega), X7.out⟩
    · have ht : ¬ t < 0 := fun h => hm3 (by simp [h]; omega)
      have has : ¬ a < 0 := by
        rcases HSG.out with h | h
        · exact absurd h hm2
        · rw [← h]; exact ht
      have n1 : m ≤ 0 := by have := HLT.out; omega
      have n2 : b < m := by omega
      have e1 : (t == m) = false := by rw [beq_eq_false_iff_ne]; omega
      have e2 : (t == m - b) = true := by rw [beq_iff_eq]; omega
      have hz : (t == 0) = false := by rw [beq_eq_false_iff_ne]; exact hm2
      have hs3 := HSQ.out hz
      clear hm1 hm2 hm3
      by_cases hmn : a = -9223372036854775808
      · have hmn1 : (a == -9223372036854775808) = true := by rw [beq_iff_eq]; exact hmn
        have hmn2 := HMN.out (decide_eq_true hmn)
        clear hmn h0
        go_enter Tryz.func5, Tryz.ntmps5
        go_wp2_with fail
        refine HB.out.mono ?_
        rintro e w1 ⟨rfl, hx1⟩
        have X1 := hid hx1
        clear hx1
        go_wp2_with fail
        refine (lw2 ⟨#[110, 117, 109, 46, 113, 117, 111]⟩ a b _ (cameV (q)) _ (HM.out.later (X1.out.trans (Ext.alloc _ _))) (blk0 _ _) (.inl ⟨_, rfl⟩) (fun w1 a' c h1 h2 => HQU.out w1 a' c h1 h2)).mono ?_
        rintro e w2 ⟨rfl, hx2⟩
        rw [lawV_came]
        have X2 := hid (X1.out.trans ((Ext.alloc _ _).trans hx2))
        clear hx2
        go_wp2_with fail
        refine (lw2 ⟨#[110, 117, 109, 46, 109, 111, 100]⟩ a b _ (cameV (m)) _ (HM.out.later (X2.out.trans (Ext.alloc _ _))) (blk0 _ _) (.inl ⟨_, rfl⟩) (fun w1 a' c h1 h2 => HMO.out w1 a' c h1 h2)).mono ?_
        rintro e w3 ⟨rfl, hx3⟩
        rw [lawV_came]
        have X3 := hid (X2.out.trans ((Ext.alloc _ _).trans hx3))
        clear hx3
        go_wp2_with fail
        refine (lw2 ⟨#[110, 117, 109, 46, 97, 100, 100]⟩ a b _ (cameV (a + b)) _ (HM.out.later (X3.out.trans (Ext.alloc _ _))) (blk0 _ _) (.inl ⟨_, rfl⟩) (fun w1 a' c h1 h2 => HAD.out w1 a' c h1 h2)).mono ?_
        rintro e w4 ⟨rfl, hx4⟩
        rw [lawV_came]
        have X4 := hid (X3.out.trans ((Ext.alloc _ _).trans hx4))
        clear hx4
        go_wp2_with fail
        refine (lw2 ⟨#[110, 117, 109, 46, 115, 117, 98]⟩ a b _ (cameV (a - b)) _ (HM.out.later (X4.out.trans (Ext.alloc _ _))) (blk0 _ _) (.inl ⟨_, rfl⟩) (fun w1 a' c h1 h2 => HSU.out w1 a' c h1 h2)).mono ?_
        rintro e w5 ⟨rfl, hx5⟩
        rw [lawV_came]
        have X5 := hid (X4.out.trans ((Ext.alloc _ _).trans hx5))
        clear hx5
        go_wp2_with fail
        refine (lw2 ⟨#[110, 117, 109, 46, 115, 117, 98]⟩ (a + b) b _ (cameV a) _ (HM.out.later (X5.out.trans (Ext.alloc _ _))) (blk0 _ _) (.inl ⟨_, rfl⟩) (fun w1 a' c h1 h2 => HS2.out w1 a' c h1 h2)).mono ?_
        rintro e w6 ⟨rfl, hx6⟩
        rw [lawV_came]
        have X6 := hid (X5.out.trans ((Ext.alloc _ _).trans hx6))
        clear hx6
        go_wp2_with fail
        refine (lw2 ⟨#[110, 117, 109, 46, 97, 100, 100]⟩ (a - b) b _ (cameV a) _ (HM.out.later (X6.out.trans (Ext.alloc _ _))) (blk0 _ _) (.inl ⟨_, rfl⟩) (fun w1 a' c h1 h2 => HA2.out w1 a' c h1 h2)).mono ?_
        rintro e w7 ⟨rfl, hx7⟩
        rw [lawV_came]
        have X7 := hid (X6.out.trans ((Ext.alloc _ _).trans hx7))
        clear hx7
        go_wp2_with fail
        all_goals
          go_ret
          exact ⟨by first | rfl | (apply ret_bool; simp; done) | (apply ret_bool; simp; omega), X7.out⟩
      · have hmn1 : (a == -9223372036854775808) = false := by rw [beq_eq_false_iff_ne]; exact hmn
        clear hmn h0
        go_enter Tryz.func5, Tryz.ntmps5
        go_wp2_with fail
        refine HB.out.mono ?_
        rintro e w1 ⟨rfl, hx1⟩
        have X1 := hid hx1
        clear hx1
        go_wp2_with fail
        refine (lw2 ⟨#[110, 117, 109, 46, 113, 117, 111]⟩ a b _ (cameV (q)) _ (HM.out.later (X1.out.trans (Ext.alloc _ _))) (blk0 _ _) (.inl ⟨_, rfl⟩) (fun w1 a' c h1 h2 => HQU.out w1 a' c h1 h2)).mono ?_
        rintro e w2 ⟨rfl, hx2⟩
        rw [lawV_came]
        have X2 := hid (X1.out.trans ((Ext.alloc _ _).trans hx2))
        clear hx2
        go_wp2_with fail
        refine (lw2 ⟨#[110, 117, 109, 46, 109, 111, 100]⟩ a b _ (cameV (m)) _ (HM.out.later (X2.out.trans (Ext.alloc _ _))) (blk0 _ _) (.inl ⟨_, rfl⟩) (fun w1 a' c h1 h2 => HMO.out w1 a' c h1 h2)).mono ?_
        rintro e w3 ⟨rfl, hx3⟩
        rw [lawV_came]
        have X3 := hid (X2.out.trans ((Ext.alloc _ _).trans hx3))
        clear hx3
        go_wp2_with fail
        refine (lw2 ⟨#[110, 117, 109, 46, 97, 100, 100]⟩ a b _ (cameV (a + b)) _ (HM.out.later (X3.out.trans (Ext.alloc _ _))) (blk0 _ _) (.inl ⟨_, rfl⟩) (fun w1 a' c h1 h2 => HAD.out w1 a' c h1 h2)).mono ?_
        rintro e w4 ⟨rfl, hx4⟩
        rw [lawV_came]
        have X4 := hid (X3.out.trans ((Ext.alloc _ _).trans hx4))
        clear hx4
        go_wp2_with fail
        refine (lw2 ⟨#[110, 117, 109, 46, 115, 117, 98]⟩ a b _ (cameV (a - b)) _ (HM.out.later (X4.out.trans (Ext.alloc _ _))) (blk0 _ _) (.inl ⟨_, rfl⟩) (fun w1 a' c h1 h2 => HSU.out w1 a' c h1 h2)).mono ?_
        rintro e w5 ⟨rfl, hx5⟩
        rw [lawV_came]
        have X5 := hid (X4.out.trans ((Ext.alloc _ _).trans hx5))
        clear hx5
        go_wp2_with fail
        refine (lw2 ⟨#[110, 117, 109, 46, 115, 117, 98]⟩ (a + b) b _ (cameV a) _ (HM.out.later (X5.out.trans (Ext.alloc _ _))) (blk0 _ _) (.inl ⟨_, rfl⟩) (fun w1 a' c h1 h2 => HS2.out w1 a' c h1 h2)).mono ?_
        rintro e w6 ⟨rfl, hx6⟩
        rw [lawV_came]
        have X6 := hid (X5.out.trans ((Ext.alloc _ _).trans hx6))
        clear hx6
        go_wp2_with fail
        refine (lw2 ⟨#[110, 117, 109, 46, 97, 100, 100]⟩ (a - b) b _ (cameV a) _ (HM.out.later (X6.out.trans (Ext.alloc _ _))) (blk0 _ _) (.inl ⟨_, rfl⟩) (fun w1 a' c h1 h2 => HA2.out w1 a' c h1 h2)).mono ?_
        rintro e w7 ⟨rfl, hx7⟩
        rw [lawV_came]
        have X7 := hid (X6.out.trans ((Ext.alloc _ _).trans hx7))
        clear hx7
        go_wp2_with fail
        all_goals
          go_ret
          exact ⟨by first | rfl | (apply ret_bool; simp; done) | (apply ret_bool; simp; omega), X7.out⟩
end Go.Proofs.YtnokajfhjmahpaaGreatDoor
