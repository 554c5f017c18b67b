/-
  espalierlaw8.NumProducts: it tells true, where the signs are unlike and the product is a number.
-/
import Derived.Test.YtnokajfhjmahpaaGreatDoorNProH
namespace Go.Proofs.YtnokajfhjmahpaaGreatDoor
open Go.RowKit
set_option maxRecDepth 100000 in
set_option maxHeartbeats 8000000 in
theorem pro_ui (a b : Int) (n : Nat) (ha : inR a) (hb : inR b) (hn : n ≤ 255) (w : World) (hm : MaxAt w) (hl : Laid w) (hs : (a < 0) ≠ (b < 0)) (hin : inR (a * b)) : Calls Tryz.prog 6 #[.int .i64 a, .int .i64 b, .int .u8 n] w fun e w' => e = .returned (.bool true) ∧ Ext w w' := by
  obtain ⟨x, y, H, L, hf⟩ := proF a b
  have HM := hid hm
  have HA := hid ha
  have HB := hid (begun_any w hm hl)
  have HMU := hid (fun w1 a' c => wk_mul a b ha hb a' c w1)
  rw [show mulV a b = cameV (a * b) from if_pos hin] at HMU
  have HPW := hid (fun w1 a' c => wk_pow a n ha (by unfold inR; omega) a' c w1)
  have HSA := hid (fun w => lsize_any a w ha)
  have HSB := hid (fun w => lsize_any b w hb)
  have HM6 := hid (fun w => mul64_any x y H L (by have := hf.xe; unfold inR at ha; omega) (by have := hf.ye; unfold inR at hb; omega) (by have := hf.hl; have := hf.lt; omega) (by have := hf.hl; have := hf.lt; omega) w)
  have HSP := hid (fun w => lsize_any (a * b) w hin)
  generalize a * b = P at *
  obtain ⟨hx, hy, _, hhl, hlt, hab, hun, hli⟩ := hf
  rw [hx] at HSA
  rw [hy] at HSB
  have hP := hun hs
  obtain ⟨ha1, ha2⟩ := ha
  obtain ⟨hb1, hb2⟩ := hb
  have hs2 : (decide (a < 0) != decide (b < 0)) = true := by
    have h3 : (decide (a < 0) == decide (b < 0)) = false := by
      rw [beq_eq_false_iff_ne]
      intro e
      exact hs (by simpa using e)
    unfold bne; rw [h3]; rfl
  have hs3 : (decide (a < 0) == decide (b < 0)) = false := by
    rw [beq_eq_false_iff_ne]
    intro e
    exact hs (by simpa using e)
  have hn1 : (n : Int) ≤ 255 := by omega
  have hL1 : (L : Int) ≤ 18446744073709551615 := by omega
  clear hm hl hun hli hx hy
  have hH : H = 0 := by unfold inR at hin; rw [hab] at *; omega
  have hPL : P.natAbs = L := by rw [hab, hhl, hH]; omega
  rw [hPL] at HSP
  have hz1 : ((H : Int) != 0) = false := by rw [hH]; rfl
  have hz2 : ((H : Int) == 0) = true := by rw [hH]; rfl
  have hLm : (L : Int) ≤ 9223372036854775808 := by unfold inR at hin; omega
  have hP2 : P = -(L : Int) := by omega
  clear hP hab hhl hin hs hPL
  by_cases hP0 : P = 0
  · have hp1 : (P == 0) = true := by rw [beq_iff_eq]; exact hP0
    have hp2 : (P != 0) = false := by unfold bne; rw [hp1]; rfl
    clear hH hP2 hP0
    go_enter Tryz.func6, Tryz.ntmps6
    go_wp2_with fail
    refine HB.out.mono ?_
    rintro e w1 ⟨rfl, hx1⟩
    have X1 := hid hx1
    clear hx1
    go_wp2_with fail
    refine (lw2 ⟨#[110, 117, 109, 46, 109, 117, 108]⟩ a b _ (cameV P) _ (HM.out.later (X1.out.trans (Ext.alloc _ _))) (blk0 _ _) (.inl ⟨_, rfl⟩) (fun w1 a' c h1 h2 => HMU.out w1 a' c h1 h2)).mono ?_
    rintro e w2 ⟨rfl, hx2⟩
    rw [lawV_came]
    have X2 := hid (X1.out.trans ((Ext.alloc _ _).trans hx2))
    clear hx2
    go_wp2_with fail
    refine (HSA.out _).mono ?_
    rintro e w3 ⟨rfl, rfl⟩
    go_wp2_with fail
    refine (HSB.out _).mono ?_
    rintro e w3 ⟨rfl, rfl⟩
    go_wp2_with fail
    refine (HM6.out _).mono ?_
    rintro e w3 ⟨rfl, rfl⟩
    go_wp2_with fail
    refine (HSP.out _).mono ?_
    rintro e w3 ⟨rfl, rfl⟩
    go_wp2_with fail
    go_loopw [12, 13, 14] (fun q12 q13 q14 wr => ∃ (i : Nat) (over : Bool) (want : Int), q14 = .int .i64 i ∧ q13 = .bool over ∧ q12 = .int .i64 want ∧ PowSt a n i over want ∧ Ext w wr) (fun _ _ q14 _ => n - (intOf q14).toNat)
    case atStart => exact ⟨0, false, 1, rfl, rfl, rfl, .inl ⟨rfl, by rw [Int.pow_zero], by rw [Int.pow_zero]; simp [inR], Nat.zero_le _⟩, X2.out⟩
    case round =>
      obtain ⟨i, over, want, rfl, rfl, rfl, hst, hx⟩ := hrel
      have HST := hid hst
      have HX := hid hx
      have hile : (i : Int) ≤ n := by have := hst.le; omega
      clear hst hx
      by_cases hlt : i < n
      · have hlt' : (i : Int) < n := by omega
        cases over with
        | false =>
          obtain ⟨hw1, hw2⟩ := HST.out.false_eq
          subst hw1
          have HLW := hid (fun w1 a' c => wk_mul (a ^ i) a hw2 HA.out a' c w1)
          by_cases hin : inR (a ^ i * a)
          · have HNX := hid (PowSt.in_step hlt hin)
            rw [show mulV (a ^ i) a = cameV (a ^ i * a) from if_pos hin] at HLW
            clear hw2 hin hlt HST
            generalize a ^ i * a = nx at *
            generalize a ^ i = cu at *
            go_wp2_with fail
            refine (lw2 ⟨#[110, 117, 109, 46, 109, 117, 108]⟩ cu a _ (cameV nx) _ (HM.out.later (HX.out.trans (Ext.alloc _ _))) (blk0 _ _) (.inl ⟨_, rfl⟩) (fun w1 a' c h1 h2 => HLW.out w1 a' c h1 h2)).mono ?_
            rintro e w5 ⟨rfl, hx5⟩
            rw [lawV_came]
            have X5 := hid (HX.out.trans ((Ext.alloc _ _).trans hx5))
            clear hx5
            go_wp2_with fail
            go_roundw
            case rel => exact ⟨i + 1, false, nx, by go_num, rfl, rfl, HNX.out, X5.out⟩
            case measure => simp [intOf]; omega
          · have HNX := hid (PowSt.out_step hlt hin)
            rw [show mulV (a ^ i) a = refV 21 from if_neg hin] at HLW
            clear hw2 hin hlt HST
            generalize a ^ i = cu at *
            go_wp2_with fail
            refine (lw2 ⟨#[110, 117, 109, 46, 109, 117, 108]⟩ cu a _ (refV 21) _ (HM.out.later (HX.out.trans (Ext.alloc _ _))) (blk0 _ _) (.inr ⟨21, by decide, rfl⟩) (fun w1 a' c h1 h2 => HLW.out w1 a' c h1 h2)).mono ?_
            rintro e w5 ⟨rfl, hx5⟩
            rw [lawV_ref]
            have X5 := hid (HX.out.trans ((Ext.alloc _ _).trans hx5))
            clear hx5
            go_wp2_with fail
            go_roundw
            case rel => exact ⟨i + 1, true, 0, by go_num, rfl, rfl, HNX.out, X5.out⟩
            case measure => simp [intOf]; omega
        | true =>
          have HPV := hid HST.out.end_out
          clear hlt
          go_wp2_with fail
          refine (lw2 ⟨#[110, 117, 109, 46, 112, 111, 119]⟩ a n _ (powV a n) _ (HM.out.later (HX.out.trans (Ext.alloc _ _))) (blk0 _ _) (powV_ires a n (by omega)) (fun w1 a' c h1 h2 => HPW.out w1 a' c h1 h2)).mono ?_
          rintro e w5 ⟨rfl, hx5⟩
          rw [HPV.out, lawV_ref]
          have X5 := hid (HX.out.trans ((Ext.alloc _ _).trans hx5))
          clear hx5
          go_wp2_with fail
          go_ret
          exact ⟨rfl, X5.out⟩
      · have hlt' : ¬ (i : Int) < n := by omega
        have hlt2 : decide ((i : Int) < n) = false := decide_eq_false hlt'
        cases over with
        | false =>
          have HPV := hid (HST.out.end_in hlt)
          clear hlt
          go_wp2_with fail
          refine (lw2 ⟨#[110, 117, 109, 46, 112, 111, 119]⟩ a n _ (powV a n) _ (HM.out.later (HX.out.trans (Ext.alloc _ _))) (blk0 _ _) (powV_ires a n (by omega)) (fun w1 a' c h1 h2 => HPW.out w1 a' c h1 h2)).mono ?_
          rintro e w5 ⟨rfl, hx5⟩
          rw [HPV.out, lawV_came]
          have X5 := hid (HX.out.trans ((Ext.alloc _ _).trans hx5))
          clear hx5
          go_wp2_with fail
          go_ret
          exact ⟨by first | rfl | (apply ret_bool; simp), X5.out⟩
        | true =>
          have HPV := hid HST.out.end_out
          clear hlt
          go_wp2_with fail
          refine (lw2 ⟨#[110, 117, 109, 46, 112, 111, 119]⟩ a n _ (powV a n) _ (HM.out.later (HX.out.trans (Ext.alloc _ _))) (blk0 _ _) (powV_ires a n (by omega)) (fun w1 a' c h1 h2 => HPW.out w1 a' c h1 h2)).mono ?_
          rintro e w5 ⟨rfl, hx5⟩
          rw [HPV.out, lawV_ref]
          have X5 := hid (HX.out.trans ((Ext.alloc _ _).trans hx5))
          clear hx5
          go_wp2_with fail
          go_ret
          exact ⟨rfl, X5.out⟩
  · have hp1 : (P == 0) = false := by rw [beq_eq_false_iff_ne]; exact hP0
    have hp2 : (P != 0) = true := by unfold bne; rw [hp1]; rfl
    have hp3 : decide (P < 0) = true := by simp; omega
    clear hH hP2 hP0
    go_enter Tryz.func6, Tryz.ntmps6
    go_wp2_with fail
    refine HB.out.mono ?_
    rintro e w1 ⟨rfl, hx1⟩
    have X1 := hid hx1
    clear hx1
    go_wp2_with fail
    refine (lw2 ⟨#[110, 117, 109, 46, 109, 117, 108]⟩ a b _ (cameV P) _ (HM.out.later (X1.out.trans (Ext.alloc _ _))) (blk0 _ _) (.inl ⟨_, rfl⟩) (fun w1 a' c h1 h2 => HMU.out w1 a' c h1 h2)).mono ?_
    rintro e w2 ⟨rfl, hx2⟩
    rw [lawV_came]
    have X2 := hid (X1.out.trans ((Ext.alloc _ _).trans hx2))
    clear hx2
    go_wp2_with fail
    refine (HSA.out _).mono ?_
    rintro e w3 ⟨rfl, rfl⟩
    go_wp2_with fail
    refine (HSB.out _).mono ?_
    rintro e w3 ⟨rfl, rfl⟩
    go_wp2_with fail
    refine (HM6.out _).mono ?_
    rintro e w3 ⟨rfl, rfl⟩
    go_wp2_with fail
    refine (HSP.out _).mono ?_
    rintro e w3 ⟨rfl, rfl⟩
    go_wp2_with fail
    go_loopw [12, 13, 14] (fun q12 q13 q14 wr => ∃ (i : Nat) (over : Bool) (want : Int), q14 = .int .i64 i ∧ q13 = .bool over ∧ q12 = .int .i64 want ∧ PowSt a n i over want ∧ Ext w wr) (fun _ _ q14 _ => n - (intOf q14).toNat)
    case atStart => exact ⟨0, false, 1, rfl, rfl, rfl, .inl ⟨rfl, by rw [Int.pow_zero], by rw [Int.pow_zero]; simp [inR], Nat.zero_le _⟩, X2.out⟩
    case round =>
      obtain ⟨i, over, want, rfl, rfl, rfl, hst, hx⟩ := hrel
      have HST := hid hst
      have HX := hid hx
      have hile : (i : Int) ≤ n := by have := hst.le; omega
      clear hst hx
      by_cases hlt : i < n
      · have hlt' : (i : Int) < n := by omega
        cases over with
        | false =>
          obtain ⟨hw1, hw2⟩ := HST.out.false_eq
          subst hw1
          have HLW := hid (fun w1 a' c => wk_mul (a ^ i) a hw2 HA.out a' c w1)
          by_cases hin : inR (a ^ i * a)
          · have HNX := hid (PowSt.in_step hlt hin)
            rw [show mulV (a ^ i) a = cameV (a ^ i * a) from if_pos hin] at HLW
            clear hw2 hin hlt HST
            generalize a ^ i * a = nx at *
            generalize a ^ i = cu at *
            go_wp2_with fail
            refine (lw2 ⟨#[110, 117, 109, 46, 109, 117, 108]⟩ cu a _ (cameV nx) _ (HM.out.later (HX.out.trans (Ext.alloc _ _))) (blk0 _ _) (.inl ⟨_, rfl⟩) (fun w1 a' c h1 h2 => HLW.out w1 a' c h1 h2)).mono ?_
            rintro e w5 ⟨rfl, hx5⟩
            rw [lawV_came]
            have X5 := hid (HX.out.trans ((Ext.alloc _ _).trans hx5))
            clear hx5
            go_wp2_with fail
            go_roundw
            case rel => exact ⟨i + 1, false, nx, by go_num, rfl, rfl, HNX.out, X5.out⟩
            case measure => simp [intOf]; omega
          · have HNX := hid (PowSt.out_step hlt hin)
            rw [show mulV (a ^ i) a = refV 21 from if_neg hin] at HLW
            clear hw2 hin hlt HST
            generalize a ^ i = cu at *
            go_wp2_with fail
            refine (lw2 ⟨#[110, 117, 109, 46, 109, 117, 108]⟩ cu a _ (refV 21) _ (HM.out.later (HX.out.trans (Ext.alloc _ _))) (blk0 _ _) (.inr ⟨21, by decide, rfl⟩) (fun w1 a' c h1 h2 => HLW.out w1 a' c h1 h2)).mono ?_
            rintro e w5 ⟨rfl, hx5⟩
            rw [lawV_ref]
            have X5 := hid (HX.out.trans ((Ext.alloc _ _).trans hx5))
            clear hx5
            go_wp2_with fail
            go_roundw
            case rel => exact ⟨i + 1, true, 0, by go_num, rfl, rfl, HNX.out, X5.out⟩
            case measure => simp [intOf]; omega
        | true =>
          have HPV := hid HST.out.end_out
          clear hlt
          go_wp2_with fail
          refine (lw2 ⟨#[110, 117, 109, 46, 112, 111, 119]⟩ a n _ (powV a n) _ (HM.out.later (HX.out.trans (Ext.alloc _ _))) (blk0 _ _) (powV_ires a n (by omega)) (fun w1 a' c h1 h2 => HPW.out w1 a' c h1 h2)).mono ?_
          rintro e w5 ⟨rfl, hx5⟩
          rw [HPV.out, lawV_ref]
          have X5 := hid (HX.out.trans ((Ext.alloc _ _).trans hx5))
          clear hx5
          go_wp2_with fail
          go_ret
          exact ⟨rfl, X5.out⟩
      · have hlt' : ¬ (i : Int) < n := by omega
        have hlt2 : decide ((i : Int) < n) = false := decide_eq_false hlt'
        cases over with
        | false =>
          have HPV := hid (HST.out.end_in hlt)
          clear hlt
          go_wp2_with fail
          refine (lw2 ⟨#[110, 117, 109, 46, 112, 111, 119]⟩ a n _ (powV a n) _ (HM.out.later (HX.out.trans (Ext.alloc _ _))) (blk0 _ _) (powV_ires a n (by omega)) (fun w1 a' c h1 h2 => HPW.out w1 a' c h1 h2)).mono ?_
          rintro e w5 ⟨rfl, hx5⟩
          rw [HPV.out, lawV_came]
          have X5 := hid (HX.out.trans ((Ext.alloc _ _).trans hx5))
          clear hx5
          go_wp2_with fail
          go_ret
          exact ⟨by first | rfl | (apply ret_bool; simp), X5.out⟩
        | true =>
          have HPV := hid HST.out.end_out
          clear hlt
          go_wp2_with fail
          refine (lw2 ⟨#[110, 117, 109, 46, 112, 111, 119]⟩ a n _ (powV a n) _ (HM.out.later (HX.out.trans (Ext.alloc _ _))) (blk0 _ _) (powV_ires a n (by omega)) (fun w1 a' c h1 h2 => HPW.out w1 a' c h1 h2)).mono ?_
          rintro e w5 ⟨rfl, hx5⟩
          rw [HPV.out, lawV_ref]
          have X5 := hid (HX.out.trans ((Ext.alloc _ _).trans hx5))
          clear hx5
          go_wp2_with fail
          go_ret
          exact ⟨rfl, X5.out⟩
end Go.Proofs.YtnokajfhjmahpaaGreatDoor
