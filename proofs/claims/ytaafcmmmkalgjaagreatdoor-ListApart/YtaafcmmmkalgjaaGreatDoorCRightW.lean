/-
  part.Right by a contract: the walk.
-/
import Derived.Test.YtaafcmmmkalgjaaGreatDoorCRight
namespace Go.Proofs.YtaafcmmmkalgjaaGreatDoor
open Go.RowKit
theorem cutE (s sep : ByteArray) (p : List UInt8) (hp : sep.data.toList = p) (hb : s.size ≤ 4000) (P1 P2 : ByteArray) (B : Bool) (h1 : (⟨(Lib.cut s.data.toList p).1.toArray⟩ : ByteArray) = P1) (h2 : (⟨(Lib.cut s.data.toList p).2.1.toArray⟩ : ByteArray) = P2) (h3 : (Lib.cut s.data.toList p).2.2 = B) (w : World) (hm : MaxAt w) : Calls Tryz.prog 101 #[.string s, .string sep] w fun e w' => e = .returned (.tuple #[.string P1, .string P2, .bool B]) ∧ Ext w w' := by
  subst h1 h2 h3
  exact cutB s sep _ p rfl hp hb w hm
theorem arr_list (l : List UInt8) {P : ByteArray} (h : (⟨l.toArray⟩ : ByteArray) = P) : P.data.toList = l ∧ P.size = l.length := by subst h; simp [ByteArray.size]
theorem cut_small (s : ByteArray) (p : List UInt8) {P1 P2 : ByteArray} (hb : s.size ≤ 4000) (h1 : (⟨(Lib.cut s.data.toList p).1.toArray⟩ : ByteArray) = P1) (h2 : (⟨(Lib.cut s.data.toList p).2.1.toArray⟩ : ByteArray) = P2) : P1.size ≤ 4000 ∧ P2.size ≤ 4000 := by
  have e1 := (arr_list _ h1).2
  have e2 := (arr_list _ h2).2
  have e3 := cut_len1 s.data.toList p
  have e4 := cut_len2 s.data.toList p
  have e5 : s.data.toList.length = s.size := by rw [Array.length_toList]; rfl
  omega

set_option maxRecDepth 100000 in
set_option maxHeartbeats 4000000 in
theorem right_any (s : ByteArray) (g : Nat) (ks : List Int) (w : World) (hs : s.size ≤ 4000) (hn : ks.length ≤ 100000000) (hm : MaxAt w) (hv : VRow w g ks) : Calls Tryz.prog 83 #[.string s, .slice (some ⟨g, 0, none⟩) ks.length ks.length] w fun e w' => e = .returned (.bool (rightB s.data.toList ks)) ∧ Ext w w' := by
  obtain ⟨n, hne⟩ : ∃ n, ks.length = n := ⟨_, rfl⟩
  have HNE := hid hne
  have HMX := hid hm
  have HV := hid hv
  rw [hne] at hn ⊢
  obtain ⟨C1, hC1⟩ : ∃ P, (⟨(Lib.cut s.data.toList [32, 62, 32]).1.toArray⟩ : ByteArray) = P := ⟨_, rfl⟩
  obtain ⟨C2, hC2⟩ : ∃ P, (⟨(Lib.cut s.data.toList [32, 62, 32]).2.1.toArray⟩ : ByteArray) = P := ⟨_, rfl⟩
  obtain ⟨C3, hC3⟩ : ∃ b, (Lib.cut s.data.toList [32, 62, 32]).2.2 = b := ⟨_, rfl⟩
  have hCs := cut_small s _ hs hC1 hC2
  obtain ⟨D1, hD1⟩ : ∃ P, (⟨(Lib.trimSuffix C1.data.toList [32, 46, 46]).toArray⟩ : ByteArray) = P := ⟨_, rfl⟩
  obtain ⟨D2, hD2⟩ : ∃ b, Lib.hasSuffix C1.data.toList [32, 46, 46] = b := ⟨_, rfl⟩
  have hDs : D1.size ≤ 4000 := by
    have e1 := (arr_list _ hD1).2
    have e2 := trim_len C1.data.toList [32, 46, 46]
    have e3 : C1.data.toList.length = C1.size := by rw [Array.length_toList]; rfl
    omega
  obtain ⟨E1, hE1⟩ : ∃ P, (⟨(Lib.cut D1.data.toList [44, 32]).1.toArray⟩ : ByteArray) = P := ⟨_, rfl⟩
  obtain ⟨E2, hE2⟩ : ∃ P, (⟨(Lib.cut D1.data.toList [44, 32]).2.1.toArray⟩ : ByteArray) = P := ⟨_, rfl⟩
  obtain ⟨E3, hE3⟩ : ∃ b, (Lib.cut D1.data.toList [44, 32]).2.2 = b := ⟨_, rfl⟩
  have hEs := cut_small D1 _ hDs hE1 hE2
  have HR := hid (show rightB s.data.toList ks = rightGo D2 true E1.data.toList E2.data.toList E3 ks by
    unfold rightB insOf restOf
    rw [(arr_list _ hE1).1, (arr_list _ hE2).1, ← hE3, ← hD2, (arr_list _ hD1).1, (arr_list _ hC1).1])
  have HC := hid (fun w1 h => cutE s ⟨#[32, 62, 32]⟩ [32, 62, 32] rfl hs C1 C2 C3 hC1 hC2 hC3 w1 h)
  have HD := hid (fun w1 => sufB C1 ⟨#[32, 46, 46]⟩ _ [32, 46, 46] rfl rfl hCs.1 w1)
  rw [hD1, hD2] at HD
  have HE := hid (fun w1 h => cutE D1 ⟨#[44, 32]⟩ [44, 32] rfl hDs E1 E2 E3 hE1 hE2 hE3 w1 h)
  have HES := hid hEs
  have hE1' : E1.size ≤ 4000 := hEs.1
  clear hC1 hC2 hC3 hD1 hD2 hE1 hE2 hE3 hCs hEs hDs hm hv hne
  go_enter Tryz.func83, Tryz.ntmps83
  go_wp2_with fail
  refine (HC.out _ HMX.out).mono ?_
  rintro e w1 ⟨rfl, hx1⟩
  have X1 := hid hx1
  clear hx1
  go_wp2_with fail
  refine (HD.out _).mono ?_
  rintro e w2 ⟨rfl, rfl⟩
  go_wp2_with fail
  refine (HE.out _ (HMX.out.later X1.out)).mono ?_
  rintro e w2 ⟨rfl, hx2⟩
  have X2 := hid (X1.out.trans hx2)
  clear hx2
  go_wp2_with fail
  go_loopw [5, 9, 10, 35] (fun q5 q9 q10 q35 wr => ∃ (j : Nat) (I J : ByteArray) (more : Bool), j ≤ n ∧ q35 = .int .i64 j ∧ q9 = .string I ∧ q5 = .string J ∧ q10 = .bool more ∧ I.size ≤ 4000 ∧ J.size ≤ 4000 ∧ rightB s.data.toList ks = rightGo D2 (decide (j = 0)) I.data.toList J.data.toList more (ks.drop j) ∧ Ext w wr) (fun _ _ _ q35 _ => n - (intOf q35).toNat)
  case atStart => exact ⟨0, E1, E2, E3, Nat.zero_le _, rfl, rfl, rfl, rfl, HES.out.1, HES.out.2, HR.out, X2.out⟩
  case round =>
    obtain ⟨j, I, J, more, hj, rfl, rfl, rfl, rfl, hI, hJ, hrec, hx⟩ := hrel
    have XC := hid hx
    have HI := hid hI
    have HJ := hid hJ
    have HRC := hid hrec
    clear hx hI hJ hrec
    by_cases hlt : j < n
    · have hlt' : (j : Int) < n := by omega
      have hjk : j < ks.length := by rw [HNE.out]; exact hlt
      obtain ⟨K, d, v, t, hcell, hvr, hkd⟩ := HV.out.later XC.out j hjk
      have HFV := hid hvr.five
      rw [hkd] at HFV
      have HDR := hid (List.drop_eq_getElem_cons hjk)
      generalize ks[j] = k at *
      clear hvr hkd hjk
      have HRC2 := hid (HRC.out.trans (by rw [HDR.out]))
      obtain ⟨τ, p, hvi⟩ : ∃ τ p, v = .iface τ p := by rcases HFV.out with ⟨_, rfl⟩ | ⟨_, b, rfl⟩ | ⟨_, n, rfl⟩ | ⟨_, x, rfl⟩ | ⟨_, a, l, c, rfl⟩ <;> exact ⟨_, _, rfl⟩
      subst hvi
      by_cases hj0 : j = 0
      · subst hj0
        have HG := hid (show rightB s.data.toList ks = (nameOk I.data.toList k && rightGo D2 false I.data.toList J.data.toList more (ks.drop (0 + 1))) by rw [HRC2.out]; exact rightGo_first)
        go_wp2_with fail
        obtain ⟨P, hP⟩ : ∃ P, (⟨(Lib.cut I.data.toList [32]).1.toArray⟩ : ByteArray) = P := ⟨_, rfl⟩
        obtain ⟨P2, hP2⟩ : ∃ P, (⟨(Lib.cut I.data.toList [32]).2.1.toArray⟩ : ByteArray) = P := ⟨_, rfl⟩
        obtain ⟨B2, hB2⟩ : ∃ b, (Lib.cut I.data.toList [32]).2.2 = b := ⟨_, rfl⟩
        refine (cutE I ⟨#[32]⟩ [32] rfl HI.out P P2 B2 hP hP2 hB2 _ (HMX.out.later XC.out)).mono ?_
        rintro e w3 ⟨rfl, hx3⟩
        have XD := hid (XC.out.trans hx3)
        have HPL := hid (arr_list _ hP).1
        have HPS := hid (show P.size = (Lib.cut I.data.toList [32]).1.length from (arr_list _ hP).2)
        clear hP hP2 hB2 hx3
        by_cases hlen : 1 < P.size
        · have hlen' : (1 : Int) < P.size := by omega
          rcases HFV.out with ⟨hk, hvv⟩ | ⟨hk, bb, hvv⟩ | ⟨hk, nn, hvv⟩ | ⟨hk, xx, hvv⟩ | ⟨hk, aa, ll, cc, hvv⟩
          · obtain ⟨rfl, rfl⟩ := Value.iface.inj hvv
            have hse := bytes_eqb (Lib.cut I.data.toList [32]).1 (sortN 1)
            rw [← HPL.out, show (⟨P.data.toList.toArray⟩ : ByteArray) = P from data_inj (by simp)] at hse
            have HK := hid hk
            clear hk
            obtain ⟨SS, hSS⟩ : ∃ S : ByteArray, (⟨(sortN 1).toArray⟩ : ByteArray) = S := ⟨_, rfl⟩
            rw [hSS] at hse
            have HS := hid hSS
            clear hSS
            by_cases hq : P.data.toList = sortN 1
            · rw [decide_eq_true hq] at hse
              have hse2 : (P.toList != SS.toList) = false := by unfold bne; rw [hse]; rfl
              have HN := hid (nameOk_same (inn := I.data.toList) (k := 1) (by rw [← HPL.out]; exact hq))
              clear hq
              go_wp2_with fail
              refine (sort_un _).mono ?_
              rintro e w4 ⟨rfl, hx4⟩
              rw [HS.out]
              have XE := hid (XD.out.trans hx4)
              clear hx4
              go_wp2_with fail
              go_roundw
              case rel => exact ⟨0 + 1, I, J, more, by omega, by go_num, rfl, rfl, rfl, HI.out, HJ.out, by rw [HG.out, HK.out, HN.out, Bool.true_and, decide_eq_false (Nat.succ_ne_zero 0)], XE.out⟩
              case measure => simp [intOf]; omega
            · rw [decide_eq_false hq] at hse
              have hse2 : (P.toList != SS.toList) = true := by unfold bne; rw [hse]; rfl
              have HN := hid (nameOk_other (inn := I.data.toList) (k := 1) (by rw [← HPS.out]; exact hlen) (by rw [← HPL.out]; exact hq))
              clear hq
              go_wp2_with fail
              refine (sort_un _).mono ?_
              rintro e w4 ⟨rfl, hx4⟩
              rw [HS.out]
              have XE := hid (XD.out.trans hx4)
              clear hx4
              go_wp2_with fail
              go_ret
              exact ⟨ret_bool (by rw [HG.out, HK.out, HN.out, Bool.false_and]), XE.out⟩
          · obtain ⟨rfl, rfl⟩ := Value.iface.inj hvv
            have hse := bytes_eqb (Lib.cut I.data.toList [32]).1 (sortN 2)
            rw [← HPL.out, show (⟨P.data.toList.toArray⟩ : ByteArray) = P from data_inj (by simp)] at hse
            have HK := hid hk
            clear hk
            obtain ⟨SS, hSS⟩ : ∃ S : ByteArray, (⟨(sortN 2).toArray⟩ : ByteArray) = S := ⟨_, rfl⟩
            rw [hSS] at hse
            have HS := hid hSS
            clear hSS
            by_cases hq : P.data.toList = sortN 2
            · rw [decide_eq_true hq] at hse
              have hse2 : (P.toList != SS.toList) = false := by unfold bne; rw [hse]; rfl
              have HN := hid (nameOk_same (inn := I.data.toList) (k := 2) (by rw [← HPL.out]; exact hq))
              clear hq
              go_wp2_with fail
              refine (sort_tu _ _).mono ?_
              rintro e w4 ⟨rfl, hx4⟩
              rw [HS.out]
              have XE := hid (XD.out.trans hx4)
              clear hx4
              go_wp2_with fail
              go_roundw
              case rel => exact ⟨0 + 1, I, J, more, by omega, by go_num, rfl, rfl, rfl, HI.out, HJ.out, by rw [HG.out, HK.out, HN.out, Bool.true_and, decide_eq_false (Nat.succ_ne_zero 0)], XE.out⟩
              case measure => simp [intOf]; omega
            · rw [decide_eq_false hq] at hse
              have hse2 : (P.toList != SS.toList) = true := by unfold bne; rw [hse]; rfl
              have HN := hid (nameOk_other (inn := I.data.toList) (k := 2) (by rw [← HPS.out]; exact hlen) (by rw [← HPL.out]; exact hq))
              clear hq
              go_wp2_with fail
              refine (sort_tu _ _).mono ?_
              rintro e w4 ⟨rfl, hx4⟩
              rw [HS.out]
              have XE := hid (XD.out.trans hx4)
              clear hx4
              go_wp2_with fail
              go_ret
              exact ⟨ret_bool (by rw [HG.out, HK.out, HN.out, Bool.false_and]), XE.out⟩
          · obtain ⟨rfl, rfl⟩ := Value.iface.inj hvv
            have hse := bytes_eqb (Lib.cut I.data.toList [32]).1 (sortN 3)
            rw [← HPL.out, show (⟨P.data.toList.toArray⟩ : ByteArray) = P from data_inj (by simp)] at hse
            have HK := hid hk
            clear hk
            obtain ⟨SS, hSS⟩ : ∃ S : ByteArray, (⟨(sortN 3).toArray⟩ : ByteArray) = S := ⟨_, rfl⟩
            rw [hSS] at hse
            have HS := hid hSS
            clear hSS
            by_cases hq : P.data.toList = sortN 3
            · rw [decide_eq_true hq] at hse
              have hse2 : (P.toList != SS.toList) = false := by unfold bne; rw [hse]; rfl
              have HN := hid (nameOk_same (inn := I.data.toList) (k := 3) (by rw [← HPL.out]; exact hq))
              clear hq
              go_wp2_with fail
              refine (sort_in _ _).mono ?_
              rintro e w4 ⟨rfl, hx4⟩
              rw [HS.out]
              have XE := hid (XD.out.trans hx4)
              clear hx4
              go_wp2_with fail
              go_roundw
              case rel => exact ⟨0 + 1, I, J, more, by omega, by go_num, rfl, rfl, rfl, HI.out, HJ.out, by rw [HG.out, HK.out, HN.out, Bool.true_and, decide_eq_false (Nat.succ_ne_zero 0)], XE.out⟩
              case measure => simp [intOf]; omega
            · rw [decide_eq_false hq] at hse
              have hse2 : (P.toList != SS.toList) = true := by unfold bne; rw [hse]; rfl
              have HN := hid (nameOk_other (inn := I.data.toList) (k := 3) (by rw [← HPS.out]; exact hlen) (by rw [← HPL.out]; exact hq))
              clear hq
              go_wp2_with fail
              refine (sort_in _ _).mono ?_
              rintro e w4 ⟨rfl, hx4⟩
              rw [HS.out]
              have XE := hid (XD.out.trans hx4)
              clear hx4
              go_wp2_with fail
              go_ret
              exact ⟨ret_bool (by rw [HG.out, HK.out, HN.out, Bool.false_and]), XE.out⟩
          · obtain ⟨rfl, rfl⟩ := Value.iface.inj hvv
            have hse := bytes_eqb (Lib.cut I.data.toList [32]).1 (sortN 4)
            rw [← HPL.out, show (⟨P.data.toList.toArray⟩ : ByteArray) = P from data_inj (by simp)] at hse
            have HK := hid hk
            clear hk
            obtain ⟨SS, hSS⟩ : ∃ S : ByteArray, (⟨(sortN 4).toArray⟩ : ByteArray) = S := ⟨_, rfl⟩
            rw [hSS] at hse
            have HS := hid hSS
            clear hSS
            by_cases hq : P.data.toList = sortN 4
            · rw [decide_eq_true hq] at hse
              have hse2 : (P.toList != SS.toList) = false := by unfold bne; rw [hse]; rfl
              have HN := hid (nameOk_same (inn := I.data.toList) (k := 4) (by rw [← HPL.out]; exact hq))
              clear hq
              go_wp2_with fail
              refine (sort_tx _ _).mono ?_
              rintro e w4 ⟨rfl, hx4⟩
              rw [HS.out]
              have XE := hid (XD.out.trans hx4)
              clear hx4
              go_wp2_with fail
              go_roundw
              case rel => exact ⟨0 + 1, I, J, more, by omega, by go_num, rfl, rfl, rfl, HI.out, HJ.out, by rw [HG.out, HK.out, HN.out, Bool.true_and, decide_eq_false (Nat.succ_ne_zero 0)], XE.out⟩
              case measure => simp [intOf]; omega
            · rw [decide_eq_false hq] at hse
              have hse2 : (P.toList != SS.toList) = true := by unfold bne; rw [hse]; rfl
              have HN := hid (nameOk_other (inn := I.data.toList) (k := 4) (by rw [← HPS.out]; exact hlen) (by rw [← HPL.out]; exact hq))
              clear hq
              go_wp2_with fail
              refine (sort_tx _ _).mono ?_
              rintro e w4 ⟨rfl, hx4⟩
              rw [HS.out]
              have XE := hid (XD.out.trans hx4)
              clear hx4
              go_wp2_with fail
              go_ret
              exact ⟨ret_bool (by rw [HG.out, HK.out, HN.out, Bool.false_and]), XE.out⟩
          · obtain ⟨rfl, rfl⟩ := Value.iface.inj hvv
            have hse := bytes_eqb (Lib.cut I.data.toList [32]).1 (sortN 5)
            rw [← HPL.out, show (⟨P.data.toList.toArray⟩ : ByteArray) = P from data_inj (by simp)] at hse
            have HK := hid hk
            clear hk
            obtain ⟨SS, hSS⟩ : ∃ S : ByteArray, (⟨(sortN 5).toArray⟩ : ByteArray) = S := ⟨_, rfl⟩
            rw [hSS] at hse
            have HS := hid hSS
            clear hSS
            by_cases hq : P.data.toList = sortN 5
            · rw [decide_eq_true hq] at hse
              have hse2 : (P.toList != SS.toList) = false := by unfold bne; rw [hse]; rfl
              have HN := hid (nameOk_same (inn := I.data.toList) (k := 5) (by rw [← HPL.out]; exact hq))
              clear hq
              go_wp2_with fail
              refine (sort_li _ _ _ _).mono ?_
              rintro e w4 ⟨rfl, hx4⟩
              rw [HS.out]
              have XE := hid (XD.out.trans hx4)
              clear hx4
              go_wp2_with fail
              go_roundw
              case rel => exact ⟨0 + 1, I, J, more, by omega, by go_num, rfl, rfl, rfl, HI.out, HJ.out, by rw [HG.out, HK.out, HN.out, Bool.true_and, decide_eq_false (Nat.succ_ne_zero 0)], XE.out⟩
              case measure => simp [intOf]; omega
            · rw [decide_eq_false hq] at hse
              have hse2 : (P.toList != SS.toList) = true := by unfold bne; rw [hse]; rfl
              have HN := hid (nameOk_other (inn := I.data.toList) (k := 5) (by rw [← HPS.out]; exact hlen) (by rw [← HPL.out]; exact hq))
              clear hq
              go_wp2_with fail
              refine (sort_li _ _ _ _).mono ?_
              rintro e w4 ⟨rfl, hx4⟩
              rw [HS.out]
              have XE := hid (XD.out.trans hx4)
              clear hx4
              go_wp2_with fail
              go_ret
              exact ⟨ret_bool (by rw [HG.out, HK.out, HN.out, Bool.false_and]), XE.out⟩
        · have hlen' : ¬ (1 : Int) < P.size := by omega
          have HN := hid (fun k => nameOk_short (inn := I.data.toList) (k := k) (by rw [← HPS.out]; exact hlen))
          go_wp2_with fail
          go_roundw
          case rel => exact ⟨0 + 1, I, J, more, by omega, by go_num, rfl, rfl, rfl, HI.out, HJ.out, by rw [HG.out, HN.out, Bool.true_and, decide_eq_false (Nat.succ_ne_zero 0)], XD.out⟩
          case measure => simp [intOf]; omega
      · have hj1 : (0 : Int) < j := by omega
        have hj2 : decide ((0 : Int) < j) = true := decide_eq_true hj1
        have HRC3 := hid HRC2.out
        rw [decide_eq_false hj0] at HRC3
        clear hj0
        cases more with
        | true =>
          obtain ⟨Q, hQ⟩ : ∃ P, (⟨(Lib.cut J.data.toList [44, 32]).1.toArray⟩ : ByteArray) = P := ⟨_, rfl⟩
          obtain ⟨Q2, hQ2⟩ : ∃ P, (⟨(Lib.cut J.data.toList [44, 32]).2.1.toArray⟩ : ByteArray) = P := ⟨_, rfl⟩
          obtain ⟨Q3, hQ3⟩ : ∃ b, (Lib.cut J.data.toList [44, 32]).2.2 = b := ⟨_, rfl⟩
          have HQS := hid (cut_small J _ HJ.out hQ hQ2)
          have HQ1 := hid HQS.out.1
          have HG := hid (show rightB s.data.toList ks = (nameOk Q.data.toList k && rightGo D2 false Q.data.toList Q2.data.toList Q3 (ks.drop (j + 1))) by
            rw [HRC3.out, rightGo_more, (arr_list _ hQ).1, (arr_list _ hQ2).1, ← hQ3])
          have HCQ := hid (fun w1 h => cutE J ⟨#[44, 32]⟩ [44, 32] rfl HJ.out Q Q2 Q3 hQ hQ2 hQ3 w1 h)
          clear hQ hQ2 hQ3
          go_wp2_with fail
          refine (HCQ.out _ (HMX.out.later XC.out)).mono ?_
          rintro e w2 ⟨rfl, hx2⟩
          replace XC := hid (XC.out.trans hx2)
          clear hx2
          go_wp2_with fail
          obtain ⟨P, hP⟩ : ∃ P, (⟨(Lib.cut Q.data.toList [32]).1.toArray⟩ : ByteArray) = P := ⟨_, rfl⟩
          obtain ⟨P2, hP2⟩ : ∃ P, (⟨(Lib.cut Q.data.toList [32]).2.1.toArray⟩ : ByteArray) = P := ⟨_, rfl⟩
          obtain ⟨B2, hB2⟩ : ∃ b, (Lib.cut Q.data.toList [32]).2.2 = b := ⟨_, rfl⟩
          refine (cutE Q ⟨#[32]⟩ [32] rfl HQ1.out P P2 B2 hP hP2 hB2 _ (HMX.out.later XC.out)).mono ?_
          rintro e w3 ⟨rfl, hx3⟩
          have XD := hid (XC.out.trans hx3)
          have HPL := hid (arr_list _ hP).1
          have HPS := hid (show P.size = (Lib.cut Q.data.toList [32]).1.length from (arr_list _ hP).2)
          clear hP hP2 hB2 hx3
          by_cases hlen : 1 < P.size
          · have hlen' : (1 : Int) < P.size := by omega
            rcases HFV.out with ⟨hk, hvv⟩ | ⟨hk, bb, hvv⟩ | ⟨hk, nn, hvv⟩ | ⟨hk, xx, hvv⟩ | ⟨hk, aa, ll, cc, hvv⟩
            · obtain ⟨rfl, rfl⟩ := Value.iface.inj hvv
              have hse := bytes_eqb (Lib.cut Q.data.toList [32]).1 (sortN 1)
              rw [← HPL.out, show (⟨P.data.toList.toArray⟩ : ByteArray) = P from data_inj (by simp)] at hse
              have HK := hid hk
              clear hk
              obtain ⟨SS, hSS⟩ : ∃ S : ByteArray, (⟨(sortN 1).toArray⟩ : ByteArray) = S := ⟨_, rfl⟩
              rw [hSS] at hse
              have HS := hid hSS
              clear hSS
              by_cases hq : P.data.toList = sortN 1
              · rw [decide_eq_true hq] at hse
                have hse2 : (P.toList != SS.toList) = false := by unfold bne; rw [hse]; rfl
                have HN := hid (nameOk_same (inn := Q.data.toList) (k := 1) (by rw [← HPL.out]; exact hq))
                clear hq
                go_wp2_with fail
                refine (sort_un _).mono ?_
                rintro e w4 ⟨rfl, hx4⟩
                rw [HS.out]
                have XE := hid (XD.out.trans hx4)
                clear hx4
                go_wp2_with fail
                go_roundw
                case rel => exact ⟨j + 1, Q, Q2, Q3, by omega, by go_num, rfl, rfl, rfl, HQ1.out, HQS.out.2, by rw [HG.out, HK.out, HN.out, Bool.true_and, decide_eq_false (Nat.succ_ne_zero j)], XE.out⟩
                case measure => simp [intOf]; omega
              · rw [decide_eq_false hq] at hse
                have hse2 : (P.toList != SS.toList) = true := by unfold bne; rw [hse]; rfl
                have HN := hid (nameOk_other (inn := Q.data.toList) (k := 1) (by rw [← HPS.out]; exact hlen) (by rw [← HPL.out]; exact hq))
                clear hq
                go_wp2_with fail
                refine (sort_un _).mono ?_
                rintro e w4 ⟨rfl, hx4⟩
                rw [HS.out]
                have XE := hid (XD.out.trans hx4)
                clear hx4
                go_wp2_with fail
                go_ret
                exact ⟨ret_bool (by rw [HG.out, HK.out, HN.out, Bool.false_and]), XE.out⟩
            · obtain ⟨rfl, rfl⟩ := Value.iface.inj hvv
              have hse := bytes_eqb (Lib.cut Q.data.toList [32]).1 (sortN 2)
              rw [← HPL.out, show (⟨P.data.toList.toArray⟩ : ByteArray) = P from data_inj (by simp)] at hse
              have HK := hid hk
              clear hk
              obtain ⟨SS, hSS⟩ : ∃ S : ByteArray, (⟨(sortN 2).toArray⟩ : ByteArray) = S := ⟨_, rfl⟩
              rw [hSS] at hse
              have HS := hid hSS
              clear hSS
              by_cases hq : P.data.toList = sortN 2
              · rw [decide_eq_true hq] at hse
                have hse2 : (P.toList != SS.toList) = false := by unfold bne; rw [hse]; rfl
                have HN := hid (nameOk_same (inn := Q.data.toList) (k := 2) (by rw [← HPL.out]; exact hq))
                clear hq
                go_wp2_with fail
                refine (sort_tu _ _).mono ?_
                rintro e w4 ⟨rfl, hx4⟩
                rw [HS.out]
                have XE := hid (XD.out.trans hx4)
                clear hx4
                go_wp2_with fail
                go_roundw
                case rel => exact ⟨j + 1, Q, Q2, Q3, by omega, by go_num, rfl, rfl, rfl, HQ1.out, HQS.out.2, by rw [HG.out, HK.out, HN.out, Bool.true_and, decide_eq_false (Nat.succ_ne_zero j)], XE.out⟩
                case measure => simp [intOf]; omega
              · rw [decide_eq_false hq] at hse
                have hse2 : (P.toList != SS.toList) = true := by unfold bne; rw [hse]; rfl
                have HN := hid (nameOk_other (inn := Q.data.toList) (k := 2) (by rw [← HPS.out]; exact hlen) (by rw [← HPL.out]; exact hq))
                clear hq
                go_wp2_with fail
                refine (sort_tu _ _).mono ?_
                rintro e w4 ⟨rfl, hx4⟩
                rw [HS.out]
                have XE := hid (XD.out.trans hx4)
                clear hx4
                go_wp2_with fail
                go_ret
                exact ⟨ret_bool (by rw [HG.out, HK.out, HN.out, Bool.false_and]), XE.out⟩
            · obtain ⟨rfl, rfl⟩ := Value.iface.inj hvv
              have hse := bytes_eqb (Lib.cut Q.data.toList [32]).1 (sortN 3)
              rw [← HPL.out, show (⟨P.data.toList.toArray⟩ : ByteArray) = P from data_inj (by simp)] at hse
              have HK := hid hk
              clear hk
              obtain ⟨SS, hSS⟩ : ∃ S : ByteArray, (⟨(sortN 3).toArray⟩ : ByteArray) = S := ⟨_, rfl⟩
              rw [hSS] at hse
              have HS := hid hSS
              clear hSS
              by_cases hq : P.data.toList = sortN 3
              · rw [decide_eq_true hq] at hse
                have hse2 : (P.toList != SS.toList) = false := by unfold bne; rw [hse]; rfl
                have HN := hid (nameOk_same (inn := Q.data.toList) (k := 3) (by rw [← HPL.out]; exact hq))
                clear hq
                go_wp2_with fail
                refine (sort_in _ _).mono ?_
                rintro e w4 ⟨rfl, hx4⟩
                rw [HS.out]
                have XE := hid (XD.out.trans hx4)
                clear hx4
                go_wp2_with fail
                go_roundw
                case rel => exact ⟨j + 1, Q, Q2, Q3, by omega, by go_num, rfl, rfl, rfl, HQ1.out, HQS.out.2, by rw [HG.out, HK.out, HN.out, Bool.true_and, decide_eq_false (Nat.succ_ne_zero j)], XE.out⟩
                case measure => simp [intOf]; omega
              · rw [decide_eq_false hq] at hse
                have hse2 : (P.toList != SS.toList) = true := by unfold bne; rw [hse]; rfl
                have HN := hid (nameOk_other (inn := Q.data.toList) (k := 3) (by rw [← HPS.out]; exact hlen) (by rw [← HPL.out]; exact hq))
                clear hq
                go_wp2_with fail
                refine (sort_in _ _).mono ?_
                rintro e w4 ⟨rfl, hx4⟩
                rw [HS.out]
                have XE := hid (XD.out.trans hx4)
                clear hx4
                go_wp2_with fail
                go_ret
                exact ⟨ret_bool (by rw [HG.out, HK.out, HN.out, Bool.false_and]), XE.out⟩
            · obtain ⟨rfl, rfl⟩ := Value.iface.inj hvv
              have hse := bytes_eqb (Lib.cut Q.data.toList [32]).1 (sortN 4)
              rw [← HPL.out, show (⟨P.data.toList.toArray⟩ : ByteArray) = P from data_inj (by simp)] at hse
              have HK := hid hk
              clear hk
              obtain ⟨SS, hSS⟩ : ∃ S : ByteArray, (⟨(sortN 4).toArray⟩ : ByteArray) = S := ⟨_, rfl⟩
              rw [hSS] at hse
              have HS := hid hSS
              clear hSS
              by_cases hq : P.data.toList = sortN 4
              · rw [decide_eq_true hq] at hse
                have hse2 : (P.toList != SS.toList) = false := by unfold bne; rw [hse]; rfl
                have HN := hid (nameOk_same (inn := Q.data.toList) (k := 4) (by rw [← HPL.out]; exact hq))
                clear hq
                go_wp2_with fail
                refine (sort_tx _ _).mono ?_
                rintro e w4 ⟨rfl, hx4⟩
                rw [HS.out]
                have XE := hid (XD.out.trans hx4)
                clear hx4
                go_wp2_with fail
                go_roundw
                case rel => exact ⟨j + 1, Q, Q2, Q3, by omega, by go_num, rfl, rfl, rfl, HQ1.out, HQS.out.2, by rw [HG.out, HK.out, HN.out, Bool.true_and, decide_eq_false (Nat.succ_ne_zero j)], XE.out⟩
                case measure => simp [intOf]; omega
              · rw [decide_eq_false hq] at hse
                have hse2 : (P.toList != SS.toList) = true := by unfold bne; rw [hse]; rfl
                have HN := hid (nameOk_other (inn := Q.data.toList) (k := 4) (by rw [← HPS.out]; exact hlen) (by rw [← HPL.out]; exact hq))
                clear hq
                go_wp2_with fail
                refine (sort_tx _ _).mono ?_
                rintro e w4 ⟨rfl, hx4⟩
                rw [HS.out]
                have XE := hid (XD.out.trans hx4)
                clear hx4
                go_wp2_with fail
                go_ret
                exact ⟨ret_bool (by rw [HG.out, HK.out, HN.out, Bool.false_and]), XE.out⟩
            · obtain ⟨rfl, rfl⟩ := Value.iface.inj hvv
              have hse := bytes_eqb (Lib.cut Q.data.toList [32]).1 (sortN 5)
              rw [← HPL.out, show (⟨P.data.toList.toArray⟩ : ByteArray) = P from data_inj (by simp)] at hse
              have HK := hid hk
              clear hk
              obtain ⟨SS, hSS⟩ : ∃ S : ByteArray, (⟨(sortN 5).toArray⟩ : ByteArray) = S := ⟨_, rfl⟩
              rw [hSS] at hse
              have HS := hid hSS
              clear hSS
              by_cases hq : P.data.toList = sortN 5
              · rw [decide_eq_true hq] at hse
                have hse2 : (P.toList != SS.toList) = false := by unfold bne; rw [hse]; rfl
                have HN := hid (nameOk_same (inn := Q.data.toList) (k := 5) (by rw [← HPL.out]; exact hq))
                clear hq
                go_wp2_with fail
                refine (sort_li _ _ _ _).mono ?_
                rintro e w4 ⟨rfl, hx4⟩
                rw [HS.out]
                have XE := hid (XD.out.trans hx4)
                clear hx4
                go_wp2_with fail
                go_roundw
                case rel => exact ⟨j + 1, Q, Q2, Q3, by omega, by go_num, rfl, rfl, rfl, HQ1.out, HQS.out.2, by rw [HG.out, HK.out, HN.out, Bool.true_and, decide_eq_false (Nat.succ_ne_zero j)], XE.out⟩
                case measure => simp [intOf]; omega
              · rw [decide_eq_false hq] at hse
                have hse2 : (P.toList != SS.toList) = true := by unfold bne; rw [hse]; rfl
                have HN := hid (nameOk_other (inn := Q.data.toList) (k := 5) (by rw [← HPS.out]; exact hlen) (by rw [← HPL.out]; exact hq))
                clear hq
                go_wp2_with fail
                refine (sort_li _ _ _ _).mono ?_
                rintro e w4 ⟨rfl, hx4⟩
                rw [HS.out]
                have XE := hid (XD.out.trans hx4)
                clear hx4
                go_wp2_with fail
                go_ret
                exact ⟨ret_bool (by rw [HG.out, HK.out, HN.out, Bool.false_and]), XE.out⟩
          · have hlen' : ¬ (1 : Int) < P.size := by omega
            have HN := hid (fun k => nameOk_short (inn := Q.data.toList) (k := k) (by rw [← HPS.out]; exact hlen))
            go_wp2_with fail
            go_roundw
            case rel => exact ⟨j + 1, Q, Q2, Q3, by omega, by go_num, rfl, rfl, rfl, HQ1.out, HQS.out.2, by rw [HG.out, HN.out, Bool.true_and, decide_eq_false (Nat.succ_ne_zero j)], XD.out⟩
            case measure => simp [intOf]; omega
        | false =>
          cases D2 with
          | true =>
            have HG := hid (show rightB s.data.toList ks = (nameOk I.data.toList k && rightGo true false I.data.toList J.data.toList false (ks.drop (j + 1))) by rw [HRC3.out]; exact rightGo_rest)
            go_wp2_with fail
            obtain ⟨P, hP⟩ : ∃ P, (⟨(Lib.cut I.data.toList [32]).1.toArray⟩ : ByteArray) = P := ⟨_, rfl⟩
            obtain ⟨P2, hP2⟩ : ∃ P, (⟨(Lib.cut I.data.toList [32]).2.1.toArray⟩ : ByteArray) = P := ⟨_, rfl⟩
            obtain ⟨B2, hB2⟩ : ∃ b, (Lib.cut I.data.toList [32]).2.2 = b := ⟨_, rfl⟩
            refine (cutE I ⟨#[32]⟩ [32] rfl HI.out P P2 B2 hP hP2 hB2 _ (HMX.out.later XC.out)).mono ?_
            rintro e w3 ⟨rfl, hx3⟩
            have XD := hid (XC.out.trans hx3)
            have HPL := hid (arr_list _ hP).1
            have HPS := hid (show P.size = (Lib.cut I.data.toList [32]).1.length from (arr_list _ hP).2)
            clear hP hP2 hB2 hx3
            by_cases hlen : 1 < P.size
            · have hlen' : (1 : Int) < P.size := by omega
              rcases HFV.out with ⟨hk, hvv⟩ | ⟨hk, bb, hvv⟩ | ⟨hk, nn, hvv⟩ | ⟨hk, xx, hvv⟩ | ⟨hk, aa, ll, cc, hvv⟩
              · obtain ⟨rfl, rfl⟩ := Value.iface.inj hvv
                have hse := bytes_eqb (Lib.cut I.data.toList [32]).1 (sortN 1)
                rw [← HPL.out, show (⟨P.data.toList.toArray⟩ : ByteArray) = P from data_inj (by simp)] at hse
                have HK := hid hk
                clear hk
                obtain ⟨SS, hSS⟩ : ∃ S : ByteArray, (⟨(sortN 1).toArray⟩ : ByteArray) = S := ⟨_, rfl⟩
                rw [hSS] at hse
                have HS := hid hSS
                clear hSS
                by_cases hq : P.data.toList = sortN 1
                · rw [decide_eq_true hq] at hse
                  have hse2 : (P.toList != SS.toList) = false := by unfold bne; rw [hse]; rfl
                  have HN := hid (nameOk_same (inn := I.data.toList) (k := 1) (by rw [← HPL.out]; exact hq))
                  clear hq
                  go_wp2_with fail
                  refine (sort_un _).mono ?_
                  rintro e w4 ⟨rfl, hx4⟩
                  rw [HS.out]
                  have XE := hid (XD.out.trans hx4)
                  clear hx4
                  go_wp2_with fail
                  go_roundw
                  case rel => exact ⟨j + 1, I, J, false, by omega, by go_num, rfl, rfl, rfl, HI.out, HJ.out, by rw [HG.out, HK.out, HN.out, Bool.true_and, decide_eq_false (Nat.succ_ne_zero j)], XE.out⟩
                  case measure => simp [intOf]; omega
                · rw [decide_eq_false hq] at hse
                  have hse2 : (P.toList != SS.toList) = true := by unfold bne; rw [hse]; rfl
                  have HN := hid (nameOk_other (inn := I.data.toList) (k := 1) (by rw [← HPS.out]; exact hlen) (by rw [← HPL.out]; exact hq))
                  clear hq
                  go_wp2_with fail
                  refine (sort_un _).mono ?_
                  rintro e w4 ⟨rfl, hx4⟩
                  rw [HS.out]
                  have XE := hid (XD.out.trans hx4)
                  clear hx4
                  go_wp2_with fail
                  go_ret
                  exact ⟨ret_bool (by rw [HG.out, HK.out, HN.out, Bool.false_and]), XE.out⟩
              · obtain ⟨rfl, rfl⟩ := Value.iface.inj hvv
                have hse := bytes_eqb (Lib.cut I.data.toList [32]).1 (sortN 2)
                rw [← HPL.out, show (⟨P.data.toList.toArray⟩ : ByteArray) = P from data_inj (by simp)] at hse
                have HK := hid hk
                clear hk
                obtain ⟨SS, hSS⟩ : ∃ S : ByteArray, (⟨(sortN 2).toArray⟩ : ByteArray) = S := ⟨_, rfl⟩
                rw [hSS] at hse
                have HS := hid hSS
                clear hSS
                by_cases hq : P.data.toList = sortN 2
                · rw [decide_eq_true hq] at hse
                  have hse2 : (P.toList != SS.toList) = false := by unfold bne; rw [hse]; rfl
                  have HN := hid (nameOk_same (inn := I.data.toList) (k := 2) (by rw [← HPL.out]; exact hq))
                  clear hq
                  go_wp2_with fail
                  refine (sort_tu _ _).mono ?_
                  rintro e w4 ⟨rfl, hx4⟩
                  rw [HS.out]
                  have XE := hid (XD.out.trans hx4)
                  clear hx4
                  go_wp2_with fail
                  go_roundw
                  case rel => exact ⟨j + 1, I, J, false, by omega, by go_num, rfl, rfl, rfl, HI.out, HJ.out, by rw [HG.out, HK.out, HN.out, Bool.true_and, decide_eq_false (Nat.succ_ne_zero j)], XE.out⟩
                  case measure => simp [intOf]; omega
                · rw [decide_eq_false hq] at hse
                  have hse2 : (P.toList != SS.toList) = true := by unfold bne; rw [hse]; rfl
                  have HN := hid (nameOk_other (inn := I.data.toList) (k := 2) (by rw [← HPS.out]; exact hlen) (by rw [← HPL.out]; exact hq))
                  clear hq
                  go_wp2_with fail
                  refine (sort_tu _ _).mono ?_
                  rintro e w4 ⟨rfl, hx4⟩
                  rw [HS.out]
                  have XE := hid (XD.out.trans hx4)
                  clear hx4
                  go_wp2_with fail
                  go_ret
                  exact ⟨ret_bool (by rw [HG.out, HK.out, HN.out, Bool.false_and]), XE.out⟩
              · obtain ⟨rfl, rfl⟩ := Value.iface.inj hvv
                have hse := bytes_eqb (Lib.cut I.data.toList [32]).1 (sortN 3)
                rw [← HPL.out, show (⟨P.data.toList.toArray⟩ : ByteArray) = P from data_inj (by simp)] at hse
                have HK := hid hk
                clear hk
                obtain ⟨SS, hSS⟩ : ∃ S : ByteArray, (⟨(sortN 3).toArray⟩ : ByteArray) = S := ⟨_, rfl⟩
                rw [hSS] at hse
                have HS := hid hSS
                clear hSS
                by_cases hq : P.data.toList = sortN 3
                · rw [decide_eq_true hq] at hse
                  have hse2 : (P.toList != SS.toList) = false := by unfold bne; rw [hse]; rfl
                  have HN := hid (nameOk_same (inn := I.data.toList) (k := 3) (by rw [← HPL.out]; exact hq))
                  clear hq
                  go_wp2_with fail
                  refine (sort_in _ _).mono ?_
                  rintro e w4 ⟨rfl, hx4⟩
                  rw [HS.out]
                  have XE := hid (XD.out.trans hx4)
                  clear hx4
                  go_wp2_with fail
                  go_roundw
                  case rel => exact ⟨j + 1, I, J, false, by omega, by go_num, rfl, rfl, rfl, HI.out, HJ.out, by rw [HG.out, HK.out, HN.out, Bool.true_and, decide_eq_false (Nat.succ_ne_zero j)], XE.out⟩
                  case measure => simp [intOf]; omega
                · rw [decide_eq_false hq] at hse
                  have hse2 : (P.toList != SS.toList) = true := by unfold bne; rw [hse]; rfl
                  have HN := hid (nameOk_other (inn := I.data.toList) (k := 3) (by rw [← HPS.out]; exact hlen) (by rw [← HPL.out]; exact hq))
                  clear hq
                  go_wp2_with fail
                  refine (sort_in _ _).mono ?_
                  rintro e w4 ⟨rfl, hx4⟩
                  rw [HS.out]
                  have XE := hid (XD.out.trans hx4)
                  clear hx4
                  go_wp2_with fail
                  go_ret
                  exact ⟨ret_bool (by rw [HG.out, HK.out, HN.out, Bool.false_and]), XE.out⟩
              · obtain ⟨rfl, rfl⟩ := Value.iface.inj hvv
                have hse := bytes_eqb (Lib.cut I.data.toList [32]).1 (sortN 4)
                rw [← HPL.out, show (⟨P.data.toList.toArray⟩ : ByteArray) = P from data_inj (by simp)] at hse
                have HK := hid hk
                clear hk
                obtain ⟨SS, hSS⟩ : ∃ S : ByteArray, (⟨(sortN 4).toArray⟩ : ByteArray) = S := ⟨_, rfl⟩
                rw [hSS] at hse
                have HS := hid hSS
                clear hSS
                by_cases hq : P.data.toList = sortN 4
                · rw [decide_eq_true hq] at hse
                  have hse2 : (P.toList != SS.toList) = false := by unfold bne; rw [hse]; rfl
                  have HN := hid (nameOk_same (inn := I.data.toList) (k := 4) (by rw [← HPL.out]; exact hq))
                  clear hq
                  go_wp2_with fail
                  refine (sort_tx _ _).mono ?_
                  rintro e w4 ⟨rfl, hx4⟩
                  rw [HS.out]
                  have XE := hid (XD.out.trans hx4)
                  clear hx4
                  go_wp2_with fail
                  go_roundw
                  case rel => exact ⟨j + 1, I, J, false, by omega, by go_num, rfl, rfl, rfl, HI.out, HJ.out, by rw [HG.out, HK.out, HN.out, Bool.true_and, decide_eq_false (Nat.succ_ne_zero j)], XE.out⟩
                  case measure => simp [intOf]; omega
                · rw [decide_eq_false hq] at hse
                  have hse2 : (P.toList != SS.toList) = true := by unfold bne; rw [hse]; rfl
                  have HN := hid (nameOk_other (inn := I.data.toList) (k := 4) (by rw [← HPS.out]; exact hlen) (by rw [← HPL.out]; exact hq))
                  clear hq
                  go_wp2_with fail
                  refine (sort_tx _ _).mono ?_
                  rintro e w4 ⟨rfl, hx4⟩
                  rw [HS.out]
                  have XE := hid (XD.out.trans hx4)
                  clear hx4
                  go_wp2_with fail
                  go_ret
                  exact ⟨ret_bool (by rw [HG.out, HK.out, HN.out, Bool.false_and]), XE.out⟩
              · obtain ⟨rfl, rfl⟩ := Value.iface.inj hvv
                have hse := bytes_eqb (Lib.cut I.data.toList [32]).1 (sortN 5)
                rw [← HPL.out, show (⟨P.data.toList.toArray⟩ : ByteArray) = P from data_inj (by simp)] at hse
                have HK := hid hk
                clear hk
                obtain ⟨SS, hSS⟩ : ∃ S : ByteArray, (⟨(sortN 5).toArray⟩ : ByteArray) = S := ⟨_, rfl⟩
                rw [hSS] at hse
                have HS := hid hSS
                clear hSS
                by_cases hq : P.data.toList = sortN 5
                · rw [decide_eq_true hq] at hse
                  have hse2 : (P.toList != SS.toList) = false := by unfold bne; rw [hse]; rfl
                  have HN := hid (nameOk_same (inn := I.data.toList) (k := 5) (by rw [← HPL.out]; exact hq))
                  clear hq
                  go_wp2_with fail
                  refine (sort_li _ _ _ _).mono ?_
                  rintro e w4 ⟨rfl, hx4⟩
                  rw [HS.out]
                  have XE := hid (XD.out.trans hx4)
                  clear hx4
                  go_wp2_with fail
                  go_roundw
                  case rel => exact ⟨j + 1, I, J, false, by omega, by go_num, rfl, rfl, rfl, HI.out, HJ.out, by rw [HG.out, HK.out, HN.out, Bool.true_and, decide_eq_false (Nat.succ_ne_zero j)], XE.out⟩
                  case measure => simp [intOf]; omega
                · rw [decide_eq_false hq] at hse
                  have hse2 : (P.toList != SS.toList) = true := by unfold bne; rw [hse]; rfl
                  have HN := hid (nameOk_other (inn := I.data.toList) (k := 5) (by rw [← HPS.out]; exact hlen) (by rw [← HPL.out]; exact hq))
                  clear hq
                  go_wp2_with fail
                  refine (sort_li _ _ _ _).mono ?_
                  rintro e w4 ⟨rfl, hx4⟩
                  rw [HS.out]
                  have XE := hid (XD.out.trans hx4)
                  clear hx4
                  go_wp2_with fail
                  go_ret
                  exact ⟨ret_bool (by rw [HG.out, HK.out, HN.out, Bool.false_and]), XE.out⟩
            · have hlen' : ¬ (1 : Int) < P.size := by omega
              have HN := hid (fun k => nameOk_short (inn := I.data.toList) (k := k) (by rw [← HPS.out]; exact hlen))
              go_wp2_with fail
              go_roundw
              case rel => exact ⟨j + 1, I, J, false, by omega, by go_num, rfl, rfl, rfl, HI.out, HJ.out, by rw [HG.out, HN.out, Bool.true_and, decide_eq_false (Nat.succ_ne_zero j)], XD.out⟩
              case measure => simp [intOf]; omega
          | false =>
            have HG := hid (show rightB s.data.toList ks = false by rw [HRC3.out]; exact rightGo_none)
            go_wp2_with fail
            go_ret
            exact ⟨ret_bool (by rw [HG.out]), XC.out⟩
    · have hje : j = n := by omega
      have hlt2 : decide ((j : Int) < n) = false := decide_eq_false (by omega)
      have hlt3 : ¬ (j : Int) < n := by omega
      have HG := hid (show rightB s.data.toList ks = true by rw [HRC.out, List.drop_of_length_le (by have := HNE.out; omega)]; cases decide (j = 0) <;> rfl)
      clear hje
      go_wp2_with fail
      go_ret
      exact ⟨ret_bool (by rw [HG.out]), XC.out⟩

end Go.Proofs.YtaafcmmmkalgjaaGreatDoor
