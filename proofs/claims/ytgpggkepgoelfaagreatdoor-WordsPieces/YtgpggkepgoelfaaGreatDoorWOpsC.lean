/-
  rep and num of package words, each by a contract.
-/
import Derived.Test.YtgpggkepgoelfaaGreatDoorWOpsB
namespace Go.Proofs.YtgpggkepgoelfaaGreatDoor
open Go.RowKit
theorem arr_nil {s : ByteArray} (h : s.size = 0) : s = ⟨#[]⟩ := by
  obtain ⟨d⟩ := s
  have : d.size = 0 := h
  rw [Array.eq_empty_of_size_eq_zero this]
theorem toList_ne {s t : ByteArray} (h : s ≠ t) : (s.toList == t.toList) = false := by
  rw [beq_eq_false_iff_ne]
  exact fun e => h (toList_inj e)
theorem empty_ne {s : ByteArray} (h : s.size ≠ 0) : ¬ s = ByteArray.empty ∧ s.toList.isEmpty = false := by
  have h1 : s ≠ ByteArray.empty := fun e => h (by rw [e]; rfl)
  refine ⟨h1, ?_⟩
  rw [Bool.eq_false_iff]
  intro e
  rw [List.isEmpty_iff] at e
  exact h1 (toList_inj (e.trans (by first | kernel_rfl | simp)))
set_option maxRecDepth 100000 in
set_option maxHeartbeats 1000000 in
theorem wrep_any (g : Nat) (s : ByteArray) (n : Int) (w : World) (h0 : TxA w g 0 s) (h1 : InA w g 1 n) (hs : s.size ≤ 65535) : Calls Tryz.prog 89 #[.slice (some ⟨g, 0, none⟩) 2 2] w fun e w' => e = .returned (repV s n) ∧ Ext w w' := by
  unfold TxA at h0
  unfold InA at h1
  have hs' : (s.size : Int) ≤ 65535 := by omega
  go_enter Tryz.func89, Tryz.ntmps89
  go_wp2_with fail
  refine (wtext0 g 2 2 s _ (by decide) h0).mono ?_
  rintro e w1 ⟨rfl, rfl⟩
  go_wp2_with fail
  refine (wnum1 g 2 2 n _ (by decide) h1).mono ?_
  rintro e w1 ⟨rfl, rfl⟩
  by_cases hn : n < 0
  · have HV := hid (show repV s n = refV 23 from if_pos hn)
    go_wp2_with fail
    refine (wref_any _ _).mono ?_
    rintro e w1 ⟨rfl, rfl⟩
    unfold refV
    go_wp2_with fail
    go_ret3
    exact ⟨ret_eq (by rw [HV.out]; rfl), Ext.refl _⟩
  · by_cases hz : s.size = 0
    · have HV := hid (show repV s n = wroteV ⟨#[]⟩ by unfold repV; rw [if_neg hn, if_pos hz])
      obtain rfl := arr_nil hz
      clear hz
      go_wp2_with fail
      refine (wrote_any _ _).mono ?_
      rintro e w1 ⟨rfl, rfl⟩
      unfold wroteV
      go_wp2_with fail
      go_ret3
      exact ⟨ret_eq (by rw [HV.out]; rfl), Ext.refl _⟩
    · obtain ⟨e0, e1⟩ := empty_ne hz
      have z1 : ¬ (s.size : Int) = 0 := by omega
      have z2 : ((s.size : Int) == 0) = false := by simpa using z1
      have hq : (65535 : Int).tdiv (s.size : Int) = ((65535 / s.size : Nat) : Int) := by
        rw [Int.tdiv_eq_ediv_of_nonneg (by omega)]
        rfl
      have HQ := hid (show 65535 / s.size ≤ 65535 from Nat.div_le_self _ _)
      have HL := hid (show ∀ c : Nat, c ≤ 65535 / s.size → s.size * c ≤ 65535 from fun c h => by
        rw [Nat.le_div_iff_mul_le (by omega)] at h
        rw [Nat.mul_comm]; exact h)
      have HD := hid (show (n ≤ (65535 / s.size : Nat) → repV s n = wroteV (repS s n.toNat)) ∧ (¬ n ≤ (65535 / s.size : Nat) → repV s n = refV 2) by
        unfold repV
        rw [if_neg hn, if_neg hz]
        exact ⟨fun h => if_pos h, fun h => if_neg h⟩)
      generalize 65535 / s.size = M at *
      have hM1 : (M : Int) ≤ 65535 := by have := HQ.out; omega
      by_cases hc : n ≤ M
      · have HV := hid (HD.out.1 hc)
        have hc' : ¬ (M : Int) < n := by omega
        obtain ⟨c, rfl⟩ : ∃ c : Nat, n = c := ⟨n.toNat, by omega⟩
        have hcM : c ≤ M := by omega
        have HLc := hid (HL.out c hcM)
        have HQc := hid (Nat.le_trans hcM HQ.out)
        rw [Int.toNat_natCast] at HV
        clear hz hn hc hcM
        have hn2 : ¬ (c : Int) < 0 := by omega
        go_wp2_with fail
        refine (Tryz.strings_Repeat s c _ (Nat.le_trans HQc.out (by decide)) (Nat.le_trans HLc.out (by decide))).mono ?_
        rintro e w2 ⟨rfl, hx⟩
        have HX := hid hx
        clear hx
        have HE := hid (show repS s c = ⟨(Lib.repeatL s.data.toList c).toArray⟩ from rfl)
        rw [← HE.out]
        generalize repS s c = u at HV ⊢
        clear HE
        go_wp2_with fail
        refine (wrote_any _ _).mono ?_
        rintro e w1 ⟨rfl, rfl⟩
        unfold wroteV
        go_wp2_with fail
        go_ret3
        exact ⟨ret_eq (by rw [HV.out]; rfl), HX.out⟩
      · have HV := hid (HD.out.2 hc)
        have hc' : (M : Int) < n := by omega
        clear hz
        go_wp2_with fail
        refine (wref_any _ _).mono ?_
        rintro e w1 ⟨rfl, rfl⟩
        unfold refV
        go_wp2_with fail
        go_ret3
        exact ⟨ret_eq (by rw [HV.out]; rfl), Ext.refl _⟩
set_option maxRecDepth 100000 in
set_option maxHeartbeats 1000000 in
theorem wnumb_any (g : Nat) (s : ByteArray) (w : World) (h0 : TxA w g 0 s) (hs : s.size ≤ 65535) (hW : WAt w) : Calls Tryz.prog 92 #[.slice (some ⟨g, 0, none⟩) 1 1] w fun e w' => e = .returned (numV s) ∧ Ext w w' := by
  unfold TxA at h0
  obtain ⟨hM, hT, ⟨tp1, p1, hS⟩, ⟨tp2, p2, hR⟩⟩ := hW
  have HT := hid hT
  have HS := hid hS
  have HR := hid hR
  clear hM hT hS hR
  go_enter Tryz.func92, Tryz.ntmps92
  go_wp2_with fail
  refine (wtext0 g 1 1 s _ (by decide) h0).mono ?_
  rintro e w1 ⟨rfl, rfl⟩
  clear h0
  go_wp2_with fail
  rcases hp : Lib.parseIntB 64 s.data.toList with v | _ | _
  · have HP := hid hp
    have HB := hid (Lib.parseIntB_bounds hp)
    refine (Tryz.strconv_ParseInt_10_at64_ok s (by omega) v hp _).mono ?_
    rintro e w2 ⟨rfl, hw2⟩
    have hx2 : Ext w1 w2 := by
      rcases hw2 with rfl | ⟨t, rfl⟩
      · exact Ext.refl _
      · exact Lib.bytesWorld_below _ _ _
    have X2 := hid hx2
    have HIN := hid (show inR v by have := HB.out; unfold inR; omega)
    clear hw2 hx2 hp
    go_wp2_with fail
    refine (digits_any v HIN.out _ (HT.out.later X2.out)).mono ?_
    rintro e w3 ⟨rfl, hx3⟩
    have X3 := hid (X2.out.trans hx3)
    clear hx3
    by_cases he : itoaS v = s
    · have HV := hid (show numV s = cameV v by unfold numV numO; rw [HP.out]; dsimp only; rw [if_pos he])
      have e1 : ((itoaS v).toList == s.toList) = true := by rw [he]; exact beq_self_eq_true _
      have e2 : ((itoaS v).toList != s.toList) = false := by rw [he]; exact bne_self_eq_false _
      clear he
      generalize itoaS v = u at *
      go_wp2_with fail
      refine (wcame_any _ _).mono ?_
      rintro e w1 ⟨rfl, rfl⟩
      unfold cameV
      go_wp2_with fail
      go_ret3
      exact ⟨ret_eq (by rw [HV.out]; rfl), X3.out⟩
    · have HV := hid (show numV s = refV 24 by unfold numV numO; rw [HP.out]; dsimp only; rw [if_neg he])
      have e1 : ((itoaS v).toList == s.toList) = false := toList_ne he
      have e2 : ((itoaS v).toList != s.toList) = true := by rw [bne, e1]; rfl
      clear he
      generalize itoaS v = u at *
      go_wp2_with fail
      refine (wref_any _ _).mono ?_
      rintro e w1 ⟨rfl, rfl⟩
      unfold refV
      go_wp2_with fail
      go_ret3
      exact ⟨ret_eq (by rw [HV.out]; rfl), X3.out⟩
  · have HV := hid (show numV s = refV 24 by unfold numV numO; rw [hp])
    refine (Tryz.strconv_ParseInt_10_at64_syntax_var s (by omega) hp tp1 p1 _ HS.out).mono ?_
    rintro e w2 ⟨N, rfl, _, _, hx2⟩
    have X2 := hid hx2
    clear hx2 hp
    go_wp2_with fail
    refine (wref_any _ _).mono ?_
    rintro e w1 ⟨rfl, rfl⟩
    unfold refV
    go_wp2_with fail
    go_ret3
    exact ⟨ret_eq (by rw [HV.out]; rfl), X2.out⟩
  · have HV := hid (show numV s = refV 24 by unfold numV numO; rw [hp])
    refine (Tryz.strconv_ParseInt_10_at64_range_var s (by omega) hp tp2 p2 _ HR.out).mono ?_
    rintro e w2 ⟨N, rfl, _, _, hx2⟩
    have X2 := hid hx2
    clear hx2 hp
    go_wp2_with fail
    refine (wref_any _ _).mono ?_
    rintro e w1 ⟨rfl, rfl⟩
    unfold refV
    go_wp2_with fail
    go_ret3
    exact ⟨ret_eq (by rw [HV.out]; rfl), X2.out⟩
end Go.Proofs.YtgpggkepgoelfaaGreatDoor
