/-
  WordsRep tells true.
-/
import Derived.Test.YtgpggkepgoelfaaGreatDoorWBeg
namespace Go.Proofs.YtgpggkepgoelfaaGreatDoor
open Go.RowKit
theorem rep_get (l : List UInt8) : ∀ (c i : Nat) (_ : i < c * l.length), (Lib.repeatL l c)[i]? = l[i % l.length]?
  | 0, i, h => by omega
  | c + 1, i, h => by
    have hl : 0 < l.length := by
      rcases Nat.eq_zero_or_pos l.length with h0 | h0
      · rw [h0] at h; omega
      · exact h0
    rw [show c + 1 = 1 + c by omega, Lib.repeatL_add, Lib.repeatL_one]
    by_cases hi : i < l.length
    · rw [List.getElem?_append_left hi, Nat.mod_eq_of_lt hi]
    · have hi' : l.length ≤ i := by omega
      rw [List.getElem?_append_right hi', rep_get l c (i - l.length) (by rw [Nat.add_mul, Nat.one_mul] at h; omega), Nat.mod_eq_sub_mod hi']
theorem repS_get (s : ByteArray) (c i : Nat) (h : i < c * s.size) (h1 : i < (repS s c).size) (h2 : i % s.size < s.size) : (repS s c)[i] = s[i % s.size] := by
  have hl : s.data.toList.length = s.size := by rw [Array.length_toList]; rfl
  have e := rep_get s.data.toList c i (by rw [hl]; exact h)
  have e1 : (Lib.repeatL s.data.toList c)[i]? = some (repS s c)[i] := by
    have hh : i < (Lib.repeatL s.data.toList c).length := by rw [Lib.repeatL_length, hl]; exact h
    show _ = some ((Lib.repeatL s.data.toList c)[i]'hh)
    exact List.getElem?_eq_getElem hh
  have e2 : s.data.toList[i % s.data.toList.length]? = some s[i % s.size] := by
    rw [hl, Array.getElem?_toList]
    exact Array.getElem?_eq_getElem h2
  rw [e1, e2] at e
  exact Option.some.inj e
set_option maxRecDepth 100000 in
set_option maxHeartbeats 4000000 in
theorem wordsRep_true (s : ByteArray) (n : Int) (hs0 : s.size ≤ 140737488351232) (hn0 : inR n) (w : World) (hm : WAt w) (hl : Laid w) : Calls Tryz.prog 8 #[.string s, .int .i64 n] w fun e w' => e = .returned (.bool true) ∧ Ext w w' := by
  have HW := hid hm
  have HB := hid (begunW_any w hm hl)
  have HS := hid hs0
  have HN := hid hn0
  have hn1 : -9223372036854775808 ≤ n := hn0.1
  have hn2 : n ≤ 9223372036854775807 := hn0.2
  have hsz : (s.size : Int) ≤ 140737488351232 := by omega
  clear hm hl hs0 hn0
  by_cases hlong : 65535 < s.size
  · have hl1 : (65535 : Int) < s.size := by omega
    clear hlong
    go_enter Tryz.func8, Tryz.ntmps8
    go_wp2_with fail
    refine HB.out.mono ?_
    rintro e w1 ⟨rfl, hx1⟩
    have X1 := hid hx1
    clear hx1
    go_wp2_with fail
    go_ret
    exact ⟨rfl, X1.out⟩
  have hs : s.size ≤ 65535 := by omega
  have HS5 := hid hs
  have hl1 : ¬ (65535 : Int) < s.size := by omega
  clear hlong
  by_cases c0 : n < 0
  · have HV := hid (show repV s n = refV 23 from if_pos c0)
    go_enter Tryz.func8, Tryz.ntmps8
    go_wp2_with fail
    refine HB.out.mono ?_
    rintro e w1 ⟨rfl, hx1⟩
    have X0 := hid hx1
    clear hx1
    go_wp2_with fail
    refine (wtextP s _).mono ?_
    rintro e wk1 ⟨rfl, hx1⟩
    have X1 := hid (X0.out.trans hx1)
    clear hx1
    go_wp2_with fail
    refine (wnumP n _).mono ?_
    rintro e wk2 ⟨rfl, hx2⟩
    have X2 := hid (X1.out.trans hx2)
    clear hx2
    go_wp2_with fail
    refine (words1_bad ⟨#[119, 111, 114, 100, 115, 46, 114, 101, 112]⟩ _ _ _ 23 (by decide) _ (calls_eq (HV.out) (ww_rep s n HS5.out _ _ _ (HW.out.later (X2.out.trans (Ext.alloc _ _))) (wrow2 (blk0 _ _) HS.out (by decide))))).mono ?_
    rintro e wk3 ⟨rfl, hx3⟩
    have X3 := hid (X2.out.trans ((Ext.alloc _ _).trans hx3))
    clear hx3
    go_wp2_with fail
    go_ret
    exact ⟨rfl, X3.out⟩
  by_cases hz : s.size = 0
  · have HV := hid (show repV s n = wroteV ⟨#[]⟩ by unfold repV; rw [if_neg c0, if_pos hz])
    obtain rfl := arr_nil hz
    clear hz
    go_enter Tryz.func8, Tryz.ntmps8
    go_wp2_with fail
    refine HB.out.mono ?_
    rintro e w1 ⟨rfl, hx1⟩
    have X0 := hid hx1
    clear hx1
    go_wp2_with fail
    refine (wtextP ⟨#[]⟩ _).mono ?_
    rintro e wk1 ⟨rfl, hx1⟩
    have X1 := hid (X0.out.trans hx1)
    clear hx1
    go_wp2_with fail
    refine (wnumP n _).mono ?_
    rintro e wk2 ⟨rfl, hx2⟩
    have X2 := hid (X1.out.trans hx2)
    clear hx2
    go_wp2_with fail
    refine (words1_ok ⟨#[119, 111, 114, 100, 115, 46, 114, 101, 112]⟩ _ _ _ ⟨#[]⟩ _ (calls_eq (HV.out) (ww_rep ⟨#[]⟩ n (by decide) _ _ _ (HW.out.later (X2.out.trans (Ext.alloc _ _))) (wrow2 (blk0 _ _) (by decide) (by decide))))).mono ?_
    rintro e wk3 ⟨rfl, hx3⟩
    have X3 := hid (X2.out.trans ((Ext.alloc _ _).trans hx3))
    clear hx3
    go_wp2_with fail
    go_ret
    exact ⟨rfl, X3.out⟩
  obtain ⟨e0, e1⟩ := empty_ne hz
  have z1 : ¬ (s.size : Int) = 0 := by omega
  have z2 : ((s.size : Int) == 0) = false := by simpa using z1
  have z3 : (0 : Int) < s.size := by omega
  have hq : (65535 : Int).tdiv (s.size : Int) = ((65535 / s.size : Nat) : Int) := by
    rw [Int.tdiv_eq_ediv_of_nonneg (by omega)]
    rfl
  have HQ := hid (show 65535 / s.size ≤ 65535 from Nat.div_le_self _ _)
  have HL := hid (show ∀ c : Nat, c ≤ 65535 / s.size → c * s.size ≤ 65535 from fun c h => by
    rwa [Nat.le_div_iff_mul_le (by omega)] at h)
  have HD := hid (show (n ≤ (65535 / s.size : Nat) → repV s n = wroteV (repS s n.toNat)) ∧ (¬ n ≤ (65535 / s.size : Nat) → repV s n = refV 2) by
    unfold repV
    rw [if_neg c0, if_neg hz]
    exact ⟨fun h => if_pos h, fun h => if_neg h⟩)
  have HZ := hid hz
  generalize 65535 / s.size = M at *
  have hM1 : (M : Int) ≤ 65535 := by have := HQ.out; omega
  clear hz
  by_cases hc : n ≤ M
  case neg =>
    have HV := hid (HD.out.2 hc)
    have hc' : (M : Int) < n := by omega
    go_enter Tryz.func8, Tryz.ntmps8
    go_wp2_with fail
    refine HB.out.mono ?_
    rintro e w1 ⟨rfl, hx1⟩
    have X0 := hid hx1
    clear hx1
    go_wp2_with fail
    refine (wtextP s _).mono ?_
    rintro e wk1 ⟨rfl, hx1⟩
    have X1 := hid (X0.out.trans hx1)
    clear hx1
    go_wp2_with fail
    refine (wnumP n _).mono ?_
    rintro e wk2 ⟨rfl, hx2⟩
    have X2 := hid (X1.out.trans hx2)
    clear hx2
    go_wp2_with fail
    refine (words1_bad ⟨#[119, 111, 114, 100, 115, 46, 114, 101, 112]⟩ _ _ _ 2 (by decide) _ (calls_eq (HV.out) (ww_rep s n HS5.out _ _ _ (HW.out.later (X2.out.trans (Ext.alloc _ _))) (wrow2 (blk0 _ _) HS.out (by decide))))).mono ?_
    rintro e wk3 ⟨rfl, hx3⟩
    have X3 := hid (X2.out.trans ((Ext.alloc _ _).trans hx3))
    clear hx3
    go_wp2_with fail
    go_ret
    exact ⟨rfl, X3.out⟩
  have HV := hid (HD.out.1 hc)
  have hc' : ¬ (M : Int) < n := by omega
  obtain ⟨c, rfl⟩ : ∃ c : Nat, n = c := ⟨n.toNat, by omega⟩
  have hcM : c ≤ M := by omega
  have hmul := HL.out c hcM
  rw [Int.toNat_natCast] at HV
  have HG := hid (fun i h1 h2 h3 => repS_get s c i h1 h2 h3)
  have hrs : (repS s c).size = c * s.size := repS_size s c
  have hmi : (c : Int) * (s.size : Int) = ((c * s.size : Nat) : Int) := by rw [Int.natCast_mul]
  have HRS := hid hrs
  generalize repS s c = t at *
  have htz : t.size ≤ 65535 := by omega
  have hti : (t.size : Int) ≤ 65535 := by omega
  have hte : (c : Int) * (s.size : Int) = (t.size : Int) := by rw [hmi, hrs]
  clear hmi hc hcM hmul hrs
  go_enter Tryz.func8, Tryz.ntmps8
  go_wp2_with fail
  refine HB.out.mono ?_
  rintro e w1 ⟨rfl, hx1⟩
  have X0 := hid hx1
  clear hx1
  go_wp2_with fail
  refine (wtextP s _).mono ?_
  rintro e wk1 ⟨rfl, hx1⟩
  have X1 := hid (X0.out.trans hx1)
  clear hx1
  go_wp2_with fail
  refine (wnumP (c : Int) _).mono ?_
  rintro e wk2 ⟨rfl, hx2⟩
  have X2 := hid (X1.out.trans hx2)
  clear hx2
  go_wp2_with fail
  refine (words1_ok ⟨#[119, 111, 114, 100, 115, 46, 114, 101, 112]⟩ _ _ _ t _ (calls_eq (HV.out) (ww_rep s (c : Int) HS5.out _ _ _ (HW.out.later (X2.out.trans (Ext.alloc _ _))) (wrow2 (blk0 _ _) HS.out (by decide))))).mono ?_
  rintro e wk3 ⟨rfl, hx3⟩
  have X3 := hid (X2.out.trans ((Ext.alloc _ _).trans hx3))
  clear hx3
  go_wp2_with fail
  go_loopw [7] (fun q7 wr => ∃ j : Nat, j ≤ t.size ∧ q7 = .int .i64 j ∧ Ext w wr) (fun q7 _ => t.size - (intOf q7).toNat)
  case atStart => exact ⟨0, Nat.zero_le _, rfl, X3.out⟩
  case round =>
    obtain ⟨j, hj, rfl, hx⟩ := hrel
    have HX := hid hx
    clear hx
    by_cases hlt : j < t.size
    · have hlt' : (j : Int) < t.size := by omega
      have hjm : (j : Int).tmod (s.size : Int) = ((j % s.size : Nat) : Int) := by
        rw [Int.tmod_eq_emod_of_nonneg (by omega)]
        rfl
      have hr : j % s.size < s.size := Nat.mod_lt _ (by have := HZ.out; omega)
      have hG := HG.out j (by rw [← HRS.out]; exact hlt) hlt hr
      generalize j % s.size = r at *
      have hr' : (r : Int) < s.size := by omega
      have hb1 : (((t[j]'hlt).toNat : Int) == ((s[r]'hr).toNat : Int)) = true := by rw [hG]; exact beq_self_eq_true _
      have hb2 : (((t[j]'hlt).toNat : Int) != ((s[r]'hr).toNat : Int)) = false := by rw [hG]; exact bne_self_eq_false _
      clear hG
      go_wp2_with fail
      go_region
      all_goals
        go_wp2_with fail
        go_roundw
        case rel => exact ⟨j + 1, by omega, by go_num, by first | exact HX.out | exact HX.out.drew | exact HX.out.drewN 1⟩
        case measure => simp [intOf]; omega
    · have hlt2 : decide ((j : Int) < t.size) = false := decide_eq_false (by omega)
      have hlt3 : ¬ (j : Int) < t.size := by omega
      go_wp2_with fail
      go_ret
      exact ⟨rfl, HX.out⟩

end Go.Proofs.YtgpggkepgoelfaaGreatDoor
