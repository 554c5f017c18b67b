/-
  espalierref3.Number, Use, Kind, each by a contract.
-/
import Derived.Test.YtaodkfchmaendaaGreatDoorRefW
import Derived.WalkMore
namespace Go.Proofs.YtaodkfchmaendaaGreatDoor
open Go.RowKit Go.Shelf
theorem dd_lt : ∀ n : Nat, n < 10 ^ (Lib.decDigits n).length := by
  intro n
  induction n using Nat.strongRecOn with
  | _ n ih =>
    by_cases h : n < 10
    · rw [dd_small h]; simpa using h
    · rw [dd_big h]
      have := ih (n / 10) (by omega)
      rw [List.length_append]
      show n < 10 ^ (_ + 1)
      rw [Nat.pow_succ]
      omega
theorem dd_four {n : Nat} (h : n ≤ 9999) : (Lib.decDigits n).length ≤ 4 := by
  by_cases h1 : n < 10
  · rw [dd_small h1]; simp
  · rw [dd_big h1]
    by_cases h2 : n / 10 < 10
    · rw [dd_small h2]; simp
    · rw [dd_big h2]
      by_cases h3 : n / 10 / 10 < 10
      · rw [dd_small h3]; simp
      · rw [dd_big h3]
        rw [dd_small (by omega)]; simp
theorem dd_most {l : List UInt8} {n : Nat} (h : l = Lib.decDigits n) (hl : l.length ≤ 4) : n ≤ 9999 := by
  have h1 := dd_lt n
  rw [← h] at h1
  have h2 : 10 ^ l.length ≤ 10 ^ 4 := Nat.pow_le_pow_right (by decide) hl
  omega
/-- What Number tells of a text. -/
def NumR (l : List UInt8) (r : Int) : Prop := (∃ n : Nat, n ≤ 9999 ∧ l = Lib.decDigits n ∧ r = n) ∨ (r = -1 ∧ ∀ n, n ≤ 9999 → l ≠ Lib.decDigits n)
set_option maxRecDepth 100000 in
set_option maxHeartbeats 2000000 in
theorem number_ref (s : ByteArray) (w : World) : Calls Tryz.prog 124 #[.string s] w fun e w' => ∃ r, e = .returned (.int .i64 r) ∧ NumR s.data.toList r ∧ w' = w := by
  have HL := hid (size_list s)
  by_cases h0 : s.size = 0
  · have h0' : (s.size : Int) < 1 := by omega
    have HR := hid (show ∀ n, n ≤ 9999 → s.data.toList ≠ Lib.decDigits n from fun n _ e => by
      have e' : s.data.toList = [] := List.eq_nil_of_length_eq_zero (by rw [HL.out]; exact h0)
      exact dd_ne n (by rw [← e, e']))
    clear h0
    go_enter Tryz.func124, Tryz.ntmps124
    go_wp2
    go_ret
    exact ⟨-1, rfl, .inr ⟨rfl, HR.out⟩, rfl⟩
  have h1 : ¬ (s.size : Int) < 1 := by omega
  by_cases h2 : 4 < s.size
  · have h2' : 4 < (s.size : Int) := by omega
    have HR := hid (show ∀ n, n ≤ 9999 → s.data.toList ≠ Lib.decDigits n from fun n hn e => by
      have := dd_four hn
      rw [← e, HL.out] at this
      omega)
    go_enter Tryz.func124, Tryz.ntmps124
    go_wp2
    go_ret
    exact ⟨-1, rfl, .inr ⟨rfl, HR.out⟩, rfl⟩
  have h2' : ¬ 4 < (s.size : Int) := by omega
  have hp0 : 0 < s.size := by omega
  obtain ⟨hq0, hc0⟩ := at_list s 0 hp0
  by_cases hz : s.data.toList[0] = 48 ∧ 1 < s.size
  · obtain ⟨hz0, hz1⟩ := hz
    have hz1' : 1 < (s.size : Int) := by omega
    have ha : ((((s.data[0]'hp0).toNat : Int)) == 48) = true := by
      have e : s.data[0]'hp0 = 48 := (show s.data[0]'hp0 = _ from hc0).trans hz0
      rw [e]; rfl
    have ha' : ((((s[0]'hp0).toNat : Int)) == 48) = true := ha
    have HR := hid (show ∀ n, n ≤ 9999 → s.data.toList ≠ Lib.decDigits n from fun n hn e => by
      have hh : (Lib.decDigits n).head? = some 48 := by rw [← e, List.head?_eq_getElem?, List.getElem?_eq_getElem hq0, hz0]
      have := dd_head n hh
      subst this
      rw [dd_zero] at e
      have := congrArg List.length e
      rw [HL.out] at this
      simp at this
      omega)
    clear hz0 hc0
    go_enter Tryz.func124, Tryz.ntmps124
    go_wp2
    go_ret
    exact ⟨-1, rfl, .inr ⟨rfl, HR.out⟩, rfl⟩
  have HZ := hid hz
  have HC0 := hid hc0
  have key : Calls Tryz.prog 124 #[.string s] w fun e w' => ∃ r, e = .returned (.int .i64 r) ∧ NumR s.data.toList r ∧ w' = w := by
    have hgo : (((((s.data[0]'hp0).toNat : Int)) == 48) = false) ∨ (((((s.data[0]'hp0).toNat : Int)) == 48) = true ∧ ¬ 1 < (s.size : Int)) := by
      by_cases e : s.data.toList[0] = 48
      · refine .inr ⟨?_, fun h => hz ⟨e, by omega⟩⟩
        have e' : s.data[0]'hp0 = 48 := (show s.data[0]'hp0 = _ from hc0).trans e
        rw [e']; rfl
      · refine .inl ?_
        rw [beq_eq_false_iff_ne]
        intro h
        refine e (hc0.symm.trans (show s.data[0]'hp0 = 48 from UInt8.toNat_inj.1 ?_))
        have e' : (48 : UInt8).toNat = 48 := rfl
        omega
    clear hz hc0
    rcases hgo with hg | ⟨hg, hg2⟩
    all_goals
      have hg' := (show ((((s[0]'hp0).toNat : Int)) == 48) = _ from hg)
      go_enter Tryz.func124, Tryz.ntmps124
      go_wp2
      go_loop [3, 4] (fun t3 t4 => ∃ k n : Nat, k ≤ s.size ∧ t4 = .int .i64 k ∧ t3 = .int .i64 n ∧ Under s.data.toList k n) (fun _ t4 => s.size - (intOf t4).toNat)
      case atStart => exact ⟨0, 0, Nat.zero_le _, rfl, rfl, .inl ⟨rfl, rfl⟩⟩
      case round =>
        obtain ⟨k, n, hk, rfl, rfl, hu⟩ := hrel
        have HU := hid hu
        have hn9 : n ≤ 9999 := by
          rcases hu with ⟨_, h⟩ | ⟨_, h⟩
          · omega
          · exact dd_most h (by rw [List.length_take, HL.out]; omega)
        have hn9' : (n : Int) ≤ 9999 := by omega
        clear hu
        by_cases hlt : k < s.size
        · have hlt' : (k : Int) < s.size := by omega
          obtain ⟨hq, hc⟩ := at_list s k hlt
          have HC := hid (show (s.data[k]'hlt) = s.data.toList[k] from hc)
          clear hc
          by_cases hd : digI ((s.data[k]'hlt).toNat : Int) = true
          · have hd' : digI ((s[k]'hlt).toNat : Int) = true := hd
            have HDG := hid ((digI_iff s.data.toList[k]).1 (by rw [← HC.out]; exact hd))
            have hdd : 48 ≤ ((s.data[k]'hlt).toNat : Int) ∧ ((s.data[k]'hlt).toNat : Int) ≤ 57 := by unfold digI at hd; simpa using hd
            obtain ⟨hd1, hd2⟩ := hdd
            have hd1' : 48 ≤ ((s[k]'hlt).toNat : Int) := hd1
            have hd2' : ((s[k]'hlt).toNat : Int) ≤ 57 := hd2
            have HS := hid (show s.data.toList.take (k + 1) = Lib.decDigits (10 * n + ((s.data[k]'hlt).toNat - 48)) by
              have := step_digit HU.out hq HDG.out (fun h => by
                rcases HU.out with ⟨h', _⟩ | ⟨_, h'⟩
                · omega
                · rw [h.2, dd_zero] at h'
                  refine HZ.out ⟨?_, by omega⟩
                  have h3 : (s.data.toList.take k)[0]? = some 48 := by rw [h']; rfl
                  rw [List.getElem?_take_of_lt (by omega), List.getElem?_eq_getElem hq0] at h3
                  exact Option.some.inj h3)
              rw [← HC.out] at this
              exact this)
            go_wp2_with (go_at_call 80; refine (digit_ref _ _).mono ?_; rintro e w' ⟨rfl, rfl⟩)
            go_round
            case rel => exact ⟨k + 1, 10 * n + ((s[k]'hlt).toNat - 48), hlt, by go_num, by first | rfl | (congr 1; omega), .inr ⟨by omega, HS.out⟩⟩
            case measure => simp [intOf]; omega
          · have he : digI ((s.data[k]'hlt).toNat : Int) = false := by simpa using hd
            have he' : digI ((s[k]'hlt).toNat : Int) = false := he
            have HR := hid (show ∀ n, n ≤ 9999 → s.data.toList ≠ Lib.decDigits n from fun n hn e => by
              have := dd_digits n s.data.toList[k] (by rw [← e]; exact List.getElem_mem hq)
              have := (digI_iff _).2 this
              rw [← HC.out, he] at this
              cases this)
            clear hd
            go_wp2_with (go_at_call 80; refine (digit_ref _ _).mono ?_; rintro e w' ⟨rfl, rfl⟩)
            go_ret
            exact ⟨-1, rfl, .inr ⟨rfl, HR.out⟩, rfl⟩
        · have HE := hid (show s.data.toList = Lib.decDigits n by
            rcases HU.out with ⟨h', _⟩ | ⟨_, h'⟩
            · omega
            · rw [List.take_of_length_le (by rw [HL.out]; omega)] at h'; exact h')
          go_wp2
          go_ret
          exact ⟨n, rfl, .inl ⟨n, hn9, HE.out, rfl⟩, rfl⟩
  exact key
set_option maxRecDepth 100000 in
theorem use_ref (s : ByteArray) (w : World) :
    Calls Tryz.prog 76 #[.string s] w fun e w' => ((e = .returned (.bool true) ∧ useB s.data.toList) ∨ (e = .returned (.bool false) ∧ ¬ useB s.data.toList)) ∧ w' = w := by
  go_enter Tryz.func76, Tryz.ntmps76
  go_wp2_with fail
  refine (number_ref s _).mono ?_
  rintro e w1 ⟨r, rfl, hr, hw⟩
  obtain rfl := hw
  have HR := hid hr
  clear hr
  by_cases hn : nameB s.data.toList = true
  · have HN := hid (fun w => name_ref s w)
    have HU := hid (show useB s.data.toList from .inl hn)
    rw [hn] at HN
    go_wp2_with fail
    refine (HN.out _).mono ?_
    rintro e w2 ⟨rfl, hw⟩
    obtain rfl := hw
    go_wp2
    go_ret
    exact ⟨.inl ⟨rfl, HU.out⟩, rfl⟩
  · have hn' : nameB s.data.toList = false := by simpa using hn
    have HN := hid (fun w => name_ref s w)
    have HNN := hid hn
    rw [hn'] at HN
    clear hn hn'
    rcases HR.out with ⟨n, h9, hl, rfl⟩ | ⟨rfl, hno⟩
    · have HL := hid hl
      clear hl HR
      by_cases h1 : 1 ≤ n
      · have h1' : decide (1 ≤ (n : Int)) = true := by simp; omega
        by_cases h64 : n ≤ 64
        · have h64' : decide ((n : Int) ≤ 64) = true := by simp; omega
          have HU := hid (show useB s.data.toList from .inr ⟨n, h1, h64, HL.out⟩)
          clear h1 h64
          go_wp2_with fail
          refine (HN.out _).mono ?_
          rintro e w2 ⟨rfl, hw⟩
          obtain rfl := hw
          go_wp2
          go_ret
          exact ⟨.inl ⟨rfl, HU.out⟩, rfl⟩
        · have h64' : decide ((n : Int) ≤ 64) = false := by simp; omega
          have HU := hid (show ¬ useB s.data.toList from fun h => by
            rcases h with h | ⟨m, m1, m2, m3⟩
            · exact HNN.out h
            · have := dd_inj (HL.out.symm.trans m3); omega)
          clear h1 h64
          go_wp2_with fail
          refine (HN.out _).mono ?_
          rintro e w2 ⟨rfl, hw⟩
          obtain rfl := hw
          go_wp2
          go_ret
          exact ⟨.inr ⟨rfl, HU.out⟩, rfl⟩
      · have h1' : decide (1 ≤ (n : Int)) = false := by simp; omega
        have HU := hid (show ¬ useB s.data.toList from fun h => by
          rcases h with h | ⟨m, m1, m2, m3⟩
          · exact HNN.out h
          · have := dd_inj (HL.out.symm.trans m3); omega)
        clear h1
        go_wp2_with fail
        refine (HN.out _).mono ?_
        rintro e w2 ⟨rfl, hw⟩
        obtain rfl := hw
        go_wp2
        go_ret
        exact ⟨.inr ⟨rfl, HU.out⟩, rfl⟩
    · have HU := hid (show ¬ useB s.data.toList from fun h => by
        rcases h with h | ⟨m, m1, m2, m3⟩
        · exact HNN.out h
        · exact hno m (by omega) m3)
      clear hno HR
      go_wp2_with fail
      refine (HN.out _).mono ?_
      rintro e w2 ⟨rfl, hw⟩
      obtain rfl := hw
      go_wp2
      go_ret
      exact ⟨.inr ⟨rfl, HU.out⟩, rfl⟩
theorem word_ref_list (l : List UInt8) (w : World) : Calls Tryz.prog 51 #[.string ⟨l.toArray⟩] w fun e w' => e = .returned (.bool (speltB wordI 16 l)) ∧ w' = w := by
  have := word_ref ⟨l.toArray⟩ w
  simpa using this
theorem not_sign {s : ByteArray} {k : Nat} (hk : k < s.size) (hq : k < s.data.toList.length) {c : UInt8} (h : s.data.toList[k] ≠ c) : (((s.data[k]'hk).toNat : Int) == (c.toNat : Int)) = false := by
  rw [beq_eq_false_iff_ne]
  intro e
  refine h ?_
  have h1 : s.data.toList[k] = s.data[k]'hk := by simp
  rw [h1]
  exact UInt8.toNat_inj.1 (by omega)
theorem is_sign {s : ByteArray} {k : Nat} (hk : k < s.size) (hq : k < s.data.toList.length) {c : UInt8} (h : s.data.toList[k] = c) : (((s.data[k]'hk).toNat : Int) == (c.toNat : Int)) = true := by
  have h1 : s.data.toList[k] = s.data[k]'hk := by simp
  rw [← h1, h]
  simp
set_option maxRecDepth 100000 in
theorem kind_ref_none (s : ByteArray) (w : World) (hb : s.size ≤ 140737488355328) (h : 46 ∉ s.data.toList) :
    Calls Tryz.prog 46 #[.string s] w fun e w' => e = .returned (.tuple #[.string ⟨#[]⟩, .string ⟨#[]⟩, .bool false]) ∧ Ext w w' := by
  have HL := hid (size_list s)
  have HH := hid h
  clear h
  go_enter Tryz.func46, Tryz.ntmps46
  go_wp2
  go_loop [5] (fun i => ∃ k : Nat, k ≤ s.size ∧ i = .int .i64 k) (fun i => s.size - (intOf i).toNat)
  case atStart => exact ⟨0, Nat.zero_le _, rfl⟩
  case round =>
    obtain ⟨k, hk, rfl⟩ := hrel
    by_cases hlt : k < s.size
    · have hlt' : (k : Int) < s.size := by omega
      have hk' : (k : Int) ≤ 140737488355328 := by omega
      obtain ⟨hq, hc⟩ := at_list s k hlt
      have hz : (((s.data[k]'hlt).toNat : Int) == 46) = false := not_sign hlt hq (c := 46) (fun e => HH.out (by rw [← e]; exact List.getElem_mem hq))
      have hz' : (((s[k]'hlt).toNat : Int) == 46) = false := hz
      clear hc
      go_wp2
      go_round
      case rel => exact ⟨k + 1, hlt, by go_num⟩
      case measure => simp [intOf]; omega
    · go_wp2
      go_ret3
      exact ⟨rfl, Ext.refl _⟩
set_option maxRecDepth 100000 in
set_option maxHeartbeats 1000000 in
theorem kind_ref_found (s : ByteArray) (pre post : List UInt8) (w : World) (hs : s.data.toList = pre ++ 46 :: post) (h : 46 ∉ pre) (hb : s.size ≤ 140737488355328) :
    Calls Tryz.prog 46 #[.string s] w fun e w' => e = .returned (kindV pre post) ∧ Ext w w' := by
  have HL := hid (size_list s)
  have hl : s.size = pre.length + (post.length + 1) := by rw [← size_list, hs]; simp
  have H1 := hid (show s.extract 0 pre.length = ⟨pre.toArray⟩ from data_inj (by rw [Lib.extract_data, hs]; simp))
  have H2 := hid (show s.extract (pre.length + 1) s.size = ⟨post.toArray⟩ from data_inj (by rw [Lib.extract_data, hs, show pre ++ 46 :: post = (pre ++ [46]) ++ post by simp, List.drop_left' (by simp), List.take_of_length_le (by omega)]))
  have HS := hid hs
  have HH := hid h
  have hsl : (s.size : Int) ≤ 140737488355328 := by omega
  have hpl : pre.length < s.size := by omega
  clear hs h hl
  go_enter Tryz.func46, Tryz.ntmps46
  go_wp2
  go_loop [5] (fun i => ∃ k : Nat, k ≤ pre.length ∧ i = .int .i64 k) (fun i => s.size - (intOf i).toNat)
  case atStart => exact ⟨0, Nat.zero_le _, rfl⟩
  case round =>
    obtain ⟨k, hk, rfl⟩ := hrel
    have hlt : k < s.size := by omega
    have hlt' : (k : Int) < s.size := by omega
    obtain ⟨hq, hc⟩ := at_list s k hlt
    clear hc
    by_cases hkl : k < pre.length
    · have hz : (((s.data[k]'hlt).toNat : Int) == 46) = false := not_sign hlt hq (c := 46) (fun e => HH.out (by
        have h2 : s.data.toList[k]? = some 46 := by rw [List.getElem?_eq_getElem hq, e]
        rw [HS.out, List.getElem?_append_left hkl, List.getElem?_eq_getElem hkl] at h2
        rw [← Option.some.inj h2]; exact List.getElem_mem hkl))
      have hz' : (((s[k]'hlt).toNat : Int) == 46) = false := hz
      go_wp2
      go_round
      case rel => exact ⟨k + 1, hkl, by go_num⟩
      case measure => simp [intOf]; omega
    · obtain rfl : k = pre.length := by omega
      have hz : (((s.data[pre.length]'hlt).toNat : Int) == 46) = true := is_sign hlt hq (c := 46) (by
        have h2 : s.data.toList[pre.length]? = some 46 := by rw [HS.out, List.getElem?_append_right (Nat.le_refl _)]; simp
        rw [List.getElem?_eq_getElem hq] at h2
        exact Option.some.inj h2)
      have hz' : (((s[pre.length]'hlt).toNat : Int) == 46) = true := hz
      have hi2 : (pre.length : Int) + 1 ≤ s.size := by omega
      have hi3 : (pre.length : Int) ≤ s.size := by omega
      by_cases hw : speltB wordI 16 pre = true
      · by_cases hv : speltB wordI 16 post = true
        · have HR := hid (show kindV pre post = .tuple #[.string ⟨pre.toArray⟩, .string ⟨post.toArray⟩, .bool true] by simp [kindV, hw, hv])
          go_wp2_with fail
          rw [H1.out]
          refine (word_ref_list pre _).mono ?_
          rintro e w1 ⟨rfl, rfl⟩
          go_wp2_with fail
          rw [H2.out]
          refine (word_ref_list post _).mono ?_
          rintro e w2 ⟨rfl, rfl⟩
          go_wp2
          go_quiet (fail)
          go_wp2
          go_ret3
          exact ⟨by rw [HR.out, H1.out, H2.out]; rfl, (Ext.refl _).drewN _⟩
        · have hv' : speltB wordI 16 post = false := by simpa using hv
          have HR := hid (show kindV pre post = .tuple #[.string ⟨#[]⟩, .string ⟨#[]⟩, .bool false] by simp [kindV, hv'])
          clear hv
          go_wp2_with fail
          rw [H1.out]
          refine (word_ref_list pre _).mono ?_
          rintro e w1 ⟨rfl, rfl⟩
          go_wp2_with fail
          rw [H2.out]
          refine (word_ref_list post _).mono ?_
          rintro e w2 ⟨rfl, rfl⟩
          go_wp2
          go_ret3
          exact ⟨by rw [HR.out]; rfl, Ext.refl _⟩
      · have hw' : speltB wordI 16 pre = false := by simpa using hw
        have HR := hid (show kindV pre post = .tuple #[.string ⟨#[]⟩, .string ⟨#[]⟩, .bool false] by simp [kindV, hw'])
        clear hw
        go_wp2_with fail
        rw [H1.out]
        refine (word_ref_list pre _).mono ?_
        rintro e w1 ⟨rfl, rfl⟩
        go_wp2
        go_ret3
        exact ⟨by rw [HR.out]; rfl, Ext.refl _⟩
end Go.Proofs.YtaodkfchmaendaaGreatDoor
