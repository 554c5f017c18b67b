/-
  espalierref3.small, digit, Word, Name, each by a contract: the document's words and names.
-/
import Derived.Test.YtaodkfchmaendaaGreatDoorRead
namespace Go.Proofs.YtaodkfchmaendaaGreatDoor
open Go.RowKit Go.Shelf
def smallI (r : Int) : Bool := decide (97 ≤ r ∧ r ≤ 122)
theorem small_ref (r : Int) (w : World) : Calls Tryz.prog 79 #[.int .u8 r] w fun e w' => e = .returned (.bool (smallI r)) ∧ w' = w := by
  by_cases h1 : 97 ≤ r
  · have h1' : decide (97 ≤ r) = true := by simpa using h1
    go_enter Tryz.func79, Tryz.ntmps79
    go_wp2
    go_ret
    exact ⟨ret_bool (by simp [smallI, h1]), rfl⟩
  · have h1' : decide (97 ≤ r) = false := by simpa using h1
    go_enter Tryz.func79, Tryz.ntmps79
    go_wp2
    go_ret
    exact ⟨ret_bool (by simp [smallI]; omega), rfl⟩
theorem digit_ref (r : Int) (w : World) : Calls Tryz.prog 80 #[.int .u8 r] w fun e w' => e = .returned (.bool (digI r)) ∧ w' = w := by
  by_cases h1 : 48 ≤ r
  · have h1' : decide (48 ≤ r) = true := by simpa using h1
    go_enter Tryz.func80, Tryz.ntmps80
    go_wp2
    go_ret
    exact ⟨ret_bool (by simp [digI, h1]), rfl⟩
  · have h1' : decide (48 ≤ r) = false := by simpa using h1
    go_enter Tryz.func80, Tryz.ntmps80
    go_wp2
    go_ret
    exact ⟨ret_bool (by simp [digI]; omega), rfl⟩
theorem wordI_eq (r : Int) : wordI r = (smallI r || digI r) := rfl
theorem small_digit {r : Int} (h : smallI r = true) : digI r = false := by
  simp [smallI, digI] at h ⊢; omega
set_option maxRecDepth 100000 in
set_option maxHeartbeats 2000000 in
theorem word_ref (s : ByteArray) (w : World) : Calls Tryz.prog 51 #[.string s] w fun e w' => e = .returned (.bool (speltB wordI 16 s.data.toList)) ∧ w' = w := by
  have HL := hid (size_list s)
  by_cases h0 : s.size = 0
  · have h0' : (s.size : Int) < 1 := by omega
    have HR := hid (show speltB wordI 16 s.data.toList = false by
      have e : s.data.toList = [] := List.eq_nil_of_length_eq_zero (by rw [HL.out]; exact h0)
      rw [e]; rfl)
    clear h0
    go_enter Tryz.func51, Tryz.ntmps51
    go_wp2
    go_ret
    exact ⟨ret_bool HR.out.symm, rfl⟩
  have h1 : ¬ (s.size : Int) < 1 := by omega
  by_cases h2 : 16 < s.size
  · have h2' : 16 < (s.size : Int) := by omega
    have HR := hid (show speltB wordI 16 s.data.toList = false from speltB_long (by rw [HL.out]; exact h2))
    go_enter Tryz.func51, Tryz.ntmps51
    go_wp2
    go_ret
    exact ⟨ret_bool HR.out.symm, rfl⟩
  have h2' : ¬ 16 < (s.size : Int) := by omega
  have hp0 : 0 < s.size := by omega
  obtain ⟨hq0, hc0⟩ := at_list s 0 hp0
  by_cases hs : smallI ((s.data[0]'hp0).toNat : Int) = true
  · have hs' : smallI ((s[0]'hp0).toNat : Int) = true := hs
    have HD := hid (show digI s.data.toList[0].toNat = false by rw [← hc0]; exact small_digit hs)
    clear hc0
    go_enter Tryz.func51, Tryz.ntmps51
    go_wp2_with (go_at_call 79; refine (small_ref _ _).mono ?_; rintro e w' ⟨rfl, rfl⟩)
    go_loop [3] (fun i => ∃ k : Nat, k ≤ s.size ∧ i = .int .i64 k ∧ ∀ j, (h : j < s.data.toList.length) → j < k → wordI s.data.toList[j].toNat = true) (fun i => s.size - (intOf i).toNat)
    case atStart => exact ⟨0, Nat.zero_le _, rfl, fun j _ h => absurd h (Nat.not_lt_zero _)⟩
    case round =>
      obtain ⟨k, hk, rfl, hall⟩ := hrel
      have HA := hid hall
      clear hall
      by_cases hlt : k < s.size
      · have hlt' : (k : Int) < s.size := by omega
        obtain ⟨hq, hc⟩ := at_list s k hlt
        have HC := hid (show (s.data[k]'hlt) = s.data.toList[k] from hc)
        clear hc
        by_cases ha : smallI ((s.data[k]'hlt).toNat : Int) = true
        · have ha' : smallI ((s[k]'hlt).toNat : Int) = true := ha
          have HN := hid (show wordI s.data.toList[k].toNat = true by rw [← HC.out, wordI_eq, ha]; rfl)
          go_wp2_with (go_at_call 79; refine (small_ref _ _).mono ?_; rintro e w' ⟨rfl, rfl⟩)
          go_round
          case rel => exact ⟨k + 1, hlt, by go_num, fun j h hj => by
              rcases Nat.lt_or_eq_of_le (Nat.le_of_lt_succ hj) with h' | h'
              · exact HA.out j h h'
              · subst h'; exact HN.out⟩
          case measure => simp [intOf]; omega
        · have hb : smallI ((s.data[k]'hlt).toNat : Int) = false := by simpa using ha
          have hb' : smallI ((s[k]'hlt).toNat : Int) = false := hb
          clear ha
          by_cases hd : digI ((s.data[k]'hlt).toNat : Int) = true
          · have hd' : digI ((s[k]'hlt).toNat : Int) = true := hd
            have HN := hid (show wordI s.data.toList[k].toNat = true by rw [← HC.out, wordI_eq, hd]; simp)
            go_wp2_with (first | (go_at_call 79; refine (small_ref _ _).mono ?_; rintro e w' ⟨rfl, rfl⟩) | (go_at_call 80; refine (digit_ref _ _).mono ?_; rintro e w' ⟨rfl, rfl⟩))
            go_round
            case rel => exact ⟨k + 1, hlt, by go_num, fun j h hj => by
                rcases Nat.lt_or_eq_of_le (Nat.le_of_lt_succ hj) with h' | h'
                · exact HA.out j h h'
                · subst h'; exact HN.out⟩
            case measure => simp [intOf]; omega
          · have he : digI ((s.data[k]'hlt).toNat : Int) = false := by simpa using hd
            have he' : digI ((s[k]'hlt).toNat : Int) = false := he
            have HR := hid (show speltB wordI 16 s.data.toList = false from speltB_bad hq (by rw [← HC.out, wordI_eq, hb, he]; rfl))
            clear hd
            go_wp2_with (first | (go_at_call 79; refine (small_ref _ _).mono ?_; rintro e w' ⟨rfl, rfl⟩) | (go_at_call 80; refine (digit_ref _ _).mono ?_; rintro e w' ⟨rfl, rfl⟩))
            go_ret
            exact ⟨ret_bool HR.out.symm, rfl⟩
      · have HR := hid (show speltB wordI 16 s.data.toList = true from speltB_good hq0 (by rw [HL.out]; omega) (fun j h => HA.out j h (by rw [HL.out] at h; omega)) HD.out)
        go_wp2
        go_ret
        exact ⟨ret_bool HR.out.symm, rfl⟩
  · have hb : smallI ((s.data[0]'hp0).toNat : Int) = false := by simpa using hs
    have hb' : smallI ((s[0]'hp0).toNat : Int) = false := hb
    have HR := hid (show speltB wordI 16 s.data.toList = false by
      by_cases hd : digI s.data.toList[0].toNat = true
      · exact speltB_digit hq0 hd
      · refine speltB_bad hq0 ?_
        have hd' : digI s.data.toList[0].toNat = false := by simpa using hd
        have hb2 : smallI s.data.toList[0].toNat = false := by rw [← hc0]; exact hb
        rw [wordI_eq, hb2, hd']; rfl)
    clear hs hc0
    go_enter Tryz.func51, Tryz.ntmps51
    go_wp2_with (go_at_call 79; refine (small_ref _ _).mono ?_; rintro e w' ⟨rfl, rfl⟩)
    go_ret
    exact ⟨ret_bool HR.out.symm, rfl⟩
theorem nameI_eq (r : Int) : nameI r = (smallI r || digI r || decide (65 ≤ r ∧ r ≤ 90) || decide (r = 95)) := rfl
set_option maxRecDepth 100000 in
set_option maxHeartbeats 2000000 in
theorem name_ref (s : ByteArray) (w : World) : Calls Tryz.prog 74 #[.string s] w fun e w' => e = .returned (.bool (nameB s.data.toList)) ∧ w' = w := by
  have HL := hid (size_list s)
  by_cases h0 : s.size = 0
  · have h0' : (s.size : Int) < 1 := by omega
    have HR := hid (show nameB s.data.toList = false by
      have e : s.data.toList = [] := List.eq_nil_of_length_eq_zero (by rw [HL.out]; exact h0)
      rw [e]; rfl)
    clear h0
    go_enter Tryz.func74, Tryz.ntmps74
    go_wp2
    go_ret
    exact ⟨ret_bool HR.out.symm, rfl⟩
  have h1 : ¬ (s.size : Int) < 1 := by omega
  by_cases h2 : 32 < s.size
  · have h2' : 32 < (s.size : Int) := by omega
    have HR := hid (show nameB s.data.toList = false from speltB_long (by rw [HL.out]; exact h2))
    go_enter Tryz.func74, Tryz.ntmps74
    go_wp2
    go_ret
    exact ⟨ret_bool HR.out.symm, rfl⟩
  have h2' : ¬ 32 < (s.size : Int) := by omega
  have hp0 : 0 < s.size := by omega
  obtain ⟨hq0, hc0⟩ := at_list s 0 hp0
  by_cases hs : digI ((s.data[0]'hp0).toNat : Int) = true
  · have hs' : digI ((s[0]'hp0).toNat : Int) = true := hs
    have HR := hid (show nameB s.data.toList = false from speltB_digit hq0 (by rw [← hc0]; exact hs))
    clear hc0
    go_enter Tryz.func74, Tryz.ntmps74
    go_wp2_with (first | (go_at_call 79; refine (small_ref _ _).mono ?_; rintro e w' ⟨rfl, rfl⟩) | (go_at_call 80; refine (digit_ref _ _).mono ?_; rintro e w' ⟨rfl, rfl⟩))
    go_ret
    exact ⟨ret_bool HR.out.symm, rfl⟩
  · have hb0 : digI ((s.data[0]'hp0).toNat : Int) = false := by simpa using hs
    have hb0' : digI ((s[0]'hp0).toNat : Int) = false := hb0
    have HD := hid (show digI s.data.toList[0].toNat = false by rw [← hc0]; exact hb0)
    clear hs hc0
    go_enter Tryz.func74, Tryz.ntmps74
    go_wp2_with (first | (go_at_call 79; refine (small_ref _ _).mono ?_; rintro e w' ⟨rfl, rfl⟩) | (go_at_call 80; refine (digit_ref _ _).mono ?_; rintro e w' ⟨rfl, rfl⟩))
    go_loop [3] (fun i => ∃ k : Nat, k ≤ s.size ∧ i = .int .i64 k ∧ ∀ j, (h : j < s.data.toList.length) → j < k → nameI s.data.toList[j].toNat = true) (fun i => s.size - (intOf i).toNat)
    case atStart => exact ⟨0, Nat.zero_le _, rfl, fun j _ h => absurd h (Nat.not_lt_zero _)⟩
    case round =>
      obtain ⟨k, hk, rfl, hall⟩ := hrel
      have HA := hid hall
      clear hall
      by_cases hlt : k < s.size
      · have hlt' : (k : Int) < s.size := by omega
        obtain ⟨hq, hc⟩ := at_list s k hlt
        have HC := hid (show (s.data[k]'hlt) = s.data.toList[k] from hc)
        clear hc
        by_cases ha : smallI ((s.data[k]'hlt).toNat : Int) = true
        · have ha' : smallI ((s[k]'hlt).toNat : Int) = true := ha
          have HN := hid (show nameI s.data.toList[k].toNat = true by rw [← HC.out, nameI_eq, ha]; rfl)
          go_wp2_with (first | (go_at_call 79; refine (small_ref _ _).mono ?_; rintro e w' ⟨rfl, rfl⟩) | (go_at_call 80; refine (digit_ref _ _).mono ?_; rintro e w' ⟨rfl, rfl⟩))
          go_round
          case rel => exact ⟨k + 1, hlt, by go_num, fun j h hj => by
              rcases Nat.lt_or_eq_of_le (Nat.le_of_lt_succ hj) with h' | h'
              · exact HA.out j h h'
              · subst h'; exact HN.out⟩
          case measure => simp [intOf]; omega
        · have hb : smallI ((s.data[k]'hlt).toNat : Int) = false := by simpa using ha
          have hb' : smallI ((s[k]'hlt).toNat : Int) = false := hb
          clear ha
          by_cases hd : digI ((s.data[k]'hlt).toNat : Int) = true
          · have hd' : digI ((s[k]'hlt).toNat : Int) = true := hd
            have HN := hid (show nameI s.data.toList[k].toNat = true by rw [← HC.out, nameI_eq, hd]; simp)
            go_wp2_with (first | (go_at_call 79; refine (small_ref _ _).mono ?_; rintro e w' ⟨rfl, rfl⟩) | (go_at_call 80; refine (digit_ref _ _).mono ?_; rintro e w' ⟨rfl, rfl⟩))
            go_round
            case rel => exact ⟨k + 1, hlt, by go_num, fun j h hj => by
                rcases Nat.lt_or_eq_of_le (Nat.le_of_lt_succ hj) with h' | h'
                · exact HA.out j h h'
                · subst h'; exact HN.out⟩
            case measure => simp [intOf]; omega
          · have he : digI ((s.data[k]'hlt).toNat : Int) = false := by simpa using hd
            have he' : digI ((s[k]'hlt).toNat : Int) = false := he
            clear hd
            by_cases h95 : ((s.data[k]'hlt).toNat : Int) = 95
            · have hu : (((s.data[k]'hlt).toNat : Int) != 95) = false := by simp [h95]
              have hu' : (((s[k]'hlt).toNat : Int) != 95) = false := hu
              have HN := hid (show nameI s.data.toList[k].toNat = true by rw [← HC.out, nameI_eq, h95]; simp)
              go_wp2_with (first | (go_at_call 79; refine (small_ref _ _).mono ?_; rintro e w' ⟨rfl, rfl⟩) | (go_at_call 80; refine (digit_ref _ _).mono ?_; rintro e w' ⟨rfl, rfl⟩))
              go_round
              case rel => exact ⟨k + 1, hlt, by go_num, fun j h hj => by
                  rcases Nat.lt_or_eq_of_le (Nat.le_of_lt_succ hj) with h' | h'
                  · exact HA.out j h h'
                  · subst h'; exact HN.out⟩
              case measure => simp [intOf]; omega
            · have hu : (((s.data[k]'hlt).toNat : Int) != 95) = true := by simpa using h95
              have hu' : (((s[k]'hlt).toNat : Int) != 95) = true := hu
              by_cases h65 : 65 ≤ ((s.data[k]'hlt).toNat : Int)
              · have h65d : decide (65 ≤ ((s.data[k]'hlt).toNat : Int)) = true := by simpa using h65
                have h65e : decide (65 ≤ ((s[k]'hlt).toNat : Int)) = true := h65d
                by_cases h90 : ((s.data[k]'hlt).toNat : Int) ≤ 90
                · have h90d : decide (((s.data[k]'hlt).toNat : Int) ≤ 90) = true := by simpa using h90
                  have h90e : decide (((s[k]'hlt).toNat : Int) ≤ 90) = true := h90d
                  have HNN := hid (show nameI ((s.data[k]'hlt).toNat : Int) = true by rw [nameI_eq, decide_eq_true (And.intro h65 h90)]; simp)
                  clear h95 h65 h90
                  have HN := hid (show nameI s.data.toList[k].toNat = true by rw [← HC.out]; exact HNN.out)
                  go_wp2_with (first | (go_at_call 79; refine (small_ref _ _).mono ?_; rintro e w' ⟨rfl, rfl⟩) | (go_at_call 80; refine (digit_ref _ _).mono ?_; rintro e w' ⟨rfl, rfl⟩))
                  go_round
                  case rel => exact ⟨k + 1, hlt, by go_num, fun j h hj => by
                      rcases Nat.lt_or_eq_of_le (Nat.le_of_lt_succ hj) with h' | h'
                      · exact HA.out j h h'
                      · subst h'; exact HN.out⟩
                  case measure => simp [intOf]; omega
                · have h90d : decide (((s.data[k]'hlt).toNat : Int) ≤ 90) = false := by simpa using h90
                  have h90e : decide (((s[k]'hlt).toNat : Int) ≤ 90) = false := h90d
                  have HR := hid (show nameB s.data.toList = false from speltB_bad hq (by rw [← HC.out, nameI_eq, hb, he, decide_eq_false h95, decide_eq_false (fun h => h90 h.2)]; rfl))
                  clear h95 h65 h90
                  go_wp2_with (first | (go_at_call 79; refine (small_ref _ _).mono ?_; rintro e w' ⟨rfl, rfl⟩) | (go_at_call 80; refine (digit_ref _ _).mono ?_; rintro e w' ⟨rfl, rfl⟩))
                  go_ret
                  exact ⟨ret_bool HR.out.symm, rfl⟩
              · have h65d : decide (65 ≤ ((s.data[k]'hlt).toNat : Int)) = false := by simpa using h65
                have h65e : decide (65 ≤ ((s[k]'hlt).toNat : Int)) = false := h65d
                have HR := hid (show nameB s.data.toList = false from speltB_bad hq (by rw [← HC.out, nameI_eq, hb, he, decide_eq_false h95, decide_eq_false (fun h => h65 h.1)]; rfl))
                clear h95 h65
                go_wp2_with (first | (go_at_call 79; refine (small_ref _ _).mono ?_; rintro e w' ⟨rfl, rfl⟩) | (go_at_call 80; refine (digit_ref _ _).mono ?_; rintro e w' ⟨rfl, rfl⟩))
                go_ret
                exact ⟨ret_bool HR.out.symm, rfl⟩
      · have HR := hid (show nameB s.data.toList = true from speltB_good hq0 (by rw [HL.out]; omega) (fun j h => HA.out j h (by rw [HL.out] at h; omega)) HD.out)
        go_wp2
        go_ret
        exact ⟨ret_bool HR.out.symm, rfl⟩
end Go.Proofs.YtaodkfchmaendaaGreatDoor
