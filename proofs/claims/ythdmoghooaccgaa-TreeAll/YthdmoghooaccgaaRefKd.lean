/-
  espalierref3.small, digit, Word, Kind, each by a contract: the document's words and names of kinds.
-/
import Derived.Test.YthdmoghooaccgaaMay
import Derived.Test.YthdmoghooaccgaaRefSize
import Derived.WalkMore
namespace Go.Proofs.Ythdmoghooaccgaa
open Go.RowKit Go.Shelf
def smallI (r : Int) : Bool := decide (97 ≤ r ∧ r ≤ 122)
theorem small_ref (r : Int) (w : World) : Calls Try.prog 75 #[.int .u8 r] w fun e w' => e = .returned (.bool (smallI r)) ∧ w' = w := by
  by_cases h1 : 97 ≤ r
  · have h1' : decide (97 ≤ r) = true := by simpa using h1
    go_enter Try.func75, Try.ntmps75
    go_wp2
    go_ret
    exact ⟨ret_bool (by simp [smallI, h1]), rfl⟩
  · have h1' : decide (97 ≤ r) = false := by simpa using h1
    go_enter Try.func75, Try.ntmps75
    go_wp2
    go_ret
    exact ⟨ret_bool (by simp [smallI]; omega), rfl⟩
theorem digit_ref (r : Int) (w : World) : Calls Try.prog 76 #[.int .u8 r] w fun e w' => e = .returned (.bool (digI r)) ∧ w' = w := by
  by_cases h1 : 48 ≤ r
  · have h1' : decide (48 ≤ r) = true := by simpa using h1
    go_enter Try.func76, Try.ntmps76
    go_wp2
    go_ret
    exact ⟨ret_bool (by simp [digI, h1]), rfl⟩
  · have h1' : decide (48 ≤ r) = false := by simpa using h1
    go_enter Try.func76, Try.ntmps76
    go_wp2
    go_ret
    exact ⟨ret_bool (by simp [digI]; omega), rfl⟩
theorem wordI_eq (r : Int) : wordI r = (smallI r || digI r) := rfl
theorem small_digit {r : Int} (h : smallI r = true) : digI r = false := by
  simp [smallI, digI] at h ⊢; omega
set_option maxRecDepth 100000 in
set_option maxHeartbeats 2000000 in
theorem word_ref (s : ByteArray) (w : World) : Calls Try.prog 72 #[.string s] w fun e w' => e = .returned (.bool (speltB wordI 16 s.data.toList)) ∧ w' = w := by
  have HL := hid (size_list s)
  by_cases h0 : s.size = 0
  · have h0' : (s.size : Int) < 1 := by omega
    have HR := hid (show speltB wordI 16 s.data.toList = false by
      have e : s.data.toList = [] := List.eq_nil_of_length_eq_zero (by rw [HL.out]; exact h0)
      rw [e]; rfl)
    clear h0
    go_enter Try.func72, Try.ntmps72
    go_wp2
    go_ret
    exact ⟨ret_bool HR.out.symm, rfl⟩
  have h1 : ¬ (s.size : Int) < 1 := by omega
  by_cases h2 : 16 < s.size
  · have h2' : 16 < (s.size : Int) := by omega
    have HR := hid (show speltB wordI 16 s.data.toList = false from speltB_long (by rw [HL.out]; exact h2))
    go_enter Try.func72, Try.ntmps72
    go_wp2
    go_ret
    exact ⟨ret_bool HR.out.symm, rfl⟩
  have h2' : ¬ 16 < (s.size : Int) := by omega
  have hp0 : 0 < s.size := by omega
  obtain ⟨hq0, hc0⟩ := at_list s 0 hp0
  by_cases hs : smallI ((s.data[0]'hp0).toNat : Int) = true
  · have hs' : smallI ((s[0]'hp0).toNat : Int) = true := hs
    have HD := hid (show digI s.data.toList[0].toNat = false by rw [← hc0]; exact small_digit hs)
    clear hc0
    go_enter Try.func72, Try.ntmps72
    go_wp2_with (go_at_call 75; refine (small_ref _ _).mono ?_; rintro e w' ⟨rfl, rfl⟩)
    go_loop [3] (fun i => ∃ k : Nat, k ≤ s.size ∧ i = .int .i64 k ∧ ∀ j, (h : j < s.data.toList.length) → j < k → wordI s.data.toList[j].toNat = true) (fun i => s.size - (intOf i).toNat)
    case atStart => exact ⟨0, Nat.zero_le _, rfl, fun j _ h => absurd h (Nat.not_lt_zero _)⟩
    case round =>
      obtain ⟨k, hk, rfl, hall⟩ := hrel
      have HA := hid hall
      clear hall
      by_cases hlt : k < s.size
      · have hlt' : (k : Int) < s.size := by omega
        obtain ⟨hq, hc⟩ := at_list s k hlt
        have HC := hid (show (s.data[k]'hlt) = s.data.toList[k] from hc)
        clear hc
        by_cases ha : smallI ((s.data[k]'hlt).toNat : Int) = true
        · have ha' : smallI ((s[k]'hlt).toNat : Int) = true := ha
          have HN := hid (show wordI s.data.toList[k].toNat = true by rw [← HC.out, wordI_eq, ha]; rfl)
          go_wp2_with (go_at_call 75; refine (small_ref _ _).mono ?_; rintro e w' ⟨rfl, rfl⟩)
          go_round
          case rel => exact ⟨k + 1, hlt, by go_num, fun j h hj => by
              rcases Nat.lt_or_eq_of_le (Nat.le_of_lt_succ hj) with h' | h'
              · exact HA.out j h h'
              · subst h'; exact HN.out⟩
          case measure => simp [intOf]; omega
        · have hb : smallI ((s.data[k]'hlt).toNat : Int) = false := by simpa using ha
          have hb' : smallI ((s[k]'hlt).toNat : Int) = false := hb
          clear ha
          by_cases hd : digI ((s.data[k]'hlt).toNat : Int) = true
          · have hd' : digI ((s[k]'hlt).toNat : Int) = true := hd
            have HN := hid (show wordI s.data.toList[k].toNat = true by rw [← HC.out, wordI_eq, hd]; simp)
            go_wp2_with (first | (go_at_call 75; refine (small_ref _ _).mono ?_; rintro e w' ⟨rfl, rfl⟩) | (go_at_call 76; refine (digit_ref _ _).mono ?_; rintro e w' ⟨rfl, rfl⟩))
            go_round
            case rel => exact ⟨k + 1, hlt, by go_num, fun j h hj => by
                rcases Nat.lt_or_eq_of_le (Nat.le_of_lt_succ hj) with h' | h'
                · exact HA.out j h h'
                · subst h'; exact HN.out⟩
            case measure => simp [intOf]; omega
          · have he : digI ((s.data[k]'hlt).toNat : Int) = false := by simpa using hd
            have he' : digI ((s[k]'hlt).toNat : Int) = false := he
            have HR := hid (show speltB wordI 16 s.data.toList = false from speltB_bad hq (by rw [← HC.out, wordI_eq, hb, he]; rfl))
            clear hd
            go_wp2_with (first | (go_at_call 75; refine (small_ref _ _).mono ?_; rintro e w' ⟨rfl, rfl⟩) | (go_at_call 76; refine (digit_ref _ _).mono ?_; rintro e w' ⟨rfl, rfl⟩))
            go_ret
            exact ⟨ret_bool HR.out.symm, rfl⟩
      · have HR := hid (show speltB wordI 16 s.data.toList = true from speltB_good hq0 (by rw [HL.out]; omega) (fun j h => HA.out j h (by rw [HL.out] at h; omega)) HD.out)
        go_wp2
        go_ret
        exact ⟨ret_bool HR.out.symm, rfl⟩
  · have hb : smallI ((s.data[0]'hp0).toNat : Int) = false := by simpa using hs
    have hb' : smallI ((s[0]'hp0).toNat : Int) = false := hb
    have HR := hid (show speltB wordI 16 s.data.toList = false by
      by_cases hd : digI s.data.toList[0].toNat = true
      · exact speltB_digit hq0 hd
      · refine speltB_bad hq0 ?_
        have hd' : digI s.data.toList[0].toNat = false := by simpa using hd
        have hb2 : smallI s.data.toList[0].toNat = false := by rw [← hc0]; exact hb
        rw [wordI_eq, hb2, hd']; rfl)
    clear hs hc0
    go_enter Try.func72, Try.ntmps72
    go_wp2_with (go_at_call 75; refine (small_ref _ _).mono ?_; rintro e w' ⟨rfl, rfl⟩)
    go_ret
    exact ⟨ret_bool HR.out.symm, rfl⟩
theorem word_ref_list (l : List UInt8) (w : World) : Calls Try.prog 72 #[.string ⟨l.toArray⟩] w fun e w' => e = .returned (.bool (speltB wordI 16 l)) ∧ w' = w := by
  have := word_ref ⟨l.toArray⟩ w
  simpa using this
theorem not_sign {s : ByteArray} {k : Nat} (hk : k < s.size) (hq : k < s.data.toList.length) {c : UInt8} (h : s.data.toList[k] ≠ c) : (((s.data[k]'hk).toNat : Int) == (c.toNat : Int)) = false := by
  rw [beq_eq_false_iff_ne]
  intro e
  refine h ?_
  have h1 : s.data.toList[k] = s.data[k]'hk := by simp
  rw [h1]
  exact UInt8.toNat_inj.1 (by omega)
theorem is_sign {s : ByteArray} {k : Nat} (hk : k < s.size) (hq : k < s.data.toList.length) {c : UInt8} (h : s.data.toList[k] = c) : (((s.data[k]'hk).toNat : Int) == (c.toNat : Int)) = true := by
  have h1 : s.data.toList[k] = s.data[k]'hk := by simp
  rw [← h1, h]
  simp
set_option maxRecDepth 100000 in
theorem kind_ref_none (s : ByteArray) (w : World) (hb : s.size ≤ 140737488355328) (h : 46 ∉ s.data.toList) :
    Calls Try.prog 68 #[.string s] w fun e w' => e = .returned (.tuple #[.string ⟨#[]⟩, .string ⟨#[]⟩, .bool false]) ∧ Ext w w' := by
  have HL := hid (size_list s)
  have HH := hid h
  clear h
  go_enter Try.func68, Try.ntmps68
  go_wp2
  go_loop [5] (fun i => ∃ k : Nat, k ≤ s.size ∧ i = .int .i64 k) (fun i => s.size - (intOf i).toNat)
  case atStart => exact ⟨0, Nat.zero_le _, rfl⟩
  case round =>
    obtain ⟨k, hk, rfl⟩ := hrel
    by_cases hlt : k < s.size
    · have hlt' : (k : Int) < s.size := by omega
      have hk' : (k : Int) ≤ 140737488355328 := by omega
      obtain ⟨hq, hc⟩ := at_list s k hlt
      have hz : (((s.data[k]'hlt).toNat : Int) == 46) = false := not_sign hlt hq (c := 46) (fun e => HH.out (by rw [← e]; exact List.getElem_mem hq))
      have hz' : (((s[k]'hlt).toNat : Int) == 46) = false := hz
      clear hc
      go_wp2
      go_round
      case rel => exact ⟨k + 1, hlt, by go_num⟩
      case measure => simp [intOf]; omega
    · go_wp2
      go_ret3
      exact ⟨rfl, Ext.refl _⟩
set_option maxRecDepth 100000 in
set_option maxHeartbeats 1000000 in
theorem kind_ref_found (s : ByteArray) (pre post : List UInt8) (w : World) (hs : s.data.toList = pre ++ 46 :: post) (h : 46 ∉ pre) (hb : s.size ≤ 140737488355328) :
    Calls Try.prog 68 #[.string s] w fun e w' => e = .returned (kindV pre post) ∧ Ext w w' := by
  have HL := hid (size_list s)
  have hl : s.size = pre.length + (post.length + 1) := by rw [← size_list, hs]; simp
  have H1 := hid (show s.extract 0 pre.length = ⟨pre.toArray⟩ from data_inj (by rw [Lib.extract_data, hs]; simp))
  have H2 := hid (show s.extract (pre.length + 1) s.size = ⟨post.toArray⟩ from data_inj (by rw [Lib.extract_data, hs, show pre ++ 46 :: post = (pre ++ [46]) ++ post by simp, List.drop_left' (by simp), List.take_of_length_le (by omega)]))
  have HS := hid hs
  have HH := hid h
  have hsl : (s.size : Int) ≤ 140737488355328 := by omega
  have hpl : pre.length < s.size := by omega
  clear hs h hl
  go_enter Try.func68, Try.ntmps68
  go_wp2
  go_loop [5] (fun i => ∃ k : Nat, k ≤ pre.length ∧ i = .int .i64 k) (fun i => s.size - (intOf i).toNat)
  case atStart => exact ⟨0, Nat.zero_le _, rfl⟩
  case round =>
    obtain ⟨k, hk, rfl⟩ := hrel
    have hlt : k < s.size := by omega
    have hlt' : (k : Int) < s.size := by omega
    obtain ⟨hq, hc⟩ := at_list s k hlt
    clear hc
    by_cases hkl : k < pre.length
    · have hz : (((s.data[k]'hlt).toNat : Int) == 46) = false := not_sign hlt hq (c := 46) (fun e => HH.out (by
        have h2 : s.data.toList[k]? = some 46 := by rw [List.getElem?_eq_getElem hq, e]
        rw [HS.out, List.getElem?_append_left hkl, List.getElem?_eq_getElem hkl] at h2
        rw [← Option.some.inj h2]; exact List.getElem_mem hkl))
      have hz' : (((s[k]'hlt).toNat : Int) == 46) = false := hz
      go_wp2
      go_round
      case rel => exact ⟨k + 1, hkl, by go_num⟩
      case measure => simp [intOf]; omega
    · obtain rfl : k = pre.length := by omega
      have hz : (((s.data[pre.length]'hlt).toNat : Int) == 46) = true := is_sign hlt hq (c := 46) (by
        have h2 : s.data.toList[pre.length]? = some 46 := by rw [HS.out, List.getElem?_append_right (Nat.le_refl _)]; simp
        rw [List.getElem?_eq_getElem hq] at h2
        exact Option.some.inj h2)
      have hz' : (((s[pre.length]'hlt).toNat : Int) == 46) = true := hz
      have hi2 : (pre.length : Int) + 1 ≤ s.size := by omega
      have hi3 : (pre.length : Int) ≤ s.size := by omega
      by_cases hw : speltB wordI 16 pre = true
      · by_cases hv : speltB wordI 16 post = true
        · have HR := hid (show kindV pre post = .tuple #[.string ⟨pre.toArray⟩, .string ⟨post.toArray⟩, .bool true] by simp [kindV, hw, hv])
          go_wp2_with fail
          rw [H1.out]
          refine (word_ref_list pre _).mono ?_
          rintro e w1 ⟨rfl, rfl⟩
          go_wp2_with fail
          rw [H2.out]
          refine (word_ref_list post _).mono ?_
          rintro e w2 ⟨rfl, rfl⟩
          go_wp2
          go_quiet (fail)
          go_wp2
          go_ret3
          exact ⟨by rw [HR.out, H1.out, H2.out]; rfl, (Ext.refl _).drewN _⟩
        · have hv' : speltB wordI 16 post = false := by simpa using hv
          have HR := hid (show kindV pre post = .tuple #[.string ⟨#[]⟩, .string ⟨#[]⟩, .bool false] by simp [kindV, hv'])
          clear hv
          go_wp2_with fail
          rw [H1.out]
          refine (word_ref_list pre _).mono ?_
          rintro e w1 ⟨rfl, rfl⟩
          go_wp2_with fail
          rw [H2.out]
          refine (word_ref_list post _).mono ?_
          rintro e w2 ⟨rfl, rfl⟩
          go_wp2
          go_ret3
          exact ⟨by rw [HR.out]; rfl, Ext.refl _⟩
      · have hw' : speltB wordI 16 pre = false := by simpa using hw
        have HR := hid (show kindV pre post = .tuple #[.string ⟨#[]⟩, .string ⟨#[]⟩, .bool false] by simp [kindV, hw'])
        clear hw
        go_wp2_with fail
        rw [H1.out]
        refine (word_ref_list pre _).mono ?_
        rintro e w1 ⟨rfl, rfl⟩
        go_wp2
        go_ret3
        exact ⟨by rw [HR.out]; rfl, Ext.refl _⟩
end Go.Proofs.Ythdmoghooaccgaa
