/-
  sign.digit, sign.ofWord, sign.ofName, sign.spelt, sign.Word, sign.Name, each by a contract.
-/
import Derived.Test.YtaafcmmmkalgjaaGreatDoorEqp
import Derived.Test.YtaafcmmmkalgjaaGreatDoorShelf
namespace Go.Proofs.YtaafcmmmkalgjaaGreatDoor
open Go.RowKit

def digI (r : Int) : Bool := decide (48 ≤ r ∧ r ≤ 57)
def wordI (r : Int) : Bool := decide (97 ≤ r ∧ r ≤ 122) || digI r
def nameI (r : Int) : Bool := wordI r || decide (65 ≤ r ∧ r ≤ 90) || decide (r = 95)
theorem wordI_in {r : Int} (h1 : 97 ≤ r) (h2 : r ≤ 122) : wordI r = true := by simp [wordI, h1, h2]
theorem wordI_out {r : Int} (h : ¬ (97 ≤ r ∧ r ≤ 122)) : wordI r = digI r := by unfold wordI; rw [decide_eq_false h]; rfl
theorem nameI_cap {r : Int} (h1 : 65 ≤ r) (h2 : r ≤ 90) : nameI r = true := by simp [nameI, h1, h2]
theorem nameI_else {r : Int} (hw : wordI r = false) (h : ¬ (65 ≤ r ∧ r ≤ 90)) : nameI r = (r == 95) := by unfold nameI; rw [decide_eq_false h, hw]; by_cases e : r = 95 <;> simp [e]
theorem high_digI {r : Int} (h : 128 ≤ r) : digI r = false := by simp [digI]; omega
theorem high_wordI {r : Int} (h : 128 ≤ r) : wordI r = false := by rw [wordI_out (by omega)]; exact high_digI h
theorem high_nameI {r : Int} (h : 128 ≤ r) : nameI r = false := by rw [nameI_else (high_wordI h) (by omega)]; simp; omega
theorem digit_any (r : Int) (w : World) : Calls Tryz.prog 145 #[.int .i32 r] w fun e w' => e = .returned (.bool (digI r)) ∧ w' = w := by
  by_cases h1 : 48 ≤ r <;> by_cases h2 : r ≤ 57
  all_goals
    go_enter Tryz.func145, Tryz.ntmps145
    go_wp2
    go_ret
    exact ⟨ret_bool (by simp [digI, h1, h2]), rfl⟩
theorem ofWord_any (r : Int) (w : World) : Calls Tryz.prog 106 #[.int .i32 r] w fun e w' => e = .returned (.bool (wordI r)) ∧ w' = w := by
  by_cases h1 : 97 ≤ r <;> by_cases h2 : r ≤ 122
  all_goals
    go_enter Tryz.func106, Tryz.ntmps106
    go_wp2_with (go_at_call 145; refine (digit_any r _).mono ?_; rintro e w' ⟨rfl, rfl⟩)
    go_ret
    exact ⟨ret_bool (by first | (rw [wordI_in (by omega) (by omega)]; done) | (rw [wordI_out (by omega)]; try rfl)), rfl⟩
theorem ofName_any (r : Int) (w : World) : Calls Tryz.prog 149 #[.int .i32 r] w fun e w' => e = .returned (.bool (nameI r)) ∧ w' = w := by
  by_cases hw : wordI r = true
  · go_enter Tryz.func149, Tryz.ntmps149
    go_wp2_with (go_at_call 106; refine (ofWord_any r _).mono ?_; rintro e w' ⟨rfl, rfl⟩)
    go_ret
    exact ⟨ret_bool (by simp [nameI, hw]), rfl⟩
  · have hw' : wordI r = false := by simpa using hw
    clear hw
    by_cases h1 : 65 ≤ r ∧ r ≤ 90
    · obtain ⟨h1, h2⟩ := h1
      go_enter Tryz.func149, Tryz.ntmps149
      go_wp2_with (go_at_call 106; refine (ofWord_any r _).mono ?_; rintro e w' ⟨rfl, rfl⟩)
      go_ret
      exact ⟨ret_bool (by rw [nameI_cap h1 h2]), rfl⟩
    · have HE := hid (nameI_else hw' h1)
      have h1' : 65 ≤ r → 90 < r := fun h => by omega
      have H1 := hid h1'
      clear h1 h1'
      by_cases h2 : 65 ≤ r
      · have h3 := H1.out h2
        have h4 : decide (r ≤ 90) = false := decide_eq_false (by omega)
        go_enter Tryz.func149, Tryz.ntmps149
        go_wp2_with (go_at_call 106; refine (ofWord_any r _).mono ?_; rintro e w' ⟨rfl, rfl⟩)
        all_goals
          go_ret
          exact ⟨ret_bool (by rw [HE.out]; try rw [h4]; try rfl), rfl⟩
      · go_enter Tryz.func149, Tryz.ntmps149
        go_wp2_with (go_at_call 106; refine (ofWord_any r _).mono ?_; rintro e w' ⟨rfl, rfl⟩)
        all_goals
          go_ret
          exact ⟨ret_bool (by rw [HE.out]; try rfl), rfl⟩

theorem Ext.iter {w w' : World} (h : Ext w w') (s : ByteArray) (pos : Nat) : Ext w (w'.iter s pos) := h.trans (Ext.alloc _ _)
/-- 1 to m signs, each such that f takes it, and no digit first. -/
def speltB (f : Int → Bool) (m : Nat) (l : List UInt8) : Bool := !l.isEmpty && decide (l.length ≤ m) && l.all (fun c => f c.toNat) && !(l.head?.any (fun c => digI c.toNat))
theorem speltB_none (f : Int → Bool) (m : Nat) : speltB f m [] = false := rfl
theorem speltB_long {f : Int → Bool} {m : Nat} {l : List UInt8} (h : m < l.length) : speltB f m l = false := by
  have : decide (l.length ≤ m) = false := by simp; omega
  simp [speltB, this]
theorem speltB_bad {f : Int → Bool} {m k : Nat} {l : List UInt8} (h : k < l.length) (hf : f l[k].toNat = false) : speltB f m l = false := by
  have : l.all (fun c => f c.toNat) = false := by
    rw [List.all_eq_false]
    exact ⟨l[k], List.getElem_mem h, by simp [hf]⟩
  simp [speltB, this]
theorem speltB_digit {f : Int → Bool} {m : Nat} {l : List UInt8} (h : 0 < l.length) (hf : digI l[0].toNat = true) : speltB f m l = false := by
  cases l with
  | nil => rfl
  | cons c l =>
    have : ((c :: l).head?.any (fun c => digI c.toNat)) = true := hf
    simp only [speltB, this]
    simp
theorem speltB_good {f : Int → Bool} {m : Nat} {l : List UInt8} (h0 : 0 < l.length) (hm : l.length ≤ m) (ha : ∀ k, (h : k < l.length) → f l[k].toNat = true) (hd : digI l[0].toNat = false) : speltB f m l = true := by
  cases l with
  | nil => simp at h0
  | cons c l =>
    have e1 : ((c :: l).head?.any (fun c => digI c.toNat)) = false := hd
    have e2 : (c :: l).all (fun c => f c.toNat) = true := by
      rw [List.all_eq_true]
      intro x hx
      obtain ⟨k, hk, rfl⟩ := List.getElem_of_mem hx
      exact ha k hk
    simp only [speltB, e1, e2]
    simp at hm ⊢
    exact hm
theorem at_list (s : ByteArray) (k : Nat) (h : k < s.size) : ∃ h' : k < s.data.toList.length, s[k] = s.data.toList[k] := ⟨by simpa using h, by simp; rfl⟩
theorem size_list (s : ByteArray) : s.data.toList.length = s.size := by simp

set_option maxRecDepth 100000 in
set_option maxHeartbeats 2000000 in
theorem speltW (s : ByteArray) (m : Nat) (w : World) (hm : m ≤ 1000) : Calls Tryz.prog 105 #[.string s, .int .i64 m, .func (.func 106) #[] #[]] w fun e w' => e = .returned (.bool (speltB wordI m s.data.toList)) ∧ Ext w w' := by
  have hm' : (m : Int) ≤ 1000 := by omega
  by_cases h0 : s.toList.isEmpty = true
  · have HR := hid (show speltB wordI m s.data.toList = false by rw [← ByteArray.toList_eq, List.isEmpty_iff.1 h0]; rfl)
    go_enter Tryz.func105, Tryz.ntmps105
    go_wp2
    go_ret
    exact ⟨ret_bool (by rw [HR.out]), Ext.refl _⟩
  have h0' : s.toList.isEmpty = false := by simpa using h0
  by_cases hl : m < s.size
  · have HR := hid (speltB_long (f := wordI) (m := m) (l := s.data.toList) (by rw [size_list]; exact hl))
    have hl' : (m : Int) < s.size := by omega
    go_enter Tryz.func105, Tryz.ntmps105
    go_wp2
    go_ret
    exact ⟨ret_bool (by rw [HR.out]), Ext.refl _⟩
  have hl' : (s.size : Int) ≤ m := by omega
  have hne : 0 < s.size := by
    rcases Nat.eq_zero_or_pos s.size with h | h
    · exact absurd (by rw [ByteArray.toList_eq, List.isEmpty_iff]; exact List.eq_nil_of_length_eq_zero (by rw [size_list]; exact h)) h0
    · exact h
  go_enter Tryz.func105, Tryz.ntmps105
  clear h0
  go_wp2
  go_loopw [7] (fun _ wr => ∃ pos : Nat, wr = w.iter s pos ∧ pos ≤ s.size ∧ (∀ k, (h : k < s.data.toList.length) → k < pos → wordI s.data.toList[k].toNat = true) ∧ (0 < pos → (h : 0 < s.data.toList.length) → digI s.data.toList[0].toNat = false)) (fun _ wr => s.size - wr.iterPos w.heap.size)
  case atStart => exact ⟨0, rfl, Nat.zero_le _, fun k _ h => absurd h (Nat.not_lt_zero _), fun h => absurd h (Nat.not_lt_zero _)⟩
  case round =>
    obtain ⟨pos, rfl, hps, hall, hdig⟩ := hrel
    have HALL := hid hall
    have HDIG := hid hdig
    clear hall hdig
    by_cases hp : pos < s.size
    · obtain ⟨hp', hc⟩ := at_list s pos hp
      by_cases ha : (s[pos]'hp).toNat < 128
      · have hnx : ∀ ty, (Instr.next (.pointer (some ⟨w.heap.size, 0, none⟩)) true ty).run Tryz.prog (w.iter s pos) = _ := fun ty => run_next_ascii w s pos ty hp ha
        have HC := hid (congrArg UInt8.toNat hc)
        generalize (s[pos]'hp).toNat = c at hnx HC
        clear hc ha
        by_cases hf : wordI (c : Int) = true
        · by_cases hz : pos = 0
          · subst hz
            by_cases hd : digI (c : Int) = true
            · have HR := hid (speltB_digit (f := wordI) (m := m) (l := s.data.toList) hp' (by rw [← HC.out]; exact hd))
              go_wp2_with (first | (go_at_call 106; refine (ofWord_any _ _).mono ?_; rintro e w' ⟨rfl, rfl⟩) | (go_at_call 145; refine (digit_any _ _).mono ?_; rintro e w' ⟨rfl, rfl⟩))
              go_ret
              exact ⟨ret_bool (by rw [HR.out]), (Ext.refl _).iter _ _⟩
            · have hd' : digI (c : Int) = false := by simpa using hd
              clear hd
              go_wp2_with (first | (go_at_call 106; refine (ofWord_any _ _).mono ?_; rintro e w' ⟨rfl, rfl⟩) | (go_at_call 145; refine (digit_any _ _).mono ?_; rintro e w' ⟨rfl, rfl⟩))
              go_roundw
              case rel => exact ⟨1, rfl, hp, fun k hk h => by
                  obtain rfl : k = 0 := by omega
                  rw [← HC.out]; exact hf, fun _ _ => by rw [← HC.out]; exact hd'⟩
              case measure => simp; omega
          · have hz' : ((pos : Int) == 0) = false := by simp [hz]
            go_wp2_with (first | (go_at_call 106; refine (ofWord_any _ _).mono ?_; rintro e w' ⟨rfl, rfl⟩) | (go_at_call 145; refine (digit_any _ _).mono ?_; rintro e w' ⟨rfl, rfl⟩))
            go_roundw
            case rel => exact ⟨pos + 1, rfl, hp, fun k hk h => by
                rcases Nat.lt_or_eq_of_le (Nat.le_of_lt_succ h) with h | h
                · exact HALL.out k hk h
                · subst h; rw [← HC.out]; exact hf, fun _ => HDIG.out (by omega)⟩
            case measure => simp; omega
        · have hf' : wordI (c : Int) = false := by simpa using hf
          have HR := hid (speltB_bad (f := wordI) (m := m) (l := s.data.toList) hp' (by rw [← HC.out]; exact hf'))
          clear hf
          go_wp2_with (first | (go_at_call 106; refine (ofWord_any _ _).mono ?_; rintro e w' ⟨rfl, rfl⟩) | (go_at_call 145; refine (digit_any _ _).mono ?_; rintro e w' ⟨rfl, rfl⟩))
          go_ret
          exact ⟨ret_bool (by rw [HR.out]), (Ext.refl _).iter _ _⟩
      · have hhi := (decode_high s pos hp (by omega)).1
        have hnx : ∀ ty, (Instr.next (.pointer (some ⟨w.heap.size, 0, none⟩)) true ty).run Tryz.prog (w.iter s pos) = _ := fun ty => run_next_any w s pos ty hp
        have hf' : wordI ((Utf8.decode s pos).1 : Int) = false := high_wordI (by omega)
        have HR := hid (speltB_bad (f := wordI) (m := m) (l := s.data.toList) hp' (by rw [← hc]; exact high_wordI (by omega)))
        clear hhi ha hc
        go_wp2_with (first | (go_at_call 106; refine (ofWord_any _ _).mono ?_; rintro e w' ⟨rfl, rfl⟩) | (go_at_call 145; refine (digit_any _ _).mono ?_; rintro e w' ⟨rfl, rfl⟩))
        go_ret
        exact ⟨ret_bool (by rw [HR.out]), (Ext.refl _).iter _ _⟩
    · have hnx : ∀ ty, (Instr.next (.pointer (some ⟨w.heap.size, 0, none⟩)) true ty).run Tryz.prog (w.iter s pos) = _ := fun ty => run_next_end w s pos ty hp
      have HR := hid (speltB_good (f := wordI) (m := m) (l := s.data.toList) (by rw [size_list]; exact hne) (by rw [size_list]; omega) (fun k h => HALL.out k h (by rw [size_list] at h; omega)) (HDIG.out (by omega) (by rw [size_list]; exact hne)))
      go_wp2
      go_ret
      exact ⟨ret_bool (by rw [HR.out]), (Ext.refl _).iter _ _⟩


set_option maxRecDepth 100000 in
set_option maxHeartbeats 2000000 in
theorem speltN (s : ByteArray) (m : Nat) (w : World) (hm : m ≤ 1000) : Calls Tryz.prog 105 #[.string s, .int .i64 m, .func (.func 149) #[] #[]] w fun e w' => e = .returned (.bool (speltB nameI m s.data.toList)) ∧ Ext w w' := by
  have hm' : (m : Int) ≤ 1000 := by omega
  by_cases h0 : s.toList.isEmpty = true
  · have HR := hid (show speltB nameI m s.data.toList = false by rw [← ByteArray.toList_eq, List.isEmpty_iff.1 h0]; rfl)
    go_enter Tryz.func105, Tryz.ntmps105
    go_wp2
    go_ret
    exact ⟨ret_bool (by rw [HR.out]), Ext.refl _⟩
  have h0' : s.toList.isEmpty = false := by simpa using h0
  by_cases hl : m < s.size
  · have HR := hid (speltB_long (f := nameI) (m := m) (l := s.data.toList) (by rw [size_list]; exact hl))
    have hl' : (m : Int) < s.size := by omega
    go_enter Tryz.func105, Tryz.ntmps105
    go_wp2
    go_ret
    exact ⟨ret_bool (by rw [HR.out]), Ext.refl _⟩
  have hl' : (s.size : Int) ≤ m := by omega
  have hne : 0 < s.size := by
    rcases Nat.eq_zero_or_pos s.size with h | h
    · exact absurd (by rw [ByteArray.toList_eq, List.isEmpty_iff]; exact List.eq_nil_of_length_eq_zero (by rw [size_list]; exact h)) h0
    · exact h
  go_enter Tryz.func105, Tryz.ntmps105
  clear h0
  go_wp2
  go_loopw [7] (fun _ wr => ∃ pos : Nat, wr = w.iter s pos ∧ pos ≤ s.size ∧ (∀ k, (h : k < s.data.toList.length) → k < pos → nameI s.data.toList[k].toNat = true) ∧ (0 < pos → (h : 0 < s.data.toList.length) → digI s.data.toList[0].toNat = false)) (fun _ wr => s.size - wr.iterPos w.heap.size)
  case atStart => exact ⟨0, rfl, Nat.zero_le _, fun k _ h => absurd h (Nat.not_lt_zero _), fun h => absurd h (Nat.not_lt_zero _)⟩
  case round =>
    obtain ⟨pos, rfl, hps, hall, hdig⟩ := hrel
    have HALL := hid hall
    have HDIG := hid hdig
    clear hall hdig
    by_cases hp : pos < s.size
    · obtain ⟨hp', hc⟩ := at_list s pos hp
      by_cases ha : (s[pos]'hp).toNat < 128
      · have hnx : ∀ ty, (Instr.next (.pointer (some ⟨w.heap.size, 0, none⟩)) true ty).run Tryz.prog (w.iter s pos) = _ := fun ty => run_next_ascii w s pos ty hp ha
        have HC := hid (congrArg UInt8.toNat hc)
        generalize (s[pos]'hp).toNat = c at hnx HC
        clear hc ha
        by_cases hf : nameI (c : Int) = true
        · by_cases hz : pos = 0
          · subst hz
            by_cases hd : digI (c : Int) = true
            · have HR := hid (speltB_digit (f := nameI) (m := m) (l := s.data.toList) hp' (by rw [← HC.out]; exact hd))
              go_wp2_with (first | (go_at_call 149; refine (ofName_any _ _).mono ?_; rintro e w' ⟨rfl, rfl⟩) | (go_at_call 145; refine (digit_any _ _).mono ?_; rintro e w' ⟨rfl, rfl⟩))
              go_ret
              exact ⟨ret_bool (by rw [HR.out]), (Ext.refl _).iter _ _⟩
            · have hd' : digI (c : Int) = false := by simpa using hd
              clear hd
              go_wp2_with (first | (go_at_call 149; refine (ofName_any _ _).mono ?_; rintro e w' ⟨rfl, rfl⟩) | (go_at_call 145; refine (digit_any _ _).mono ?_; rintro e w' ⟨rfl, rfl⟩))
              go_roundw
              case rel => exact ⟨1, rfl, hp, fun k hk h => by
                  obtain rfl : k = 0 := by omega
                  rw [← HC.out]; exact hf, fun _ _ => by rw [← HC.out]; exact hd'⟩
              case measure => simp; omega
          · have hz' : ((pos : Int) == 0) = false := by simp [hz]
            go_wp2_with (first | (go_at_call 149; refine (ofName_any _ _).mono ?_; rintro e w' ⟨rfl, rfl⟩) | (go_at_call 145; refine (digit_any _ _).mono ?_; rintro e w' ⟨rfl, rfl⟩))
            go_roundw
            case rel => exact ⟨pos + 1, rfl, hp, fun k hk h => by
                rcases Nat.lt_or_eq_of_le (Nat.le_of_lt_succ h) with h | h
                · exact HALL.out k hk h
                · subst h; rw [← HC.out]; exact hf, fun _ => HDIG.out (by omega)⟩
            case measure => simp; omega
        · have hf' : nameI (c : Int) = false := by simpa using hf
          have HR := hid (speltB_bad (f := nameI) (m := m) (l := s.data.toList) hp' (by rw [← HC.out]; exact hf'))
          clear hf
          go_wp2_with (first | (go_at_call 149; refine (ofName_any _ _).mono ?_; rintro e w' ⟨rfl, rfl⟩) | (go_at_call 145; refine (digit_any _ _).mono ?_; rintro e w' ⟨rfl, rfl⟩))
          go_ret
          exact ⟨ret_bool (by rw [HR.out]), (Ext.refl _).iter _ _⟩
      · have hhi := (decode_high s pos hp (by omega)).1
        have hnx : ∀ ty, (Instr.next (.pointer (some ⟨w.heap.size, 0, none⟩)) true ty).run Tryz.prog (w.iter s pos) = _ := fun ty => run_next_any w s pos ty hp
        have hf' : nameI ((Utf8.decode s pos).1 : Int) = false := high_nameI (by omega)
        have HR := hid (speltB_bad (f := nameI) (m := m) (l := s.data.toList) hp' (by rw [← hc]; exact high_nameI (by omega)))
        clear hhi ha hc
        go_wp2_with (first | (go_at_call 149; refine (ofName_any _ _).mono ?_; rintro e w' ⟨rfl, rfl⟩) | (go_at_call 145; refine (digit_any _ _).mono ?_; rintro e w' ⟨rfl, rfl⟩))
        go_ret
        exact ⟨ret_bool (by rw [HR.out]), (Ext.refl _).iter _ _⟩
    · have hnx : ∀ ty, (Instr.next (.pointer (some ⟨w.heap.size, 0, none⟩)) true ty).run Tryz.prog (w.iter s pos) = _ := fun ty => run_next_end w s pos ty hp
      have HR := hid (speltB_good (f := nameI) (m := m) (l := s.data.toList) (by rw [size_list]; exact hne) (by rw [size_list]; omega) (fun k h => HALL.out k h (by rw [size_list] at h; omega)) (HDIG.out (by omega) (by rw [size_list]; exact hne)))
      go_wp2
      go_ret
      exact ⟨ret_bool (by rw [HR.out]), (Ext.refl _).iter _ _⟩


theorem word_any (s : ByteArray) (w : World) : Calls Tryz.prog 87 #[.string s] w fun e w' => e = .returned (.bool (speltB wordI 16 s.data.toList)) ∧ Ext w w' := by
  go_enter Tryz.func87, Tryz.ntmps87
  go_wp2_with (go_at_call 105; refine (speltW s 16 _ (by decide)).mono ?_; rintro e w' ⟨rfl, hx⟩)
  go_ret
  exact ⟨rfl, hx⟩
theorem name_any (s : ByteArray) (w : World) : Calls Tryz.prog 121 #[.string s] w fun e w' => e = .returned (.bool (speltB nameI 32 s.data.toList)) ∧ Ext w w' := by
  go_enter Tryz.func121, Tryz.ntmps121
  go_wp2_with (go_at_call 105; refine (speltN s 32 _ (by decide)).mono ?_; rintro e w' ⟨rfl, hx⟩)
  go_ret
  exact ⟨rfl, hx⟩
end Go.Proofs.YtaafcmmmkalgjaaGreatDoor
/-
  strings.Cut at one sign, sign.Kind, each by a contract.
-/
namespace Go.Proofs.YtaafcmmmkalgjaaGreatDoor
open Go.RowKit

theorem indexByte_found (pre post : List UInt8) (c : UInt8) (h : c ∉ pre) : Lib.indexByte (pre ++ c :: post) c = pre.length := by
  induction pre with
  | nil => simp [Lib.indexByte]
  | cons x pre ih =>
    have hx : (x == c) = false := by simp; intro e; exact h (by simp [e])
    have := ih (fun hc => h (List.mem_cons_of_mem _ hc))
    simp only [List.cons_append, Lib.indexByte, hx, this]
    have : ((pre.length : Int) == -1) = false := by simp
    simp [this]
theorem indexByte_none (l : List UInt8) (c : UInt8) (h : c ∉ l) : Lib.indexByte l c = -1 := by
  induction l with
  | nil => rfl
  | cons x l ih =>
    have hx : (x == c) = false := by simp; intro e; exact h (by simp [e])
    have := ih (fun hc => h (List.mem_cons_of_mem _ hc))
    simp [Lib.indexByte, hx, this]
theorem bytes_of (s : ByteArray) (l : List UInt8) (h : s.data.toList = l) : s = ⟨l.toArray⟩ := data_inj (by simpa using h)
theorem parts_of (l : List UInt8) (c : UInt8) : c ∉ l ∨ ∃ pre post, l = pre ++ c :: post ∧ c ∉ pre := by
  induction l with
  | nil => exact .inl (by simp)
  | cons x l ih =>
    by_cases hx : x = c
    · exact .inr ⟨[], l, by simp [hx], by simp⟩
    · rcases ih with h | ⟨pre, post, rfl, h⟩
      · exact .inl (by simp only [List.mem_cons, not_or]; exact ⟨fun e => hx e.symm, h⟩)
      · exact .inr ⟨x :: pre, post, rfl, by simp only [List.mem_cons, not_or]; exact ⟨fun e => hx e.symm, h⟩⟩

theorem cutL_none (s : ByteArray) (c : UInt8) (w : World) (h : c ∉ s.data.toList) :
    Calls Tryz.prog 140 #[.string s, .string ⟨#[c]⟩] w fun e w' => e = .returned (.tuple #[.string s, .string ⟨#[]⟩, .bool false]) ∧ Ext w w' := by
  have HI := hid (indexByte_none _ c h)
  clear h
  go_enter Tryz.func140, Tryz.ntmps140
  go_wp2_with (go_at_call 151; refine (Tryz.stringslite_Index_one s c _).mono ?_; rw [HI.out]; rintro e w' ⟨rfl, rfl⟩)
  go_ret3
  exact ⟨rfl, Ext.refl _⟩
set_option maxRecDepth 100000 in
theorem cutL_found (s : ByteArray) (c : UInt8) (pre post : List UInt8) (w : World) (hs : s.data.toList = pre ++ c :: post) (h : c ∉ pre) (hb : s.size ≤ 140737488355328) :
    Calls Tryz.prog 140 #[.string s, .string ⟨#[c]⟩] w fun e w' => e = .returned (.tuple #[.string ⟨pre.toArray⟩, .string ⟨post.toArray⟩, .bool true]) ∧ Ext w w' := by
  have hl : s.size = pre.length + (post.length + 1) := by rw [← size_list, hs]; simp
  have HI := hid (show Lib.indexByte s.data.toList c = pre.length by rw [hs]; exact indexByte_found pre post c h)
  have H1 := hid (show s.extract 0 pre.length = ⟨pre.toArray⟩ from data_inj (by rw [Lib.extract_data, hs]; simp))
  have H2 := hid (show s.extract (pre.length + 1) s.size = ⟨post.toArray⟩ from data_inj (by rw [Lib.extract_data, hs, show pre ++ c :: post = (pre ++ [c]) ++ post by simp, List.drop_left' (by simp), List.take_of_length_le (by omega)]))
  have hi1 : (pre.length : Int) ≤ 140737488355328 := by omega
  have hi2 : (pre.length : Int) + 1 ≤ s.size := by omega
  have hi3 : (pre.length : Int) ≤ s.size := by omega
  clear h hs hl
  go_enter Tryz.func140, Tryz.ntmps140
  go_wp2_with (go_at_call 151; refine (Tryz.stringslite_Index_one s c _).mono ?_; rw [HI.out]; rintro e w' ⟨rfl, rfl⟩)
  go_quiet (fail)
  go_wp2
  go_ret3
  exact ⟨by rw [H1.out, H2.out]; rfl, (Ext.refl _).drewN _⟩
theorem cut_none (s : ByteArray) (c : UInt8) (w : World) (h : c ∉ s.data.toList) :
    Calls Tryz.prog 101 #[.string s, .string ⟨#[c]⟩] w fun e w' => e = .returned (.tuple #[.string s, .string ⟨#[]⟩, .bool false]) ∧ Ext w w' := by
  have HH := hid h
  clear h
  go_enter Tryz.func101, Tryz.ntmps101
  go_wp2_with (go_at_call 140; refine (cutL_none s c _ HH.out).mono ?_; rintro e w' ⟨rfl, hx⟩)
  go_ret3
  exact ⟨rfl, hx⟩
theorem cut_found (s : ByteArray) (c : UInt8) (pre post : List UInt8) (w : World) (hs : s.data.toList = pre ++ c :: post) (h : c ∉ pre) (hb : s.size ≤ 140737488355328) :
    Calls Tryz.prog 101 #[.string s, .string ⟨#[c]⟩] w fun e w' => e = .returned (.tuple #[.string ⟨pre.toArray⟩, .string ⟨post.toArray⟩, .bool true]) ∧ Ext w w' := by
  have HH := hid h
  have HS := hid hs
  clear h hs
  go_enter Tryz.func101, Tryz.ntmps101
  go_wp2_with (go_at_call 140; refine (cutL_found s c pre post _ HS.out HH.out hb).mono ?_; rintro e w' ⟨rfl, hx⟩)
  go_ret3
  exact ⟨rfl, hx⟩

def kindV (a b : List UInt8) : Value := if speltB wordI 16 a && speltB wordI 16 b then .tuple #[.string ⟨a.toArray⟩, .string ⟨b.toArray⟩, .bool true] else .tuple #[.string ⟨#[]⟩, .string ⟨#[]⟩, .bool false]
theorem word_list (l : List UInt8) (w : World) : Calls Tryz.prog 87 #[.string ⟨l.toArray⟩] w fun e w' => e = .returned (.bool (speltB wordI 16 l)) ∧ Ext w w' := by
  have := word_any ⟨l.toArray⟩ w
  simpa using this
theorem kind_none (s : ByteArray) (w : World) (h : 46 ∉ s.data.toList) :
    Calls Tryz.prog 108 #[.string s] w fun e w' => e = .returned (.tuple #[.string ⟨#[]⟩, .string ⟨#[]⟩, .bool false]) ∧ Ext w w' := by
  have HH := hid h
  clear h
  have hE : ∀ w, Calls Tryz.prog 87 #[.string ⟨#[]⟩] w fun e w' => e = .returned (.bool false) ∧ Ext w w' := fun w => word_list [] w
  by_cases hw : speltB wordI 16 s.data.toList = true
  · go_enter Tryz.func108, Tryz.ntmps108
    go_wp2_with fail
    refine (cut_none s 46 _ HH.out).mono ?_
    rintro e w1 ⟨rfl, hx1⟩
    go_wp2_with fail
    refine (word_any s _).mono ?_
    rintro e w2 ⟨rfl, hx2⟩
    go_wp2_with fail
    refine (hE _).mono ?_
    rintro e w3 ⟨rfl, hx3⟩
    go_wp2
    go_ret3
    exact ⟨rfl, (hx1.trans hx2).trans hx3⟩
  · have hw' : speltB wordI 16 s.data.toList = false := by simpa using hw
    clear hw
    go_enter Tryz.func108, Tryz.ntmps108
    go_wp2_with fail
    refine (cut_none s 46 _ HH.out).mono ?_
    rintro e w1 ⟨rfl, hx1⟩
    go_wp2_with fail
    refine (word_any s _).mono ?_
    rintro e w2 ⟨rfl, hx2⟩
    go_wp2
    go_ret3
    exact ⟨rfl, hx1.trans hx2⟩
theorem kind_found (s : ByteArray) (pre post : List UInt8) (w : World) (hs : s.data.toList = pre ++ 46 :: post) (h : 46 ∉ pre) (hb : s.size ≤ 140737488355328) :
    Calls Tryz.prog 108 #[.string s] w fun e w' => e = .returned (kindV pre post) ∧ Ext w w' := by
  have HH := hid h
  have HS := hid hs
  clear h hs
  by_cases hw : speltB wordI 16 pre = true
  · by_cases hv : speltB wordI 16 post = true
    · have HR := hid (show kindV pre post = .tuple #[.string ⟨pre.toArray⟩, .string ⟨post.toArray⟩, .bool true] by simp [kindV, hw, hv])
      go_enter Tryz.func108, Tryz.ntmps108
      go_wp2_with fail
      refine (cut_found s 46 pre post _ HS.out HH.out hb).mono ?_
      rintro e w1 ⟨rfl, hx1⟩
      go_wp2_with fail
      refine (word_list pre _).mono ?_
      rintro e w2 ⟨rfl, hx2⟩
      go_wp2_with fail
      refine (word_list post _).mono ?_
      rintro e w3 ⟨rfl, hx3⟩
      go_wp2
      go_ret3
      exact ⟨by rw [HR.out]; rfl, (hx1.trans hx2).trans hx3⟩
    · have hv' : speltB wordI 16 post = false := by simpa using hv
      clear hv
      have HR := hid (show kindV pre post = .tuple #[.string ⟨#[]⟩, .string ⟨#[]⟩, .bool false] by simp [kindV, hv'])
      go_enter Tryz.func108, Tryz.ntmps108
      go_wp2_with fail
      refine (cut_found s 46 pre post _ HS.out HH.out hb).mono ?_
      rintro e w1 ⟨rfl, hx1⟩
      go_wp2_with fail
      refine (word_list pre _).mono ?_
      rintro e w2 ⟨rfl, hx2⟩
      go_wp2_with fail
      refine (word_list post _).mono ?_
      rintro e w3 ⟨rfl, hx3⟩
      go_wp2
      go_ret3
      exact ⟨by rw [HR.out]; rfl, (hx1.trans hx2).trans hx3⟩
  · have hw' : speltB wordI 16 pre = false := by simpa using hw
    clear hw
    have HR := hid (show kindV pre post = .tuple #[.string ⟨#[]⟩, .string ⟨#[]⟩, .bool false] by simp [kindV, hw'])
    go_enter Tryz.func108, Tryz.ntmps108
    go_wp2_with fail
    refine (cut_found s 46 pre post _ HS.out HH.out hb).mono ?_
    rintro e w1 ⟨rfl, hx1⟩
    go_wp2_with fail
    refine (word_list pre _).mono ?_
    rintro e w2 ⟨rfl, hx2⟩
    go_wp2
    go_ret3
    exact ⟨by rw [HR.out]; rfl, hx1.trans hx2⟩
end Go.Proofs.YtaafcmmmkalgjaaGreatDoor
