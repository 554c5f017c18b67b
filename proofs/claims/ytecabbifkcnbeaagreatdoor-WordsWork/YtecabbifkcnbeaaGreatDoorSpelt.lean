/-
  kit.ordered by a contract.
-/
import Derived.Test.YtecabbifkcnbeaaGreatDoorKAbil
import Derived.Test.YtecabbifkcnbeaaGreatDoorPlainIn
namespace Go.Proofs.YtecabbifkcnbeaaGreatDoor
open Go.RowKit
set_option maxRecDepth 100000 in
set_option maxHeartbeats 2000000 in
theorem ordered_any (a : Option Addr) (c : Nat) (xs : List ByteArray) (w : World) (hn : xs.length ≤ 100000000) (hr : TRow w a xs) : Calls Tryz.prog 223 #[.slice a xs.length c] w fun e w' => e = .returned (.bool (ordQ 0 false xs)) ∧ Ext w w' := by
  obtain ⟨n, hne⟩ : ∃ n, xs.length = n := ⟨_, rfl⟩
  have HNE := hid hne
  have HR := hid hr
  rw [hne] at hn ⊢
  clear hr hne
  go_enter Tryz.func223, Tryz.ntmps223
  go_wp2_with fail
  refine (abilQ_any w).mono ?_
  rintro e w1 ⟨rfl, hw1⟩
  have HB := hid (show w1.heap[w.heap.size]? = some (.cells abQ 264) from hw1 ▸ blk0 _ _)
  have X1 := hid (show Ext w w1 from hw1 ▸ Ext.alloc _ _)
  clear hw1
  generalize w.heap.size = g at HB ⊢
  go_wp2_with fail
  go_loopw [3, 4, 11] (fun q3 q4 q11 wr => ∃ (j l : Nat) (pure : Bool), j ≤ n ∧ q11 = .int .i64 j ∧ q3 = .slice (some ⟨g, l * 3, none⟩) (14 - l) (14 - l) ∧ q4 = .bool pure ∧ l ≤ 11 ∧ ordQ 0 false xs = ordQ l pure (xs.drop j) ∧ Ext w1 wr) (fun _ _ q11 _ => n - (intOf q11).toNat)
  case atStart => exact ⟨0, 0, false, Nat.zero_le _, rfl, rfl, rfl, Nat.zero_le _, rfl, Ext.refl _⟩
  case round =>
    obtain ⟨j, l, pure, hj, rfl, rfl, rfl, hl, hrec, hx⟩ := hrel
    have HX := hid hx
    have HRC := hid hrec
    clear hx hrec
    by_cases hlt : j < n
    · have hlt' : (j : Int) < n := by omega
      have hjx : j < xs.length := by rw [HNE.out]; exact hlt
      rcases HR.out with e0 | ⟨gs, off, rfl, hcells⟩
      · rw [e0] at hjx; exact absurd hjx (Nat.not_lt_zero _)
      have hc0 := hcells j hjx
      have hc1 : wr.cell? ⟨gs, off + j, none⟩ = some (.string xs[j]) := (Below.cell (X1.out.trans HX.out) (lt_of_cell hc0)).trans hc0
      have HRC2 := hid (HRC.out.trans (by rw [List.drop_eq_getElem_cons hjx]))
      generalize xs[j] = x at *
      clear hcells hc0 hjx
      have HIX := hid (fun w2 h1 h2 => index_any g l (14 - l) wr.heap.size x w2 (by omega) h1 h2)
      obtain ⟨i, hi⟩ : ∃ i, nextQ x (14 - l) l = i := ⟨_, rfl⟩
      have HLT := hid (fun h => nextQ_lt (name := x) (f := 14 - l) (l := l) h)
      have HO := hid (show ordQ 0 false xs = if i < 14 then (if (decide (x = totalB) && !pure) = true then false else ordQ (i + 1) (pure || decide (x = pureB)) (xs.drop (j + 1))) else false by rw [HRC2.out, ordQ_cons, hi])
      rw [hi] at HIX HLT
      clear hi HRC HRC2
      go_wp2_with fail
      refine (HIX.out _ ((HX.out.trans (Ext.alloc _ _)).block HB.out) (cell_of (blk0 _ _) rfl)).mono ?_
      rintro e w2 ⟨rfl, hx2⟩
      have HX2 := hid (HX.out.trans ((Ext.alloc _ _).trans hx2))
      have hnc : w2.cell? ⟨wr.heap.size, 0, none⟩ = some (.string x) := cell_of (hx2.block (blk0 _ _)) rfl
      clear hx2
      by_cases hi14 : i < 14
      · obtain ⟨hi11, hli⟩ := HLT.out hi14
        obtain ⟨k, rfl⟩ : ∃ k, i = l + k := ⟨i - l, by omega⟩
        have HIV := hid (show ixQ (l + k) l = (k : Int) by rw [ixQ_in hi14]; omega)
        have hk11 : (k : Int) ≤ 11 := by omega
        have hqt : (x.toList == [84, 111, 116, 97, 108]) = decide (x = totalB) := by rw [← str_eqb x totalB, show totalB.toList = [84, 111, 116, 97, 108] by rw [ByteArray.toList_eq]; rfl]
        have hqp : (x.toList == [80, 117, 114, 101]) = decide (x = pureB) := by rw [← str_eqb x pureB, show pureB.toList = [80, 117, 114, 101] by rw [ByteArray.toList_eq]; rfl]
        rw [HIV.out]
        rw [if_pos hi14] at HO
        cases pure with
        | true =>
          have HO2 := hid (show ordQ 0 false xs = ordQ (l + k + 1) true (xs.drop (j + 1)) by rw [HO.out]; simp)
          obtain ⟨bt, hbt⟩ : ∃ b, decide (x = totalB) = b := ⟨_, rfl⟩
          rw [hbt] at hqt
          clear hbt
          cases bt
          · go_wp2_with fail
            all_goals exact ⟨⟨j + 1, l + k + 1, true, by omega, by go_num, by rw [show (l + k + 1) * 3 = l * 3 + (k + 1) * 3 by omega, show 14 - (l + k + 1) = 14 - l - (k + 1) by omega], rfl, by omega, HO2.out, HX2.out⟩, by simp [intOf]; omega⟩
          · go_wp2_with fail
            all_goals exact ⟨⟨j + 1, l + k + 1, true, by omega, by go_num, by rw [show (l + k + 1) * 3 = l * 3 + (k + 1) * 3 by omega, show 14 - (l + k + 1) = 14 - l - (k + 1) by omega], rfl, by omega, HO2.out, HX2.out⟩, by simp [intOf]; omega⟩
        | false =>
          by_cases hxt : x = totalB
          · have HO2 := hid (show ordQ 0 false xs = false by rw [HO.out, decide_eq_true hxt]; rfl)
            rw [decide_eq_true hxt] at hqt
            clear hxt
            go_wp2_with fail
            go_ret
            exact ⟨ret_bool (by rw [HO2.out]), X1.out.trans HX2.out⟩
          · rw [decide_eq_false hxt] at hqt
            by_cases hxp : x = pureB
            · have HO2 := hid (show ordQ 0 false xs = ordQ (l + k + 1) true (xs.drop (j + 1)) by rw [HO.out, decide_eq_false hxt, decide_eq_true hxp]; rfl)
              rw [decide_eq_true hxp] at hqp
              clear hxt hxp
              go_wp2_with fail
              all_goals exact ⟨⟨j + 1, l + k + 1, true, by omega, by go_num, by rw [show (l + k + 1) * 3 = l * 3 + (k + 1) * 3 by omega, show 14 - (l + k + 1) = 14 - l - (k + 1) by omega], rfl, by omega, HO2.out, HX2.out⟩, by simp [intOf]; omega⟩
            · have HO2 := hid (show ordQ 0 false xs = ordQ (l + k + 1) false (xs.drop (j + 1)) by rw [HO.out, decide_eq_false hxt, decide_eq_false hxp]; rfl)
              rw [decide_eq_false hxp] at hqp
              clear hxt hxp
              go_wp2_with fail
              all_goals exact ⟨⟨j + 1, l + k + 1, false, by omega, by go_num, by rw [show (l + k + 1) * 3 = l * 3 + (k + 1) * 3 by omega, show 14 - (l + k + 1) = 14 - l - (k + 1) by omega], rfl, by omega, HO2.out, HX2.out⟩, by simp [intOf]; omega⟩
      · have HIV := hid (ixQ_out (l := l) hi14)
        rw [HIV.out]
        rw [if_neg hi14] at HO
        go_wp2_with fail
        go_ret
        exact ⟨ret_bool (by rw [HO.out]), X1.out.trans HX2.out⟩
    · have hje : j = n := by omega
      have hlt2 : decide ((j : Int) < n) = false := decide_eq_false (by omega)
      have hlt3 : ¬ (j : Int) < n := by omega
      have HV := hid (show ordQ 0 false xs = true by rw [HRC.out, List.drop_of_length_le (by have := HNE.out; omega)]; rfl)
      clear hje
      go_wp2_with fail
      go_ret
      exact ⟨ret_bool (by rw [HV.out]), X1.out.trans HX.out⟩
end Go.Proofs.YtecabbifkcnbeaaGreatDoor
/-
  sign.digit, sign.ofWord, sign.ofName, sign.spelt, sign.Word, sign.Name, each by a contract.
-/
namespace Go.Proofs.YtecabbifkcnbeaaGreatDoor
open Go.RowKit

def digI (r : Int) : Bool := decide (48 ≤ r ∧ r ≤ 57)
def wordI (r : Int) : Bool := decide (97 ≤ r ∧ r ≤ 122) || digI r
def nameI (r : Int) : Bool := wordI r || decide (65 ≤ r ∧ r ≤ 90) || decide (r = 95)
theorem wordI_in {r : Int} (h1 : 97 ≤ r) (h2 : r ≤ 122) : wordI r = true := by simp [wordI, h1, h2]
theorem wordI_out {r : Int} (h : ¬ (97 ≤ r ∧ r ≤ 122)) : wordI r = digI r := by unfold wordI; rw [decide_eq_false h]; rfl
theorem nameI_cap {r : Int} (h1 : 65 ≤ r) (h2 : r ≤ 90) : nameI r = true := by simp [nameI, h1, h2]
theorem nameI_else {r : Int} (hw : wordI r = false) (h : ¬ (65 ≤ r ∧ r ≤ 90)) : nameI r = (r == 95) := by unfold nameI; rw [decide_eq_false h, hw]; by_cases e : r = 95 <;> simp [e]
theorem high_digI {r : Int} (h : 128 ≤ r) : digI r = false := by simp [digI]; omega
theorem high_wordI {r : Int} (h : 128 ≤ r) : wordI r = false := by rw [wordI_out (by omega)]; exact high_digI h
theorem high_nameI {r : Int} (h : 128 ≤ r) : nameI r = false := by rw [nameI_else (high_wordI h) (by omega)]; simp; omega
theorem digit_any (r : Int) (w : World) : Calls Tryz.prog 222 #[.int .i32 r] w fun e w' => e = .returned (.bool (digI r)) ∧ w' = w := by
  by_cases h1 : 48 ≤ r <;> by_cases h2 : r ≤ 57
  all_goals
    go_enter Tryz.func222, Tryz.ntmps222
    go_wp2
    go_ret
    exact ⟨ret_bool (by simp [digI, h1, h2]), rfl⟩
theorem ofWord_any (r : Int) (w : World) : Calls Tryz.prog 167 #[.int .i32 r] w fun e w' => e = .returned (.bool (wordI r)) ∧ w' = w := by
  by_cases h1 : 97 ≤ r <;> by_cases h2 : r ≤ 122
  all_goals
    go_enter Tryz.func167, Tryz.ntmps167
    go_wp2_with (go_at_call 222; refine (digit_any r _).mono ?_; rintro e w' ⟨rfl, rfl⟩)
    go_ret
    exact ⟨ret_bool (by first | (rw [wordI_in (by omega) (by omega)]; done) | (rw [wordI_out (by omega)]; try rfl)), rfl⟩
theorem ofName_any (r : Int) (w : World) : Calls Tryz.prog 241 #[.int .i32 r] w fun e w' => e = .returned (.bool (nameI r)) ∧ w' = w := by
  by_cases hw : wordI r = true
  · go_enter Tryz.func241, Tryz.ntmps241
    go_wp2_with (go_at_call 167; refine (ofWord_any r _).mono ?_; rintro e w' ⟨rfl, rfl⟩)
    go_ret
    exact ⟨ret_bool (by simp [nameI, hw]), rfl⟩
  · have hw' : wordI r = false := by simpa using hw
    clear hw
    by_cases h1 : 65 ≤ r ∧ r ≤ 90
    · obtain ⟨h1, h2⟩ := h1
      go_enter Tryz.func241, Tryz.ntmps241
      go_wp2_with (go_at_call 167; refine (ofWord_any r _).mono ?_; rintro e w' ⟨rfl, rfl⟩)
      go_ret
      exact ⟨ret_bool (by rw [nameI_cap h1 h2]), rfl⟩
    · have HE := hid (nameI_else hw' h1)
      have h1' : 65 ≤ r → 90 < r := fun h => by omega
      have H1 := hid h1'
      clear h1 h1'
      by_cases h2 : 65 ≤ r
      · have h3 := H1.out h2
        have h4 : decide (r ≤ 90) = false := decide_eq_false (by omega)
        go_enter Tryz.func241, Tryz.ntmps241
        go_wp2_with (go_at_call 167; refine (ofWord_any r _).mono ?_; rintro e w' ⟨rfl, rfl⟩)
        all_goals
          go_ret
          exact ⟨ret_bool (by rw [HE.out]; try rw [h4]; try rfl), rfl⟩
      · go_enter Tryz.func241, Tryz.ntmps241
        go_wp2_with (go_at_call 167; refine (ofWord_any r _).mono ?_; rintro e w' ⟨rfl, rfl⟩)
        all_goals
          go_ret
          exact ⟨ret_bool (by rw [HE.out]; try rfl), rfl⟩

theorem Ext.iter {w w' : World} (h : Ext w w') (s : ByteArray) (pos : Nat) : Ext w (w'.iter s pos) := h.trans (Ext.alloc _ _)
/-- 1 to m signs, each such that f takes it, and no digit first. -/
def speltB (f : Int → Bool) (m : Nat) (l : List UInt8) : Bool := !l.isEmpty && decide (l.length ≤ m) && l.all (fun c => f c.toNat) && !(l.head?.any (fun c => digI c.toNat))
theorem speltB_none (f : Int → Bool) (m : Nat) : speltB f m [] = false := rfl
theorem speltB_long {f : Int → Bool} {m : Nat} {l : List UInt8} (h : m < l.length) : speltB f m l = false := by
  have : decide (l.length ≤ m) = false := by simp; omega
  simp [speltB, this]
theorem speltB_bad {f : Int → Bool} {m k : Nat} {l : List UInt8} (h : k < l.length) (hf : f l[k].toNat = false) : speltB f m l = false := by
  have : l.all (fun c => f c.toNat) = false := by
    rw [List.all_eq_false]
    exact ⟨l[k], List.getElem_mem h, by simp [hf]⟩
  simp [speltB, this]
theorem speltB_digit {f : Int → Bool} {m : Nat} {l : List UInt8} (h : 0 < l.length) (hf : digI l[0].toNat = true) : speltB f m l = false := by
  cases l with
  | nil => rfl
  | cons c l =>
    have : ((c :: l).head?.any (fun c => digI c.toNat)) = true := hf
    simp only [speltB, this]
    simp
theorem speltB_good {f : Int → Bool} {m : Nat} {l : List UInt8} (h0 : 0 < l.length) (hm : l.length ≤ m) (ha : ∀ k, (h : k < l.length) → f l[k].toNat = true) (hd : digI l[0].toNat = false) : speltB f m l = true := by
  cases l with
  | nil => simp at h0
  | cons c l =>
    have e1 : ((c :: l).head?.any (fun c => digI c.toNat)) = false := hd
    have e2 : (c :: l).all (fun c => f c.toNat) = true := by
      rw [List.all_eq_true]
      intro x hx
      obtain ⟨k, hk, rfl⟩ := List.getElem_of_mem hx
      exact ha k hk
    simp only [speltB, e1, e2]
    simp at hm ⊢
    exact hm
theorem at_list (s : ByteArray) (k : Nat) (h : k < s.size) : ∃ h' : k < s.data.toList.length, s[k] = s.data.toList[k] := ⟨by simpa using h, by simp; rfl⟩
theorem size_list (s : ByteArray) : s.data.toList.length = s.size := by simp

set_option maxRecDepth 100000 in
set_option maxHeartbeats 2000000 in
theorem speltW (s : ByteArray) (m : Nat) (w : World) (hm : m ≤ 1000) : Calls Tryz.prog 166 #[.string s, .int .i64 m, .func (.func 167) #[] #[]] w fun e w' => e = .returned (.bool (speltB wordI m s.data.toList)) ∧ Ext w w' := by
  have hm' : (m : Int) ≤ 1000 := by omega
  by_cases h0 : s.toList.isEmpty = true
  · have HR := hid (show speltB wordI m s.data.toList = false by rw [← ByteArray.toList_eq, List.isEmpty_iff.1 h0]; rfl)
    go_enter Tryz.func166, Tryz.ntmps166
    go_wp2
    go_ret
    exact ⟨ret_bool (by rw [HR.out]), Ext.refl _⟩
  have h0' : s.toList.isEmpty = false := by simpa using h0
  by_cases hl : m < s.size
  · have HR := hid (speltB_long (f := wordI) (m := m) (l := s.data.toList) (by rw [size_list]; exact hl))
    have hl' : (m : Int) < s.size := by omega
    go_enter Tryz.func166, Tryz.ntmps166
    go_wp2
    go_ret
    exact ⟨ret_bool (by rw [HR.out]), Ext.refl _⟩
  have hl' : (s.size : Int) ≤ m := by omega
  have hne : 0 < s.size := by
    rcases Nat.eq_zero_or_pos s.size with h | h
    · exact absurd (by rw [ByteArray.toList_eq, List.isEmpty_iff]; exact List.eq_nil_of_length_eq_zero (by rw [size_list]; exact h)) h0
    · exact h
  go_enter Tryz.func166, Tryz.ntmps166
  clear h0
  go_wp2
  go_loopw [7] (fun _ wr => ∃ pos : Nat, wr = w.iter s pos ∧ pos ≤ s.size ∧ (∀ k, (h : k < s.data.toList.length) → k < pos → wordI s.data.toList[k].toNat = true) ∧ (0 < pos → (h : 0 < s.data.toList.length) → digI s.data.toList[0].toNat = false)) (fun _ wr => s.size - wr.iterPos w.heap.size)
  case atStart => exact ⟨0, rfl, Nat.zero_le _, fun k _ h => absurd h (Nat.not_lt_zero _), fun h => absurd h (Nat.not_lt_zero _)⟩
  case round =>
    obtain ⟨pos, rfl, hps, hall, hdig⟩ := hrel
    have HALL := hid hall
    have HDIG := hid hdig
    clear hall hdig
    by_cases hp : pos < s.size
    · obtain ⟨hp', hc⟩ := at_list s pos hp
      by_cases ha : (s[pos]'hp).toNat < 128
      · have hnx : ∀ ty, (Instr.next (.pointer (some ⟨w.heap.size, 0, none⟩)) true ty).run Tryz.prog (w.iter s pos) = _ := fun ty => run_next_ascii w s pos ty hp ha
        have HC := hid (congrArg UInt8.toNat hc)
        generalize (s[pos]'hp).toNat = c at hnx HC
        clear hc ha
        by_cases hf : wordI (c : Int) = true
        · by_cases hz : pos = 0
          · subst hz
            by_cases hd : digI (c : Int) = true
            · have HR := hid (speltB_digit (f := wordI) (m := m) (l := s.data.toList) hp' (by rw [← HC.out]; exact hd))
              go_wp2_with (first | (go_at_call 167; refine (ofWord_any _ _).mono ?_; rintro e w' ⟨rfl, rfl⟩) | (go_at_call 222; refine (digit_any _ _).mono ?_; rintro e w' ⟨rfl, rfl⟩))
              go_ret
              exact ⟨ret_bool (by rw [HR.out]), (Ext.refl _).iter _ _⟩
            · have hd' : digI (c : Int) = false := by simpa using hd
              clear hd
              go_wp2_with (first | (go_at_call 167; refine (ofWord_any _ _).mono ?_; rintro e w' ⟨rfl, rfl⟩) | (go_at_call 222; refine (digit_any _ _).mono ?_; rintro e w' ⟨rfl, rfl⟩))
              go_roundw
              case rel => exact ⟨1, rfl, hp, fun k hk h => by
                  obtain rfl : k = 0 := by omega
                  rw [← HC.out]; exact hf, fun _ _ => by rw [← HC.out]; exact hd'⟩
              case measure => simp; omega
          · have hz' : ((pos : Int) == 0) = false := by simp [hz]
            go_wp2_with (first | (go_at_call 167; refine (ofWord_any _ _).mono ?_; rintro e w' ⟨rfl, rfl⟩) | (go_at_call 222; refine (digit_any _ _).mono ?_; rintro e w' ⟨rfl, rfl⟩))
            go_roundw
            case rel => exact ⟨pos + 1, rfl, hp, fun k hk h => by
                rcases Nat.lt_or_eq_of_le (Nat.le_of_lt_succ h) with h | h
                · exact HALL.out k hk h
                · subst h; rw [← HC.out]; exact hf, fun _ => HDIG.out (by omega)⟩
            case measure => simp; omega
        · have hf' : wordI (c : Int) = false := by simpa using hf
          have HR := hid (speltB_bad (f := wordI) (m := m) (l := s.data.toList) hp' (by rw [← HC.out]; exact hf'))
          clear hf
          go_wp2_with (first | (go_at_call 167; refine (ofWord_any _ _).mono ?_; rintro e w' ⟨rfl, rfl⟩) | (go_at_call 222; refine (digit_any _ _).mono ?_; rintro e w' ⟨rfl, rfl⟩))
          go_ret
          exact ⟨ret_bool (by rw [HR.out]), (Ext.refl _).iter _ _⟩
      · have hhi := (decode_high s pos hp (by omega)).1
        have hnx : ∀ ty, (Instr.next (.pointer (some ⟨w.heap.size, 0, none⟩)) true ty).run Tryz.prog (w.iter s pos) = _ := fun ty => run_next_any w s pos ty hp
        have hf' : wordI ((Utf8.decode s pos).1 : Int) = false := high_wordI (by omega)
        have HR := hid (speltB_bad (f := wordI) (m := m) (l := s.data.toList) hp' (by rw [← hc]; exact high_wordI (by omega)))
        clear hhi ha hc
        go_wp2_with (first | (go_at_call 167; refine (ofWord_any _ _).mono ?_; rintro e w' ⟨rfl, rfl⟩) | (go_at_call 222; refine (digit_any _ _).mono ?_; rintro e w' ⟨rfl, rfl⟩))
        go_ret
        exact ⟨ret_bool (by rw [HR.out]), (Ext.refl _).iter _ _⟩
    · have hnx : ∀ ty, (Instr.next (.pointer (some ⟨w.heap.size, 0, none⟩)) true ty).run Tryz.prog (w.iter s pos) = _ := fun ty => run_next_end w s pos ty hp
      have HR := hid (speltB_good (f := wordI) (m := m) (l := s.data.toList) (by rw [size_list]; exact hne) (by rw [size_list]; omega) (fun k h => HALL.out k h (by rw [size_list] at h; omega)) (HDIG.out (by omega) (by rw [size_list]; exact hne)))
      go_wp2
      go_ret
      exact ⟨ret_bool (by rw [HR.out]), (Ext.refl _).iter _ _⟩


set_option maxRecDepth 100000 in
set_option maxHeartbeats 2000000 in
theorem speltN (s : ByteArray) (m : Nat) (w : World) (hm : m ≤ 1000) : Calls Tryz.prog 166 #[.string s, .int .i64 m, .func (.func 241) #[] #[]] w fun e w' => e = .returned (.bool (speltB nameI m s.data.toList)) ∧ Ext w w' := by
  have hm' : (m : Int) ≤ 1000 := by omega
  by_cases h0 : s.toList.isEmpty = true
  · have HR := hid (show speltB nameI m s.data.toList = false by rw [← ByteArray.toList_eq, List.isEmpty_iff.1 h0]; rfl)
    go_enter Tryz.func166, Tryz.ntmps166
    go_wp2
    go_ret
    exact ⟨ret_bool (by rw [HR.out]), Ext.refl _⟩
  have h0' : s.toList.isEmpty = false := by simpa using h0
  by_cases hl : m < s.size
  · have HR := hid (speltB_long (f := nameI) (m := m) (l := s.data.toList) (by rw [size_list]; exact hl))
    have hl' : (m : Int) < s.size := by omega
    go_enter Tryz.func166, Tryz.ntmps166
    go_wp2
    go_ret
    exact ⟨ret_bool (by rw [HR.out]), Ext.refl _⟩
  have hl' : (s.size : Int) ≤ m := by omega
  have hne : 0 < s.size := by
    rcases Nat.eq_zero_or_pos s.size with h | h
    · exact absurd (by rw [ByteArray.toList_eq, List.isEmpty_iff]; exact List.eq_nil_of_length_eq_zero (by rw [size_list]; exact h)) h0
    · exact h
  go_enter Tryz.func166, Tryz.ntmps166
  clear h0
  go_wp2
  go_loopw [7] (fun _ wr => ∃ pos : Nat, wr = w.iter s pos ∧ pos ≤ s.size ∧ (∀ k, (h : k < s.data.toList.length) → k < pos → nameI s.data.toList[k].toNat = true) ∧ (0 < pos → (h : 0 < s.data.toList.length) → digI s.data.toList[0].toNat = false)) (fun _ wr => s.size - wr.iterPos w.heap.size)
  case atStart => exact ⟨0, rfl, Nat.zero_le _, fun k _ h => absurd h (Nat.not_lt_zero _), fun h => absurd h (Nat.not_lt_zero _)⟩
  case round =>
    obtain ⟨pos, rfl, hps, hall, hdig⟩ := hrel
    have HALL := hid hall
    have HDIG := hid hdig
    clear hall hdig
    by_cases hp : pos < s.size
    · obtain ⟨hp', hc⟩ := at_list s pos hp
      by_cases ha : (s[pos]'hp).toNat < 128
      · have hnx : ∀ ty, (Instr.next (.pointer (some ⟨w.heap.size, 0, none⟩)) true ty).run Tryz.prog (w.iter s pos) = _ := fun ty => run_next_ascii w s pos ty hp ha
        have HC := hid (congrArg UInt8.toNat hc)
        generalize (s[pos]'hp).toNat = c at hnx HC
        clear hc ha
        by_cases hf : nameI (c : Int) = true
        · by_cases hz : pos = 0
          · subst hz
            by_cases hd : digI (c : Int) = true
            · have HR := hid (speltB_digit (f := nameI) (m := m) (l := s.data.toList) hp' (by rw [← HC.out]; exact hd))
              go_wp2_with (first | (go_at_call 241; refine (ofName_any _ _).mono ?_; rintro e w' ⟨rfl, rfl⟩) | (go_at_call 222; refine (digit_any _ _).mono ?_; rintro e w' ⟨rfl, rfl⟩))
              go_ret
              exact ⟨ret_bool (by rw [HR.out]), (Ext.refl _).iter _ _⟩
            · have hd' : digI (c : Int) = false := by simpa using hd
              clear hd
              go_wp2_with (first | (go_at_call 241; refine (ofName_any _ _).mono ?_; rintro e w' ⟨rfl, rfl⟩) | (go_at_call 222; refine (digit_any _ _).mono ?_; rintro e w' ⟨rfl, rfl⟩))
              go_roundw
              case rel => exact ⟨1, rfl, hp, fun k hk h => by
                  obtain rfl : k = 0 := by omega
                  rw [← HC.out]; exact hf, fun _ _ => by rw [← HC.out]; exact hd'⟩
              case measure => simp; omega
          · have hz' : ((pos : Int) == 0) = false := by simp [hz]
            go_wp2_with (first | (go_at_call 241; refine (ofName_any _ _).mono ?_; rintro e w' ⟨rfl, rfl⟩) | (go_at_call 222; refine (digit_any _ _).mono ?_; rintro e w' ⟨rfl, rfl⟩))
            go_roundw
            case rel => exact ⟨pos + 1, rfl, hp, fun k hk h => by
                rcases Nat.lt_or_eq_of_le (Nat.le_of_lt_succ h) with h | h
                · exact HALL.out k hk h
                · subst h; rw [← HC.out]; exact hf, fun _ => HDIG.out (by omega)⟩
            case measure => simp; omega
        · have hf' : nameI (c : Int) = false := by simpa using hf
          have HR := hid (speltB_bad (f := nameI) (m := m) (l := s.data.toList) hp' (by rw [← HC.out]; exact hf'))
          clear hf
          go_wp2_with (first | (go_at_call 241; refine (ofName_any _ _).mono ?_; rintro e w' ⟨rfl, rfl⟩) | (go_at_call 222; refine (digit_any _ _).mono ?_; rintro e w' ⟨rfl, rfl⟩))
          go_ret
          exact ⟨ret_bool (by rw [HR.out]), (Ext.refl _).iter _ _⟩
      · have hhi := (decode_high s pos hp (by omega)).1
        have hnx : ∀ ty, (Instr.next (.pointer (some ⟨w.heap.size, 0, none⟩)) true ty).run Tryz.prog (w.iter s pos) = _ := fun ty => run_next_any w s pos ty hp
        have hf' : nameI ((Utf8.decode s pos).1 : Int) = false := high_nameI (by omega)
        have HR := hid (speltB_bad (f := nameI) (m := m) (l := s.data.toList) hp' (by rw [← hc]; exact high_nameI (by omega)))
        clear hhi ha hc
        go_wp2_with (first | (go_at_call 241; refine (ofName_any _ _).mono ?_; rintro e w' ⟨rfl, rfl⟩) | (go_at_call 222; refine (digit_any _ _).mono ?_; rintro e w' ⟨rfl, rfl⟩))
        go_ret
        exact ⟨ret_bool (by rw [HR.out]), (Ext.refl _).iter _ _⟩
    · have hnx : ∀ ty, (Instr.next (.pointer (some ⟨w.heap.size, 0, none⟩)) true ty).run Tryz.prog (w.iter s pos) = _ := fun ty => run_next_end w s pos ty hp
      have HR := hid (speltB_good (f := nameI) (m := m) (l := s.data.toList) (by rw [size_list]; exact hne) (by rw [size_list]; omega) (fun k h => HALL.out k h (by rw [size_list] at h; omega)) (HDIG.out (by omega) (by rw [size_list]; exact hne)))
      go_wp2
      go_ret
      exact ⟨ret_bool (by rw [HR.out]), (Ext.refl _).iter _ _⟩


theorem word_any (s : ByteArray) (w : World) : Calls Tryz.prog 134 #[.string s] w fun e w' => e = .returned (.bool (speltB wordI 16 s.data.toList)) ∧ Ext w w' := by
  go_enter Tryz.func134, Tryz.ntmps134
  go_wp2_with (go_at_call 166; refine (speltW s 16 _ (by decide)).mono ?_; rintro e w' ⟨rfl, hx⟩)
  go_ret
  exact ⟨rfl, hx⟩
theorem name_any (s : ByteArray) (w : World) : Calls Tryz.prog 202 #[.string s] w fun e w' => e = .returned (.bool (speltB nameI 32 s.data.toList)) ∧ Ext w w' := by
  go_enter Tryz.func202, Tryz.ntmps202
  go_wp2_with (go_at_call 166; refine (speltN s 32 _ (by decide)).mono ?_; rintro e w' ⟨rfl, hx⟩)
  go_ret
  exact ⟨rfl, hx⟩
end Go.Proofs.YtecabbifkcnbeaaGreatDoor
