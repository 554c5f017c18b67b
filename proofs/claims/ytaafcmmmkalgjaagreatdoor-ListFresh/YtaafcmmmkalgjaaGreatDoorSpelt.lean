/-
  What a slice of ints or of texts reads as; rows that a call made itself.
-/
import Derived.Test.YtaafcmmmkalgjaaGreatDoorNMath
import Derived.Test.YtaafcmmmkalgjaaGreatDoorRows
import Derived.OwnWalk
import Derived.Deep.RegionWith
import Derived.WalkSmall
import Derived.Lib.SliceRun
import Derived.LoopTactic
import Derived.Deep.QuietTactic
import Derived.BigQuiet
namespace Go.Proofs.YtaafcmmmkalgjaaGreatDoor
open Go.RowKit

/-- The slice v reads as vs, a cell each. -/
def Vals (w : World) (v : Value) (vs : List Value) : Prop :=
  (v = .slice none 0 0 ∧ vs = []) ∨ ∃ g off cap, v = .slice (some ⟨g, off, none⟩) vs.length cap ∧ ∀ (j : Nat) (u : Value), vs[j]? = some u → w.cell? ⟨g, off + j, none⟩ = some u
/-- The slice v of ints reads as xs. -/
def Ints (w : World) (v : Value) (xs : List Int) : Prop :=
  ((∃ a c, v = .slice a 0 c) ∧ xs = []) ∨ ∃ g off cap, v = .slice (some ⟨g, off, none⟩) xs.length cap ∧ ∀ (j : Nat) (u : Int), xs[j]? = some u → w.cell? ⟨g, off + j, none⟩ = some (.int .i64 u)
theorem Ints.nil (w : World) (a : Option Addr) (c : Nat) : Ints w (.slice a 0 c) [] := .inl ⟨⟨a, c, rfl⟩, rfl⟩
theorem Ints.shape {w : World} {v : Value} {xs : List Int} (h : Ints w v xs) : ∃ a c, v = .slice a xs.length c := by
  rcases h with ⟨⟨a, c, rfl⟩, rfl⟩ | ⟨g, off, cap, rfl, _⟩
  · exact ⟨_, _, rfl⟩
  · exact ⟨_, _, rfl⟩
theorem lt_of_cell {w : World} {a : Addr} {v : Value} (h : w.cell? a = some v) : a.block < w.heap.size := by
  rcases Nat.lt_or_ge a.block w.heap.size with h' | h'
  · exact h'
  · simp [World.cell?, Array.getElem?_eq_none h'] at h
theorem Ints.later {w w' : World} {v : Value} {xs : List Int} (h : Ints w v xs) (hx : Ext w w') : Ints w' v xs := by
  rcases h with h | ⟨g, off, cap, rfl, hc⟩
  · exact .inl h
  · exact .inr ⟨g, off, cap, rfl, fun j u hu => (Below.cell hx (lt_of_cell (hc j u hu))).trans (hc j u hu)⟩
theorem Vals.later {w w' : World} {v : Value} {xs : List Value} (h : Vals w v xs) (hx : Ext w w') : Vals w' v xs := by
  rcases h with h | ⟨g, off, cap, rfl, hc⟩
  · exact .inl h
  · exact .inr ⟨g, off, cap, rfl, fun j u hu => (Below.cell hx (lt_of_cell (hc j u hu))).trans (hc j u hu)⟩
theorem Vals.own {w : World} {base : Nat} {e : TypeId} {v : Value} {xs : List Value} {n : Nat} (hn : n = xs.length) (h : w.ownsRow base e 1 v n xs) : Vals w v xs := by
  subst hn
  obtain ⟨hl, hr⟩ := h
  rcases hr with ⟨rfl, h0⟩ | ⟨g, cap, cur, rfl, _, hb, h1, h2, h3, h4⟩
  · exact .inl ⟨rfl, List.eq_nil_of_length_eq_zero h0⟩
  · refine .inr ⟨g, 0, cap, rfl, fun j u hu => ?_⟩
    have hj : j < xs.length := (List.getElem?_eq_some_iff.1 hu).1
    have e : cur[j]? = some u := by
      have : (cur.toList.take (xs.length * 1))[j]? = some u := by rw [h4]; exact hu
      rw [List.getElem?_take_of_lt (by omega)] at this
      simpa using this
    rw [Nat.zero_add]
    exact cell_of hb e
theorem Vals.ints {w : World} {v : Value} {xs : List Int} (h : Vals w v (xs.map (Value.int .i64))) : Ints w v xs := by
  rcases h with ⟨rfl, h⟩ | ⟨g, off, cap, rfl, hc⟩
  · exact .inl ⟨⟨none, 0, rfl⟩, List.map_eq_nil_iff.1 h⟩
  · exact .inr ⟨g, off, cap, by simp, fun j u hu => hc j _ (by rw [List.getElem?_map, hu]; rfl)⟩
theorem Ints.own {w : World} {base : Nat} {v : Value} {xs : List Int} {n : Nat} (hn : n = xs.length) (h : w.ownsRow base 3 1 v n (xs.map (Value.int .i64))) : Ints w v xs :=
  Vals.ints (Vals.own (by rw [hn, List.length_map]) h)
theorem Ints.cell {w : World} {a : Option Addr} {n c : Nat} {xs : List Int} (h : Ints w (.slice a n c) xs) : n = xs.length ∧ ∀ (j : Nat) (hj : j < xs.length), ∃ g off, a = some ⟨g, off, none⟩ ∧ w.cell? ⟨g, off + j, none⟩ = some (.int .i64 xs[j]) := by
  rcases h with ⟨⟨a', c', h⟩, rfl⟩ | ⟨g, off, cap, h, hc⟩
  · cases h; exact ⟨rfl, fun j hj => absurd hj (Nat.not_lt_zero _)⟩
  · cases h; exact ⟨rfl, fun j hj => ⟨g, off, rfl, hc j _ (List.getElem?_eq_getElem hj)⟩⟩
theorem intInfo : (Tryz.prog.info? 3).map (fun i => (i.zero, i.size, i.bytes)) = some (some (.int .i64 0), 1, 8) := by kernel_rfl
theorem strInfo : (Tryz.prog.info? 9).map (fun i => (i.zero, i.size, i.bytes)) = some (some (.string ⟨#[]⟩), 1, 16) := by kernel_rfl
theorem row_mono {w : World} {base base' : Nat} {e : TypeId} {v : Value} {n : Nat} {xs : List Value} (h : w.ownsRow base e 1 v n xs) (hb : base' ≤ base) : w.ownsRow base' e 1 v n xs := by
  refine ⟨h.1, ?_⟩
  rcases h.2 with h | ⟨g, cap, cur, h1, h2, h3⟩
  · exact .inl h
  · exact .inr ⟨g, cap, cur, h1, Nat.le_trans hb h2, h3⟩
theorem row_set {w : World} {base T i : Nat} {e : TypeId} {v x : Value} {n : Nat} {xs : List Value} (h : w.ownsRow base e 1 v n xs) (hT : T < base) : (w.setCell ⟨T, i, none⟩ x).ownsRow base e 1 v n xs := by
  refine ⟨h.1, ?_⟩
  rcases h.2 with h | ⟨g, cap, cur, h1, h2, h3, h4⟩
  · exact .inl h
  · exact .inr ⟨g, cap, cur, h1, h2, (Below.heap_setCell w ⟨T, i, none⟩ x g (fun e => by have e' : g = T := e; omega)).trans h3, h4⟩
theorem row_ext {w w' : World} {base : Nat} {e : TypeId} {v : Value} {n : Nat} {xs : List Value} (h : w.ownsRow base e 1 v n xs) (hx : Below w.heap.size w w') : w'.ownsRow base e 1 v n xs := by
  refine ⟨h.1, ?_⟩
  rcases h.2 with h | ⟨g, cap, cur, h1, h2, h3, h4⟩
  · exact .inl h
  · exact .inr ⟨g, cap, cur, h1, h2, (hx.block g (lt_of_block h3)).trans h3, h4⟩
theorem ownsRow_slice {w : World} {base : Nat} {e : TypeId} {v : Value} {n : Nat} {xs : List Value} (h : w.ownsRow base e 1 v n xs) : ∃ a c, v = .slice a n c := by
  rcases h.2 with ⟨rfl, h0⟩ | ⟨g, cap, cur, rfl, _⟩
  · subst h0; exact ⟨_, _, rfl⟩
  · exact ⟨_, _, rfl⟩
theorem ret_int {k : IntKind} {a b : Int} (h : a = b) : Ending.returned (.int k a) = .returned (.int k b) := by rw [h]
theorem ret_bool {a b : Bool} (h : a = b) : Ending.returned (.bool a) = .returned (.bool b) := by rw [h]
theorem Ext.drewN {w w' : World} (h : Ext w w') (n : Nat) : Ext w (w'.drewN n) := below_drewN h n
end Go.Proofs.YtaafcmmmkalgjaaGreatDoor
/-
  Texts that are equal.
-/
namespace Go.Proofs.YtaafcmmmkalgjaaGreatDoor
open Go.RowKit
theorem toList_inj {a b : ByteArray} (e : a.toList = b.toList) : a = b := by
  rw [ByteArray.toList_eq, ByteArray.toList_eq] at e
  exact ByteArray.ext (Array.toList_inj.1 e)
theorem data_inj {a b : ByteArray} (e : a.data.toList = b.data.toList) : a = b := ByteArray.ext (Array.toList_inj.1 e)
end Go.Proofs.YtaafcmmmkalgjaaGreatDoor
/-
  sign.digit, sign.ofWord, sign.ofName, sign.spelt, sign.Word, sign.Name, each by a contract.
-/
namespace Go.Proofs.YtaafcmmmkalgjaaGreatDoor
open Go.RowKit

def digI (r : Int) : Bool := decide (48 ≤ r ∧ r ≤ 57)
def wordI (r : Int) : Bool := decide (97 ≤ r ∧ r ≤ 122) || digI r
def nameI (r : Int) : Bool := wordI r || decide (65 ≤ r ∧ r ≤ 90) || decide (r = 95)
theorem wordI_in {r : Int} (h1 : 97 ≤ r) (h2 : r ≤ 122) : wordI r = true := by simp [wordI, h1, h2]
theorem wordI_out {r : Int} (h : ¬ (97 ≤ r ∧ r ≤ 122)) : wordI r = digI r := by unfold wordI; rw [decide_eq_false h]; rfl
theorem nameI_cap {r : Int} (h1 : 65 ≤ r) (h2 : r ≤ 90) : nameI r = true := by simp [nameI, h1, h2]
theorem nameI_else {r : Int} (hw : wordI r = false) (h : ¬ (65 ≤ r ∧ r ≤ 90)) : nameI r = (r == 95) := by unfold nameI; rw [decide_eq_false h, hw]; by_cases e : r = 95 <;> simp [e]
theorem high_digI {r : Int} (h : 128 ≤ r) : digI r = false := by simp [digI]; omega
theorem high_wordI {r : Int} (h : 128 ≤ r) : wordI r = false := by rw [wordI_out (by omega)]; exact high_digI h
theorem high_nameI {r : Int} (h : 128 ≤ r) : nameI r = false := by rw [nameI_else (high_wordI h) (by omega)]; simp; omega
theorem digit_any (r : Int) (w : World) : Calls Tryz.prog 145 #[.int .i32 r] w fun e w' => e = .returned (.bool (digI r)) ∧ w' = w := by
  by_cases h1 : 48 ≤ r <;> by_cases h2 : r ≤ 57
  all_goals
    go_enter Tryz.func145, Tryz.ntmps145
    go_wp2
    go_ret
    exact ⟨ret_bool (by simp [digI, h1, h2]), rfl⟩
theorem ofWord_any (r : Int) (w : World) : Calls Tryz.prog 106 #[.int .i32 r] w fun e w' => e = .returned (.bool (wordI r)) ∧ w' = w := by
  by_cases h1 : 97 ≤ r <;> by_cases h2 : r ≤ 122
  all_goals
    go_enter Tryz.func106, Tryz.ntmps106
    go_wp2_with (go_at_call 145; refine (digit_any r _).mono ?_; rintro e w' ⟨rfl, rfl⟩)
    go_ret
    exact ⟨ret_bool (by first | (rw [wordI_in (by omega) (by omega)]; done) | (rw [wordI_out (by omega)]; try rfl)), rfl⟩
theorem ofName_any (r : Int) (w : World) : Calls Tryz.prog 149 #[.int .i32 r] w fun e w' => e = .returned (.bool (nameI r)) ∧ w' = w := by
  by_cases hw : wordI r = true
  · go_enter Tryz.func149, Tryz.ntmps149
    go_wp2_with (go_at_call 106; refine (ofWord_any r _).mono ?_; rintro e w' ⟨rfl, rfl⟩)
    go_ret
    exact ⟨ret_bool (by simp [nameI, hw]), rfl⟩
  · have hw' : wordI r = false := by simpa using hw
    clear hw
    by_cases h1 : 65 ≤ r ∧ r ≤ 90
    · obtain ⟨h1, h2⟩ := h1
      go_enter Tryz.func149, Tryz.ntmps149
      go_wp2_with (go_at_call 106; refine (ofWord_any r _).mono ?_; rintro e w' ⟨rfl, rfl⟩)
      go_ret
      exact ⟨ret_bool (by rw [nameI_cap h1 h2]), rfl⟩
    · have HE := hid (nameI_else hw' h1)
      have h1' : 65 ≤ r → 90 < r := fun h => by omega
      have H1 := hid h1'
      clear h1 h1'
      by_cases h2 : 65 ≤ r
      · have h3 := H1.out h2
        have h4 : decide (r ≤ 90) = false := decide_eq_false (by omega)
        go_enter Tryz.func149, Tryz.ntmps149
        go_wp2_with (go_at_call 106; refine (ofWord_any r _).mono ?_; rintro e w' ⟨rfl, rfl⟩)
        all_goals
          go_ret
          exact ⟨ret_bool (by rw [HE.out]; try rw [h4]; try rfl), rfl⟩
      · go_enter Tryz.func149, Tryz.ntmps149
        go_wp2_with (go_at_call 106; refine (ofWord_any r _).mono ?_; rintro e w' ⟨rfl, rfl⟩)
        all_goals
          go_ret
          exact ⟨ret_bool (by rw [HE.out]; try rfl), rfl⟩

theorem Ext.iter {w w' : World} (h : Ext w w') (s : ByteArray) (pos : Nat) : Ext w (w'.iter s pos) := h.trans (Ext.alloc _ _)
/-- 1 to m signs, each such that f takes it, and no digit first. -/
def speltB (f : Int → Bool) (m : Nat) (l : List UInt8) : Bool := !l.isEmpty && decide (l.length ≤ m) && l.all (fun c => f c.toNat) && !(l.head?.any (fun c => digI c.toNat))
theorem speltB_none (f : Int → Bool) (m : Nat) : speltB f m [] = false := rfl
theorem speltB_long {f : Int → Bool} {m : Nat} {l : List UInt8} (h : m < l.length) : speltB f m l = false := by
  have : decide (l.length ≤ m) = false := by simp; omega
  simp [speltB, this]
theorem speltB_bad {f : Int → Bool} {m k : Nat} {l : List UInt8} (h : k < l.length) (hf : f l[k].toNat = false) : speltB f m l = false := by
  have : l.all (fun c => f c.toNat) = false := by
    rw [List.all_eq_false]
    exact ⟨l[k], List.getElem_mem h, by simp [hf]⟩
  simp [speltB, this]
theorem speltB_digit {f : Int → Bool} {m : Nat} {l : List UInt8} (h : 0 < l.length) (hf : digI l[0].toNat = true) : speltB f m l = false := by
  cases l with
  | nil => rfl
  | cons c l =>
    have : ((c :: l).head?.any (fun c => digI c.toNat)) = true := hf
    simp only [speltB, this]
    simp
theorem speltB_good {f : Int → Bool} {m : Nat} {l : List UInt8} (h0 : 0 < l.length) (hm : l.length ≤ m) (ha : ∀ k, (h : k < l.length) → f l[k].toNat = true) (hd : digI l[0].toNat = false) : speltB f m l = true := by
  cases l with
  | nil => simp at h0
  | cons c l =>
    have e1 : ((c :: l).head?.any (fun c => digI c.toNat)) = false := hd
    have e2 : (c :: l).all (fun c => f c.toNat) = true := by
      rw [List.all_eq_true]
      intro x hx
      obtain ⟨k, hk, rfl⟩ := List.getElem_of_mem hx
      exact ha k hk
    simp only [speltB, e1, e2]
    simp at hm ⊢
    exact hm
theorem at_list (s : ByteArray) (k : Nat) (h : k < s.size) : ∃ h' : k < s.data.toList.length, s[k] = s.data.toList[k] := ⟨by simpa using h, by simp; rfl⟩
theorem size_list (s : ByteArray) : s.data.toList.length = s.size := by simp

set_option maxRecDepth 100000 in
set_option maxHeartbeats 2000000 in
theorem speltW (s : ByteArray) (m : Nat) (w : World) (hm : m ≤ 1000) : Calls Tryz.prog 105 #[.string s, .int .i64 m, .func (.func 106) #[] #[]] w fun e w' => e = .returned (.bool (speltB wordI m s.data.toList)) ∧ Ext w w' := by
  have hm' : (m : Int) ≤ 1000 := by omega
  by_cases h0 : s.toList.isEmpty = true
  · have HR := hid (show speltB wordI m s.data.toList = false by rw [← ByteArray.toList_eq, List.isEmpty_iff.1 h0]; rfl)
    go_enter Tryz.func105, Tryz.ntmps105
    go_wp2
    go_ret
    exact ⟨ret_bool (by rw [HR.out]), Ext.refl _⟩
  have h0' : s.toList.isEmpty = false := by simpa using h0
  by_cases hl : m < s.size
  · have HR := hid (speltB_long (f := wordI) (m := m) (l := s.data.toList) (by rw [size_list]; exact hl))
    have hl' : (m : Int) < s.size := by omega
    go_enter Tryz.func105, Tryz.ntmps105
    go_wp2
    go_ret
    exact ⟨ret_bool (by rw [HR.out]), Ext.refl _⟩
  have hl' : (s.size : Int) ≤ m := by omega
  have hne : 0 < s.size := by
    rcases Nat.eq_zero_or_pos s.size with h | h
    · exact absurd (by rw [ByteArray.toList_eq, List.isEmpty_iff]; exact List.eq_nil_of_length_eq_zero (by rw [size_list]; exact h)) h0
    · exact h
  go_enter Tryz.func105, Tryz.ntmps105
  clear h0
  go_wp2
  go_loopw [7] (fun _ wr => ∃ pos : Nat, wr = w.iter s pos ∧ pos ≤ s.size ∧ (∀ k, (h : k < s.data.toList.length) → k < pos → wordI s.data.toList[k].toNat = true) ∧ (0 < pos → (h : 0 < s.data.toList.length) → digI s.data.toList[0].toNat = false)) (fun _ wr => s.size - wr.iterPos w.heap.size)
  case atStart => exact ⟨0, rfl, Nat.zero_le _, fun k _ h => absurd h (Nat.not_lt_zero _), fun h => absurd h (Nat.not_lt_zero _)⟩
  case round =>
    obtain ⟨pos, rfl, hps, hall, hdig⟩ := hrel
    have HALL := hid hall
    have HDIG := hid hdig
    clear hall hdig
    by_cases hp : pos < s.size
    · obtain ⟨hp', hc⟩ := at_list s pos hp
      by_cases ha : (s[pos]'hp).toNat < 128
      · have hnx : ∀ ty, (Instr.next (.pointer (some ⟨w.heap.size, 0, none⟩)) true ty).run Tryz.prog (w.iter s pos) = _ := fun ty => run_next_ascii w s pos ty hp ha
        have HC := hid (congrArg UInt8.toNat hc)
        generalize (s[pos]'hp).toNat = c at hnx HC
        clear hc ha
        by_cases hf : wordI (c : Int) = true
        · by_cases hz : pos = 0
          · subst hz
            by_cases hd : digI (c : Int) = true
            · have HR := hid (speltB_digit (f := wordI) (m := m) (l := s.data.toList) hp' (by rw [← HC.out]; exact hd))
              go_wp2_with (first | (go_at_call 106; refine (ofWord_any _ _).mono ?_; rintro e w' ⟨rfl, rfl⟩) | (go_at_call 145; refine (digit_any _ _).mono ?_; rintro e w' ⟨rfl, rfl⟩))
              go_ret
              exact ⟨ret_bool (by rw [HR.out]), (Ext.refl _).iter _ _⟩
            · have hd' : digI (c : Int) = false := by simpa using hd
              clear hd
              go_wp2_with (first | (go_at_call 106; refine (ofWord_any _ _).mono ?_; rintro e w' ⟨rfl, rfl⟩) | (go_at_call 145; refine (digit_any _ _).mono ?_; rintro e w' ⟨rfl, rfl⟩))
              go_roundw
              case rel => exact ⟨1, rfl, hp, fun k hk h => by
                  obtain rfl : k = 0 := by omega
                  rw [← HC.out]; exact hf, fun _ _ => by rw [← HC.out]; exact hd'⟩
              case measure => simp; omega
          · have hz' : ((pos : Int) == 0) = false := by simp [hz]
            go_wp2_with (first | (go_at_call 106; refine (ofWord_any _ _).mono ?_; rintro e w' ⟨rfl, rfl⟩) | (go_at_call 145; refine (digit_any _ _).mono ?_; rintro e w' ⟨rfl, rfl⟩))
            go_roundw
            case rel => exact ⟨pos + 1, rfl, hp, fun k hk h => by
                rcases Nat.lt_or_eq_of_le (Nat.le_of_lt_succ h) with h | h
                · exact HALL.out k hk h
                · subst h; rw [← HC.out]; exact hf, fun _ => HDIG.out (by omega)⟩
            case measure => simp; omega
        · have hf' : wordI (c : Int) = false := by simpa using hf
          have HR := hid (speltB_bad (f := wordI) (m := m) (l := s.data.toList) hp' (by rw [← HC.out]; exact hf'))
          clear hf
          go_wp2_with (first | (go_at_call 106; refine (ofWord_any _ _).mono ?_; rintro e w' ⟨rfl, rfl⟩) | (go_at_call 145; refine (digit_any _ _).mono ?_; rintro e w' ⟨rfl, rfl⟩))
          go_ret
          exact ⟨ret_bool (by rw [HR.out]), (Ext.refl _).iter _ _⟩
      · have hhi := (decode_high s pos hp (by omega)).1
        have hnx : ∀ ty, (Instr.next (.pointer (some ⟨w.heap.size, 0, none⟩)) true ty).run Tryz.prog (w.iter s pos) = _ := fun ty => run_next_any w s pos ty hp
        have hf' : wordI ((Utf8.decode s pos).1 : Int) = false := high_wordI (by omega)
        have HR := hid (speltB_bad (f := wordI) (m := m) (l := s.data.toList) hp' (by rw [← hc]; exact high_wordI (by omega)))
        clear hhi ha hc
        go_wp2_with (first | (go_at_call 106; refine (ofWord_any _ _).mono ?_; rintro e w' ⟨rfl, rfl⟩) | (go_at_call 145; refine (digit_any _ _).mono ?_; rintro e w' ⟨rfl, rfl⟩))
        go_ret
        exact ⟨ret_bool (by rw [HR.out]), (Ext.refl _).iter _ _⟩
    · have hnx : ∀ ty, (Instr.next (.pointer (some ⟨w.heap.size, 0, none⟩)) true ty).run Tryz.prog (w.iter s pos) = _ := fun ty => run_next_end w s pos ty hp
      have HR := hid (speltB_good (f := wordI) (m := m) (l := s.data.toList) (by rw [size_list]; exact hne) (by rw [size_list]; omega) (fun k h => HALL.out k h (by rw [size_list] at h; omega)) (HDIG.out (by omega) (by rw [size_list]; exact hne)))
      go_wp2
      go_ret
      exact ⟨ret_bool (by rw [HR.out]), (Ext.refl _).iter _ _⟩


set_option maxRecDepth 100000 in
set_option maxHeartbeats 2000000 in
theorem speltN (s : ByteArray) (m : Nat) (w : World) (hm : m ≤ 1000) : Calls Tryz.prog 105 #[.string s, .int .i64 m, .func (.func 149) #[] #[]] w fun e w' => e = .returned (.bool (speltB nameI m s.data.toList)) ∧ Ext w w' := by
  have hm' : (m : Int) ≤ 1000 := by omega
  by_cases h0 : s.toList.isEmpty = true
  · have HR := hid (show speltB nameI m s.data.toList = false by rw [← ByteArray.toList_eq, List.isEmpty_iff.1 h0]; rfl)
    go_enter Tryz.func105, Tryz.ntmps105
    go_wp2
    go_ret
    exact ⟨ret_bool (by rw [HR.out]), Ext.refl _⟩
  have h0' : s.toList.isEmpty = false := by simpa using h0
  by_cases hl : m < s.size
  · have HR := hid (speltB_long (f := nameI) (m := m) (l := s.data.toList) (by rw [size_list]; exact hl))
    have hl' : (m : Int) < s.size := by omega
    go_enter Tryz.func105, Tryz.ntmps105
    go_wp2
    go_ret
    exact ⟨ret_bool (by rw [HR.out]), Ext.refl _⟩
  have hl' : (s.size : Int) ≤ m := by omega
  have hne : 0 < s.size := by
    rcases Nat.eq_zero_or_pos s.size with h | h
    · exact absurd (by rw [ByteArray.toList_eq, List.isEmpty_iff]; exact List.eq_nil_of_length_eq_zero (by rw [size_list]; exact h)) h0
    · exact h
  go_enter Tryz.func105, Tryz.ntmps105
  clear h0
  go_wp2
  go_loopw [7] (fun _ wr => ∃ pos : Nat, wr = w.iter s pos ∧ pos ≤ s.size ∧ (∀ k, (h : k < s.data.toList.length) → k < pos → nameI s.data.toList[k].toNat = true) ∧ (0 < pos → (h : 0 < s.data.toList.length) → digI s.data.toList[0].toNat = false)) (fun _ wr => s.size - wr.iterPos w.heap.size)
  case atStart => exact ⟨0, rfl, Nat.zero_le _, fun k _ h => absurd h (Nat.not_lt_zero _), fun h => absurd h (Nat.not_lt_zero _)⟩
  case round =>
    obtain ⟨pos, rfl, hps, hall, hdig⟩ := hrel
    have HALL := hid hall
    have HDIG := hid hdig
    clear hall hdig
    by_cases hp : pos < s.size
    · obtain ⟨hp', hc⟩ := at_list s pos hp
      by_cases ha : (s[pos]'hp).toNat < 128
      · have hnx : ∀ ty, (Instr.next (.pointer (some ⟨w.heap.size, 0, none⟩)) true ty).run Tryz.prog (w.iter s pos) = _ := fun ty => run_next_ascii w s pos ty hp ha
        have HC := hid (congrArg UInt8.toNat hc)
        generalize (s[pos]'hp).toNat = c at hnx HC
        clear hc ha
        by_cases hf : nameI (c : Int) = true
        · by_cases hz : pos = 0
          · subst hz
            by_cases hd : digI (c : Int) = true
            · have HR := hid (speltB_digit (f := nameI) (m := m) (l := s.data.toList) hp' (by rw [← HC.out]; exact hd))
              go_wp2_with (first | (go_at_call 149; refine (ofName_any _ _).mono ?_; rintro e w' ⟨rfl, rfl⟩) | (go_at_call 145; refine (digit_any _ _).mono ?_; rintro e w' ⟨rfl, rfl⟩))
              go_ret
              exact ⟨ret_bool (by rw [HR.out]), (Ext.refl _).iter _ _⟩
            · have hd' : digI (c : Int) = false := by simpa using hd
              clear hd
              go_wp2_with (first | (go_at_call 149; refine (ofName_any _ _).mono ?_; rintro e w' ⟨rfl, rfl⟩) | (go_at_call 145; refine (digit_any _ _).mono ?_; rintro e w' ⟨rfl, rfl⟩))
              go_roundw
              case rel => exact ⟨1, rfl, hp, fun k hk h => by
                  obtain rfl : k = 0 := by omega
                  rw [← HC.out]; exact hf, fun _ _ => by rw [← HC.out]; exact hd'⟩
              case measure => simp; omega
          · have hz' : ((pos : Int) == 0) = false := by simp [hz]
            go_wp2_with (first | (go_at_call 149; refine (ofName_any _ _).mono ?_; rintro e w' ⟨rfl, rfl⟩) | (go_at_call 145; refine (digit_any _ _).mono ?_; rintro e w' ⟨rfl, rfl⟩))
            go_roundw
            case rel => exact ⟨pos + 1, rfl, hp, fun k hk h => by
                rcases Nat.lt_or_eq_of_le (Nat.le_of_lt_succ h) with h | h
                · exact HALL.out k hk h
                · subst h; rw [← HC.out]; exact hf, fun _ => HDIG.out (by omega)⟩
            case measure => simp; omega
        · have hf' : nameI (c : Int) = false := by simpa using hf
          have HR := hid (speltB_bad (f := nameI) (m := m) (l := s.data.toList) hp' (by rw [← HC.out]; exact hf'))
          clear hf
          go_wp2_with (first | (go_at_call 149; refine (ofName_any _ _).mono ?_; rintro e w' ⟨rfl, rfl⟩) | (go_at_call 145; refine (digit_any _ _).mono ?_; rintro e w' ⟨rfl, rfl⟩))
          go_ret
          exact ⟨ret_bool (by rw [HR.out]), (Ext.refl _).iter _ _⟩
      · have hhi := (decode_high s pos hp (by omega)).1
        have hnx : ∀ ty, (Instr.next (.pointer (some ⟨w.heap.size, 0, none⟩)) true ty).run Tryz.prog (w.iter s pos) = _ := fun ty => run_next_any w s pos ty hp
        have hf' : nameI ((Utf8.decode s pos).1 : Int) = false := high_nameI (by omega)
        have HR := hid (speltB_bad (f := nameI) (m := m) (l := s.data.toList) hp' (by rw [← hc]; exact high_nameI (by omega)))
        clear hhi ha hc
        go_wp2_with (first | (go_at_call 149; refine (ofName_any _ _).mono ?_; rintro e w' ⟨rfl, rfl⟩) | (go_at_call 145; refine (digit_any _ _).mono ?_; rintro e w' ⟨rfl, rfl⟩))
        go_ret
        exact ⟨ret_bool (by rw [HR.out]), (Ext.refl _).iter _ _⟩
    · have hnx : ∀ ty, (Instr.next (.pointer (some ⟨w.heap.size, 0, none⟩)) true ty).run Tryz.prog (w.iter s pos) = _ := fun ty => run_next_end w s pos ty hp
      have HR := hid (speltB_good (f := nameI) (m := m) (l := s.data.toList) (by rw [size_list]; exact hne) (by rw [size_list]; omega) (fun k h => HALL.out k h (by rw [size_list] at h; omega)) (HDIG.out (by omega) (by rw [size_list]; exact hne)))
      go_wp2
      go_ret
      exact ⟨ret_bool (by rw [HR.out]), (Ext.refl _).iter _ _⟩


theorem word_any (s : ByteArray) (w : World) : Calls Tryz.prog 87 #[.string s] w fun e w' => e = .returned (.bool (speltB wordI 16 s.data.toList)) ∧ Ext w w' := by
  go_enter Tryz.func87, Tryz.ntmps87
  go_wp2_with (go_at_call 105; refine (speltW s 16 _ (by decide)).mono ?_; rintro e w' ⟨rfl, hx⟩)
  go_ret
  exact ⟨rfl, hx⟩
theorem name_any (s : ByteArray) (w : World) : Calls Tryz.prog 121 #[.string s] w fun e w' => e = .returned (.bool (speltB nameI 32 s.data.toList)) ∧ Ext w w' := by
  go_enter Tryz.func121, Tryz.ntmps121
  go_wp2_with (go_at_call 105; refine (speltN s 32 _ (by decide)).mono ?_; rintro e w' ⟨rfl, hx⟩)
  go_ret
  exact ⟨rfl, hx⟩
end Go.Proofs.YtaafcmmmkalgjaaGreatDoor
