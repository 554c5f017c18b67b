/-
  sign.digit, sign.ofWord, sign.ofName, sign.spelt, sign.Word, sign.Name, each by a contract.
-/
import Derived.Test.YtllbelglilkdpaaDoorEqp
import Derived.Test.YtllbelglilkdpaaDoorShelf
namespace Go.Proofs.YtllbelglilkdpaaDoor
open Go.RowKit

def digI (r : Int) : Bool := decide (48 ≤ r ∧ r ≤ 57)
def wordI (r : Int) : Bool := decide (97 ≤ r ∧ r ≤ 122) || digI r
def nameI (r : Int) : Bool := wordI r || decide (65 ≤ r ∧ r ≤ 90) || decide (r = 95)
theorem wordI_in {r : Int} (h1 : 97 ≤ r) (h2 : r ≤ 122) : wordI r = true := by simp [wordI, h1, h2]
theorem wordI_out {r : Int} (h : ¬ (97 ≤ r ∧ r ≤ 122)) : wordI r = digI r := by unfold wordI; rw [decide_eq_false h]; rfl
theorem nameI_cap {r : Int} (h1 : 65 ≤ r) (h2 : r ≤ 90) : nameI r = true := by simp [nameI, h1, h2]
theorem nameI_else {r : Int} (hw : wordI r = false) (h : ¬ (65 ≤ r ∧ r ≤ 90)) : nameI r = (r == 95) := by unfold nameI; rw [decide_eq_false h, hw]; by_cases e : r = 95 <;> simp [e]
theorem high_digI {r : Int} (h : 128 ≤ r) : digI r = false := by simp [digI]; omega
theorem high_wordI {r : Int} (h : 128 ≤ r) : wordI r = false := by rw [wordI_out (by omega)]; exact high_digI h
theorem high_nameI {r : Int} (h : 128 ≤ r) : nameI r = false := by rw [nameI_else (high_wordI h) (by omega)]; simp; omega
theorem Ext.iter {w w' : World} (h : Ext w w') (s : ByteArray) (pos : Nat) : Ext w (w'.iter s pos) := h.trans (Ext.alloc _ _)
/-- 1 to m signs, each such that f takes it, and no digit first. -/
def speltB (f : Int → Bool) (m : Nat) (l : List UInt8) : Bool := !l.isEmpty && decide (l.length ≤ m) && l.all (fun c => f c.toNat) && !(l.head?.any (fun c => digI c.toNat))
theorem speltB_none (f : Int → Bool) (m : Nat) : speltB f m [] = false := rfl
theorem speltB_long {f : Int → Bool} {m : Nat} {l : List UInt8} (h : m < l.length) : speltB f m l = false := by
  have : decide (l.length ≤ m) = false := by simp; omega
  simp [speltB, this]
theorem speltB_bad {f : Int → Bool} {m k : Nat} {l : List UInt8} (h : k < l.length) (hf : f l[k].toNat = false) : speltB f m l = false := by
  have : l.all (fun c => f c.toNat) = false := by
    rw [List.all_eq_false]
    exact ⟨l[k], List.getElem_mem h, by simp [hf]⟩
  simp [speltB, this]
theorem speltB_digit {f : Int → Bool} {m : Nat} {l : List UInt8} (h : 0 < l.length) (hf : digI l[0].toNat = true) : speltB f m l = false := by
  cases l with
  | nil => rfl
  | cons c l =>
    have : ((c :: l).head?.any (fun c => digI c.toNat)) = true := hf
    simp only [speltB, this]
    simp
theorem speltB_good {f : Int → Bool} {m : Nat} {l : List UInt8} (h0 : 0 < l.length) (hm : l.length ≤ m) (ha : ∀ k, (h : k < l.length) → f l[k].toNat = true) (hd : digI l[0].toNat = false) : speltB f m l = true := by
  cases l with
  | nil => simp at h0
  | cons c l =>
    have e1 : ((c :: l).head?.any (fun c => digI c.toNat)) = false := hd
    have e2 : (c :: l).all (fun c => f c.toNat) = true := by
      rw [List.all_eq_true]
      intro x hx
      obtain ⟨k, hk, rfl⟩ := List.getElem_of_mem hx
      exact ha k hk
    simp only [speltB, e1, e2]
    simp at hm ⊢
    exact hm
theorem at_list (s : ByteArray) (k : Nat) (h : k < s.size) : ∃ h' : k < s.data.toList.length, s[k] = s.data.toList[k] := ⟨by simpa using h, by simp; rfl⟩
theorem size_list (s : ByteArray) : s.data.toList.length = s.size := by simp

end Go.Proofs.YtllbelglilkdpaaDoor
/-
  strings.Cut at one sign, sign.Kind, each by a contract.
-/
namespace Go.Proofs.YtllbelglilkdpaaDoor
open Go.RowKit

theorem indexByte_found (pre post : List UInt8) (c : UInt8) (h : c ∉ pre) : Lib.indexByte (pre ++ c :: post) c = pre.length := by
  induction pre with
  | nil => simp [Lib.indexByte]
  | cons x pre ih =>
    have hx : (x == c) = false := by simp; intro e; exact h (by simp [e])
    have := ih (fun hc => h (List.mem_cons_of_mem _ hc))
    simp only [List.cons_append, Lib.indexByte, hx, this]
    have : ((pre.length : Int) == -1) = false := by simp
    simp [this]
theorem indexByte_none (l : List UInt8) (c : UInt8) (h : c ∉ l) : Lib.indexByte l c = -1 := by
  induction l with
  | nil => rfl
  | cons x l ih =>
    have hx : (x == c) = false := by simp; intro e; exact h (by simp [e])
    have := ih (fun hc => h (List.mem_cons_of_mem _ hc))
    simp [Lib.indexByte, hx, this]
theorem bytes_of (s : ByteArray) (l : List UInt8) (h : s.data.toList = l) : s = ⟨l.toArray⟩ := data_inj (by simpa using h)
theorem parts_of (l : List UInt8) (c : UInt8) : c ∉ l ∨ ∃ pre post, l = pre ++ c :: post ∧ c ∉ pre := by
  induction l with
  | nil => exact .inl (by simp)
  | cons x l ih =>
    by_cases hx : x = c
    · exact .inr ⟨[], l, by simp [hx], by simp⟩
    · rcases ih with h | ⟨pre, post, rfl, h⟩
      · exact .inl (by simp only [List.mem_cons, not_or]; exact ⟨fun e => hx e.symm, h⟩)
      · exact .inr ⟨x :: pre, post, rfl, by simp only [List.mem_cons, not_or]; exact ⟨fun e => hx e.symm, h⟩⟩

theorem cutL_none (s : ByteArray) (c : UInt8) (w : World) (h : c ∉ s.data.toList) :
    Calls Tryd.prog 56 #[.string s, .string ⟨#[c]⟩] w fun e w' => e = .returned (.tuple #[.string s, .string ⟨#[]⟩, .bool false]) ∧ Ext w w' := by
  have HI := hid (indexByte_none _ c h)
  clear h
  go_enter Tryd.func56, Tryd.ntmps56
  go_wp2_with (go_at_call 74; refine (Tryd.stringslite_Index_one s c _).mono ?_; rw [HI.out]; rintro e w' ⟨rfl, rfl⟩)
  go_ret3
  exact ⟨rfl, Ext.refl _⟩
set_option maxRecDepth 100000 in
theorem cutL_found (s : ByteArray) (c : UInt8) (pre post : List UInt8) (w : World) (hs : s.data.toList = pre ++ c :: post) (h : c ∉ pre) (hb : s.size ≤ 140737488355328) :
    Calls Tryd.prog 56 #[.string s, .string ⟨#[c]⟩] w fun e w' => e = .returned (.tuple #[.string ⟨pre.toArray⟩, .string ⟨post.toArray⟩, .bool true]) ∧ Ext w w' := by
  have hl : s.size = pre.length + (post.length + 1) := by rw [← size_list, hs]; simp
  have HI := hid (show Lib.indexByte s.data.toList c = pre.length by rw [hs]; exact indexByte_found pre post c h)
  have H1 := hid (show s.extract 0 pre.length = ⟨pre.toArray⟩ from data_inj (by rw [Lib.extract_data, hs]; simp))
  have H2 := hid (show s.extract (pre.length + 1) s.size = ⟨post.toArray⟩ from data_inj (by rw [Lib.extract_data, hs, show pre ++ c :: post = (pre ++ [c]) ++ post by simp, List.drop_left' (by simp), List.take_of_length_le (by omega)]))
  have hi1 : (pre.length : Int) ≤ 140737488355328 := by omega
  have hi2 : (pre.length : Int) + 1 ≤ s.size := by omega
  have hi3 : (pre.length : Int) ≤ s.size := by omega
  clear h hs hl
  go_enter Tryd.func56, Tryd.ntmps56
  go_wp2_with (go_at_call 74; refine (Tryd.stringslite_Index_one s c _).mono ?_; rw [HI.out]; rintro e w' ⟨rfl, rfl⟩)
  go_quiet (fail)
  go_wp2
  go_ret3
  exact ⟨by rw [H1.out, H2.out]; rfl, (Ext.refl _).drewN _⟩
theorem cut_none (s : ByteArray) (c : UInt8) (w : World) (h : c ∉ s.data.toList) :
    Calls Tryd.prog 34 #[.string s, .string ⟨#[c]⟩] w fun e w' => e = .returned (.tuple #[.string s, .string ⟨#[]⟩, .bool false]) ∧ Ext w w' := by
  have HH := hid h
  clear h
  go_enter Tryd.func34, Tryd.ntmps34
  go_wp2_with (go_at_call 56; refine (cutL_none s c _ HH.out).mono ?_; rintro e w' ⟨rfl, hx⟩)
  go_ret3
  exact ⟨rfl, hx⟩
theorem cut_found (s : ByteArray) (c : UInt8) (pre post : List UInt8) (w : World) (hs : s.data.toList = pre ++ c :: post) (h : c ∉ pre) (hb : s.size ≤ 140737488355328) :
    Calls Tryd.prog 34 #[.string s, .string ⟨#[c]⟩] w fun e w' => e = .returned (.tuple #[.string ⟨pre.toArray⟩, .string ⟨post.toArray⟩, .bool true]) ∧ Ext w w' := by
  have HH := hid h
  have HS := hid hs
  clear h hs
  go_enter Tryd.func34, Tryd.ntmps34
  go_wp2_with (go_at_call 56; refine (cutL_found s c pre post _ HS.out HH.out hb).mono ?_; rintro e w' ⟨rfl, hx⟩)
  go_ret3
  exact ⟨rfl, hx⟩

def kindV (a b : List UInt8) : Value := if speltB wordI 16 a && speltB wordI 16 b then .tuple #[.string ⟨a.toArray⟩, .string ⟨b.toArray⟩, .bool true] else .tuple #[.string ⟨#[]⟩, .string ⟨#[]⟩, .bool false]
end Go.Proofs.YtllbelglilkdpaaDoor
