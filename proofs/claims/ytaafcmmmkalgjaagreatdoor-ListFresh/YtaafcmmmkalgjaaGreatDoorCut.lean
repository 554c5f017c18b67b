/-
  strings.Cut at one sign, sign.Kind, each by a contract.
-/
import Derived.Test.YtaafcmmmkalgjaaGreatDoorSpelt
import Derived.Test.YtaafcmmmkalgjaaGreatDoorShelf
namespace Go.Proofs.YtaafcmmmkalgjaaGreatDoor
open Go.RowKit

theorem indexByte_found (pre post : List UInt8) (c : UInt8) (h : c ∉ pre) : Lib.indexByte (pre ++ c :: post) c = pre.length := by
  induction pre with
  | nil => simp [Lib.indexByte]
  | cons x pre ih =>
    have hx : (x == c) = false := by simp; intro e; exact h (by simp [e])
    have := ih (fun hc => h (List.mem_cons_of_mem _ hc))
    simp only [List.cons_append, Lib.indexByte, hx, this]
    have : ((pre.length : Int) == -1) = false := by simp
    simp [this]
theorem indexByte_none (l : List UInt8) (c : UInt8) (h : c ∉ l) : Lib.indexByte l c = -1 := by
  induction l with
  | nil => rfl
  | cons x l ih =>
    have hx : (x == c) = false := by simp; intro e; exact h (by simp [e])
    have := ih (fun hc => h (List.mem_cons_of_mem _ hc))
    simp [Lib.indexByte, hx, this]
theorem bytes_of (s : ByteArray) (l : List UInt8) (h : s.data.toList = l) : s = ⟨l.toArray⟩ := data_inj (by simpa using h)
theorem parts_of (l : List UInt8) (c : UInt8) : c ∉ l ∨ ∃ pre post, l = pre ++ c :: post ∧ c ∉ pre := by
  induction l with
  | nil => exact .inl (by simp)
  | cons x l ih =>
    by_cases hx : x = c
    · exact .inr ⟨[], l, by simp [hx], by simp⟩
    · rcases ih with h | ⟨pre, post, rfl, h⟩
      · exact .inl (by simp only [List.mem_cons, not_or]; exact ⟨fun e => hx e.symm, h⟩)
      · exact .inr ⟨x :: pre, post, rfl, by simp only [List.mem_cons, not_or]; exact ⟨fun e => hx e.symm, h⟩⟩

theorem cutL_none (s : ByteArray) (c : UInt8) (w : World) (h : c ∉ s.data.toList) :
    Calls Tryz.prog 140 #[.string s, .string ⟨#[c]⟩] w fun e w' => e = .returned (.tuple #[.string s, .string ⟨#[]⟩, .bool false]) ∧ Ext w w' := by
  have HI := hid (indexByte_none _ c h)
  clear h
  go_enter Tryz.func140, Tryz.ntmps140
  go_wp2_with (go_at_call 151; refine (Tryz.stringslite_Index_one s c _).mono ?_; rw [HI.out]; rintro e w' ⟨rfl, rfl⟩)
  go_ret3
  exact ⟨rfl, Ext.refl _⟩
set_option maxRecDepth 100000 in
theorem cutL_found (s : ByteArray) (c : UInt8) (pre post : List UInt8) (w : World) (hs : s.data.toList = pre ++ c :: post) (h : c ∉ pre) (hb : s.size ≤ 140737488355328) :
    Calls Tryz.prog 140 #[.string s, .string ⟨#[c]⟩] w fun e w' => e = .returned (.tuple #[.string ⟨pre.toArray⟩, .string ⟨post.toArray⟩, .bool true]) ∧ Ext w w' := by
  have hl : s.size = pre.length + (post.length + 1) := by rw [← size_list, hs]; simp
  have HI := hid (show Lib.indexByte s.data.toList c = pre.length by rw [hs]; exact indexByte_found pre post c h)
  have H1 := hid (show s.extract 0 pre.length = ⟨pre.toArray⟩ from data_inj (by rw [Lib.extract_data, hs]; simp))
  have H2 := hid (show s.extract (pre.length + 1) s.size = ⟨post.toArray⟩ from data_inj (by rw [Lib.extract_data, hs, show pre ++ c :: post = (pre ++ [c]) ++ post by simp, List.drop_left' (by simp), List.take_of_length_le (by omega)]))
  have hi1 : (pre.length : Int) ≤ 140737488355328 := by omega
  have hi2 : (pre.length : Int) + 1 ≤ s.size := by omega
  have hi3 : (pre.length : Int) ≤ s.size := by omega
  clear h hs hl
  go_enter Tryz.func140, Tryz.ntmps140
  go_wp2_with (go_at_call 151; refine (Tryz.stringslite_Index_one s c _).mono ?_; rw [HI.out]; rintro e w' ⟨rfl, rfl⟩)
  go_quiet (fail)
  go_wp2
  go_ret3
  exact ⟨by rw [H1.out, H2.out]; rfl, (Ext.refl _).drewN _⟩
theorem cut_none (s : ByteArray) (c : UInt8) (w : World) (h : c ∉ s.data.toList) :
    Calls Tryz.prog 101 #[.string s, .string ⟨#[c]⟩] w fun e w' => e = .returned (.tuple #[.string s, .string ⟨#[]⟩, .bool false]) ∧ Ext w w' := by
  have HH := hid h
  clear h
  go_enter Tryz.func101, Tryz.ntmps101
  go_wp2_with (go_at_call 140; refine (cutL_none s c _ HH.out).mono ?_; rintro e w' ⟨rfl, hx⟩)
  go_ret3
  exact ⟨rfl, hx⟩
theorem cut_found (s : ByteArray) (c : UInt8) (pre post : List UInt8) (w : World) (hs : s.data.toList = pre ++ c :: post) (h : c ∉ pre) (hb : s.size ≤ 140737488355328) :
    Calls Tryz.prog 101 #[.string s, .string ⟨#[c]⟩] w fun e w' => e = .returned (.tuple #[.string ⟨pre.toArray⟩, .string ⟨post.toArray⟩, .bool true]) ∧ Ext w w' := by
  have HH := hid h
  have HS := hid hs
  clear h hs
  go_enter Tryz.func101, Tryz.ntmps101
  go_wp2_with (go_at_call 140; refine (cutL_found s c pre post _ HS.out HH.out hb).mono ?_; rintro e w' ⟨rfl, hx⟩)
  go_ret3
  exact ⟨rfl, hx⟩

def kindV (a b : List UInt8) : Value := if speltB wordI 16 a && speltB wordI 16 b then .tuple #[.string ⟨a.toArray⟩, .string ⟨b.toArray⟩, .bool true] else .tuple #[.string ⟨#[]⟩, .string ⟨#[]⟩, .bool false]
theorem word_list (l : List UInt8) (w : World) : Calls Tryz.prog 87 #[.string ⟨l.toArray⟩] w fun e w' => e = .returned (.bool (speltB wordI 16 l)) ∧ Ext w w' := by
  have := word_any ⟨l.toArray⟩ w
  simpa using this
theorem kind_none (s : ByteArray) (w : World) (h : 46 ∉ s.data.toList) :
    Calls Tryz.prog 108 #[.string s] w fun e w' => e = .returned (.tuple #[.string ⟨#[]⟩, .string ⟨#[]⟩, .bool false]) ∧ Ext w w' := by
  have HH := hid h
  clear h
  have hE : ∀ w, Calls Tryz.prog 87 #[.string ⟨#[]⟩] w fun e w' => e = .returned (.bool false) ∧ Ext w w' := fun w => word_list [] w
  by_cases hw : speltB wordI 16 s.data.toList = true
  · go_enter Tryz.func108, Tryz.ntmps108
    go_wp2_with fail
    refine (cut_none s 46 _ HH.out).mono ?_
    rintro e w1 ⟨rfl, hx1⟩
    go_wp2_with fail
    refine (word_any s _).mono ?_
    rintro e w2 ⟨rfl, hx2⟩
    go_wp2_with fail
    refine (hE _).mono ?_
    rintro e w3 ⟨rfl, hx3⟩
    go_wp2
    go_ret3
    exact ⟨rfl, (hx1.trans hx2).trans hx3⟩
  · have hw' : speltB wordI 16 s.data.toList = false := by simpa using hw
    clear hw
    go_enter Tryz.func108, Tryz.ntmps108
    go_wp2_with fail
    refine (cut_none s 46 _ HH.out).mono ?_
    rintro e w1 ⟨rfl, hx1⟩
    go_wp2_with fail
    refine (word_any s _).mono ?_
    rintro e w2 ⟨rfl, hx2⟩
    go_wp2
    go_ret3
    exact ⟨rfl, hx1.trans hx2⟩
theorem kind_found (s : ByteArray) (pre post : List UInt8) (w : World) (hs : s.data.toList = pre ++ 46 :: post) (h : 46 ∉ pre) (hb : s.size ≤ 140737488355328) :
    Calls Tryz.prog 108 #[.string s] w fun e w' => e = .returned (kindV pre post) ∧ Ext w w' := by
  have HH := hid h
  have HS := hid hs
  clear h hs
  by_cases hw : speltB wordI 16 pre = true
  · by_cases hv : speltB wordI 16 post = true
    · have HR := hid (show kindV pre post = .tuple #[.string ⟨pre.toArray⟩, .string ⟨post.toArray⟩, .bool true] by simp [kindV, hw, hv])
      go_enter Tryz.func108, Tryz.ntmps108
      go_wp2_with fail
      refine (cut_found s 46 pre post _ HS.out HH.out hb).mono ?_
      rintro e w1 ⟨rfl, hx1⟩
      go_wp2_with fail
      refine (word_list pre _).mono ?_
      rintro e w2 ⟨rfl, hx2⟩
      go_wp2_with fail
      refine (word_list post _).mono ?_
      rintro e w3 ⟨rfl, hx3⟩
      go_wp2
      go_ret3
      exact ⟨by rw [HR.out]; rfl, (hx1.trans hx2).trans hx3⟩
    · have hv' : speltB wordI 16 post = false := by simpa using hv
      clear hv
      have HR := hid (show kindV pre post = .tuple #[.string ⟨#[]⟩, .string ⟨#[]⟩, .bool false] by simp [kindV, hv'])
      go_enter Tryz.func108, Tryz.ntmps108
      go_wp2_with fail
      refine (cut_found s 46 pre post _ HS.out HH.out hb).mono ?_
      rintro e w1 ⟨rfl, hx1⟩
      go_wp2_with fail
      refine (word_list pre _).mono ?_
      rintro e w2 ⟨rfl, hx2⟩
      go_wp2_with fail
      refine (word_list post _).mono ?_
      rintro e w3 ⟨rfl, hx3⟩
      go_wp2
      go_ret3
      exact ⟨by rw [HR.out]; rfl, (hx1.trans hx2).trans hx3⟩
  · have hw' : speltB wordI 16 pre = false := by simpa using hw
    clear hw
    have HR := hid (show kindV pre post = .tuple #[.string ⟨#[]⟩, .string ⟨#[]⟩, .bool false] by simp [kindV, hw'])
    go_enter Tryz.func108, Tryz.ntmps108
    go_wp2_with fail
    refine (cut_found s 46 pre post _ HS.out HH.out hb).mono ?_
    rintro e w1 ⟨rfl, hx1⟩
    go_wp2_with fail
    refine (word_list pre _).mono ?_
    rintro e w2 ⟨rfl, hx2⟩
    go_wp2
    go_ret3
    exact ⟨by rw [HR.out]; rfl, hx1.trans hx2⟩
end Go.Proofs.YtaafcmmmkalgjaaGreatDoor
