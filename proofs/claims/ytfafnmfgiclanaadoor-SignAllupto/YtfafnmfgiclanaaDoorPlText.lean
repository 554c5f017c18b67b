/-
  sign.Place, sign.PlaceText, each by a contract.
-/
import Derived.Test.YtfafnmfgiclanaaDoorText
namespace Go.Proofs.YtfafnmfgiclanaaDoor
open Go.RowKit Go.Shelf

theorem bytes_append (a b : ByteArray) : (a ++ b).data.toList = a.data.toList ++ b.data.toList := by rw [ByteArray.data_append, Array.toList_append]
theorem empty_list {f : ByteArray} (h : f.toList.isEmpty = true) : f.data.toList = [] := by rw [← ByteArray.toList_eq]; exact List.isEmpty_iff.1 h
theorem nonempty_list {f : ByteArray} (h : f.toList.isEmpty = false) : f.data.toList ≠ [] := fun e => by
  rw [ByteArray.toList_eq, e] at h
  cases h
set_option maxRecDepth 100000 in
theorem place_any (f : ByteArray) (a : Option Addr) (c : Nat) (xs : List Int) (w : World) (hb : xs.length * 8 ≤ 140737488355328) (h : Ints w (.slice a xs.length c) xs) :
    Calls Tryd.prog 10 #[.agg #[.string f, .slice a xs.length c]] w fun e w' => e = .returned (.bool (placeB f.data.toList xs)) ∧ Ext w w' := by
  have H := hid h
  have HN := hid (show ∀ w, Calls Tryd.prog 16 #[.string f] w fun e w' => e = .returned (.bool (nameB f.data.toList)) ∧ Ext w w' from fun w => name_any f w)
  clear h
  by_cases h0 : f.toList.isEmpty = true
  · have HR := hid (show placeB f.data.toList xs = pathB xs by unfold placeB; rw [empty_list h0]; rfl)
    go_enter Tryd.func10, Tryd.ntmps10
    go_wp2_with fail
    refine (path_any a c xs _ hb (H.out.later (Ext.alloc _ _))).mono ?_
    rintro e w1 ⟨rfl, hw⟩
    obtain rfl := hw
    go_wp2
    go_ret
    exact ⟨ret_bool HR.out.symm, Ext.alloc _ _⟩
  · have h0' : f.toList.isEmpty = false := by simpa using h0
    have HE := hid (nonempty_list h0')
    clear h0
    by_cases hn : nameB f.data.toList = true
    · have HR := hid (show placeB f.data.toList xs = pathB xs by unfold placeB; rw [hn]; simp)
      go_enter Tryd.func10, Tryd.ntmps10
      go_wp2_with fail
      refine (HN.out _).mono ?_
      rintro e w1 ⟨rfl, hx1⟩
      have HX := hid ((Ext.alloc _ _).trans hx1)
      have b0 := hx1.block (blk0 _ _)
      have c1 := cell_of (i := 1) b0 rfl
      simp only [List.getElem_toArray, List.getElem_cons_zero, List.getElem_cons_succ] at c1
      clear b0 hx1
      go_wp2_with fail
      refine (path_any a c xs _ hb (H.out.later HX.out)).mono ?_
      rintro e w2 ⟨rfl, hw⟩
      obtain rfl := hw
      go_wp2
      go_ret
      exact ⟨ret_bool HR.out.symm, HX.out⟩
    · have hn' : nameB f.data.toList = false := by simpa using hn
      have HR := hid (show placeB f.data.toList xs = false by
        unfold placeB; rw [hn']
        cases hl : f.data.toList with
        | nil => exact absurd hl HE.out
        | cons x l => rfl)
      clear hn
      go_enter Tryd.func10, Tryd.ntmps10
      go_wp2_with fail
      refine (HN.out _).mono ?_
      rintro e w1 ⟨rfl, hx1⟩
      have HX := hid ((Ext.alloc _ _).trans hx1)
      clear hx1
      go_wp2
      go_ret
      exact ⟨ret_bool HR.out.symm, HX.out⟩
theorem pathText_any (a : Option Addr) (c : Nat) (xs : List Int) (w : World) (h : Ints w (.slice a xs.length c) xs) (hG : Laid w) (hp : pathB xs = true) :
    Calls Tryd.prog 23 #[.slice a xs.length c] w fun e w' => e = .returned (.tuple #[.string ⟨(pathText (nats xs)).toArray⟩, .int .i64 0]) ∧ Ext w w' := by
  cases hxs : xs with
  | nil =>
    subst hxs
    exact pathText_nil a c w h
  | cons x r =>
    rw [← hxs]
    have hne : 0 < xs.length := by rw [hxs]; simp
    have e : pathText (nats xs) = joinP (nats xs) := by
      unfold pathText
      rw [if_neg]
      intro e
      have := congrArg List.length e
      rw [nats_len] at this
      simp at this
      rw [this] at hne
      simp at hne
    rw [e]
    exact pathText_some a c xs w h hG hp hne
set_option maxRecDepth 100000 in
theorem placeText_bad (f : ByteArray) (a : Option Addr) (c : Nat) (xs : List Int) (w : World) (hb : xs.length * 8 ≤ 140737488355328) (h : Ints w (.slice a xs.length c) xs) (hp : placeB f.data.toList xs = false) :
    Calls Tryd.prog 9 #[.agg #[.string f, .slice a xs.length c]] w fun e w' => e = .returned (.tuple #[.string ⟨#[]⟩, .int .i64 1]) ∧ Ext w w' := by
  have H := hid h
  clear h
  go_enter Tryd.func9, Tryd.ntmps9
  go_wp2_with fail
  refine (place_any f a c xs _ hb (H.out.later (Ext.alloc _ _))).mono ?_
  rintro e w1 ⟨rfl, hx1⟩
  go_wp2
  go_ret2
  exact ⟨rfl, (Ext.alloc _ _).trans hx1⟩
set_option maxRecDepth 100000 in
set_option maxHeartbeats 1000000 in
theorem placeText_good (f : ByteArray) (a : Option Addr) (c : Nat) (xs : List Int) (w : World) (h : Ints w (.slice a xs.length c) xs) (hG : Laid w) (hp : placeB f.data.toList xs = true) :
    Calls Tryd.prog 9 #[.agg #[.string f, .slice a xs.length c]] w fun e w' => e = .returned (.tuple #[.string ⟨(placeText f.data.toList (nats xs)).toArray⟩, .int .i64 0]) ∧ Ext w w' := by
  have hpb : pathB xs = true := by unfold placeB at hp; simp only [Bool.and_eq_true] at hp; exact hp.2
  have hlen := ((pathB_iff xs).1 hpb).1
  have hle := pathText_le (p := nats xs) (by rw [ints_nats hpb]; exact hpb)
  have HPB := hid hpb
  have HLE := hid hle
  have H := hid h
  have HG := hid hG
  clear h hG hpb hle
  by_cases h0 : f.toList.isEmpty = true
  · have HR := hid (show placeText f.data.toList (nats xs) = pathText (nats xs) by unfold placeText; rw [if_pos (empty_list h0)])
    go_enter Tryd.func9, Tryd.ntmps9
    go_wp2_with fail
    refine (place_any f a c xs _ (by omega) (H.out.later (Ext.alloc _ _))).mono ?_
    rintro e w1 ⟨rfl, hx1⟩
    have HX := hid ((Ext.alloc _ _).trans hx1)
    have b0 := hx1.block (blk0 _ _)
    have HB0 := hid b0
    have c0 := cell_of (i := 0) b0 rfl
    have c1 := cell_of (i := 1) b0 rfl
    simp only [List.getElem_toArray, List.getElem_cons_zero, List.getElem_cons_succ] at c0 c1
    clear b0 hx1
    go_wp2_with fail
    refine (pathText_any a c xs _ (H.out.later HX.out) (HG.out.later HX.out) HPB.out).mono ?_
    rintro e w2 ⟨rfl, hx2⟩
    have d0 := cell_of (i := 0) (hx2.block HB0.out) rfl
    simp only [List.getElem_toArray, List.getElem_cons_zero] at d0
    have HX2 := hid (HX.out.trans hx2)
    clear c0 c1 hx2
    go_wp2
    go_ret2
    exact ⟨by rw [HR.out]; rfl, HX2.out⟩
  · have h0' : f.toList.isEmpty = false := by simpa using h0
    have hne := nonempty_list h0'
    have HR := hid (show placeText f.data.toList (nats xs) = f.data.toList ++ 58 :: pathText (nats xs) by unfold placeText; rw [if_neg hne])
    have hfs : f.size ≤ 32 := by
      rw [← size_list]
      rcases Nat.lt_or_ge 32 f.data.toList.length with hh | hh
      · exfalso
        have h1 := speltB_long (f := nameI) hh
        unfold placeB nameB at hp
        rw [h1] at hp
        cases hl : f.data.toList with
        | nil => exact hne hl
        | cons x l => rw [hl] at hp; cases hp
      · exact hh
    have HC := hid (show f ++ ⟨#[58]⟩ ++ ⟨(pathText (nats xs)).toArray⟩ = (⟨(placeText f.data.toList (nats xs)).toArray⟩ : ByteArray) from data_inj (by rw [bytes_append, bytes_append, HR.out]; simp))
    have hps : (⟨(pathText (nats xs)).toArray⟩ : ByteArray).size ≤ 64512 := by show (pathText (nats xs)).toArray.size ≤ _; simpa using HLE.out
    clear h0 hne
    go_enter Tryd.func9, Tryd.ntmps9
    go_wp2_with fail
    refine (place_any f a c xs _ (by omega) (H.out.later (Ext.alloc _ _))).mono ?_
    rintro e w1 ⟨rfl, hx1⟩
    have HX := hid ((Ext.alloc _ _).trans hx1)
    have b0 := hx1.block (blk0 _ _)
    have HB0 := hid b0
    have c0 := cell_of (i := 0) b0 rfl
    have c1 := cell_of (i := 1) b0 rfl
    simp only [List.getElem_toArray, List.getElem_cons_zero, List.getElem_cons_succ] at c0 c1
    clear b0 hx1
    go_wp2_with fail
    refine (pathText_any a c xs _ (H.out.later HX.out) (HG.out.later HX.out) HPB.out).mono ?_
    generalize (⟨(pathText (nats xs)).toArray⟩ : ByteArray) = T at HC hps
    rintro e w2 ⟨rfl, hx2⟩
    have d0 := cell_of (i := 0) (hx2.block HB0.out) rfl
    simp only [List.getElem_toArray, List.getElem_cons_zero] at d0
    have HX2 := hid (HX.out.trans hx2)
    clear c0 c1 hx2
    go_wp2
    go_ret2
    exact ⟨by rw [← HC.out]; rfl, HX2.out⟩
end Go.Proofs.YtfafnmfgiclanaaDoor
