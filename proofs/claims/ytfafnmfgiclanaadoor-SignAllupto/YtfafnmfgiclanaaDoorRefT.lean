/-
  espalierref3.PathText, PlaceText, each by a contract.
-/
import Derived.Test.YtfafnmfgiclanaaDoorRefP
import Derived.Test.YtfafnmfgiclanaaDoorBack
import Derived.WalkMore
namespace Go.Proofs.YtfafnmfgiclanaaDoor
open Go.RowKit Go.Shelf
def textTo (xs : List Int) (k : Nat) : List UInt8 := if k = 0 then [45] else joinP ((nats xs).take k)
theorem textTo_le {xs : List Int} (hp : pathB xs = true) (k : Nat) : (textTo xs k).length ≤ 64512 := by
  unfold textTo
  split
  · simp
  · exact joinP_take_le hp k
theorem textTo_end (xs : List Int) : textTo xs xs.length = pathText (nats xs) := by
  unfold textTo pathText
  by_cases h : xs = []
  · subst h; rfl
  · have h1 : xs.length ≠ 0 := fun e => h (List.eq_nil_of_length_eq_zero e)
    have h2 : nats xs ≠ [] := fun e => h1 (by rw [← nats_len, e]; rfl)
    rw [if_neg h1, if_neg h2, List.take_of_length_le (by rw [nats_len]; exact Nat.le_refl _)]
theorem textTo_first {xs : List Int} {n : Nat} (h : (nats xs)[0]? = some n) : textTo xs 1 = Lib.decDigits n := by
  unfold textTo
  rw [if_neg (by decide), take_nats h]; simp [joinP]
theorem textTo_next {xs : List Int} {k n : Nat} (h : (nats xs)[k]? = some n) (hk : 0 < k) : textTo xs (k + 1) = textTo xs k ++ 46 :: Lib.decDigits n := by
  unfold textTo
  rw [if_neg (by omega), if_neg (by omega), take_nats h, joinP_snoc]
  intro e
  have := congrArg List.length e
  rw [List.length_take, List.length_nil] at this
  have h2 := (List.getElem?_eq_some_iff.1 h).1
  omega
set_option maxRecDepth 100000 in
theorem pathText_ref_bad (a : Option Addr) (c : Nat) (xs : List Int) (w : World) (hb : xs.length * 8 ≤ 140737488355328) (h : Ints w (.slice a xs.length c) xs) (hp : pathB xs = false) :
    Calls Tryd.prog 24 #[.slice a xs.length c] w fun e w' => e = .returned (.tuple #[.string ⟨#[]⟩, .int .i64 1]) ∧ Ext w w' := by
  have HP := hid (path_ref a c xs w hb h)
  rw [hp] at HP
  clear h
  go_enter Tryd.func24, Tryd.ntmps24
  go_wp2_with fail
  refine HP.out.mono ?_
  rintro e w1 ⟨rfl, rfl⟩
  go_wp2
  go_ret2
  exact ⟨rfl, Ext.refl _⟩
set_option maxRecDepth 100000 in
set_option maxHeartbeats 2000000 in
theorem pathText_ref (a : Option Addr) (c : Nat) (xs : List Int) (w : World) (h : Ints w (.slice a xs.length c) xs) (hp : pathB xs = true) :
    Calls Tryd.prog 24 #[.slice a xs.length c] w fun e w' => e = .returned (.tuple #[.string ⟨(pathText (nats xs)).toArray⟩, .int .i64 0]) ∧ Ext w w' := by
  have hlen := ((pathB_iff xs).1 hp).1
  have hlen' : (xs.length : Int) ≤ 63 := by omega
  have HP := hid (path_ref a c xs w (by omega) h)
  rw [hp] at HP
  have H := hid h.cell.2
  have HPB := hid hp
  clear h hp
  go_enter Tryd.func24, Tryd.ntmps24
  go_wp2_with fail
  refine HP.out.mono ?_
  rintro e w1 ⟨rfl, rfl⟩
  clear HP
  go_wp2_with fail
  go_loopw [4, 5] (fun t4 t5 wr => ∃ (k : Nat) (S : ByteArray), k ≤ xs.length ∧ t5 = .int .i64 k ∧ t4 = .string S ∧ S.data.toList = textTo xs k ∧ Ext w1 wr) (fun _ t5 _ => xs.length - (intOf t5).toNat)
  case atStart => exact ⟨0, ⟨#[45]⟩, Nat.zero_le _, rfl, rfl, rfl, Ext.refl _⟩
  case round =>
    obtain ⟨k, S, hk, rfl, rfl, hS, hx⟩ := hrel
    have hSs : S.size ≤ 64512 := by rw [← size_list, hS]; exact textTo_le HPB.out k
    have HS := hid hS
    have HX := hid hx
    clear hS hx
    by_cases hlt : k < xs.length
    · have hlt' : (k : Int) < xs.length := by omega
      obtain ⟨g, o, rfl, e⟩ := H.out k hlt
      have hc := (Below.cell HX.out (lt_of_cell e)).trans e
      clear e
      obtain ⟨n, hxn, hn, hnn⟩ := at_nats hlt HPB.out
      rw [hxn] at hc
      have HNN := hid hnn
      obtain ⟨D, hD⟩ : ∃ D : ByteArray, (⟨(Lib.decDigits n).toArray⟩ : ByteArray) = D := ⟨_, rfl⟩
      have HD := hid (show D.data.toList = Lib.decDigits n by rw [← hD])
      have hDs : D.size ≤ 1023 := by rw [← size_list, HD.out]; have := dd_le n; omega
      have HC := hid (fun W => digits_ref n W hn)
      rw [hD] at HC
      clear hD hxn hnn
      by_cases hk0 : k = 0
      · subst hk0
        simp only [Nat.add_zero] at hc
        have HR := hid (show D.data.toList = textTo xs (0 + 1) by rw [HD.out]; exact (textTo_first HNN.out).symm)
        go_wp2_with fail
        refine (HC.out _).mono ?_
        rintro e w2 ⟨rfl, hx2⟩
        have HX2 := hid (HX.out.trans hx2)
        clear hx2
        go_wp2
        go_roundw
        case rel => exact ⟨0 + 1, D, hlt, rfl, rfl, HR.out, HX2.out⟩
        case measure => simp [intOf]; omega
      · have hk1 : ((k : Int) == 0) = false := by simp; omega
        have HR := hid (show (S ++ ⟨#[46]⟩ ++ D).data.toList = textTo xs (k + 1) by rw [textTo_next HNN.out (by omega), ← HS.out, bytes_append, bytes_append, HD.out]; simp)
        clear hk0
        go_wp2_with fail
        refine (HC.out _).mono ?_
        rintro e w2 ⟨rfl, hx2⟩
        have HX2 := hid (HX.out.trans hx2)
        clear hx2
        go_wp2
        go_roundw
        case rel => exact ⟨k + 1, _, hlt, by go_num, rfl, HR.out, HX2.out⟩
        case measure => simp [intOf]; omega
    · obtain rfl : k = xs.length := by omega
      have HR := hid (show S.data.toList = pathText (nats xs) by rw [HS.out, textTo_end])
      go_wp2
      go_ret2
      exact ⟨by rw [← text_bytes HR.out]; rfl, HX.out⟩
set_option maxRecDepth 100000 in
set_option maxHeartbeats 2000000 in
theorem placeText_ref_bad (f : ByteArray) (a : Option Addr) (c : Nat) (xs : List Int) (w : World) (hb : xs.length * 8 ≤ 140737488355328) (h : Ints w (.slice a xs.length c) xs) (hp : placeB f.data.toList xs = false) :
    Calls Tryd.prog 27 #[.agg #[.string f, .slice a xs.length c]] w fun e w' => e = .returned (.tuple #[.string ⟨#[]⟩, .int .i64 1]) ∧ Ext w w' := by
  have H := hid h
  clear h
  by_cases hq : pathB xs = true
  · have hne : f.data.toList ≠ [] := fun e => by
      unfold placeB at hp
      rw [e, hq] at hp
      cases hp
    have h0' : f.toList.isEmpty = false := by
      rw [ByteArray.toList_eq]
      cases hl : f.data.toList with
      | nil => exact absurd hl hne
      | cons x l => rfl
    have hnf : nameB f.data.toList = false := by
      cases hn : nameB f.data.toList with
      | false => rfl
      | true => unfold placeB at hp; rw [hn, hq] at hp; simp at hp
    have HN := hid (fun w => name_ref f w)
    rw [hnf] at HN
    have HQ := hid hq
    clear hp hne hnf hq
    go_enter Tryd.func27, Tryd.ntmps27
    go_wp2_with fail
    refine (pathText_ref a c xs _ (H.out.later (Ext.alloc _ _)) HQ.out).mono ?_
    generalize (⟨(pathText (nats xs)).toArray⟩ : ByteArray) = T
    rintro e w1 ⟨rfl, hx1⟩
    have b0 := hx1.block (blk0 _ _)
    have c0 := cell_of (i := 0) b0 rfl
    have c1 := cell_of (i := 1) b0 rfl
    simp only [List.getElem_toArray, List.getElem_cons_zero, List.getElem_cons_succ] at c0 c1
    have HX := hid ((Ext.alloc _ _).trans hx1)
    clear b0 hx1
    go_wp2_with fail
    refine (HN.out _).mono ?_
    rintro e w2 ⟨rfl, rfl⟩
    go_wp2
    go_ret2
    exact ⟨rfl, HX.out⟩
  · have hq' : pathB xs = false := by simpa using hq
    clear hq
    go_enter Tryd.func27, Tryd.ntmps27
    go_wp2_with fail
    refine (pathText_ref_bad a c xs _ hb (H.out.later (Ext.alloc _ _)) hq').mono ?_
    rintro e w1 ⟨rfl, hx1⟩
    go_wp2
    go_ret2
    exact ⟨rfl, (Ext.alloc _ _).trans hx1⟩
set_option maxRecDepth 100000 in
set_option maxHeartbeats 2000000 in
theorem placeText_ref (f : ByteArray) (a : Option Addr) (c : Nat) (xs : List Int) (w : World) (h : Ints w (.slice a xs.length c) xs) (hp : placeB f.data.toList xs = true) :
    Calls Tryd.prog 27 #[.agg #[.string f, .slice a xs.length c]] w fun e w' => e = .returned (.tuple #[.string ⟨(placeText f.data.toList (nats xs)).toArray⟩, .int .i64 0]) ∧ Ext w w' := by
  have hpb := placeB_path hp
  have hle := pathText_le (p := nats xs) (by rw [ints_nats hpb]; exact hpb)
  have hfs : f.size ≤ 32 := by rw [← size_list]; exact placeB_name hp
  have HPT := hid (fun W (h : Ints W (.slice a xs.length c) xs) => pathText_ref a c xs W h hpb)
  have H := hid h
  obtain ⟨T, hT⟩ : ∃ T : ByteArray, (⟨(pathText (nats xs)).toArray⟩ : ByteArray) = T := ⟨_, rfl⟩
  have HTL := hid (show T.data.toList = pathText (nats xs) by rw [← hT])
  have hTs : T.size ≤ 64512 := by rw [← size_list, HTL.out]; exact hle
  rw [hT] at HPT
  clear h hT hle hpb
  by_cases h0 : f.data.toList = []
  · have h0' : f.toList.isEmpty = true := by rw [ByteArray.toList_eq, h0]; rfl
    have HR := hid (show placeText f.data.toList (nats xs) = T.data.toList by unfold placeText; rw [if_pos h0, HTL.out])
    clear h0 hp
    go_enter Tryd.func27, Tryd.ntmps27
    go_wp2_with fail
    refine (HPT.out _ (H.out.later (Ext.alloc _ _))).mono ?_
    rintro e w1 ⟨rfl, hx1⟩
    have b0 := hx1.block (blk0 _ _)
    have c0 := cell_of (i := 0) b0 rfl
    have c1 := cell_of (i := 1) b0 rfl
    simp only [List.getElem_toArray, List.getElem_cons_zero, List.getElem_cons_succ] at c0 c1
    have HX := hid ((Ext.alloc _ _).trans hx1)
    clear b0 hx1
    go_wp2
    go_ret2
    exact ⟨by rw [HR.out, ← text_bytes (S := T) rfl]; rfl, HX.out⟩
  · have h0' : f.toList.isEmpty = false := by
      rw [ByteArray.toList_eq]
      cases hl : f.data.toList with
      | nil => exact absurd hl h0
      | cons x l => rfl
    have hnf : nameB f.data.toList = true := by
      unfold placeB at hp
      simp only [Bool.and_eq_true, Bool.or_eq_true, List.isEmpty_iff] at hp
      exact hp.1.resolve_left h0
    have HN := hid (fun w => name_ref f w)
    rw [hnf] at HN
    have HR := hid (show placeText f.data.toList (nats xs) = (f ++ ⟨#[58]⟩ ++ T).data.toList by unfold placeText; rw [if_neg h0, bytes_append, bytes_append, HTL.out]; simp)
    clear h0 hp hnf
    go_enter Tryd.func27, Tryd.ntmps27
    go_wp2_with fail
    refine (HPT.out _ (H.out.later (Ext.alloc _ _))).mono ?_
    rintro e w1 ⟨rfl, hx1⟩
    have b0 := hx1.block (blk0 _ _)
    have c0 := cell_of (i := 0) b0 rfl
    have c1 := cell_of (i := 1) b0 rfl
    simp only [List.getElem_toArray, List.getElem_cons_zero, List.getElem_cons_succ] at c0 c1
    have HX := hid ((Ext.alloc _ _).trans hx1)
    clear b0 hx1
    go_wp2_with fail
    refine (HN.out _).mono ?_
    rintro e w2 ⟨rfl, rfl⟩
    go_wp2
    go_ret2
    exact ⟨by rw [HR.out, ← text_bytes (S := f ++ ⟨#[58]⟩ ++ T) rfl]; rfl, HX.out⟩
end Go.Proofs.YtfafnmfgiclanaaDoor
