/-
  begun: the calls that every statement asks ahead answer as the document fixes them: it returns true, in whatever memory in which the table of tens is laid.
-/
import Derived.Test.YtfafnmfgiclanaaDoorPlText
import Derived.Test.YtfafnmfgiclanaaDoorReadPl
import Derived.Test.YtfafnmfgiclanaaDoorNames
import Derived.Test.YtfafnmfgiclanaaDoorCmp
namespace Go.Proofs.YtfafnmfgiclanaaDoor
open Go.RowKit Go.Shelf

theorem dd12 : Lib.decDigits 12 = [49, 50] := by rw [dd_big (by decide), dd_small (by decide)]; rfl
theorem dd64 : Lib.decDigits 64 = [54, 52] := by rw [dd_big (by decide), dd_small (by decide)]; rfl
theorem dd65 : Lib.decDigits 65 = [54, 53] := by rw [dd_big (by decide), dd_small (by decide)]; rfl
theorem joinP_two : joinP [0, 12] = [48, 46, 49, 50] := by
  show Lib.decDigits 0 ++ 46 :: Lib.decDigits 12 = _
  rw [dd_zero, dd12]; rfl
theorem text_two : placeText [102] [0, 12] = [102, 58, 48, 46, 49, 50] := by
  unfold placeText pathText
  rw [if_neg (by decide), if_neg (by decide), joinP_two]; rfl
theorem placeOf_two : PlaceOf [102, 58, 48, 46, 49, 50] [102] [0, 12] := ⟨by decide, text_two⟩
theorem pathOf_01 (p : List Nat) : ¬ PathOf [48, 49] p := fun h => by
  have hn := nums_pathOf h (by decide)
  obtain ⟨y, r, tail, rfl, hj, ht⟩ := joinP_head p hn.1
  rw [hn.2.1] at hj
  have h0 : (Lib.decDigits y).head? = some 48 := by
    rw [← head_app (b := tail) (dd_ne y), ← hj]; rfl
  have := dd_head y h0
  subst this
  rw [dd_zero] at hj
  have e : tail = [49] := by simpa using hj.symm
  subst e
  rcases ht with ⟨h, _⟩ | ⟨_, h⟩
  · cases h
  · exact absurd (List.cons.inj h).1 (by decide)
theorem namesOf_ab : NamesOf [97, 32, 98] [[97], [98]] := .inr ⟨by simp, rfl, by decide⟩

theorem kind_num (w : World) : Calls Tryd.prog 14 #[.string ⟨#[110, 117, 109, 46, 97, 100, 100]⟩] w fun e w' => e = .returned (.tuple #[.string ⟨#[110, 117, 109]⟩, .string ⟨#[97, 100, 100]⟩, .bool true]) ∧ Ext w w' :=
  kind_found ⟨#[110, 117, 109, 46, 97, 100, 100]⟩ [110, 117, 109] [97, 100, 100] w rfl (by decide) (by decide)
theorem text_f (a : Option Addr) (c : Nat) (w : World) (h : Ints w (.slice a 2 c) [0, 12]) (hG : Laid w) :
    Calls Tryd.prog 9 #[.agg #[.string ⟨#[102]⟩, .slice a 2 c]] w fun e w' => e = .returned (.tuple #[.string ⟨#[102, 58, 48, 46, 49, 50]⟩, .int .i64 0]) ∧ Ext w w' := by
  have := placeText_good ⟨#[102]⟩ a c [0, 12] w h hG (by decide)
  have e : placeText (ByteArray.mk #[102]).data.toList (nats [0, 12]) = [102, 58, 48, 46, 49, 50] := text_two
  rw [e] at this
  exact this
theorem read_f (w : World) : Calls Tryd.prog 11 #[.string ⟨#[102, 58, 48, 46, 49, 50]⟩] w fun e w' => (∃ v, e = .returned (.tuple #[.agg #[.string ⟨#[102]⟩, v], .int .i64 0]) ∧ w'.ownsRow w.heap.size 3 1 v 2 [.int .i64 0, .int .i64 12]) ∧ Ext w w' := by
  refine (readPlace_any ⟨#[102, 58, 48, 46, 49, 50]⟩ w (by decide)).mono ?_
  rintro e w' ⟨h, hx⟩
  refine ⟨?_, hx⟩
  rcases h with ⟨f, p, v, rfl, hp, ho⟩ | ⟨_, hp⟩
  · obtain ⟨rfl, rfl⟩ := PlaceOf.one hp placeOf_two
    exact ⟨v, rfl, ho⟩
  · exact absurd placeOf_two (hp _ _)
theorem read_01 (w : World) : Calls Tryd.prog 20 #[.string ⟨#[48, 49]⟩] w fun e w' => e = .returned (.tuple #[.slice none 0 0, .int .i64 5]) ∧ Ext w w' := by
  refine (readPath_any ⟨#[48, 49]⟩ w (by decide)).mono ?_
  rintro e w' ⟨h, hx⟩
  refine ⟨?_, hx⟩
  rcases h with ⟨p, v, rfl, hp, ho⟩ | ⟨h, hp⟩
  · exact absurd hp (pathOf_01 p)
  · exact h
theorem names_ab (w : World) : Calls Tryd.prog 18 #[.string ⟨#[97, 32, 98]⟩] w fun e w' => (∃ a c, e = .returned (.tuple #[.slice a 2 c, .bool true])) ∧ Ext w w' := by
  refine (names_any [97, 32, 98] w (by decide)).mono ?_
  rintro e w' ⟨h, hx⟩
  refine ⟨?_, hx⟩
  rcases h with ⟨l, v, rfl, hp, ho⟩ | ⟨_, hp⟩
  · obtain rfl := NamesOf.one hp namesOf_ab
    obtain ⟨a, c, rfl⟩ := ownsRow_slice ho
    exact ⟨a, c, rfl⟩
  · exact absurd namesOf_ab (hp _)
theorem use_64 (w : World) : Calls Tryd.prog 17 #[.string ⟨#[54, 52]⟩] w fun e w' => e = .returned (.bool true) ∧ Ext w w' := by
  refine (use_any ⟨#[54, 52]⟩ w (by decide)).mono ?_
  rintro e w' ⟨h, hx⟩
  refine ⟨?_, hx⟩
  rcases h with ⟨h, _⟩ | ⟨_, h⟩
  · exact h
  · exact absurd (.inr ⟨64, by decide, by decide, dd64.symm⟩) h
theorem use_65 (w : World) : Calls Tryd.prog 17 #[.string ⟨#[54, 53]⟩] w fun e w' => e = .returned (.bool false) ∧ Ext w w' := by
  refine (use_any ⟨#[54, 53]⟩ w (by decide)).mono ?_
  rintro e w' ⟨h, hx⟩
  refine ⟨?_, hx⟩
  rcases h with ⟨_, h⟩ | ⟨h, _⟩
  · exfalso
    rcases h with h | ⟨n, h1, h2, h3⟩
    · exact absurd h (by decide)
    · have : n = 65 := dd_inj (by rw [← h3, dd65])
      omega
  · exact h
theorem name_us (w : World) : Calls Tryd.prog 16 #[.string ⟨#[95]⟩] w fun e w' => e = .returned (.bool true) ∧ Ext w w' := name_list [95] w
theorem word_us (w : World) : Calls Tryd.prog 15 #[.string ⟨#[95]⟩] w fun e w' => e = .returned (.bool false) ∧ Ext w w' := word_list [95] w
theorem compare_f (w : World) : Calls Tryd.prog 13 #[.agg #[.string ⟨#[102]⟩, .slice none 0 0], .agg #[.string ⟨#[]⟩, .slice none 0 0]] w fun e w' => e = .returned (.int .i64 1) ∧ Ext w w' :=
  signCompare ⟨#[102]⟩ ⟨#[]⟩ none none 0 0 [] [] w (by decide) (by decide) (Ints.nil _ _ _) (Ints.nil _ _ _)
theorem place_f (a : Option Addr) (c : Nat) (w : World) (h : Ints w (.slice a 2 c) [0, 12]) : Calls Tryd.prog 10 #[.agg #[.string ⟨#[102]⟩, .slice a 2 c]] w fun e w' => e = .returned (.bool true) ∧ Ext w w' :=
  place_any ⟨#[102]⟩ a c [0, 12] w (by decide) h

set_option maxRecDepth 100000 in
set_option maxHeartbeats 8000000 in
theorem begun_true (w : World) (hG : Laid w) : Calls Tryd.prog 7 #[] w fun r w' => r = .returned (.bool true) ∧ Ext w w' := by
  have HG := hid hG
  clear hG
  go_enter Tryd.func7, Tryd.ntmps7
  go_wp2_with fail
  refine (kind_num _).mono ?_
  rintro r w1 ⟨rfl, hx⟩
  have HX1 := hid hx
  clear hx
  have HI0 := hid (show Ints (w1.alloc (.cells #[.int .i64 0, .int .i64 12] 3)) (.slice (some ⟨w1.heap.size, 0, none⟩) 2 2) [0, 12] from .inr ⟨w1.heap.size, 0, 2, rfl, fun j u hu => by
    rcases j with _ | _ | j
    · simp at hu; subst hu; exact cell_of (blk0 _ _) rfl
    · simp at hu; subst hu; exact cell_of (blk0 _ _) rfl
    · simp at hu⟩)
  go_wp2_with fail
  refine (text_f _ _ _ HI0.out (HG.out.later (HX1.out.more _))).mono ?_
  rintro r w2 ⟨rfl, hx⟩
  have HX2 := hid ((HX1.out.more _).trans hx)
  clear hx HI0
  go_wp2_with fail
  refine (read_f _).mono ?_
  rintro r w3 ⟨⟨v, rfl, ho⟩, hx⟩
  obtain ⟨a, c, rfl⟩ := ownsRow_slice ho
  have HX3 := hid (HX2.out.trans hx)
  have HI := hid (show Ints w3 (.slice a 2 c) [0, 12] from Ints.own rfl ho)
  clear hx ho
  go_wp2_with fail
  refine (read_01 _).mono ?_
  rintro r w4 ⟨rfl, hx⟩
  have HX4 := hid ((HX3.out.more _).trans hx)
  have HB4 := hid (hx.block (blk0 w3 _))
  have HI4 := hid (HI.out.later ((Ext.alloc w3 (.cells #[.string ⟨#[102]⟩, .slice a 2 c] 27)).trans hx))
  clear hx HI
  go_wp2_with fail
  refine (names_ab _).mono ?_
  rintro r w5 ⟨⟨a5, c5, rfl⟩, hx⟩
  have HX5 := hid (HX4.out.trans hx)
  have HB5 := hid (hx.block HB4.out)
  have HI5 := hid (HI4.out.later hx)
  have k0 := cell_of (i := 0) HB5.out rfl
  have k1 := cell_of (i := 1) HB5.out rfl
  simp only [List.getElem_toArray, List.getElem_cons_zero, List.getElem_cons_succ] at k0 k1
  clear hx HI4 HB4
  go_wp2_with fail
  refine (use_64 _).mono ?_
  rintro r w6 ⟨rfl, hx⟩
  have HX6 := hid hx
  clear hx
  go_wp2_with fail
  refine (use_65 _).mono ?_
  rintro r w7 ⟨rfl, hx⟩
  have HX7 := hid (HX6.out.trans hx)
  clear hx
  go_wp2_with fail
  refine (name_us _).mono ?_
  rintro r w8 ⟨rfl, hx⟩
  have HX8 := hid (HX7.out.trans hx)
  clear hx
  go_wp2_with fail
  refine (word_us _).mono ?_
  rintro r w9 ⟨rfl, hx⟩
  have HX9 := hid (HX8.out.trans hx)
  clear hx
  go_wp2_with fail
  refine (compare_f _).mono ?_
  rintro r w10 ⟨rfl, hx⟩
  have HX10 := hid (HX9.out.trans hx)
  have e0 := cell_of (i := 0) (HX10.out.block HB5.out) rfl
  have e1 := cell_of (i := 1) (HX10.out.block HB5.out) rfl
  simp only [List.getElem_toArray, List.getElem_cons_zero, List.getElem_cons_succ] at e0 e1
  clear hx k0 k1
  go_wp2_with fail
  refine (place_f _ _ _ (HI5.out.later HX10.out)).mono ?_
  rintro r w11 ⟨rfl, hx⟩
  have HX11 := hid (HX10.out.trans hx)
  clear hx
  go_wp2
  go_ret
  exact ⟨rfl, HX5.out.trans HX11.out⟩
end Go.Proofs.YtfafnmfgiclanaaDoor
