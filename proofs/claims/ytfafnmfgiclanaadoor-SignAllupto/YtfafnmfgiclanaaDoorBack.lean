/-
  A place's text is read back.
-/
import Derived.Test.YtfafnmfgiclanaaDoorPlText
import Derived.Test.YtfafnmfgiclanaaDoorReadPl
namespace Go.Proofs.YtfafnmfgiclanaaDoor
open Go.RowKit Go.Shelf
theorem placeB_path {f : List UInt8} {xs : List Int} (h : placeB f xs = true) : pathB xs = true := by
  unfold placeB at h
  simp only [Bool.and_eq_true] at h
  exact h.2
theorem placeB_name {f : List UInt8} {xs : List Int} (h : placeB f xs = true) : f.length ≤ 32 := by
  rcases Nat.lt_or_ge 32 f.length with hh | hh
  · exfalso
    have h1 := speltB_long (f := nameI) hh
    unfold placeB nameB at h
    rw [h1] at h
    cases f with
    | nil => simp at hh
    | cons x l => cases h
  · exact hh
theorem placeText_le {f : List UInt8} {p : List Nat} (h : placeB f (ints p) = true) : (placeText f p).length ≤ 64545 := by
  have h1 := placeB_name h
  have h2 := pathText_le (placeB_path h)
  unfold placeText
  split
  · omega
  · simp; omega
theorem placeOf_self {f : List UInt8} {xs : List Int} (h : placeB f xs = true) : PlaceOf (placeText f (nats xs)) f (nats xs) := ⟨by rw [ints_nats (placeB_path h)]; exact h, rfl⟩
theorem read_back (f : ByteArray) (xs : List Int) (w : World) (h : placeB f.data.toList xs = true) :
    Calls Tryd.prog 11 #[.string ⟨(placeText f.data.toList (nats xs)).toArray⟩] w fun e w' => (∃ v, e = .returned (.tuple #[.agg #[.string f, v], .int .i64 0]) ∧ w'.ownsRow w.heap.size 3 1 v xs.length (xs.map (Value.int .i64))) ∧ Ext w w' := by
  have hl : (placeText f.data.toList (nats xs)).length ≤ 64545 := placeText_le (by rw [ints_nats (placeB_path h)]; exact h)
  refine (readPlace_any ⟨(placeText f.data.toList (nats xs)).toArray⟩ w (by show (placeText f.data.toList (nats xs)).toArray.size ≤ _; simp; omega)).mono ?_
  rintro e w' ⟨ht, hx⟩
  have e0 : (⟨(placeText f.data.toList (nats xs)).toArray⟩ : ByteArray).data.toList = placeText f.data.toList (nats xs) := by simp
  rw [e0] at ht
  refine ⟨?_, hx⟩
  rcases ht with ⟨g, p, v, rfl, hp, ho⟩ | ⟨_, hp⟩
  · obtain ⟨rfl, rfl⟩ := PlaceOf.one hp (placeOf_self h)
    refine ⟨v, ?_, ?_⟩
    · have : (⟨f.data.toList.toArray⟩ : ByteArray) = f := (bytes_of f _ rfl).symm
      rw [this]
    · rw [numCells_ints, ints_nats (placeB_path h), nats_len] at ho
      exact ho
  · exact absurd (placeOf_self h) (hp _ _)
/-- What was read is what would be written. -/
theorem text_back (f : List UInt8) (p : List Nat) (a : Option Addr) (c : Nat) (w : World) (hI : Ints w (.slice a p.length c) (ints p)) (hG : Laid w) (h : placeB f (ints p) = true) :
    Calls Tryd.prog 9 #[.agg #[.string ⟨f.toArray⟩, .slice a p.length c]] w fun e w' => e = .returned (.tuple #[.string ⟨(placeText f p).toArray⟩, .int .i64 0]) ∧ Ext w w' := by
  have := placeText_good ⟨f.toArray⟩ a c (ints p) w (by rw [ints_len]; exact hI) hG (by simpa using h)
  rw [ints_len, nats_ints] at this
  simpa using this
theorem place_back (f : List UInt8) (p : List Nat) (a : Option Addr) (c : Nat) (w : World) (hI : Ints w (.slice a p.length c) (ints p)) (h : placeB f (ints p) = true) :
    Calls Tryd.prog 10 #[.agg #[.string ⟨f.toArray⟩, .slice a p.length c]] w fun e w' => e = .returned (.bool true) ∧ Ext w w' := by
  have hl := ((pathB_iff _).1 (placeB_path h)).1
  rw [ints_len] at hl
  have := place_any ⟨f.toArray⟩ a c (ints p) w (by rw [ints_len]; omega) (by rw [ints_len]; exact hI)
  rw [ints_len] at this
  have e0 : (⟨f.toArray⟩ : ByteArray).data.toList = f := by simp
  rw [e0, h] at this
  exact this
end Go.Proofs.YtfafnmfgiclanaaDoor
