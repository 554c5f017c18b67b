/-
  What Make gives, as an error of the statements, and what the document says of it.
-/
import Derived.Test.YtflcmdjekmmkkaaGreatDoorErr
namespace Go.Proofs.YtflcmdjekmmkkaaGreatDoor
open Go.RowKit Go.Shelf

/-- The document's words of an error, or of none. -/
def Fits (od : Option TD) (no : Bool) (co : Int) (lo : Bool) (fu : ByteArray) (ra : Bool) (sa : ByteArray) (la : Bool) (ki ab : ByteArray) (ys : List Int) : Prop :=
  match od with
  | Option.none => no = true ∧ co = 0 ∧ lo = false ∧ fu = ⟨#[]⟩ ∧ ra = false ∧ sa = ⟨#[]⟩ ∧ la = false ∧ ki = ⟨#[]⟩ ∧ ab = ⟨#[]⟩ ∧ ys = []
  | some d => no = false ∧ co = d.co ∧ lo = d.lo ∧ fu = d.fu ∧ ra = d.ra ∧ sa = d.sa ∧ la = d.la ∧ ki = d.ki ∧ ab = d.ab ∧ ys = d.xs
theorem fits_same (o1 o2 : Option TD) (no1 : Bool) (co1 : Int) (lo1 : Bool) (fu1 : ByteArray) (ra1 : Bool) (sa1 : ByteArray) (la1 : Bool) (ki1 ab1 : ByteArray) (xs : List Int) (no2 : Bool) (co2 : Int) (lo2 : Bool) (fu2 : ByteArray) (ra2 : Bool) (sa2 : ByteArray) (la2 : Bool) (ki2 ab2 : ByteArray) (ys : List Int)
    (h1 : Fits o1 no1 co1 lo1 fu1 ra1 sa1 la1 ki1 ab1 xs) (h2 : Fits o2 no2 co2 lo2 fu2 ra2 sa2 la2 ki2 ab2 ys) : decide (no1 = no2 ∧ co1 = co2 ∧ lo1 = lo2 ∧ (fu1 = fu2 ∧ xs = ys) ∧ ra1 = ra2 ∧ sa1 = sa2 ∧ la1 = la2 ∧ ki1 = ki2 ∧ ab1 = ab2) = sameB o1 o2 := by
  cases o1 with
  | none =>
    obtain ⟨rfl, rfl, rfl, rfl, rfl, rfl, rfl, rfl, rfl, rfl⟩ := h1
    cases o2 with
    | none =>
      obtain ⟨rfl, rfl, rfl, rfl, rfl, rfl, rfl, rfl, rfl, rfl⟩ := h2
      simp [sameB]
    | some d =>
      obtain ⟨rfl, rfl, rfl, rfl, rfl, rfl, rfl, rfl, rfl, rfl⟩ := h2
      simp [sameB]
  | some d1 =>
    obtain ⟨rfl, rfl, rfl, rfl, rfl, rfl, rfl, rfl, rfl, rfl⟩ := h1
    cases o2 with
    | none =>
      obtain ⟨rfl, rfl, rfl, rfl, rfl, rfl, rfl, rfl, rfl, rfl⟩ := h2
      simp [sameB]
    | some d2 =>
      obtain ⟨rfl, rfl, rfl, rfl, rfl, rfl, rfl, rfl, rfl, rfl⟩ := h2
      show decide _ = decide (TD.eqv d1 d2)
      rw [decide_eq_decide]
      constructor
      · rintro ⟨_, h2, h3, ⟨h4, h5⟩, h6, h7, h8, h9, h10⟩
        exact ⟨⟨h2, h3, h6, h8, h4, h7, h9, h10⟩, h5⟩
      · rintro ⟨⟨h2, h3, h6, h8, h4, h7, h9, h10⟩, h5⟩
        exact ⟨rfl, h2, h3, ⟨h4, h5⟩, h6, h7, h8, h9, h10⟩
theorem made_err {co : Int} {fu : ByteArray} {a : Option Addr} {n c : Nat} {sa ki ab : ByteArray} {xs : List Int} {B : Nat} {w : World} {e : Value} {t : Array Value} (h : Made co fu a n c sa ki ab xs B w e t) (hI : Ints w (.slice a n c) xs) (hb : xs.length * 8 ≤ 140737488355328) :
    ∃ od no co' lo fu' x y z ra sa' la ki' ab' ys, t = #[.bool no, .int .i64 co', .bool lo, .string fu', .slice x y z, .bool ra, .string sa', .bool la, .string ki', .string ab'] ∧ Err w e od ∧ Fits od no co' lo fu' ra sa' la ki' ab' ys ∧ Ints w (.slice x y z) ys ∧ ys.length * 8 ≤ 140737488355328 := by
  rcases h with ⟨rfl, rfl⟩ | ⟨b, _, rfl, hE, rfl⟩ | ⟨b, a', n', c', _, rfl, hE, hR, rfl⟩ | ⟨b, a', n', c', _, rfl, hE, hR, rfl⟩ | ⟨b, a', n', c', _, rfl, hE, hR, rfl⟩
  · exact ⟨Option.none, _, _, _, _, _, _, _, _, _, _, _, _, [], rfl, .inl ⟨rfl, rfl⟩, ⟨rfl, rfl, rfl, rfl, rfl, rfl, rfl, rfl, rfl, rfl⟩, .inl ⟨rfl, rfl⟩, by decide⟩
  · refine ⟨some ⟨co, false, false, false, ByteArray.empty, ByteArray.empty, ByteArray.empty, ByteArray.empty, []⟩, _, _, _, _, _, _, _, _, _, _, _, _, [], rfl, .inr ⟨_, 128, b, 0, _, _, rfl, (by show 0 * 8 ≤ 140737488355328; decide), rfl, by decide, wrapped_C b w (lt_of_block hE), fun w1 hx => ?_, fun w => isCCoded _ _ _⟩, ⟨rfl, rfl, rfl, rfl, rfl, rfl, rfl, rfl, rfl, rfl⟩, .inl ⟨rfl, rfl⟩, by decide⟩
    refine (tellOf_C b co w1 (hx.block hE)).mono ?_
    rintro r w' ⟨rfl, hx'⟩
    exact ⟨_, rfl, World.ownsRow_nil _ _ _ _, hx'⟩
  · exact ⟨some ⟨co, true, false, false, fu, ByteArray.empty, ByteArray.empty, ByteArray.empty, xs⟩, _, _, _, _, _, _, _, _, _, _, _, _, xs, rfl, .inr ⟨_, 127, b, 0, _, _, rfl, hb, rfl, by decide, wrapped_L b w (lt_of_block hE), fun w1 hx => tellOf_L b co fu a' n' c' xs w1 hb (hx.block hE) ((Ints.own hR).later hx), fun w => isLCoded _ _ _⟩, ⟨rfl, rfl, rfl, rfl, rfl, rfl, rfl, rfl, rfl, rfl⟩, hI, hb⟩
  · exact ⟨some ⟨25, true, true, false, fu, sa, ByteArray.empty, ByteArray.empty, xs⟩, _, _, _, _, _, _, _, _, _, _, _, _, xs, rfl, .inr ⟨_, 129, b, 0, _, _, rfl, hb, rfl, by decide, wrapped_R b w (lt_of_block hE), fun w1 hx => tellOf_R b 25 fu a' n' c' sa xs w1 hb (hx.block hE) ((Ints.own hR).later hx), fun w => isRCoded _ _ _⟩, ⟨rfl, rfl, rfl, rfl, rfl, rfl, rfl, rfl, rfl, rfl⟩, hI, hb⟩
  · exact ⟨some ⟨13, true, false, true, fu, ByteArray.empty, ki, ab, xs⟩, _, _, _, _, _, _, _, _, _, _, _, _, xs, rfl, .inr ⟨_, 132, b, 0, _, _, rfl, hb, rfl, by decide, wrapped_K b w (lt_of_block hE), fun w1 hx => tellOf_K b 13 fu a' n' c' ki ab xs w1 hb (hx.block hE) ((Ints.own hR).later hx), fun w => isKCoded _ _ _⟩, ⟨rfl, rfl, rfl, rfl, rfl, rfl, rfl, rfl, rfl, rfl⟩, hI, hb⟩


end Go.Proofs.YtflcmdjekmmkkaaGreatDoor
