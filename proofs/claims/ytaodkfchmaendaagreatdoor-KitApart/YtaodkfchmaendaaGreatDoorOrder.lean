/-
  Plain mathematics, of no program: comparing lists sign by sign is an order; places are compared by their function's name, then by their path.
-/
import Derived.Lib.Bytealg
import Derived.Lib.Small
namespace Go.Proofs.YtaodkfchmaendaaGreatDoor
open Go

/-- Three ways: an order told by -1, 0, 1. -/
structure Three {α : Type} (c : α → α → Int) : Prop where
  turn : ∀ a b, c a b = - c b a
  zero : ∀ a b, c a b = 0 ↔ a = b
  low : ∀ a b, -1 ≤ c a b
  high : ∀ a b, c a b ≤ 1
  through : ∀ a b d, c a b ≤ 0 → c b d ≤ 0 → c a d ≤ 0

def lexC {α : Type} (c : α → α → Int) : List α → List α → Int
  | [], [] => 0
  | [], _ :: _ => -1
  | _ :: _, [] => 1
  | a :: as, b :: bs => if c a b = 0 then lexC c as bs else c a b

theorem lexC_three {α : Type} {c : α → α → Int} (h : Three c) : Three (lexC c) where
  turn := by
    intro a
    induction a with
    | nil => intro b; cases b <;> rfl
    | cons x a ih =>
      intro b
      cases b with
      | nil => rfl
      | cons y b =>
        simp only [lexC]
        have := h.turn x y
        by_cases e : c x y = 0
        · rw [if_pos e, if_pos (by omega)]; exact ih b
        · rw [if_neg e, if_neg (by omega)]; exact this
  zero := by
    intro a
    induction a with
    | nil => intro b; cases b <;> simp [lexC]
    | cons x a ih =>
      intro b
      cases b with
      | nil => simp [lexC]
      | cons y b =>
        simp only [lexC]
        have := h.zero x y
        by_cases e : c x y = 0
        · rw [if_pos e, ih b, this.1 e]; simp
        · rw [if_neg e]
          constructor
          · intro h0; exact absurd h0 e
          · intro h0; exact absurd (this.2 (List.cons.inj h0).1) e
  low := by
    intro a
    induction a with
    | nil => intro b; cases b <;> simp [lexC]
    | cons x a ih =>
      intro b
      cases b with
      | nil => simp [lexC]
      | cons y b =>
        simp only [lexC]
        split
        · exact ih b
        · exact h.low x y
  high := by
    intro a
    induction a with
    | nil => intro b; cases b <;> simp [lexC]
    | cons x a ih =>
      intro b
      cases b with
      | nil => simp [lexC]
      | cons y b =>
        simp only [lexC]
        split
        · exact ih b
        · exact h.high x y
  through := by
    intro a
    induction a with
    | nil => intro b d; cases b <;> cases d <;> simp [lexC]
    | cons x a ih =>
      intro b d
      cases b with
      | nil => simp [lexC]
      | cons y b =>
        cases d with
        | nil => simp [lexC]
        | cons z d =>
          simp only [lexC]
          intro h1 h2
          have t := h.through x y z
          have exy := h.zero x y
          have eyz := h.zero y z
          have exz := h.zero x z
          have uxy := h.turn x y
          have tz := h.through y z x
          have ux := h.turn x z
          by_cases e1 : c x y = 0
          · have := exy.1 e1; subst this
            rw [if_pos e1] at h1
            by_cases e2 : c x z = 0
            · rw [if_pos e2] at h2 ⊢; exact ih b d h1 h2
            · rw [if_neg e2] at h2 ⊢; exact h2
          · rw [if_neg e1] at h1
            by_cases e2 : c y z = 0
            · have := eyz.1 e2; subst this
              rw [if_neg e1]; exact h1
            · rw [if_neg e2] at h2
              have q := t h1 h2
              rw [if_neg ?_]
              · exact q
              · intro e3
                have := exz.1 e3; subst this
                omega

theorem compareInt_three : Three Lib.compareInt where
  turn := by intro a b; unfold Lib.compareInt; split <;> split <;> (try split) <;> omega
  zero := by intro a b; unfold Lib.compareInt; split <;> (try split) <;> omega
  low := by intro a b; unfold Lib.compareInt; split <;> (try split) <;> omega
  high := by intro a b; unfold Lib.compareInt; split <;> (try split) <;> omega
  through := by
    intro a b d
    unfold Lib.compareInt
    intro h1 h2
    split at h1 <;> split at h2 <;> (try split at h1) <;> (try split at h2) <;> split <;> (try split) <;> omega

def byteC (a b : UInt8) : Int := Lib.compareInt a.toNat b.toNat
theorem byteC_three : Three byteC where
  turn := fun a b => compareInt_three.turn _ _
  zero := fun a b => by
    unfold byteC
    rw [compareInt_three.zero]
    constructor
    · intro h; exact UInt8.toNat_inj.1 (by omega)
    · intro h; rw [h]
  low := fun a b => compareInt_three.low _ _
  high := fun a b => compareInt_three.high _ _
  through := fun a b d => compareInt_three.through _ _ _

theorem compareBytes_lex : ∀ a b : List UInt8, Lib.compareBytes a b = lexC byteC a b
  | [], [] => rfl
  | [], _ :: _ => rfl
  | _ :: _, [] => rfl
  | x :: a, y :: b => by
    have ih := compareBytes_lex a b
    have hv : byteC x y = if x.toNat < y.toNat then -1 else if y.toNat < x.toNat then 1 else 0 := by
      unfold byteC Lib.compareInt
      split <;> split <;> (try split) <;> (try split) <;> omega
    simp only [Lib.compareBytes, lexC, UInt8.lt_iff_toNat_lt]
    by_cases h1 : x.toNat < y.toNat
    · rw [if_pos h1] at hv ⊢
      rw [hv, if_neg (by decide)]
    · rw [if_neg h1] at hv ⊢
      by_cases h2 : y.toNat < x.toNat
      · rw [if_pos h2] at hv ⊢
        rw [hv, if_neg (by decide)]
      · rw [if_neg h2] at hv ⊢
        rw [hv, if_pos rfl, ih]

/-- Which place is ahead. -/
def cmpP (a b : List UInt8 × List Int) : Int := if Lib.compareBytes a.1 b.1 = 0 then lexC Lib.compareInt a.2 b.2 else Lib.compareBytes a.1 b.1
theorem cmpP_three : Three cmpP where
  turn := fun a b => by
    unfold cmpP
    simp only [compareBytes_lex]
    have := (lexC_three byteC_three).turn a.1 b.1
    by_cases e : lexC byteC a.1 b.1 = 0
    · rw [if_pos e, if_pos (by omega)]; exact (lexC_three compareInt_three).turn _ _
    · rw [if_neg e, if_neg (by omega)]; exact this
  zero := fun a b => by
    unfold cmpP
    simp only [compareBytes_lex]
    have h1 := (lexC_three byteC_three).zero a.1 b.1
    have h2 := (lexC_three compareInt_three).zero a.2 b.2
    by_cases e : lexC byteC a.1 b.1 = 0
    · rw [if_pos e, h2]
      constructor
      · intro h; exact Prod.ext (h1.1 e) h
      · intro h; rw [h]
    · rw [if_neg e]
      constructor
      · intro h; exact absurd h e
      · intro h; exact absurd (h1.2 (by rw [h])) e
  low := fun a b => by
    unfold cmpP
    simp only [compareBytes_lex]
    split
    · exact (lexC_three compareInt_three).low _ _
    · exact (lexC_three byteC_three).low _ _
  high := fun a b => by
    unfold cmpP
    simp only [compareBytes_lex]
    split
    · exact (lexC_three compareInt_three).high _ _
    · exact (lexC_three byteC_three).high _ _
  through := fun a b d => by
    unfold cmpP
    simp only [compareBytes_lex]
    have z1 := (lexC_three byteC_three).zero a.1 b.1
    have z2 := (lexC_three byteC_three).zero b.1 d.1
    have z3 := (lexC_three byteC_three).zero a.1 d.1
    have t1 := (lexC_three byteC_three).turn a.1 b.1
    have th := (lexC_three byteC_three).through a.1 b.1 d.1
    have tp := (lexC_three compareInt_three).through a.2 b.2 d.2
    intro h1 h2
    by_cases e1 : lexC byteC a.1 b.1 = 0
    · rw [if_pos e1] at h1
      have e := z1.1 e1
      rw [e]
      rw [e] at z1
      by_cases e2 : lexC byteC b.1 d.1 = 0
      · rw [if_pos e2] at h2 ⊢; exact tp h1 h2
      · rw [if_neg e2] at h2 ⊢; exact h2
    · rw [if_neg e1] at h1
      by_cases e2 : lexC byteC b.1 d.1 = 0
      · rw [← z2.1 e2, if_neg e1]; exact h1
      · rw [if_neg e2] at h2
        have q := th h1 h2
        rw [if_neg ?_]
        · exact q
        · intro e3
          have e := z3.1 e3
          have t2 := (lexC_three byteC_three).turn b.1 d.1
          rw [← e] at h2 e2 t2
          omega

theorem lexC_snoc (xs : List Int) (k : Int) : lexC Lib.compareInt xs (xs ++ [k]) = -1 := by
  induction xs with
  | nil => rfl
  | cons x xs ih =>
    show (if Lib.compareInt x x = 0 then _ else _) = _
    rw [if_pos ((compareInt_three.zero x x).2 rfl)]
    exact ih
theorem cmpP_snoc (f : List UInt8) (xs : List Int) (k : Int) : cmpP (f, xs) (f, xs ++ [k]) = -1 := by
  unfold cmpP
  rw [if_pos (by rw [compareBytes_lex]; exact ((lexC_three byteC_three).zero f f).2 rfl)]
  exact lexC_snoc xs k
end Go.Proofs.YtaodkfchmaendaaGreatDoor
