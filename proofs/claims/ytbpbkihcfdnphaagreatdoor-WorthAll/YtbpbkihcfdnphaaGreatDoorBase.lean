/-
  Plain mathematics, of no program: comparing lists sign by sign is an order; places are compared by their function's name, then by their path.
-/
import Derived.Lib.Bytealg
import Derived.Lib.Small
import Derived.WalkKit
import Derived.WalkSpells
import Derived.WalkLawsBesides
import Derived.Defers
import Derived.Recover
import Derived.RegionTactic
import Derived.BigRegion
import Derived.LaidEql
import Derived.Outline
import Derived.Test.YtbpbkihcfdnphaaGreatDoorRows
import Derived.OwnWalk
import Derived.Deep.RegionWith
import Derived.WalkSmall
import Derived.Lib.SliceRun
import Derived.LoopTactic
import Derived.Deep.QuietTactic
import Derived.BigQuiet
namespace Go.Proofs.YtbpbkihcfdnphaaGreatDoor
open Go

/-- Three ways: an order told by -1, 0, 1. -/
structure Three {α : Type} (c : α → α → Int) : Prop where
  turn : ∀ a b, c a b = - c b a
  zero : ∀ a b, c a b = 0 ↔ a = b
  low : ∀ a b, -1 ≤ c a b
  high : ∀ a b, c a b ≤ 1
  through : ∀ a b d, c a b ≤ 0 → c b d ≤ 0 → c a d ≤ 0

def lexC {α : Type} (c : α → α → Int) : List α → List α → Int
  | [], [] => 0
  | [], _ :: _ => -1
  | _ :: _, [] => 1
  | a :: as, b :: bs => if c a b = 0 then lexC c as bs else c a b

theorem lexC_three {α : Type} {c : α → α → Int} (h : Three c) : Three (lexC c) where
  turn := by
    intro a
    induction a with
    | nil => intro b; cases b <;> rfl
    | cons x a ih =>
      intro b
      cases b with
      | nil => rfl
      | cons y b =>
        simp only [lexC]
        have := h.turn x y
        by_cases e : c x y = 0
        · rw [if_pos e, if_pos (by omega)]; exact ih b
        · rw [if_neg e, if_neg (by omega)]; exact this
  zero := by
    intro a
    induction a with
    | nil => intro b; cases b <;> simp [lexC]
    | cons x a ih =>
      intro b
      cases b with
      | nil => simp [lexC]
      | cons y b =>
        simp only [lexC]
        have := h.zero x y
        by_cases e : c x y = 0
        · rw [if_pos e, ih b, this.1 e]; simp
        · rw [if_neg e]
          constructor
          · intro h0; exact absurd h0 e
          · intro h0; exact absurd (this.2 (List.cons.inj h0).1) e
  low := by
    intro a
    induction a with
    | nil => intro b; cases b <;> simp [lexC]
    | cons x a ih =>
      intro b
      cases b with
      | nil => simp [lexC]
      | cons y b =>
        simp only [lexC]
        split
        · exact ih b
        · exact h.low x y
  high := by
    intro a
    induction a with
    | nil => intro b; cases b <;> simp [lexC]
    | cons x a ih =>
      intro b
      cases b with
      | nil => simp [lexC]
      | cons y b =>
        simp only [lexC]
        split
        · exact ih b
        · exact h.high x y
  through := by
    intro a
    induction a with
    | nil => intro b d; cases b <;> cases d <;> simp [lexC]
    | cons x a ih =>
      intro b d
      cases b with
      | nil => simp [lexC]
      | cons y b =>
        cases d with
        | nil => simp [lexC]
        | cons z d =>
          simp only [lexC]
          intro h1 h2
          have t := h.through x y z
          have exy := h.zero x y
          have eyz := h.zero y z
          have exz := h.zero x z
          have uxy := h.turn x y
          have tz := h.through y z x
          have ux := h.turn x z
          by_cases e1 : c x y = 0
          · have := exy.1 e1; subst this
            rw [if_pos e1] at h1
            by_cases e2 : c x z = 0
            · rw [if_pos e2] at h2 ⊢; exact ih b d h1 h2
            · rw [if_neg e2] at h2 ⊢; exact h2
          · rw [if_neg e1] at h1
            by_cases e2 : c y z = 0
            · have := eyz.1 e2; subst this
              rw [if_neg e1]; exact h1
            · rw [if_neg e2] at h2
              have q := t h1 h2
              rw [if_neg ?_]
              · exact q
              · intro e3
                have := exz.1 e3; subst this
                omega

theorem compareInt_three : Three Lib.compareInt where
  turn := by intro a b; unfold Lib.compareInt; split <;> split <;> (try split) <;> omega
  zero := by intro a b; unfold Lib.compareInt; split <;> (try split) <;> omega
  low := by intro a b; unfold Lib.compareInt; split <;> (try split) <;> omega
  high := by intro a b; unfold Lib.compareInt; split <;> (try split) <;> omega
  through := by
    intro a b d
    unfold Lib.compareInt
    intro h1 h2
    split at h1 <;> split at h2 <;> (try split at h1) <;> (try split at h2) <;> split <;> (try split) <;> omega

def byteC (a b : UInt8) : Int := Lib.compareInt a.toNat b.toNat
theorem byteC_three : Three byteC where
  turn := fun a b => compareInt_three.turn _ _
  zero := fun a b => by
    unfold byteC
    rw [compareInt_three.zero]
    constructor
    · intro h; exact UInt8.toNat_inj.1 (by omega)
    · intro h; rw [h]
  low := fun a b => compareInt_three.low _ _
  high := fun a b => compareInt_three.high _ _
  through := fun a b d => compareInt_three.through _ _ _

theorem compareBytes_lex : ∀ a b : List UInt8, Lib.compareBytes a b = lexC byteC a b
  | [], [] => rfl
  | [], _ :: _ => rfl
  | _ :: _, [] => rfl
  | x :: a, y :: b => by
    have ih := compareBytes_lex a b
    have hv : byteC x y = if x.toNat < y.toNat then -1 else if y.toNat < x.toNat then 1 else 0 := by
      unfold byteC Lib.compareInt
      split <;> split <;> (try split) <;> (try split) <;> omega
    simp only [Lib.compareBytes, lexC, UInt8.lt_iff_toNat_lt]
    by_cases h1 : x.toNat < y.toNat
    · rw [if_pos h1] at hv ⊢
      rw [hv, if_neg (by decide)]
    · rw [if_neg h1] at hv ⊢
      by_cases h2 : y.toNat < x.toNat
      · rw [if_pos h2] at hv ⊢
        rw [hv, if_neg (by decide)]
      · rw [if_neg h2] at hv ⊢
        rw [hv, if_pos rfl, ih]

/-- Which place is ahead. -/
def cmpP (a b : List UInt8 × List Int) : Int := if Lib.compareBytes a.1 b.1 = 0 then lexC Lib.compareInt a.2 b.2 else Lib.compareBytes a.1 b.1
theorem cmpP_three : Three cmpP where
  turn := fun a b => by
    unfold cmpP
    simp only [compareBytes_lex]
    have := (lexC_three byteC_three).turn a.1 b.1
    by_cases e : lexC byteC a.1 b.1 = 0
    · rw [if_pos e, if_pos (by omega)]; exact (lexC_three compareInt_three).turn _ _
    · rw [if_neg e, if_neg (by omega)]; exact this
  zero := fun a b => by
    unfold cmpP
    simp only [compareBytes_lex]
    have h1 := (lexC_three byteC_three).zero a.1 b.1
    have h2 := (lexC_three compareInt_three).zero a.2 b.2
    by_cases e : lexC byteC a.1 b.1 = 0
    · rw [if_pos e, h2]
      constructor
      · intro h; exact Prod.ext (h1.1 e) h
      · intro h; rw [h]
    · rw [if_neg e]
      constructor
      · intro h; exact absurd h e
      · intro h; exact absurd (h1.2 (by rw [h])) e
  low := fun a b => by
    unfold cmpP
    simp only [compareBytes_lex]
    split
    · exact (lexC_three compareInt_three).low _ _
    · exact (lexC_three byteC_three).low _ _
  high := fun a b => by
    unfold cmpP
    simp only [compareBytes_lex]
    split
    · exact (lexC_three compareInt_three).high _ _
    · exact (lexC_three byteC_three).high _ _
  through := fun a b d => by
    unfold cmpP
    simp only [compareBytes_lex]
    have z1 := (lexC_three byteC_three).zero a.1 b.1
    have z2 := (lexC_three byteC_three).zero b.1 d.1
    have z3 := (lexC_three byteC_three).zero a.1 d.1
    have t1 := (lexC_three byteC_three).turn a.1 b.1
    have th := (lexC_three byteC_three).through a.1 b.1 d.1
    have tp := (lexC_three compareInt_three).through a.2 b.2 d.2
    intro h1 h2
    by_cases e1 : lexC byteC a.1 b.1 = 0
    · rw [if_pos e1] at h1
      have e := z1.1 e1
      rw [e]
      rw [e] at z1
      by_cases e2 : lexC byteC b.1 d.1 = 0
      · rw [if_pos e2] at h2 ⊢; exact tp h1 h2
      · rw [if_neg e2] at h2 ⊢; exact h2
    · rw [if_neg e1] at h1
      by_cases e2 : lexC byteC b.1 d.1 = 0
      · rw [← z2.1 e2, if_neg e1]; exact h1
      · rw [if_neg e2] at h2
        have q := th h1 h2
        rw [if_neg ?_]
        · exact q
        · intro e3
          have e := z3.1 e3
          have t2 := (lexC_three byteC_three).turn b.1 d.1
          rw [← e] at h2 e2 t2
          omega

theorem lexC_snoc (xs : List Int) (k : Int) : lexC Lib.compareInt xs (xs ++ [k]) = -1 := by
  induction xs with
  | nil => rfl
  | cons x xs ih =>
    show (if Lib.compareInt x x = 0 then _ else _) = _
    rw [if_pos ((compareInt_three.zero x x).2 rfl)]
    exact ih
theorem cmpP_snoc (f : List UInt8) (xs : List Int) (k : Int) : cmpP (f, xs) (f, xs ++ [k]) = -1 := by
  unfold cmpP
  rw [if_pos (by rw [compareBytes_lex]; exact ((lexC_three byteC_three).zero f f).2 rfl)]
  exact lexC_snoc xs k
end Go.Proofs.YtbpbkihcfdnphaaGreatDoor
/-
  Plain values, by data: how great, how deep, which of them may be; their order.
-/
namespace Go.Proofs.YtbpbkihcfdnphaaGreatDoor

/-- A plain value. -/
inductive T where
  | node (k : Int) (n : Int) (x : ByteArray) (kids : List T)
namespace T
def kids : T → List T | node _ _ _ ks => ks
def kind : T → Int | node k _ _ _ => k
def num : T → Int | node _ n _ _ => n
def text : T → ByteArray | node _ _ x _ => x
mutual
def size : T → Nat | node _ _ x ks => 1 + x.size + sizeL ks
def sizeL : List T → Nat | [] => 0 | t :: r => size t + sizeL r
end

mutual
def deep : T → Nat | node k _ _ ks => if k = 5 then 1 + deepL ks else 0
def deepL : List T → Nat | [] => 0 | t :: r => max (deep t) (deepL r)
end
/-- Of one of the five kinds, nothing in the fields that it gives no meaning (its list's own aside). -/
def wfP (k n : Int) (s l : Nat) : Prop := (k = 1 ∧ n = 0 ∧ s = 0 ∧ l = 0) ∨ (k = 2 ∧ (n = 0 ∨ n = 1) ∧ s = 0 ∧ l = 0) ∨ (k = 3 ∧ s = 0 ∧ l = 0) ∨ (k = 4 ∧ n = 0 ∧ l = 0) ∨ (k = 5 ∧ n = 0 ∧ s = 0)
instance (k n : Int) (s l : Nat) : Decidable (wfP k n s l) := by unfold wfP; exact inferInstance
def wf : T → Prop
  | node k n x ks => wfP k n x.size ks.length
instance (t : T) : Decidable (wf t) := by obtain ⟨k, n, x, ks⟩ := t; unfold wf; exact inferInstance
mutual
def good : T → Prop | node k n x ks => wf (node k n x ks) ∧ goodL ks
def goodL : List T → Prop | [] => True | t :: r => good t ∧ goodL r
end
mutual
def goodDec : (t : T) → Decidable (good t)
  | node k n x ks => by unfold good; have := goodLDec ks; exact inferInstance
def goodLDec : (l : List T) → Decidable (goodL l)
  | [] => by unfold goodL; exact inferInstance
  | t :: r => by unfold goodL; have := goodDec t; have := goodLDec r; exact inferInstance
end
instance (t : T) : Decidable (good t) := goodDec t
instance (l : List T) : Decidable (goodL l) := goodLDec l
/-- Whether a value may be, with what is left and with so many lists within one another. -/
def ok (left nest : Nat) (t : T) : Prop := t.good ∧ t.size ≤ left ∧ t.deep ≤ nest
instance (left nest : Nat) (t : T) : Decidable (ok left nest t) := by unfold ok; exact inferInstance
def may (t : T) : Prop := ok 65536 64 t
instance (t : T) : Decidable (may t) := by unfold may; exact inferInstance
theorem size_pos (t : T) : 1 ≤ t.size := by cases t; simp only [size]; omega
theorem sizeL_append (a b : List T) : sizeL (a ++ b) = sizeL a + sizeL b := by
  induction a with
  | nil => simp [sizeL]
  | cons x r ih => simp only [List.cons_append, sizeL, ih]; omega
theorem deepL_append (a b : List T) : deepL (a ++ b) = max (deepL a) (deepL b) := by
  induction a with
  | nil => simp [deepL]
  | cons x r ih => simp only [List.cons_append, deepL, ih]; omega
theorem goodL_append (a b : List T) : goodL (a ++ b) ↔ goodL a ∧ goodL b := by
  induction a with
  | nil => simp [goodL]
  | cons x r ih => simp only [List.cons_append, goodL, ih, and_assoc]
theorem sizeL_len (a : List T) : a.length ≤ sizeL a := by
  induction a with
  | nil => simp [sizeL]
  | cons x r ih => have := size_pos x; simp only [sizeL, List.length_cons]; omega
theorem take_succ' {α : Type} (l : List α) (i : Nat) (h : i < l.length) : l.take (i + 1) = l.take i ++ [l[i]] := by
  rw [List.take_add_one, List.getElem?_eq_getElem h]; rfl
theorem sizeL_take (l : List T) (i : Nat) (h : i < l.length) : sizeL (l.take (i + 1)) = sizeL (l.take i) + size l[i] := by
  rw [take_succ' l i h, sizeL_append]; simp [sizeL]
theorem deepL_take (l : List T) (i : Nat) (h : i < l.length) : deepL (l.take (i + 1)) = max (deepL (l.take i)) (deep l[i]) := by
  rw [take_succ' l i h, deepL_append]; simp [deepL]
theorem goodL_take (l : List T) (i : Nat) (h : i < l.length) : goodL (l.take (i + 1)) ↔ goodL (l.take i) ∧ good l[i] := by
  rw [take_succ' l i h, goodL_append]; simp [goodL]
theorem sizeL_split (l : List T) (i : Nat) : sizeL l = sizeL (l.take i) + sizeL (l.drop i) := by rw [← sizeL_append, List.take_append_drop]
theorem deepL_split (l : List T) (i : Nat) : deepL l = max (deepL (l.take i)) (deepL (l.drop i)) := by rw [← deepL_append, List.take_append_drop]
theorem goodL_split (l : List T) (i : Nat) : goodL l ↔ goodL (l.take i) ∧ goodL (l.drop i) := by rw [← goodL_append, List.take_append_drop]
theorem goodL_mem {l : List T} (h : goodL l) {u : T} (hu : u ∈ l) : good u := by
  induction l with
  | nil => cases hu
  | cons x r ih =>
    rcases List.mem_cons.1 hu with rfl | hu
    · exact h.1
    · exact ih h.2 hu
theorem sizeL_mem {u : T} {l : List T} (h : u ∈ l) : size u ≤ sizeL l := by
  induction l with
  | nil => cases h
  | cons x r ih =>
    simp only [sizeL]
    rcases List.mem_cons.1 h with rfl | h
    · omega
    · have := ih h; omega
theorem deepL_mem {u : T} {l : List T} (h : u ∈ l) : deep u ≤ deepL l := by
  induction l with
  | nil => cases h
  | cons x r ih =>
    simp only [deepL]
    rcases List.mem_cons.1 h with rfl | h
    · omega
    · have := ih h; omega
theorem wf_of (t : T) (h : good t) : wf t := by obtain ⟨k, n, x, ks⟩ := t; exact h.1

/-- Bytes, by -1, 0, 1. -/
def byC (x y : ByteArray) : Int := Lib.compareBytes x.data.toList y.data.toList
theorem byC_three : Three byC where
  turn := fun a b => by unfold byC; rw [compareBytes_lex, compareBytes_lex]; exact (lexC_three byteC_three).turn _ _
  zero := fun a b => by
    unfold byC; rw [compareBytes_lex, (lexC_three byteC_three).zero]
    exact ⟨fun h => ByteArray.ext (Array.toList_inj.1 h), fun h => by rw [h]⟩
  low := fun a b => by unfold byC; rw [compareBytes_lex]; exact (lexC_three byteC_three).low _ _
  high := fun a b => by unfold byC; rw [compareBytes_lex]; exact (lexC_three byteC_three).high _ _
  through := fun a b d => by unfold byC; rw [compareBytes_lex, compareBytes_lex, compareBytes_lex]; exact (lexC_three byteC_three).through _ _ _
def cmp3 (a b c d : Int) : Int := if a ≠ 0 then a else if b ≠ 0 then b else if c ≠ 0 then c else d
mutual
def cmp : T → T → Int
  | node k n x ks, node k' n' x' ks' => cmp3 (Lib.compareInt k k') (Lib.compareInt n n') (byC x x') (cmpL ks ks')
def cmpL : List T → List T → Int
  | [], [] => 0
  | [], _ :: _ => -1
  | _ :: _, [] => 1
  | a :: r, b :: q => if cmp a b = 0 then cmpL r q else cmp a b
end
theorem three3 {α β γ δ : Type} {a : α → α → Int} {b : β → β → Int} {c : γ → γ → Int} (ha : Three a) (hb : Three b) (hc : Three c) (x x' : α) (y y' : β) (z z' : γ) (u u' : δ) (d : δ → δ → Int)
    (ht : d u u' = - d u' u) (hz : d u u' = 0 ↔ u = u') (hl : -1 ≤ d u u') (hh : d u u' ≤ 1) :
    cmp3 (a x x') (b y y') (c z z') (d u u') = - cmp3 (a x' x) (b y' y) (c z' z) (d u' u) ∧ (cmp3 (a x x') (b y y') (c z z') (d u u') = 0 ↔ x = x' ∧ y = y' ∧ z = z' ∧ u = u') ∧ -1 ≤ cmp3 (a x x') (b y y') (c z z') (d u u') ∧ cmp3 (a x x') (b y y') (c z z') (d u u') ≤ 1 := by
  have a1 := ha.turn x x'; have a2 := ha.zero x x'; have a3 := ha.low x x'; have a4 := ha.high x x'
  have b1 := hb.turn y y'; have b2 := hb.zero y y'; have b3 := hb.low y y'; have b4 := hb.high y y'
  have c1 := hc.turn z z'; have c2 := hc.zero z z'; have c3 := hc.low z z'; have c4 := hc.high z z'
  unfold cmp3
  refine ⟨?_, ?_, ?_, ?_⟩
  · repeat' split
    all_goals omega
  · rw [← a2, ← b2, ← c2, ← hz]
    repeat' split
    all_goals omega
  · repeat' split
    all_goals omega
  · repeat' split
    all_goals omega
theorem through3 {α β γ δ : Type} {a : α → α → Int} {b : β → β → Int} {c : γ → γ → Int} (ha : Three a) (hb : Three b) (hc : Three c) (x x' x'' : α) (y y' y'' : β) (z z' z'' : γ) (u u' u'' : δ) (d : δ → δ → Int)
    (hd : d u u' ≤ 0 → d u' u'' ≤ 0 → d u u'' ≤ 0) (h1 : cmp3 (a x x') (b y y') (c z z') (d u u') ≤ 0) (h2 : cmp3 (a x' x'') (b y' y'') (c z' z'') (d u' u'') ≤ 0) : cmp3 (a x x'') (b y y'') (c z z'') (d u u'') ≤ 0 := by
  have key : ∀ {α : Type} {a : α → α → Int}, Three a → ∀ p q r : α, a p q ≤ 0 → a q r ≤ 0 → (a p r ≤ 0 ∧ (a p r = 0 ↔ a p q = 0 ∧ a q r = 0)) := fun h p q r h1 h2 => by
    have t := h.through p q r h1 h2
    refine ⟨t, ⟨fun e => ?_, fun ⟨e1, e2⟩ => ?_⟩⟩
    · have e' := (h.zero p r).1 e
      subst e'
      have := h.turn p q
      omega
    · rw [(h.zero p q).1 e1, (h.zero q r).1 e2]; exact (h.zero r r).2 rfl
  have ka := key ha x x' x''
  have kb := key hb y y' y''
  have kc := key hc z z' z''
  unfold cmp3 at *
  by_cases e1 : a x x' = 0
  · by_cases e2 : a x' x'' = 0
    · have := ka (by omega) (by omega)
      have e3 : a x x'' = 0 := this.2.2 ⟨e1, e2⟩
      rw [if_neg (by simpa using e1)] at h1
      rw [if_neg (by simpa using e2)] at h2
      rw [if_neg (by simpa using e3)]
      by_cases f1 : b y y' = 0
      · by_cases f2 : b y' y'' = 0
        · have := kb (by omega) (by omega)
          have f3 : b y y'' = 0 := this.2.2 ⟨f1, f2⟩
          rw [if_neg (by simpa using f1)] at h1
          rw [if_neg (by simpa using f2)] at h2
          rw [if_neg (by simpa using f3)]
          by_cases g1 : c z z' = 0
          · by_cases g2 : c z' z'' = 0
            · have := kc (by omega) (by omega)
              have g3 : c z z'' = 0 := this.2.2 ⟨g1, g2⟩
              rw [if_neg (by simpa using g1)] at h1
              rw [if_neg (by simpa using g2)] at h2
              rw [if_neg (by simpa using g3)]
              exact hd h1 h2
            · rw [if_pos g2] at h2
              have := kc (by omega) h2
              rw [if_pos (by omega)]; exact this.1
          · rw [if_pos g1] at h1
            by_cases g2 : c z' z'' = 0
            · have := kc h1 (by omega)
              rw [if_pos (by omega)]; exact this.1
            · rw [if_pos g2] at h2
              have := kc h1 h2
              rw [if_pos (by omega)]; exact this.1
        · rw [if_pos f2] at h2
          have := kb (by omega) h2
          rw [if_pos (by omega)]; exact this.1
      · rw [if_pos f1] at h1
        by_cases f2 : b y' y'' = 0
        · have := kb h1 (by omega)
          rw [if_pos (by omega)]; exact this.1
        · rw [if_pos f2] at h2
          have := kb h1 h2
          rw [if_pos (by omega)]; exact this.1
    · rw [if_pos e2] at h2
      have := ka (by omega) h2
      rw [if_pos (by omega)]; exact this.1
  · rw [if_pos e1] at h1
    by_cases e2 : a x' x'' = 0
    · have := ka h1 (by omega)
      rw [if_pos (by omega)]; exact this.1
    · rw [if_pos e2] at h2
      have := ka h1 h2
      rw [if_pos (by omega)]; exact this.1
mutual
theorem cmp_facts : ∀ (a b : T), cmp a b = - cmp b a ∧ (cmp a b = 0 ↔ a = b) ∧ -1 ≤ cmp a b ∧ cmp a b ≤ 1
  | node k n x ks, node k' n' x' ks' => by
    obtain ⟨l1, l2, l3, l4⟩ := cmpL_facts ks ks'
    have := three3 compareInt_three compareInt_three byC_three k k' n n' x x' ks ks' cmpL l1 l2 l3 l4
    simp only [cmp]
    refine ⟨this.1, this.2.1.trans ?_, this.2.2⟩
    rw [node.injEq]
theorem cmpL_facts : ∀ (a b : List T), cmpL a b = - cmpL b a ∧ (cmpL a b = 0 ↔ a = b) ∧ -1 ≤ cmpL a b ∧ cmpL a b ≤ 1
  | [], [] => by simp [cmpL]
  | [], _ :: _ => by simp [cmpL]
  | _ :: _, [] => by simp [cmpL]
  | a :: r, b :: q => by
    obtain ⟨h1, h2, h3, h4⟩ := cmp_facts a b
    obtain ⟨l1, l2, l3, l4⟩ := cmpL_facts r q
    simp only [cmpL]
    by_cases e : cmp a b = 0
    · rw [if_pos e, if_pos (by omega)]
      refine ⟨l1, ?_, l3, l4⟩
      rw [l2, h2.1 e]; simp
    · rw [if_neg e, if_neg (by omega)]
      refine ⟨h1, ⟨fun h => absurd h e, fun h => absurd (h2.2 (List.cons.inj h).1) e⟩, h3, h4⟩
end
mutual
theorem cmp_through : ∀ (a b c : T), cmp a b ≤ 0 → cmp b c ≤ 0 → cmp a c ≤ 0
  | node k n x ks, node k' n' x' ks', node k'' n'' x'' ks'' => by
    simp only [cmp]
    exact through3 compareInt_three compareInt_three byC_three k k' k'' n n' n'' x x' x'' ks ks' ks'' cmpL (cmpL_through ks ks' ks'')
theorem cmpL_through : ∀ (a b c : List T), cmpL a b ≤ 0 → cmpL b c ≤ 0 → cmpL a c ≤ 0
  | [], b, [] => by simp [cmpL]
  | [], b, _ :: _ => by simp [cmpL]
  | _ :: _, [], _ => by simp [cmpL]
  | _ :: _, b :: q, [] => by simp [cmpL]
  | a :: r, b :: q, c :: s => by
    have ih := cmpL_through r q s
    have t := cmp_through a b c
    obtain ⟨f1, f2, _, _⟩ := cmp_facts a b
    obtain ⟨g1, g2, _, _⟩ := cmp_facts b c
    obtain ⟨k1, k2, _, _⟩ := cmp_facts a c
    simp only [cmpL]
    intro h1 h2
    by_cases e1 : cmp a b = 0
    · have e1' := f2.1 e1
      subst e1'
      rw [if_pos e1] at h1
      by_cases e2 : cmp a c = 0
      · rw [if_pos e2] at h2 ⊢; exact ih h1 h2
      · rw [if_neg e2] at h2 ⊢; exact h2
    · rw [if_neg e1] at h1
      by_cases e2 : cmp b c = 0
      · have e2' := g2.1 e2
        subst e2'
        rw [if_neg e1]; exact h1
      · rw [if_neg e2] at h2
        have q := t h1 h2
        rw [if_neg]
        · exact q
        · intro e3
          have e3' := k2.1 e3
          subst e3'
          omega
end
theorem cmp_three : Three cmp where
  turn := fun a b => (cmp_facts a b).1
  zero := fun a b => (cmp_facts a b).2.1
  low := fun a b => (cmp_facts a b).2.2.1
  high := fun a b => (cmp_facts a b).2.2.2
  through := cmp_through
end T
end Go.Proofs.YtbpbkihcfdnphaaGreatDoor
/-
  Small laws on memory: what lay there has not turned; the newest blocks.
-/
namespace Go.Proofs.YtbpbkihcfdnphaaGreatDoor
open Go.RowKit

/-- Nothing that lay there has turned. -/
abbrev Ext (w w' : World) : Prop := Below w.heap.size w w'
theorem Ext.refl (w : World) : Ext w w := Below.refl _ w
theorem Ext.trans {a b c : World} (h : Ext a b) (k : Ext b c) : Ext a c := Below.trans h (k.mono h.size)
theorem Ext.alloc (w : World) (o : Obj) : Ext w (w.alloc o) := (Below.refl _ w).alloc (Nat.le_refl _) o
theorem lt_of_block {w : World} {b : Nat} {o : Obj} (h : w.heap[b]? = some o) : b < w.heap.size := (Array.getElem?_eq_some_iff.1 h).1
theorem Ext.block {w w' : World} (h : Ext w w') {b : Nat} {o : Obj} (hb : w.heap[b]? = some o) : w'.heap[b]? = some o := (Below.block h b (lt_of_block hb)).trans hb
theorem cell_of {w : World} {b i : Nat} {cs : Array Value} {t : TypeId} {m : Nat × Nat} {v : Value} (h : w.heap[b]? = some (.cells cs t m)) (hv : cs[i]? = some v) : w.cell? ⟨b, i, none⟩ = some v := by
  simp [World.cell?, h, hv]
theorem frozen_of {w : World} {b i : Nat} {cs : Array Value} {t : TypeId} (h : w.heap[b]? = some (.cells cs t)) : w.frozen? ⟨b, i, none⟩ = false := by
  simp [World.frozen?, h]

theorem blk0 (w : World) (o : Obj) : (w.alloc o).heap[w.heap.size]? = some o := by
  show (w.heap.push o)[w.heap.size]? = _
  simp
theorem blkS (w : World) (o : Obj) : (w.alloc o).heap.size = w.heap.size + 1 := World.size_alloc w o
theorem blkOld {w : World} {b : Nat} {o : Obj} (o' : Obj) (h : w.heap[b]? = some o) : (w.alloc o').heap[b]? = some o := (Ext.alloc w o').block h
theorem blk1 (w : World) (o o1 : Obj) : ((w.alloc o).alloc o1).heap[w.heap.size + 1]? = some o1 := by rw [← blkS w o]; exact blk0 _ _
theorem blk2 (w : World) (o o1 o2 : Obj) : (((w.alloc o).alloc o1).alloc o2).heap[w.heap.size + 1 + 1]? = some o2 := by rw [← blkS w o, ← blkS _ o1]; exact blk0 _ _
theorem blk3 (w : World) (o o1 o2 o3 : Obj) : ((((w.alloc o).alloc o1).alloc o2).alloc o3).heap[w.heap.size + 1 + 1 + 1]? = some o3 := by rw [← blkS w o, ← blkS _ o1, ← blkS _ o2]; exact blk0 _ _
theorem Ext.setCell {w w' : World} (h : Ext w w') {p : Addr} (hp : w.heap.size ≤ p.block) (v : Value) : Ext w (w'.setCell p v) := Below.setCell h hp v

theorem Ext.set0 {w w' : World} (h : Ext w w') (i : Nat) (v : Value) : Ext w (w'.setCell ⟨w.heap.size, i, none⟩ v) := Below.setCell h (Nat.le_refl _) v
theorem Ext.set1 {w w' : World} (h : Ext w w') (i : Nat) (v : Value) : Ext w (w'.setCell ⟨w.heap.size + 1, i, none⟩ v) := Below.setCell h (Nat.le_succ _) v
theorem Ext.set2 {w w' : World} (h : Ext w w') (i : Nat) (v : Value) : Ext w (w'.setCell ⟨w.heap.size + 1 + 1, i, none⟩ v) := Below.setCell h (Nat.le_trans (Nat.le_succ _) (Nat.le_succ _)) v
theorem Ext.drew {w w' : World} (h : Ext w w') : Ext w w'.drew := Below.drew h
theorem Ext.alloc2 (w : World) (o o1 : Obj) : Ext w ((w.alloc o).alloc o1) := (Ext.alloc _ _).trans (Ext.alloc _ _)
theorem Ext.alloc3 (w : World) (o o1 o2 : Obj) : Ext w (((w.alloc o).alloc o1).alloc o2) := (Ext.alloc2 _ _ _).trans (Ext.alloc _ _)
theorem Ext.more {w w' : World} (h : Ext w w') (o : Obj) : Ext w (w'.alloc o) := h.trans (Ext.alloc _ _)
theorem hid {p : Prop} (h : p) : Hid p := h
end Go.Proofs.YtbpbkihcfdnphaaGreatDoor
/-
  What a slice of ints or of texts reads as; rows that a call made itself.
-/
namespace Go.Proofs.YtbpbkihcfdnphaaGreatDoor
open Go.RowKit

/-- The slice v reads as vs, a cell each. -/
def Vals (w : World) (v : Value) (vs : List Value) : Prop :=
  (v = .slice none 0 0 ∧ vs = []) ∨ ∃ g off cap, v = .slice (some ⟨g, off, none⟩) vs.length cap ∧ ∀ (j : Nat) (u : Value), vs[j]? = some u → w.cell? ⟨g, off + j, none⟩ = some u
/-- The slice v of ints reads as xs. -/
def Ints (w : World) (v : Value) (xs : List Int) : Prop :=
  ((∃ a c, v = .slice a 0 c) ∧ xs = []) ∨ ∃ g off cap, v = .slice (some ⟨g, off, none⟩) xs.length cap ∧ ∀ (j : Nat) (u : Int), xs[j]? = some u → w.cell? ⟨g, off + j, none⟩ = some (.int .i64 u)
theorem Ints.nil (w : World) (a : Option Addr) (c : Nat) : Ints w (.slice a 0 c) [] := .inl ⟨⟨a, c, rfl⟩, rfl⟩
theorem Ints.shape {w : World} {v : Value} {xs : List Int} (h : Ints w v xs) : ∃ a c, v = .slice a xs.length c := by
  rcases h with ⟨⟨a, c, rfl⟩, rfl⟩ | ⟨g, off, cap, rfl, _⟩
  · exact ⟨_, _, rfl⟩
  · exact ⟨_, _, rfl⟩
theorem lt_of_cell {w : World} {a : Addr} {v : Value} (h : w.cell? a = some v) : a.block < w.heap.size := by
  rcases Nat.lt_or_ge a.block w.heap.size with h' | h'
  · exact h'
  · simp [World.cell?, Array.getElem?_eq_none h'] at h
theorem Ints.later {w w' : World} {v : Value} {xs : List Int} (h : Ints w v xs) (hx : Ext w w') : Ints w' v xs := by
  rcases h with h | ⟨g, off, cap, rfl, hc⟩
  · exact .inl h
  · exact .inr ⟨g, off, cap, rfl, fun j u hu => (Below.cell hx (lt_of_cell (hc j u hu))).trans (hc j u hu)⟩
theorem Vals.later {w w' : World} {v : Value} {xs : List Value} (h : Vals w v xs) (hx : Ext w w') : Vals w' v xs := by
  rcases h with h | ⟨g, off, cap, rfl, hc⟩
  · exact .inl h
  · exact .inr ⟨g, off, cap, rfl, fun j u hu => (Below.cell hx (lt_of_cell (hc j u hu))).trans (hc j u hu)⟩
theorem Vals.own {w : World} {base : Nat} {e : TypeId} {v : Value} {xs : List Value} {n : Nat} (hn : n = xs.length) (h : w.ownsRow base e 1 v n xs) : Vals w v xs := by
  subst hn
  obtain ⟨hl, hr⟩ := h
  rcases hr with ⟨rfl, h0⟩ | ⟨g, cap, cur, rfl, _, hb, h1, h2, h3, h4⟩
  · exact .inl ⟨rfl, List.eq_nil_of_length_eq_zero h0⟩
  · refine .inr ⟨g, 0, cap, rfl, fun j u hu => ?_⟩
    have hj : j < xs.length := (List.getElem?_eq_some_iff.1 hu).1
    have e : cur[j]? = some u := by
      have : (cur.toList.take (xs.length * 1))[j]? = some u := by rw [h4]; exact hu
      rw [List.getElem?_take_of_lt (by omega)] at this
      simpa using this
    rw [Nat.zero_add]
    exact cell_of hb e
theorem Vals.ints {w : World} {v : Value} {xs : List Int} (h : Vals w v (xs.map (Value.int .i64))) : Ints w v xs := by
  rcases h with ⟨rfl, h⟩ | ⟨g, off, cap, rfl, hc⟩
  · exact .inl ⟨⟨none, 0, rfl⟩, List.map_eq_nil_iff.1 h⟩
  · exact .inr ⟨g, off, cap, by simp, fun j u hu => hc j _ (by rw [List.getElem?_map, hu]; rfl)⟩
theorem Ints.own {w : World} {base : Nat} {v : Value} {xs : List Int} {n : Nat} (hn : n = xs.length) (h : w.ownsRow base 3 1 v n (xs.map (Value.int .i64))) : Ints w v xs :=
  Vals.ints (Vals.own (by rw [hn, List.length_map]) h)
theorem Ints.cell {w : World} {a : Option Addr} {n c : Nat} {xs : List Int} (h : Ints w (.slice a n c) xs) : n = xs.length ∧ ∀ (j : Nat) (hj : j < xs.length), ∃ g off, a = some ⟨g, off, none⟩ ∧ w.cell? ⟨g, off + j, none⟩ = some (.int .i64 xs[j]) := by
  rcases h with ⟨⟨a', c', h⟩, rfl⟩ | ⟨g, off, cap, h, hc⟩
  · cases h; exact ⟨rfl, fun j hj => absurd hj (Nat.not_lt_zero _)⟩
  · cases h; exact ⟨rfl, fun j hj => ⟨g, off, rfl, hc j _ (List.getElem?_eq_getElem hj)⟩⟩
theorem intInfo : (Tryz.prog.info? 3).map (fun i => (i.zero, i.size, i.bytes)) = some (some (.int .i64 0), 1, 8) := by kernel_rfl
theorem strInfo : (Tryz.prog.info? 9).map (fun i => (i.zero, i.size, i.bytes)) = some (some (.string ⟨#[]⟩), 1, 16) := by kernel_rfl
theorem row_mono {w : World} {base base' : Nat} {e : TypeId} {v : Value} {n : Nat} {xs : List Value} (h : w.ownsRow base e 1 v n xs) (hb : base' ≤ base) : w.ownsRow base' e 1 v n xs := by
  refine ⟨h.1, ?_⟩
  rcases h.2 with h | ⟨g, cap, cur, h1, h2, h3⟩
  · exact .inl h
  · exact .inr ⟨g, cap, cur, h1, Nat.le_trans hb h2, h3⟩
theorem row_set {w : World} {base T i : Nat} {e : TypeId} {v x : Value} {n : Nat} {xs : List Value} (h : w.ownsRow base e 1 v n xs) (hT : T < base) : (w.setCell ⟨T, i, none⟩ x).ownsRow base e 1 v n xs := by
  refine ⟨h.1, ?_⟩
  rcases h.2 with h | ⟨g, cap, cur, h1, h2, h3, h4⟩
  · exact .inl h
  · exact .inr ⟨g, cap, cur, h1, h2, (Below.heap_setCell w ⟨T, i, none⟩ x g (fun e => by have e' : g = T := e; omega)).trans h3, h4⟩
theorem row_ext {w w' : World} {base : Nat} {e : TypeId} {v : Value} {n : Nat} {xs : List Value} (h : w.ownsRow base e 1 v n xs) (hx : Below w.heap.size w w') : w'.ownsRow base e 1 v n xs := by
  refine ⟨h.1, ?_⟩
  rcases h.2 with h | ⟨g, cap, cur, h1, h2, h3, h4⟩
  · exact .inl h
  · exact .inr ⟨g, cap, cur, h1, h2, (hx.block g (lt_of_block h3)).trans h3, h4⟩
theorem ownsRow_slice {w : World} {base : Nat} {e : TypeId} {v : Value} {n : Nat} {xs : List Value} (h : w.ownsRow base e 1 v n xs) : ∃ a c, v = .slice a n c := by
  rcases h.2 with ⟨rfl, h0⟩ | ⟨g, cap, cur, rfl, _⟩
  · subst h0; exact ⟨_, _, rfl⟩
  · exact ⟨_, _, rfl⟩
theorem ret_int {k : IntKind} {a b : Int} (h : a = b) : Ending.returned (.int k a) = .returned (.int k b) := by rw [h]
theorem ret_bool {a b : Bool} (h : a = b) : Ending.returned (.bool a) = .returned (.bool b) := by rw [h]
theorem Ext.drewN {w w' : World} (h : Ext w w') (n : Nat) : Ext w (w'.drewN n) := below_drewN h n
end Go.Proofs.YtbpbkihcfdnphaaGreatDoor
/-
  Texts that are equal.
-/
namespace Go.Proofs.YtbpbkihcfdnphaaGreatDoor
open Go.RowKit
theorem toList_inj {a b : ByteArray} (e : a.toList = b.toList) : a = b := by
  rw [ByteArray.toList_eq, ByteArray.toList_eq] at e
  exact ByteArray.ext (Array.toList_inj.1 e)
theorem data_inj {a b : ByteArray} (e : a.data.toList = b.data.toList) : a = b := ByteArray.ext (Array.toList_inj.1 e)
end Go.Proofs.YtbpbkihcfdnphaaGreatDoor
/-
  What a plain value in memory reads as; what a step keeps.
-/
namespace Go.Proofs.YtbpbkihcfdnphaaGreatDoor
open Go.RowKit

/-- Of the blocks that lay there those of K lie as they lay. -/
structure Kp (K : Nat → Prop) (w w' : World) : Prop where
  os : w'.os = w.os
  tape : w'.tape = w.tape
  output : w'.output = w.output
  size : w.heap.size ≤ w'.heap.size
  block : ∀ k, k < w.heap.size → K k → w'.heap[k]? = w.heap[k]?
theorem Kp.refl (K : Nat → Prop) (w : World) : Kp K w w := ⟨rfl, rfl, rfl, Nat.le_refl _, fun _ _ _ => rfl⟩
theorem Kp.trans {K : Nat → Prop} {a b c : World} (h : Kp K a b) (k : Kp K b c) : Kp K a c :=
  ⟨k.os.trans h.os, k.tape.trans h.tape, k.output.trans h.output, Nat.le_trans h.size k.size, fun i hi hk => (k.block i (Nat.lt_of_lt_of_le hi h.size) hk).trans (h.block i hi hk)⟩
theorem Kp.trans' {K L : Nat → Prop} {n : Nat} {a b c : World} (h : Kp K a b) (k : Kp (fun q => q < n ∨ L q) b c) (hn : a.heap.size ≤ n := by first | exact Nat.le_refl _ | omega) : Kp K a c :=
  ⟨k.os.trans h.os, k.tape.trans h.tape, k.output.trans h.output, Nat.le_trans h.size k.size, fun i hi hk => (k.block i (Nat.lt_of_lt_of_le hi h.size) (.inl (Nat.lt_of_lt_of_le hi hn))).trans (h.block i hi hk)⟩
theorem Kp.mono {K L : Nat → Prop} {a b : World} (h : Kp K a b) (hl : ∀ k, k < a.heap.size → L k → K k) : Kp L a b :=
  ⟨h.os, h.tape, h.output, h.size, fun i hi hk => h.block i hi (hl i hi hk)⟩
theorem Ext.kp {a b : World} (h : Ext a b) (K : Nat → Prop) : Kp K a b := ⟨h.os, h.tape, h.output, h.size, fun i hi _ => Below.block h i hi⟩
theorem Kp.ext {a b : World} {K : Nat → Prop} (h : Kp K a b) (hk : ∀ k, k < a.heap.size → K k) : Ext a b := ⟨h.os, h.tape, h.output, h.size, fun i hi => h.block i hi (hk i hi)⟩
theorem Kp.set {K : Nat → Prop} (w : World) (b i : Nat) (v : Value) (hb : ¬ K b) : Kp K w (w.setCell ⟨b, i, none⟩ v) :=
  ⟨rfl, rfl, rfl, by simp [World.setCell], fun k hk hK => Below.heap_setCell w ⟨b, i, none⟩ v k (fun e => hb (by have e' : k = b := e; rw [← e']; exact hK))⟩
theorem Kp.drew {K : Nat → Prop} {a b : World} (h : Kp K a b) : Kp K a b.drew := h.trans ((Ext.refl b).drew.kp K)
theorem Kp.drewN {K : Nat → Prop} {a b : World} (h : Kp K a b) (n : Nat) : Kp K a (b.drewN n) := h.trans (((Ext.refl b).drewN n).kp K)
theorem Kp.alloc {K : Nat → Prop} {a b : World} (h : Kp K a b) (o : Obj) : Kp K a (b.alloc o) := h.trans ((Ext.alloc b o).kp K)
theorem Kp.block' {K : Nat → Prop} {a b : World} (h : Kp K a b) {k : Nat} {o : Obj} (hb : a.heap[k]? = some o) (hk : K k) : b.heap[k]? = some o := (h.block k (lt_of_block hb) hk).trans hb
theorem Kp.cell {K : Nat → Prop} {a b : World} (h : Kp K a b) {p : Addr} {v : Value} (hc : a.cell? p = some v) (hk : K p.block) : b.cell? p = some v := by
  have e := h.block p.block (lt_of_cell hc) hk
  rw [← hc]
  unfold World.cell?
  rw [e]
theorem set_at {w : World} {b : Nat} {cs : Array Value} {t : TypeId} (h : w.heap[b]? = some (.cells cs t)) (i : Nat) (v : Value) : (w.setCell ⟨b, i, none⟩ v).heap[b]? = some (.cells (cs.setIfInBounds i v) t) := by
  simp only [World.setCell]
  rw [Array.getElem?_modify, if_pos rfl, h]
  simp
theorem set_other {w : World} {b b' i : Nat} {o : Obj} (h : w.heap[b]? = some o) (hne : b ≠ b') (v : Value) : (w.setCell ⟨b', i, none⟩ v).heap[b]? = some o :=
  (Below.heap_setCell w ⟨b', i, none⟩ v b hne).trans h
theorem blkN {w : World} {o : Obj} {n : Nat} (h : w.heap.size = n) : (w.alloc o).heap[n]? = some o := h ▸ blk0 w o
theorem size_set (w : World) (p : Addr) (v : Value) : (w.setCell p v).heap.size = w.heap.size := by simp [World.setCell]
theorem Kp.extOf {w w1 w' : World} {b : Nat} (h : Ext w w1) (hk : Kp (· ≠ b) w1 w') (hb : w.heap.size ≤ b) : Ext w w' :=
  ⟨hk.os.trans h.os, hk.tape.trans h.tape, hk.output.trans h.output, Nat.le_trans h.size hk.size, fun i hi => (hk.block i (Nat.lt_of_lt_of_le hi h.size) (fun e => by have e' : i = b := e; omega)).trans (Below.block h i hi)⟩
/-- Four cells written. -/
def set4A (cs : Array Value) (i : Nat) (v0 v1 v2 v3 : Value) : Array Value := (((cs.setIfInBounds i v0).setIfInBounds (i + 1) v1).setIfInBounds (i + 2) v2).setIfInBounds (i + 3) v3
theorem set4A_size (cs : Array Value) (i : Nat) (v0 v1 v2 v3 : Value) : (set4A cs i v0 v1 v2 v3).size = cs.size := by simp [set4A]
theorem set4A_get {cs : Array Value} {i : Nat} (v0 v1 v2 v3 : Value) (h : i + 3 < cs.size) : (set4A cs i v0 v1 v2 v3)[i]? = some v0 ∧ (set4A cs i v0 v1 v2 v3)[i + 1]? = some v1 ∧ (set4A cs i v0 v1 v2 v3)[i + 2]? = some v2 ∧ (set4A cs i v0 v1 v2 v3)[i + 3]? = some v3 := by
  refine ⟨?_, ?_, ?_, ?_⟩ <;> simp [set4A, Array.getElem?_setIfInBounds] <;> omega
theorem set4A_other {cs : Array Value} {i j : Nat} (v0 v1 v2 v3 : Value) (h : j < i ∨ i + 3 < j) : (set4A cs i v0 v1 v2 v3)[j]? = cs[j]? := by
  have h1 : ¬ i = j := by omega
  have h2 : ¬ i + 1 = j := by omega
  have h3 : ¬ i + 2 = j := by omega
  have h4 : ¬ i + 3 = j := by omega
  simp [set4A, h1, h2, h3, h4]
theorem set4_block {w : World} {g : Nat} {cs : Array Value} {t : TypeId} (h : w.heap[g]? = some (.cells cs t)) (i : Nat) (v0 v1 v2 v3 : Value) :
    ((((w.setCell ⟨g, i, none⟩ v0).setCell ⟨g, i + 1, none⟩ v1).setCell ⟨g, i + 2, none⟩ v2).setCell ⟨g, i + 3, none⟩ v3).heap[g]? = some (.cells (set4A cs i v0 v1 v2 v3) t) := set_at (set_at (set_at (set_at h _ _) _ _) _ _) _ _
theorem Kp.set4 (w : World) (g i : Nat) (v0 v1 v2 v3 : Value) : Kp (· ≠ g) w ((((w.setCell ⟨g, i, none⟩ v0).setCell ⟨g, i + 1, none⟩ v1).setCell ⟨g, i + 2, none⟩ v2).setCell ⟨g, i + 3, none⟩ v3) :=
  (((Kp.set w g i v0 (fun h => h rfl)).trans (Kp.set _ g _ v1 (fun h => h rfl))).trans (Kp.set _ g _ v2 (fun h => h rfl))).trans (Kp.set _ g _ v3 (fun h => h rfl))
/-- Four cells in a row. -/
def Four (w : World) (g i : Nat) (v0 v1 v2 v3 : Value) : Prop :=
  w.cell? ⟨g, i, none⟩ = some v0 ∧ w.cell? ⟨g, i + 1, none⟩ = some v1 ∧ w.cell? ⟨g, i + 2, none⟩ = some v2 ∧ w.cell? ⟨g, i + 3, none⟩ = some v3
theorem Four.keep {K : Nat → Prop} {w w' : World} {g i : Nat} {v0 v1 v2 v3 : Value} (h : Four w g i v0 v1 v2 v3) (hk : Kp K w w') (hg : K g) : Four w' g i v0 v1 v2 v3 :=
  ⟨hk.cell h.1 hg, hk.cell h.2.1 hg, hk.cell h.2.2.1 hg, hk.cell h.2.2.2 hg⟩
/-- What the plain value v reads as, within d levels; its lists lie in blocks of K. -/
def Rd (K : Nat → Prop) (w : World) : Nat → Value → T → Prop
  | 0, _, _ => False
  | d + 1, v, .node k n x ks => ∃ a c, v = .agg #[.int .i64 k, .int .i64 n, .string x, .slice a ks.length c] ∧ x.size ≤ 140737488351232 ∧ ks.length * 56 ≤ 140737488351232 ∧
      (ks = [] ∨ ∃ g off, a = some ⟨g, off, none⟩ ∧ K g ∧ ∀ j, (h : j < ks.length) → ∃ u0 u1 u2 u3, Four w g (off + j * 4) u0 u1 u2 u3 ∧ Rd K w d (.agg #[u0, u1, u2, u3]) ks[j])
theorem Rd.shape {K : Nat → Prop} {w : World} {d : Nat} {u0 u1 u2 u3 : Value} {t : T} (h : Rd K w d (.agg #[u0, u1, u2, u3]) t) : ∃ k n x a c, u0 = .int .i64 k ∧ u1 = .int .i64 n ∧ u2 = .string x ∧ u3 = .slice a t.kids.length c := by
  obtain ⟨k, n, x, ks⟩ := t
  cases d with
  | zero => exact h.elim
  | succ d =>
    obtain ⟨a, c, h, _⟩ := h
    simp only [Value.agg.injEq, Array.mk.injEq, List.cons.injEq, and_true] at h
    exact ⟨k, n, x, a, c, h.1, h.2.1, h.2.2.1, h.2.2.2⟩
theorem Rd.agg {K : Nat → Prop} {w : World} {d : Nat} {v : Value} {t : T} (h : Rd K w d v t) : ∃ u0 u1 u2 u3, v = .agg #[u0, u1, u2, u3] := by
  obtain ⟨k, n, x, ks⟩ := t
  cases d with
  | zero => exact h.elim
  | succ d =>
    obtain ⟨a, c, rfl, _⟩ := h
    exact ⟨_, _, _, _, rfl⟩
theorem Rd.keep {K : Nat → Prop} {w w' : World} (hk : Kp K w w') : ∀ {d : Nat} {v : Value} {t : T}, Rd K w d v t → Rd K w' d v t
  | 0, _, _, h => h
  | d + 1, v, .node k n x ks, ⟨a, c, h1, h3, h4, h5⟩ => ⟨a, c, h1, h3, h4, h5.imp id fun ⟨g, off, ha, hg, hc⟩ => ⟨g, off, ha, hg, fun j hj => by
      obtain ⟨u0, u1, u2, u3, hf, hr⟩ := hc j hj
      exact ⟨u0, u1, u2, u3, hf.keep hk hg, Rd.keep hk hr⟩⟩⟩
theorem Rd.mono {K L : Nat → Prop} {w : World} (hl : ∀ k, k < w.heap.size → K k → L k) : ∀ {d : Nat} {v : Value} {t : T}, Rd K w d v t → Rd L w d v t
  | 0, _, _, h => h
  | d + 1, v, .node k n x ks, ⟨a, c, h1, h3, h4, h5⟩ => ⟨a, c, h1, h3, h4, by
      rcases h5 with h5 | ⟨g, off, ha, hg, hc⟩
      · exact .inl h5
      · by_cases h0 : 0 < ks.length
        · refine .inr ⟨g, off, ha, ?_, fun j hj => ?_⟩
          · obtain ⟨u0, u1, u2, u3, hf, _⟩ := hc 0 h0
            exact hl g (lt_of_cell hf.1) hg
          · obtain ⟨u0, u1, u2, u3, hf, hr⟩ := hc j hj
            exact ⟨u0, u1, u2, u3, hf, Rd.mono hl hr⟩
        · exact .inl (List.eq_nil_of_length_eq_zero (by omega))⟩
theorem Rd.low {K : Nat → Prop} {w : World} {d : Nat} {v : Value} {t : T} (h : Rd K w d v t) : Rd (· < w.heap.size) w d v t := h.mono (fun _ hk _ => hk)
theorem Rd.later {K : Nat → Prop} {w w' : World} {d : Nat} {v : Value} {t : T} (h : Rd K w d v t) (hx : Ext w w') : Rd K w' d v t := h.keep (hx.kp K)
end Go.Proofs.YtbpbkihcfdnphaaGreatDoor
