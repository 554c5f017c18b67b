/-
  Plain mathematics, of no program: comparing lists sign by sign is an order; places are compared by their function's name, then by their path.
-/
import Derived.Lib.Bytealg
import Derived.Lib.Small
namespace Go.Proofs.YtaafcmmmkalgjaaGreatDoor
open Go

/-- Three ways: an order told by -1, 0, 1. -/
structure Three {α : Type} (c : α → α → Int) : Prop where
  turn : ∀ a b, c a b = - c b a
  zero : ∀ a b, c a b = 0 ↔ a = b
  low : ∀ a b, -1 ≤ c a b
  high : ∀ a b, c a b ≤ 1
  through : ∀ a b d, c a b ≤ 0 → c b d ≤ 0 → c a d ≤ 0

def lexC {α : Type} (c : α → α → Int) : List α → List α → Int
  | [], [] => 0
  | [], _ :: _ => -1
  | _ :: _, [] => 1
  | a :: as, b :: bs => if c a b = 0 then lexC c as bs else c a b

theorem lexC_three {α : Type} {c : α → α → Int} (h : Three c) : Three (lexC c) where
  turn := by
    intro a
    induction a with
    | nil => intro b; cases b <;> rfl
    | cons x a ih =>
      intro b
      cases b with
      | nil => rfl
      | cons y b =>
        simp only [lexC]
        have := h.turn x y
        by_cases e : c x y = 0
        · rw [if_pos e, if_pos (by omega)]; exact ih b
        · rw [if_neg e, if_neg (by omega)]; exact this
  zero := by
    intro a
    induction a with
    | nil => intro b; cases b <;> simp [lexC]
    | cons x a ih =>
      intro b
      cases b with
      | nil => simp [lexC]
      | cons y b =>
        simp only [lexC]
        have := h.zero x y
        by_cases e : c x y = 0
        · rw [if_pos e, ih b, this.1 e]; simp
        · rw [if_neg e]
          constructor
          · intro h0; exact absurd h0 e
          · intro h0; exact absurd (this.2 (List.cons.inj h0).1) e
  low := by
    intro a
    induction a with
    | nil => intro b; cases b <;> simp [lexC]
    | cons x a ih =>
      intro b
      cases b with
      | nil => simp [lexC]
      | cons y b =>
        simp only [lexC]
        split
        · exact ih b
        · exact h.low x y
  high := by
    intro a
    induction a with
    | nil => intro b; cases b <;> simp [lexC]
    | cons x a ih =>
      intro b
      cases b with
      | nil => simp [lexC]
      | cons y b =>
        simp only [lexC]
        split
        · exact ih b
        · exact h.high x y
  through := by
    intro a
    induction a with
    | nil => intro b d; cases b <;> cases d <;> simp [lexC]
    | cons x a ih =>
      intro b d
      cases b with
      | nil => simp [lexC]
      | cons y b =>
        cases d with
        | nil => simp [lexC]
        | cons z d =>
          simp only [lexC]
          intro h1 h2
          have t := h.through x y z
          have exy := h.zero x y
          have eyz := h.zero y z
          have exz := h.zero x z
          have uxy := h.turn x y
          have tz := h.through y z x
          have ux := h.turn x z
          by_cases e1 : c x y = 0
          · have := exy.1 e1; subst this
            rw [if_pos e1] at h1
            by_cases e2 : c x z = 0
            · rw [if_pos e2] at h2 ⊢; exact ih b d h1 h2
            · rw [if_neg e2] at h2 ⊢; exact h2
          · rw [if_neg e1] at h1
            by_cases e2 : c y z = 0
            · have := eyz.1 e2; subst this
              rw [if_neg e1]; exact h1
            · rw [if_neg e2] at h2
              have q := t h1 h2
              rw [if_neg ?_]
              · exact q
              · intro e3
                have := exz.1 e3; subst this
                omega

theorem compareInt_three : Three Lib.compareInt where
  turn := by intro a b; unfold Lib.compareInt; split <;> split <;> (try split) <;> omega
  zero := by intro a b; unfold Lib.compareInt; split <;> (try split) <;> omega
  low := by intro a b; unfold Lib.compareInt; split <;> (try split) <;> omega
  high := by intro a b; unfold Lib.compareInt; split <;> (try split) <;> omega
  through := by
    intro a b d
    unfold Lib.compareInt
    intro h1 h2
    split at h1 <;> split at h2 <;> (try split at h1) <;> (try split at h2) <;> split <;> (try split) <;> omega

def byteC (a b : UInt8) : Int := Lib.compareInt a.toNat b.toNat
theorem byteC_three : Three byteC where
  turn := fun a b => compareInt_three.turn _ _
  zero := fun a b => by
    unfold byteC
    rw [compareInt_three.zero]
    constructor
    · intro h; exact UInt8.toNat_inj.1 (by omega)
    · intro h; rw [h]
  low := fun a b => compareInt_three.low _ _
  high := fun a b => compareInt_three.high _ _
  through := fun a b d => compareInt_three.through _ _ _

theorem compareBytes_lex : ∀ a b : List UInt8, Lib.compareBytes a b = lexC byteC a b
  | [], [] => rfl
  | [], _ :: _ => rfl
  | _ :: _, [] => rfl
  | x :: a, y :: b => by
    have ih := compareBytes_lex a b
    have hv : byteC x y = if x.toNat < y.toNat then -1 else if y.toNat < x.toNat then 1 else 0 := by
      unfold byteC Lib.compareInt
      split <;> split <;> (try split) <;> (try split) <;> omega
    simp only [Lib.compareBytes, lexC, UInt8.lt_iff_toNat_lt]
    by_cases h1 : x.toNat < y.toNat
    · rw [if_pos h1] at hv ⊢
      rw [hv, if_neg (by decide)]
    · rw [if_neg h1] at hv ⊢
      by_cases h2 : y.toNat < x.toNat
      · rw [if_pos h2] at hv ⊢
        rw [hv, if_neg (by decide)]
      · rw [if_neg h2] at hv ⊢
        rw [hv, if_pos rfl, ih]

/-- Which place is ahead. -/
def cmpP (a b : List UInt8 × List Int) : Int := if Lib.compareBytes a.1 b.1 = 0 then lexC Lib.compareInt a.2 b.2 else Lib.compareBytes a.1 b.1
theorem cmpP_three : Three cmpP where
  turn := fun a b => by
    unfold cmpP
    simp only [compareBytes_lex]
    have := (lexC_three byteC_three).turn a.1 b.1
    by_cases e : lexC byteC a.1 b.1 = 0
    · rw [if_pos e, if_pos (by omega)]; exact (lexC_three compareInt_three).turn _ _
    · rw [if_neg e, if_neg (by omega)]; exact this
  zero := fun a b => by
    unfold cmpP
    simp only [compareBytes_lex]
    have h1 := (lexC_three byteC_three).zero a.1 b.1
    have h2 := (lexC_three compareInt_three).zero a.2 b.2
    by_cases e : lexC byteC a.1 b.1 = 0
    · rw [if_pos e, h2]
      constructor
      · intro h; exact Prod.ext (h1.1 e) h
      · intro h; rw [h]
    · rw [if_neg e]
      constructor
      · intro h; exact absurd h e
      · intro h; exact absurd (h1.2 (by rw [h])) e
  low := fun a b => by
    unfold cmpP
    simp only [compareBytes_lex]
    split
    · exact (lexC_three compareInt_three).low _ _
    · exact (lexC_three byteC_three).low _ _
  high := fun a b => by
    unfold cmpP
    simp only [compareBytes_lex]
    split
    · exact (lexC_three compareInt_three).high _ _
    · exact (lexC_three byteC_three).high _ _
  through := fun a b d => by
    unfold cmpP
    simp only [compareBytes_lex]
    have z1 := (lexC_three byteC_three).zero a.1 b.1
    have z2 := (lexC_three byteC_three).zero b.1 d.1
    have z3 := (lexC_three byteC_three).zero a.1 d.1
    have t1 := (lexC_three byteC_three).turn a.1 b.1
    have th := (lexC_three byteC_three).through a.1 b.1 d.1
    have tp := (lexC_three compareInt_three).through a.2 b.2 d.2
    intro h1 h2
    by_cases e1 : lexC byteC a.1 b.1 = 0
    · rw [if_pos e1] at h1
      have e := z1.1 e1
      rw [e]
      rw [e] at z1
      by_cases e2 : lexC byteC b.1 d.1 = 0
      · rw [if_pos e2] at h2 ⊢; exact tp h1 h2
      · rw [if_neg e2] at h2 ⊢; exact h2
    · rw [if_neg e1] at h1
      by_cases e2 : lexC byteC b.1 d.1 = 0
      · rw [← z2.1 e2, if_neg e1]; exact h1
      · rw [if_neg e2] at h2
        have q := th h1 h2
        rw [if_neg ?_]
        · exact q
        · intro e3
          have e := z3.1 e3
          have t2 := (lexC_three byteC_three).turn b.1 d.1
          rw [← e] at h2 e2 t2
          omega

theorem lexC_snoc (xs : List Int) (k : Int) : lexC Lib.compareInt xs (xs ++ [k]) = -1 := by
  induction xs with
  | nil => rfl
  | cons x xs ih =>
    show (if Lib.compareInt x x = 0 then _ else _) = _
    rw [if_pos ((compareInt_three.zero x x).2 rfl)]
    exact ih
theorem cmpP_snoc (f : List UInt8) (xs : List Int) (k : Int) : cmpP (f, xs) (f, xs ++ [k]) = -1 := by
  unfold cmpP
  rw [if_pos (by rw [compareBytes_lex]; exact ((lexC_three byteC_three).zero f f).2 rfl)]
  exact lexC_snoc xs k
end Go.Proofs.YtaafcmmmkalgjaaGreatDoor
/-
  Plain values, by data: how great, how deep, which of them may be; their order.
-/
namespace Go.Proofs.YtaafcmmmkalgjaaGreatDoor

/-- A plain value. -/
inductive T where
  | node (k : Int) (n : Int) (x : ByteArray) (kids : List T)
namespace T
def kids : T → List T | node _ _ _ ks => ks
def kind : T → Int | node k _ _ _ => k
def num : T → Int | node _ n _ _ => n
def text : T → ByteArray | node _ _ x _ => x
mutual
def size : T → Nat | node _ _ x ks => 1 + x.size + sizeL ks
def sizeL : List T → Nat | [] => 0 | t :: r => size t + sizeL r
end

mutual
def deep : T → Nat | node k _ _ ks => if k = 5 then 1 + deepL ks else 0
def deepL : List T → Nat | [] => 0 | t :: r => max (deep t) (deepL r)
end
/-- Of one of the five kinds, nothing in the fields that it gives no meaning (its list's own aside). -/
def wfP (k n : Int) (s l : Nat) : Prop := (k = 1 ∧ n = 0 ∧ s = 0 ∧ l = 0) ∨ (k = 2 ∧ (n = 0 ∨ n = 1) ∧ s = 0 ∧ l = 0) ∨ (k = 3 ∧ s = 0 ∧ l = 0) ∨ (k = 4 ∧ n = 0 ∧ l = 0) ∨ (k = 5 ∧ n = 0 ∧ s = 0)
instance (k n : Int) (s l : Nat) : Decidable (wfP k n s l) := by unfold wfP; exact inferInstance
def wf : T → Prop
  | node k n x ks => wfP k n x.size ks.length
instance (t : T) : Decidable (wf t) := by obtain ⟨k, n, x, ks⟩ := t; unfold wf; exact inferInstance
mutual
def good : T → Prop | node k n x ks => wf (node k n x ks) ∧ goodL ks
def goodL : List T → Prop | [] => True | t :: r => good t ∧ goodL r
end
mutual
def goodDec : (t : T) → Decidable (good t)
  | node k n x ks => by unfold good; have := goodLDec ks; exact inferInstance
def goodLDec : (l : List T) → Decidable (goodL l)
  | [] => by unfold goodL; exact inferInstance
  | t :: r => by unfold goodL; have := goodDec t; have := goodLDec r; exact inferInstance
end
instance (t : T) : Decidable (good t) := goodDec t
instance (l : List T) : Decidable (goodL l) := goodLDec l
/-- Whether a value may be, with what is left and with so many lists within one another. -/
def ok (left nest : Nat) (t : T) : Prop := t.good ∧ t.size ≤ left ∧ t.deep ≤ nest
instance (left nest : Nat) (t : T) : Decidable (ok left nest t) := by unfold ok; exact inferInstance
def may (t : T) : Prop := ok 65536 64 t
instance (t : T) : Decidable (may t) := by unfold may; exact inferInstance
theorem size_pos (t : T) : 1 ≤ t.size := by cases t; simp only [size]; omega
theorem sizeL_append (a b : List T) : sizeL (a ++ b) = sizeL a + sizeL b := by
  induction a with
  | nil => simp [sizeL]
  | cons x r ih => simp only [List.cons_append, sizeL, ih]; omega
theorem deepL_append (a b : List T) : deepL (a ++ b) = max (deepL a) (deepL b) := by
  induction a with
  | nil => simp [deepL]
  | cons x r ih => simp only [List.cons_append, deepL, ih]; omega
theorem goodL_append (a b : List T) : goodL (a ++ b) ↔ goodL a ∧ goodL b := by
  induction a with
  | nil => simp [goodL]
  | cons x r ih => simp only [List.cons_append, goodL, ih, and_assoc]
theorem sizeL_len (a : List T) : a.length ≤ sizeL a := by
  induction a with
  | nil => simp [sizeL]
  | cons x r ih => have := size_pos x; simp only [sizeL, List.length_cons]; omega
theorem take_succ' {α : Type} (l : List α) (i : Nat) (h : i < l.length) : l.take (i + 1) = l.take i ++ [l[i]] := by
  rw [List.take_add_one, List.getElem?_eq_getElem h]; rfl
theorem sizeL_take (l : List T) (i : Nat) (h : i < l.length) : sizeL (l.take (i + 1)) = sizeL (l.take i) + size l[i] := by
  rw [take_succ' l i h, sizeL_append]; simp [sizeL]
theorem deepL_take (l : List T) (i : Nat) (h : i < l.length) : deepL (l.take (i + 1)) = max (deepL (l.take i)) (deep l[i]) := by
  rw [take_succ' l i h, deepL_append]; simp [deepL]
theorem goodL_take (l : List T) (i : Nat) (h : i < l.length) : goodL (l.take (i + 1)) ↔ goodL (l.take i) ∧ good l[i] := by
  rw [take_succ' l i h, goodL_append]; simp [goodL]
theorem sizeL_split (l : List T) (i : Nat) : sizeL l = sizeL (l.take i) + sizeL (l.drop i) := by rw [← sizeL_append, List.take_append_drop]
theorem deepL_split (l : List T) (i : Nat) : deepL l = max (deepL (l.take i)) (deepL (l.drop i)) := by rw [← deepL_append, List.take_append_drop]
theorem goodL_split (l : List T) (i : Nat) : goodL l ↔ goodL (l.take i) ∧ goodL (l.drop i) := by rw [← goodL_append, List.take_append_drop]
theorem goodL_mem {l : List T} (h : goodL l) {u : T} (hu : u ∈ l) : good u := by
  induction l with
  | nil => cases hu
  | cons x r ih =>
    rcases List.mem_cons.1 hu with rfl | hu
    · exact h.1
    · exact ih h.2 hu
theorem sizeL_mem {u : T} {l : List T} (h : u ∈ l) : size u ≤ sizeL l := by
  induction l with
  | nil => cases h
  | cons x r ih =>
    simp only [sizeL]
    rcases List.mem_cons.1 h with rfl | h
    · omega
    · have := ih h; omega
theorem deepL_mem {u : T} {l : List T} (h : u ∈ l) : deep u ≤ deepL l := by
  induction l with
  | nil => cases h
  | cons x r ih =>
    simp only [deepL]
    rcases List.mem_cons.1 h with rfl | h
    · omega
    · have := ih h; omega
theorem wf_of (t : T) (h : good t) : wf t := by obtain ⟨k, n, x, ks⟩ := t; exact h.1

/-- Bytes, by -1, 0, 1. -/
def byC (x y : ByteArray) : Int := Lib.compareBytes x.data.toList y.data.toList
theorem byC_three : Three byC where
  turn := fun a b => by unfold byC; rw [compareBytes_lex, compareBytes_lex]; exact (lexC_three byteC_three).turn _ _
  zero := fun a b => by
    unfold byC; rw [compareBytes_lex, (lexC_three byteC_three).zero]
    exact ⟨fun h => ByteArray.ext (Array.toList_inj.1 h), fun h => by rw [h]⟩
  low := fun a b => by unfold byC; rw [compareBytes_lex]; exact (lexC_three byteC_three).low _ _
  high := fun a b => by unfold byC; rw [compareBytes_lex]; exact (lexC_three byteC_three).high _ _
  through := fun a b d => by unfold byC; rw [compareBytes_lex, compareBytes_lex, compareBytes_lex]; exact (lexC_three byteC_three).through _ _ _
def cmp3 (a b c d : Int) : Int := if a ≠ 0 then a else if b ≠ 0 then b else if c ≠ 0 then c else d
mutual
def cmp : T → T → Int
  | node k n x ks, node k' n' x' ks' => cmp3 (Lib.compareInt k k') (Lib.compareInt n n') (byC x x') (cmpL ks ks')
def cmpL : List T → List T → Int
  | [], [] => 0
  | [], _ :: _ => -1
  | _ :: _, [] => 1
  | a :: r, b :: q => if cmp a b = 0 then cmpL r q else cmp a b
end
theorem three3 {α β γ δ : Type} {a : α → α → Int} {b : β → β → Int} {c : γ → γ → Int} (ha : Three a) (hb : Three b) (hc : Three c) (x x' : α) (y y' : β) (z z' : γ) (u u' : δ) (d : δ → δ → Int)
    (ht : d u u' = - d u' u) (hz : d u u' = 0 ↔ u = u') (hl : -1 ≤ d u u') (hh : d u u' ≤ 1) :
    cmp3 (a x x') (b y y') (c z z') (d u u') = - cmp3 (a x' x) (b y' y) (c z' z) (d u' u) ∧ (cmp3 (a x x') (b y y') (c z z') (d u u') = 0 ↔ x = x' ∧ y = y' ∧ z = z' ∧ u = u') ∧ -1 ≤ cmp3 (a x x') (b y y') (c z z') (d u u') ∧ cmp3 (a x x') (b y y') (c z z') (d u u') ≤ 1 := by
  have a1 := ha.turn x x'; have a2 := ha.zero x x'; have a3 := ha.low x x'; have a4 := ha.high x x'
  have b1 := hb.turn y y'; have b2 := hb.zero y y'; have b3 := hb.low y y'; have b4 := hb.high y y'
  have c1 := hc.turn z z'; have c2 := hc.zero z z'; have c3 := hc.low z z'; have c4 := hc.high z z'
  unfold cmp3
  refine ⟨?_, ?_, ?_, ?_⟩
  · repeat' split
    all_goals omega
  · rw [← a2, ← b2, ← c2, ← hz]
    repeat' split
    all_goals omega
  · repeat' split
    all_goals omega
  · repeat' split
    all_goals omega
theorem through3 {α β γ δ : Type} {a : α → α → Int} {b : β → β → Int} {c : γ → γ → Int} (ha : Three a) (hb : Three b) (hc : Three c) (x x' x'' : α) (y y' y'' : β) (z z' z'' : γ) (u u' u'' : δ) (d : δ → δ → Int)
    (hd : d u u' ≤ 0 → d u' u'' ≤ 0 → d u u'' ≤ 0) (h1 : cmp3 (a x x') (b y y') (c z z') (d u u') ≤ 0) (h2 : cmp3 (a x' x'') (b y' y'') (c z' z'') (d u' u'') ≤ 0) : cmp3 (a x x'') (b y y'') (c z z'') (d u u'') ≤ 0 := by
  have key : ∀ {α : Type} {a : α → α → Int}, Three a → ∀ p q r : α, a p q ≤ 0 → a q r ≤ 0 → (a p r ≤ 0 ∧ (a p r = 0 ↔ a p q = 0 ∧ a q r = 0)) := fun h p q r h1 h2 => by
    have t := h.through p q r h1 h2
    refine ⟨t, ⟨fun e => ?_, fun ⟨e1, e2⟩ => ?_⟩⟩
    · have e' := (h.zero p r).1 e
      subst e'
      have := h.turn p q
      omega
    · rw [(h.zero p q).1 e1, (h.zero q r).1 e2]; exact (h.zero r r).2 rfl
  have ka := key ha x x' x''
  have kb := key hb y y' y''
  have kc := key hc z z' z''
  unfold cmp3 at *
  by_cases e1 : a x x' = 0
  · by_cases e2 : a x' x'' = 0
    · have := ka (by omega) (by omega)
      have e3 : a x x'' = 0 := this.2.2 ⟨e1, e2⟩
      rw [if_neg (by simpa using e1)] at h1
      rw [if_neg (by simpa using e2)] at h2
      rw [if_neg (by simpa using e3)]
      by_cases f1 : b y y' = 0
      · by_cases f2 : b y' y'' = 0
        · have := kb (by omega) (by omega)
          have f3 : b y y'' = 0 := this.2.2 ⟨f1, f2⟩
          rw [if_neg (by simpa using f1)] at h1
          rw [if_neg (by simpa using f2)] at h2
          rw [if_neg (by simpa using f3)]
          by_cases g1 : c z z' = 0
          · by_cases g2 : c z' z'' = 0
            · have := kc (by omega) (by omega)
              have g3 : c z z'' = 0 := this.2.2 ⟨g1, g2⟩
              rw [if_neg (by simpa using g1)] at h1
              rw [if_neg (by simpa using g2)] at h2
              rw [if_neg (by simpa using g3)]
              exact hd h1 h2
            · rw [if_pos g2] at h2
              have := kc (by omega) h2
              rw [if_pos (by omega)]; exact this.1
          · rw [if_pos g1] at h1
            by_cases g2 : c z' z'' = 0
            · have := kc h1 (by omega)
              rw [if_pos (by omega)]; exact this.1
            · rw [if_pos g2] at h2
              have := kc h1 h2
              rw [if_pos (by omega)]; exact this.1
        · rw [if_pos f2] at h2
          have := kb (by omega) h2
          rw [if_pos (by omega)]; exact this.1
      · rw [if_pos f1] at h1
        by_cases f2 : b y' y'' = 0
        · have := kb h1 (by omega)
          rw [if_pos (by omega)]; exact this.1
        · rw [if_pos f2] at h2
          have := kb h1 h2
          rw [if_pos (by omega)]; exact this.1
    · rw [if_pos e2] at h2
      have := ka (by omega) h2
      rw [if_pos (by omega)]; exact this.1
  · rw [if_pos e1] at h1
    by_cases e2 : a x' x'' = 0
    · have := ka h1 (by omega)
      rw [if_pos (by omega)]; exact this.1
    · rw [if_pos e2] at h2
      have := ka h1 h2
      rw [if_pos (by omega)]; exact this.1
mutual
theorem cmp_facts : ∀ (a b : T), cmp a b = - cmp b a ∧ (cmp a b = 0 ↔ a = b) ∧ -1 ≤ cmp a b ∧ cmp a b ≤ 1
  | node k n x ks, node k' n' x' ks' => by
    obtain ⟨l1, l2, l3, l4⟩ := cmpL_facts ks ks'
    have := three3 compareInt_three compareInt_three byC_three k k' n n' x x' ks ks' cmpL l1 l2 l3 l4
    simp only [cmp]
    refine ⟨this.1, this.2.1.trans ?_, this.2.2⟩
    rw [node.injEq]
theorem cmpL_facts : ∀ (a b : List T), cmpL a b = - cmpL b a ∧ (cmpL a b = 0 ↔ a = b) ∧ -1 ≤ cmpL a b ∧ cmpL a b ≤ 1
  | [], [] => by simp [cmpL]
  | [], _ :: _ => by simp [cmpL]
  | _ :: _, [] => by simp [cmpL]
  | a :: r, b :: q => by
    obtain ⟨h1, h2, h3, h4⟩ := cmp_facts a b
    obtain ⟨l1, l2, l3, l4⟩ := cmpL_facts r q
    simp only [cmpL]
    by_cases e : cmp a b = 0
    · rw [if_pos e, if_pos (by omega)]
      refine ⟨l1, ?_, l3, l4⟩
      rw [l2, h2.1 e]; simp
    · rw [if_neg e, if_neg (by omega)]
      refine ⟨h1, ⟨fun h => absurd h e, fun h => absurd (h2.2 (List.cons.inj h).1) e⟩, h3, h4⟩
end
mutual
theorem cmp_through : ∀ (a b c : T), cmp a b ≤ 0 → cmp b c ≤ 0 → cmp a c ≤ 0
  | node k n x ks, node k' n' x' ks', node k'' n'' x'' ks'' => by
    simp only [cmp]
    exact through3 compareInt_three compareInt_three byC_three k k' k'' n n' n'' x x' x'' ks ks' ks'' cmpL (cmpL_through ks ks' ks'')
theorem cmpL_through : ∀ (a b c : List T), cmpL a b ≤ 0 → cmpL b c ≤ 0 → cmpL a c ≤ 0
  | [], b, [] => by simp [cmpL]
  | [], b, _ :: _ => by simp [cmpL]
  | _ :: _, [], _ => by simp [cmpL]
  | _ :: _, b :: q, [] => by simp [cmpL]
  | a :: r, b :: q, c :: s => by
    have ih := cmpL_through r q s
    have t := cmp_through a b c
    obtain ⟨f1, f2, _, _⟩ := cmp_facts a b
    obtain ⟨g1, g2, _, _⟩ := cmp_facts b c
    obtain ⟨k1, k2, _, _⟩ := cmp_facts a c
    simp only [cmpL]
    intro h1 h2
    by_cases e1 : cmp a b = 0
    · have e1' := f2.1 e1
      subst e1'
      rw [if_pos e1] at h1
      by_cases e2 : cmp a c = 0
      · rw [if_pos e2] at h2 ⊢; exact ih h1 h2
      · rw [if_neg e2] at h2 ⊢; exact h2
    · rw [if_neg e1] at h1
      by_cases e2 : cmp b c = 0
      · have e2' := g2.1 e2
        subst e2'
        rw [if_neg e1]; exact h1
      · rw [if_neg e2] at h2
        have q := t h1 h2
        rw [if_neg]
        · exact q
        · intro e3
          have e3' := k2.1 e3
          subst e3'
          omega
end
theorem cmp_three : Three cmp where
  turn := fun a b => (cmp_facts a b).1
  zero := fun a b => (cmp_facts a b).2.1
  low := fun a b => (cmp_facts a b).2.2.1
  high := fun a b => (cmp_facts a b).2.2.2
  through := cmp_through
end T
end Go.Proofs.YtaafcmmmkalgjaaGreatDoor
