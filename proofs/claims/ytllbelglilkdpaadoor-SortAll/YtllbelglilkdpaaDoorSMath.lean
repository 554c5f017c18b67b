/-
  The texts of sorts: written, read, there and back.
-/
import Derived.Lib.RepeatB
namespace Go.Proofs.YtllbelglilkdpaaDoor
/-- The word list. -/
def wL : List UInt8 := [108, 105, 115, 116]
def grdL (l : List UInt8) : Bool := decide (l = [117, 110, 105, 116]) || decide (l = [116, 114, 117, 116, 104]) || decide (l = [105, 110, 116]) || decide (l = [116, 101, 120, 116])
def vrbL : List UInt8 → Bool
  | [c] => decide (97 ≤ c.toNat) && decide (c.toNat ≤ 122)
  | _ => false
/-- A name that may stand within the lists. -/
def leafL (l : List UInt8) : Bool := grdL l || vrbL l
theorem leaf_not {l : List UInt8} (h : leafL l = true) : l ≠ wL ∧ (32 : UInt8) ∉ l := by
  unfold leafL grdL at h
  simp only [Bool.or_eq_true, decide_eq_true_eq] at h
  rcases h with (((h | h) | h) | h) | h
  · subst h; decide
  · subst h; decide
  · subst h; decide
  · subst h; decide
  · match l, h with
    | [c], h =>
      simp only [vrbL, Bool.and_eq_true, decide_eq_true_eq] at h
      refine ⟨by unfold wL; simp, ?_⟩
      simp only [List.mem_singleton]
      intro e
      subst e
      exact absurd h.1 (by decide)
theorem leaf_len {l : List UInt8} (h : leafL l = true) : l.length ≤ 5 ∧ l ≠ [] := by
  unfold leafL grdL at h
  simp only [Bool.or_eq_true, decide_eq_true_eq] at h
  rcases h with (((h | h) | h) | h) | h
  · subst h; decide
  · subst h; decide
  · subst h; decide
  · subst h; decide
  · match l, h with
    | [c], _ => simp
/-- The text of a shape. -/
def txtL : Nat → List UInt8 → List UInt8
  | 0, l => l
  | n + 1, l => wL ++ 32 :: txtL n l
theorem txt_rep (n : Nat) (l : List UInt8) : Lib.repeatL (wL ++ [32]) n ++ l = txtL n l := by
  induction n with
  | zero => simp [Lib.repeatL, txtL]
  | succ n ih =>
    rw [txtL, ← ih]
    simp [Lib.repeatL]
theorem txt_len (n : Nat) (l : List UInt8) : (txtL n l).length = 5 * n + l.length := by
  induction n with
  | zero => simp [txtL]
  | succ n ih => rw [txtL, List.length_append, List.length_cons, ih]; simp [wL]; omega
/-- What stands ahead of the first blank. -/
def wordL : List UInt8 → List UInt8
  | [] => []
  | c :: r => if c = 32 then [] else c :: wordL r
theorem word_none : ∀ {l : List UInt8}, (32 : UInt8) ∉ l → wordL l = l
  | [], _ => rfl
  | c :: r, h => by
    have hc : ¬ c = 32 := fun e => h (by simp [e])
    rw [wordL, if_neg hc, word_none (fun hr => h (List.mem_cons_of_mem _ hr))]
theorem word_at : ∀ {p r : List UInt8}, (32 : UInt8) ∉ p → wordL (p ++ 32 :: r) = p
  | [], r, _ => by simp [wordL]
  | c :: p, r, h => by
    have hc : ¬ c = 32 := fun e => h (by simp [e])
    rw [List.cons_append, wordL, if_neg hc, word_at (fun hr => h (List.mem_cons_of_mem _ hr))]
theorem word_split : ∀ {l : List UInt8}, (32 : UInt8) ∈ l → l = wordL l ++ 32 :: l.drop ((wordL l).length + 1) ∧ (32 : UInt8) ∉ wordL l
  | [], h => by cases h
  | c :: r, h => by
    by_cases hc : c = 32
    · subst hc
      simp [wordL]
    · have hr : (32 : UInt8) ∈ r := by
        rcases List.mem_cons.1 h with e | e
        · exact absurd e.symm hc
        · exact e
      obtain ⟨h1, h2⟩ := word_split hr
      rw [wordL, if_neg hc]
      refine ⟨?_, ?_⟩
      · rw [List.length_cons, List.drop_succ_cons, List.cons_append, ← h1]
      · rw [List.mem_cons]
        rintro (e | e)
        · exact hc e.symm
        · exact h2 e
theorem word_le (l : List UInt8) : (wordL l).length ≤ l.length := by
  induction l with
  | nil => simp [wordL]
  | cons c r ih =>
    rw [wordL]
    split
    · simp
    · simp only [List.length_cons]; omega
/-- What a sort's text is read as: a shape; or what is amiss, and where. -/
inductive ShR where
  | ok (n : Nat) (l : List UInt8)
  | bad (e a : Nat)
def rdS : Nat → List UInt8 → Nat → Nat → ShR
  | 0, _, _, _ => .bad 1 0
  | f + 1, l, at', n =>
    if wordL l = wL then (if (32 : UInt8) ∈ l then (if n = 64 then .bad 2 0 else rdS f (l.drop 5) (at' + 5) (n + 1)) else .bad 5 (at' + l.length))
    else if leafL (wordL l) = true then (if (32 : UInt8) ∈ l then .bad 5 (at' + (wordL l).length + 1) else .ok n (wordL l))
    else .bad 5 at'
theorem rdS_txt {leaf : List UInt8} (hl : leafL leaf = true) : ∀ (n f at' m : Nat), m + n ≤ 64 → n < f → rdS f (txtL n leaf) at' m = .ok (m + n) leaf
  | 0, f + 1, at', m, _, _ => by
    obtain ⟨h1, h2⟩ := leaf_not hl
    rw [txtL, rdS, word_none h2, if_neg h1, if_pos hl, if_neg h2]
    rfl
  | n + 1, f + 1, at', m, h, hf => by
    have hw : wordL (wL ++ 32 :: txtL n leaf) = wL := word_at (by decide)
    rw [txtL, rdS, hw, if_pos rfl, if_pos (by simp), if_neg (by omega)]
    have e : (wL ++ 32 :: txtL n leaf).drop 5 = txtL n leaf := by simp [wL]
    rw [e, rdS_txt hl n f (at' + 5) (m + 1) (by omega) (by omega)]
    congr 1
    omega
theorem rdS_ok : ∀ (f : Nat) (l : List UInt8) (at' m N : Nat) (leaf : List UInt8), m ≤ 64 → rdS f l at' m = .ok N leaf → ∃ n, N = m + n ∧ l = txtL n leaf ∧ leafL leaf = true ∧ N ≤ 64
  | 0, l, at', m, N, leaf, _, h => by cases h
  | f + 1, l, at', m, N, leaf, hm, h => by
    rw [rdS] at h
    by_cases h1 : wordL l = wL
    · rw [if_pos h1] at h
      by_cases h2 : (32 : UInt8) ∈ l
      · rw [if_pos h2] at h
        by_cases h3 : m = 64
        · rw [if_pos h3] at h; cases h
        · rw [if_neg h3] at h
          obtain ⟨n, e1, e2, e3, e4⟩ := rdS_ok f (l.drop 5) (at' + 5) (m + 1) N leaf (by omega) h
          refine ⟨n + 1, by omega, ?_, e3, e4⟩
          have hs := (word_split h2).1
          rw [h1, show wL.length + 1 = 5 from rfl, e2] at hs
          exact hs
      · rw [if_neg h2] at h; cases h
    · rw [if_neg h1] at h
      by_cases h2 : leafL (wordL l) = true
      · rw [if_pos h2] at h
        by_cases h3 : (32 : UInt8) ∈ l
        · rw [if_pos h3] at h; cases h
        · rw [if_neg h3] at h
          injection h with e1 e2
          rw [word_none h3] at e2 h2
          exact ⟨0, e1.symm, by rw [e2]; rfl, by rw [← e2]; exact h2, by omega⟩
      · rw [if_neg h2] at h; cases h
theorem rdS_bad : ∀ (f : Nat) (l : List UInt8) (at' m e a : Nat), l.length < f → rdS f l at' m = .bad e a → a ≤ at' + l.length ∧ e ≠ 0
  | 0, l, at', m, e, a, hf, _ => by omega
  | f + 1, l, at', m, e, a, hf, h => by
    have hwl := word_le l
    rw [rdS] at h
    by_cases h1 : wordL l = wL
    · rw [if_pos h1] at h
      by_cases h2 : (32 : UInt8) ∈ l
      · have hs := congrArg List.length (word_split h2).1
        rw [List.length_append, List.length_cons, h1] at hs
        rw [if_pos h2] at h
        by_cases h3 : m = 64
        · rw [if_pos h3] at h; injection h with e1 e2; subst e1; subst e2; exact ⟨Nat.zero_le _, by decide⟩
        · rw [if_neg h3] at h
          have h5 : (l.drop 5).length = l.length - 5 := by simp
          have h6 : wL.length = 4 := rfl
          obtain ⟨g1, g2⟩ := rdS_bad f (l.drop 5) (at' + 5) (m + 1) e a (by rw [h5]; omega) h
          exact ⟨by rw [h5] at g1; omega, g2⟩
      · rw [if_neg h2] at h; injection h with e1 e2; subst e1; subst e2; exact ⟨Nat.le_refl _, by decide⟩
    · rw [if_neg h1] at h
      by_cases h2 : leafL (wordL l) = true
      · rw [if_pos h2] at h
        by_cases h3 : (32 : UInt8) ∈ l
        · have hs := congrArg List.length (word_split h3).1
          rw [List.length_append, List.length_cons] at hs
          rw [if_pos h3] at h; injection h with e1 e2; subst e1; subst e2; exact ⟨by omega, by decide⟩
        · rw [if_neg h3] at h; cases h
      · rw [if_neg h2] at h; injection h with e1 e2; subst e1; subst e2; exact ⟨by omega, by decide⟩
end Go.Proofs.YtllbelglilkdpaaDoor
