/-
  What the reference's reader reads: the same as the reader, though it fails of '0' and a digit one call earlier.
-/
import Derived.Test.YtecabbifkcnbeaaGreatDoorRNumM
import Derived.Test.YtecabbifkcnbeaaGreatDoorQuoted
import Derived.Test.YtecabbifkcnbeaaGreatDoorBackBad
namespace Go.Proofs.YtecabbifkcnbeaaGreatDoor
open Go.RowKit
/-- What the reference's number reads. -/
def numX (s : ByteArray) (i : Nat) : Rs := if nxt s (numAt s i) = 48 ∧ ¬ nxt s i = 45 ∧ digP (nxt s (numAt s i + 1)) then .bad 5 (numAt s i + 1) else numR s i
mutual
/-- The value that stands at i, within n lists, as the reference reads it. -/
def rdX (s : ByteArray) : Nat → Nat → Nat → Rs
  | 0, _, _ => .bad 1 0
  | f + 1, n, i =>
    if nxt s i = 117 then wrdR s i [117, 110, 105, 116] (.node 1 0 ⟨#[]⟩ [])
    else if nxt s i = 121 then wrdR s i [121, 101, 115] (.node 2 1 ⟨#[]⟩ [])
    else if nxt s i = 110 then wrdR s i [110, 111] (.node 2 0 ⟨#[]⟩ [])
    else if nxt s i = 45 ∨ digP (nxt s i) then numX s i
    else if nxt s i = 34 then quoQ s i
    else if nxt s i = 91 then (if n = 64 then .bad 2 i else if nxt s (i + 1) = 93 then .ok (.node 5 0 ⟨#[]⟩ []) (i + 2) else rdXL s f (n + 1) (i + 1) [])
    else .bad 5 i
def rdXL (s : ByteArray) : Nat → Nat → Nat → List T → Rs
  | 0, _, _, _ => .bad 1 0
  | f + 1, n, i, acc =>
    match rdX s f n i with
    | .bad e a => .bad e a
    | .ok t a => if nxt s a = 93 then .ok (.node 5 0 ⟨#[]⟩ (acc ++ [t])) (a + 1) else if nxt s a = 44 then (if nxt s (a + 1) = 32 then rdXL s f n (a + 2) (acc ++ [t]) else .bad 5 (a + 1)) else .bad 5 a
end
def RelX (s : ByteArray) (r r' : Rs) : Prop := r' = r ∨ ∃ t a, r = .ok t a ∧ digP (nxt s a) ∧ r' = .bad 5 a
theorem numX_rel (s : ByteArray) (i : Nat) : RelX s (numR s i) (numX s i) := by
  unfold numX
  by_cases h : nxt s (numAt s i) = 48 ∧ ¬ nxt s i = 45 ∧ digP (nxt s (numAt s i + 1))
  · rw [if_pos h]
    exact .inr ⟨_, _, by unfold numR; rw [if_pos ⟨h.1, h.2.1⟩], h.2.2, rfl⟩
  · rw [if_neg h]
    exact .inl rfl
mutual
theorem rdX_rel (s : ByteArray) : ∀ (f n i : Nat), RelX s (rdV s (quoQ s) f n i) (rdX s f n i)
  | 0, _, _ => .inl rfl
  | f + 1, n, i => by
    simp only [rdV, rdX]
    by_cases h1 : nxt s i = 117
    · rw [if_pos h1, if_pos h1]; exact .inl rfl
    rw [if_neg h1, if_neg h1]
    by_cases h2 : nxt s i = 121
    · rw [if_pos h2, if_pos h2]; exact .inl rfl
    rw [if_neg h2, if_neg h2]
    by_cases h3 : nxt s i = 110
    · rw [if_pos h3, if_pos h3]; exact .inl rfl
    rw [if_neg h3, if_neg h3]
    by_cases h4 : nxt s i = 45 ∨ digP (nxt s i)
    · rw [if_pos h4, if_pos h4]; exact numX_rel s i
    rw [if_neg h4, if_neg h4, rdXL_eq s f (n + 1) (i + 1) []]
    exact .inl rfl
theorem rdXL_eq (s : ByteArray) : ∀ (f n i : Nat) (acc : List T), rdXL s f n i acc = rdL s (quoQ s) f n i acc
  | 0, _, _, _ => rfl
  | f + 1, n, i, acc => by
    simp only [rdL, rdXL]
    rcases rdX_rel s f n i with e | ⟨t, a, e1, e2, e3⟩
    · rw [e]
      cases rdV s (quoQ s) f n i with
      | bad c a => rfl
      | ok t a =>
        simp only [rdXL_eq s f n (a + 2) (acc ++ [t])]
    · rw [e1, e3]
      have hd : 48 ≤ nxt s a ∧ nxt s a ≤ 57 := e2
      show Rs.bad 5 a = _
      simp only []
      rw [if_neg (by omega), if_neg (by omega)]
end
/-- What the reference's Read reads. -/
def wholeX (s : ByteArray) : Rs :=
  match rdX s (2 * s.size + 1) 0 0 with
  | .bad c a => .bad c a
  | .ok t a => if a < s.size then .bad 5 a else if 65536 < t.size then .bad 2 a else .ok t a
theorem wholeX_eq (s : ByteArray) : wholeX s = wholeR s (quoQ s) := by
  unfold wholeX wholeR
  rcases rdX_rel s (2 * s.size + 1) 0 0 with e | ⟨t, a, e1, e2, e3⟩
  · rw [e]
    cases rdV s (quoQ s) (2 * s.size + 1) 0 0 <;> rfl
  · rw [e1, e3]
    have ha : a < s.size := nxt_dig e2
    simp only []
    rw [if_pos ha]
end Go.Proofs.YtecabbifkcnbeaaGreatDoor
/-
  What the reference's number answers.
-/
namespace Go.Proofs.YtecabbifkcnbeaaGreatDoor
open Go.RowKit
theorem numX_bad {s : ByteArray} {i : Nat} (h : ¬ digP (nxt s (numAt s i)) ∨ nxt s (numAt s i) = 48 ∧ nxt s i = 45) : numX s i = .bad 5 (numAt s i) := by
  have h' : ¬ (nxt s (numAt s i) = 48 ∧ ¬ nxt s i = 45) := by
    rcases h with h | h
    · intro e; exact h (by rw [e.1]; decide)
    · exact fun e => e.2 h.2
  unfold numX
  rw [if_neg (fun e => h' ⟨e.1, e.2.1⟩)]
  unfold numR
  rw [if_neg h', if_pos (h.elim .inr (fun h => .inl h.1))]
theorem numX_nought {s : ByteArray} {i : Nat} (h1 : nxt s (numAt s i) = 48) (h2 : ¬ nxt s i = 45) (h3 : digP (nxt s (numAt s i + 1))) : numX s i = .bad 5 (numAt s i + 1) := by
  unfold numX
  exact if_pos ⟨h1, h2, h3⟩
/-- What number answers, by the number itself. -/
def nvR (i q : Nat) (c V : Nat) : Rs := if c = 45 then (if V ≤ 9223372036854775808 then .ok (.node 3 (-(V : Nat)) ⟨#[]⟩ []) q else .bad 21 i) else (if V < 9223372036854775808 then .ok (.node 3 (V : Nat) ⟨#[]⟩ []) q else .bad 21 i)
theorem numX_end {s : ByteArray} {i k : Nat} (hd : digP (nxt s (numAt s i))) (hE : digEnd s (numAt s i) = numAt s i + k) (h48 : nxt s (numAt s i) = 48 → ¬ nxt s i = 45 ∧ k = 1 ∧ ¬ digP (nxt s (numAt s i + 1))) : numX s i = nvR i (numAt s i + k) (nxt s i) (dvF s 0 (numAt s i) k) := by
  by_cases h : nxt s (numAt s i) = 48
  · obtain ⟨h1, rfl, h3⟩ := h48 h
    unfold numX numR nvR
    rw [if_neg (fun e => h3 e.2.2), if_pos ⟨h, h1⟩, if_neg h1]
    have e : dvF s 0 (numAt s i) 1 = 0 := by
      show 0 * 10 + (nxt s (numAt s i) - 48) = 0
      rw [h]
    rw [e, if_pos (by decide)]
    rfl
  · unfold numX nvR
    rw [if_neg (fun e => h e.1), numR_val hd h, hE, show numAt s i + k - numAt s i = k by omega]
theorem digEnd_in {s : ByteArray} {q : Nat} (h : digP (nxt s q)) : digEnd s q = digEnd s (q + 1) := by
  rw [digEnd, if_pos ⟨nxt_dig h, h⟩]
theorem digEnd_out {s : ByteArray} {q : Nat} (h : ¬ digP (nxt s q)) : digEnd s q = q := by
  rw [digEnd, if_neg (fun e => h e.2)]
theorem pk_dig {s : ByteArray} {q : Nat} : digP (pk s q) ↔ digP (nxt s q) := by
  unfold pk nxt digP
  split
  · exact Iff.rfl
  · omega
/-- What the loop holds: k digits read. -/
def NuSt (w : World) (b : Nat) (s : ByteArray) (bd : Int) (p : Nat) (n : Nat) (over : Bool) (wr : World) : Prop :=
  Kp (· ≠ b) w wr ∧ wr.heap[w.heap.size]? = some (.cells #[.int .i64 0, .int .i64 0, .string ⟨#[]⟩, .slice none 0 0] 34) ∧
   ∃ k, RRAt wr b s (p + k) bd 0 ∧ p + k ≤ s.size ∧ DvSt (dvF s 0 p k) n over ∧ digEnd s p = digEnd s (p + k) ∧ n < 18446744073709551616 ∧ (nxt s p = 48 → k ≤ 1)
end Go.Proofs.YtecabbifkcnbeaaGreatDoor
