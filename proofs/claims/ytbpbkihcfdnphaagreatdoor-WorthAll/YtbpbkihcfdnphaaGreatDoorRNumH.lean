/-
  The number that digits stand for, and what numR answers by it.
-/
import Derived.Test.YtbpbkihcfdnphaaGreatDoorBackMath
import Derived.Test.YtbpbkihcfdnphaaGreatDoorQuoted
import Derived.Test.YtbpbkihcfdnphaaGreatDoorReadF
import Derived.Test.YtbpbkihcfdnphaaGreatDoorRTxt
namespace Go.Proofs.YtbpbkihcfdnphaaGreatDoor
open Go.RowKit
/-- The number of k digits from p on, behind acc. -/
def dvF (s : ByteArray) : Nat → Nat → Nat → Nat
  | acc, _, 0 => acc
  | acc, p, k + 1 => dvF s (acc * 10 + (nxt s p - 48)) (p + 1) k
theorem dvF_snoc (s : ByteArray) : ∀ (k acc p : Nat), dvF s acc p (k + 1) = dvF s acc p k * 10 + (nxt s (p + k) - 48)
  | 0, acc, p => rfl
  | k + 1, acc, p => by
    rw [show dvF s acc p (k + 1 + 1) = dvF s (acc * 10 + (nxt s p - 48)) (p + 1) (k + 1) from rfl, dvF_snoc s k _ (p + 1), show p + 1 + k = p + (k + 1) by omega]
    rfl
/-- What the reference's loop holds: the number itself, or that it is beyond 2^63. -/
def DvSt (V n : Nat) (over : Bool) : Prop := (over = false ∧ n = V ∧ V ≤ 9223372036854775808) ∨ (over = true ∧ 9223372036854775808 < V)
theorem DvSt.step {V n d : Nat} {over : Bool} (h : DvSt V n over) (hd : d ≤ 9) : DvSt (V * 10 + d) ((n * 10 + d) % 18446744073709551616) (over || decide ((9223372036854775808 - d) / 10 < n)) := by
  rcases h with ⟨rfl, rfl, h⟩ | ⟨rfl, h⟩
  · by_cases hg : (9223372036854775808 - d) / 10 < n
    · refine .inr ⟨by simp [hg], by omega⟩
    · refine .inl ⟨by simp [hg], by omega, by omega⟩
  · exact .inr ⟨by simp, by omega⟩
def dfold : Nat → List UInt8 → Nat
  | acc, [] => acc
  | acc, c :: r => dfold (acc * 10 + (c.toNat - 48)) r
theorem dfold_ge : ∀ (l : List UInt8) (acc : Nat), acc ≤ dfold acc l
  | [], acc => Nat.le_refl _
  | c :: r, acc => Nat.le_trans (by omega) (dfold_ge r (acc * 10 + (c.toNat - 48)))
theorem par_all : ∀ (l : List UInt8) (acc : Nat), (∀ x ∈ l, 48 ≤ x.toNat ∧ x.toNat ≤ 57) → acc ≤ 18446744073709551615 → Lib.parseUintM 18446744073709551615 acc l = if dfold acc l ≤ 18446744073709551615 then .ok (dfold acc l) else .range
  | [], acc, _, ha => by rw [show dfold acc [] = acc from rfl, if_pos ha]; rfl
  | c :: r, acc, hl, ha => by
    have hc := hl c (by simp)
    have hg := dfold_ge r (acc * 10 + (c.toNat - 48))
    rw [Lib.parseUintM, if_pos hc, show dfold acc (c :: r) = dfold (acc * 10 + (c.toNat - 48)) r from rfl]
    by_cases h1 : 1844674407370955162 ≤ acc
    · rw [if_pos h1, if_neg (by omega)]
    rw [if_neg h1]
    by_cases h2 : 18446744073709551615 < acc * 10 + (c.toNat - 48)
    · rw [if_pos h2, if_neg (by omega)]
    · rw [if_neg h2]
      exact par_all r _ (fun x hx => hl x (by simp [hx])) (by omega)
theorem digEnd_dig (s : ByteArray) : ∀ (m p : Nat), s.size - p ≤ m → ∀ q, p ≤ q → q < digEnd s p → q < s.size ∧ digP (nxt s q)
  | m, p, hm, q, h1, h2 => by
    rw [digEnd] at h2
    split at h2
    · next hh =>
      rcases Nat.lt_or_eq_of_le h1 with h | h
      · cases m with
        | zero => omega
        | succ m => exact digEnd_dig s m (p + 1) (by omega) q h h2
      · subst h; exact hh
    · omega
theorem At.fold {s : ByteArray} : ∀ {l : List UInt8} {p : Nat} (acc : Nat), At s p l → dfold acc l = dvF s acc p l.length
  | [], _, _, _ => rfl
  | c :: r, p, acc, h => by
    obtain ⟨_, h2, h3⟩ := h
    rw [show dfold acc (c :: r) = dfold (acc * 10 + (c.toNat - 48)) r from rfl, At.fold _ h3, ← h2]
    rfl
theorem At.alldig {s : ByteArray} : ∀ {l : List UInt8} {p : Nat}, At s p l → (∀ q, p ≤ q → q < p + l.length → digP (nxt s q)) → ∀ x ∈ l, 48 ≤ x.toNat ∧ x.toNat ≤ 57
  | [], _, _, _, x, hx => by cases hx
  | c :: r, p, h, hd, x, hx => by
    obtain ⟨_, h2, h3⟩ := h
    rcases List.mem_cons.1 hx with e | e
    · subst e; have := hd p (Nat.le_refl _) (by simp); rw [h2] at this; exact this
    · exact At.alldig h3 (fun q a b => hd q (by omega) (by simp only [List.length_cons]; omega)) x e
theorem nxt_dig {s : ByteArray} {p : Nat} (h : digP (nxt s p)) : p < s.size := by
  rcases Nat.lt_or_ge p s.size with e | e
  · exact e
  · rw [nxt_end (by omega)] at h; exact absurd h.1 (by decide)
/-- What numR answers, by the number itself. -/
theorem numR_val {s : ByteArray} {i : Nat} (hd : digP (nxt s (numAt s i))) (h48 : nxt s (numAt s i) ≠ 48) :
    numR s i = (if nxt s i = 45 then (if dvF s 0 (numAt s i) (digEnd s (numAt s i) - numAt s i) ≤ 9223372036854775808 then .ok (.node 3 (-(dvF s 0 (numAt s i) (digEnd s (numAt s i) - numAt s i) : Nat)) ⟨#[]⟩ []) (digEnd s (numAt s i)) else .bad 21 i)
      else (if dvF s 0 (numAt s i) (digEnd s (numAt s i) - numAt s i) < 9223372036854775808 then .ok (.node 3 (dvF s 0 (numAt s i) (digEnd s (numAt s i) - numAt s i) : Nat) ⟨#[]⟩ []) (digEnd s (numAt s i)) else .bad 21 i)) := by
  have hps : numAt s i < s.size := nxt_dig hd
  have hD := digEnd_le (s := s) (numAt s i) (by omega)
  have hl := digEnd_lt hd
  have hall := digEnd_dig s s.size (numAt s i) (by omega)
  unfold numR
  rw [if_neg (fun h => h48 h.1), if_neg (fun h => h.elim h48 (fun h => h hd))]
  by_cases h45 : nxt s i = 45
  · have hp : numAt s i = i + 1 := by unfold numAt; rw [if_pos h45]
    rw [hp] at hd h48 hps hD hl hall ⊢
    rw [if_pos h45]
    obtain ⟨a1, a2⟩ := At.take (s := s) (i := i) (D := digEnd s (i + 1)) (by omega) hD
    generalize (s.extract i (digEnd s (i + 1))).data.toList = L at *
    match L, a1, a2 with
    | [], _, a2 => simp at a2; omega
    | [x], _, a2 => simp at a2; omega
    | x :: c :: r, a1, a2 =>
      obtain ⟨b1, b2, b3⟩ := a1
      have hx : x = 45 := UInt8.toNat_inj.1 (by rw [← b2, h45]; rfl)
      have hlen : (c :: r).length = digEnd s (i + 1) - (i + 1) := by simp only [List.length_cons] at a2 ⊢; omega
      have hdg := At.alldig b3 (fun q q1 q2 => (hall q q1 (by omega)).2)
      have hf := At.fold 0 b3
      rw [hlen] at hf
      rw [hx, par64m, par_all _ _ hdg (by omega), hf]
      generalize dvF s 0 (i + 1) (digEnd s (i + 1) - (i + 1)) = V
      by_cases v1 : V ≤ 18446744073709551615
      · rw [if_pos v1]
        simp only [Lib.signedC]
        by_cases v2 : V ≤ 9223372036854775808
        · rw [if_neg (by omega), if_pos v2]
        · rw [if_pos (by omega), if_neg v2]
      · rw [if_neg v1, if_neg (by omega)]
        rfl
  · have hp : numAt s i = i := by unfold numAt; rw [if_neg h45]
    rw [hp] at hd h48 hps hD hl hall ⊢
    rw [if_neg h45]
    obtain ⟨a1, a2⟩ := At.take (s := s) (i := i) (D := digEnd s i) (by omega) hD
    generalize (s.extract i (digEnd s i)).data.toList = L at *
    match L, a1, a2 with
    | [], _, a2 => simp at a2; omega
    | c :: r, a1, a2 =>
      have hdg := At.alldig a1 (fun q q1 q2 => (hall q q1 (by omega)).2)
      have hf := At.fold 0 a1
      rw [a2] at hf
      have hc : 49 ≤ c.toNat ∧ c.toNat ≤ 57 := by
        have e := a1.2.1
        have := hdg c (by simp)
        omega
      rw [par64 c r hc, par_all _ _ hdg (by omega), hf]
      generalize dvF s 0 i (digEnd s i - i) = V
      by_cases v1 : V ≤ 18446744073709551615
      · rw [if_pos v1]
        simp only [Lib.signlessC]
        by_cases v2 : V < 9223372036854775808
        · rw [if_neg (by omega), if_pos v2]
        · rw [if_pos (by omega), if_neg v2]
      · rw [if_neg v1, if_neg (by omega)]
        rfl
end Go.Proofs.YtbpbkihcfdnphaaGreatDoor
/-
  What the reference's reader reads: the same as the reader, though it fails of '0' and a digit one call earlier.
-/
namespace Go.Proofs.YtbpbkihcfdnphaaGreatDoor
open Go.RowKit
/-- What the reference's number reads. -/
def numX (s : ByteArray) (i : Nat) : Rs := if nxt s (numAt s i) = 48 ∧ ¬ nxt s i = 45 ∧ digP (nxt s (numAt s i + 1)) then .bad 5 (numAt s i + 1) else numR s i
mutual
/-- The value that stands at i, within n lists, as the reference reads it. -/
def rdX (s : ByteArray) : Nat → Nat → Nat → Rs
  | 0, _, _ => .bad 1 0
  | f + 1, n, i =>
    if nxt s i = 117 then wrdR s i [117, 110, 105, 116] (.node 1 0 ⟨#[]⟩ [])
    else if nxt s i = 121 then wrdR s i [121, 101, 115] (.node 2 1 ⟨#[]⟩ [])
    else if nxt s i = 110 then wrdR s i [110, 111] (.node 2 0 ⟨#[]⟩ [])
    else if nxt s i = 45 ∨ digP (nxt s i) then numX s i
    else if nxt s i = 34 then quoQ s i
    else if nxt s i = 91 then (if n = 64 then .bad 2 i else if nxt s (i + 1) = 93 then .ok (.node 5 0 ⟨#[]⟩ []) (i + 2) else rdXL s f (n + 1) (i + 1) [])
    else .bad 5 i
def rdXL (s : ByteArray) : Nat → Nat → Nat → List T → Rs
  | 0, _, _, _ => .bad 1 0
  | f + 1, n, i, acc =>
    match rdX s f n i with
    | .bad e a => .bad e a
    | .ok t a => if nxt s a = 93 then .ok (.node 5 0 ⟨#[]⟩ (acc ++ [t])) (a + 1) else if nxt s a = 44 then (if nxt s (a + 1) = 32 then rdXL s f n (a + 2) (acc ++ [t]) else .bad 5 (a + 1)) else .bad 5 a
end
def RelX (s : ByteArray) (r r' : Rs) : Prop := r' = r ∨ ∃ t a, r = .ok t a ∧ digP (nxt s a) ∧ r' = .bad 5 a
theorem numX_rel (s : ByteArray) (i : Nat) : RelX s (numR s i) (numX s i) := by
  unfold numX
  by_cases h : nxt s (numAt s i) = 48 ∧ ¬ nxt s i = 45 ∧ digP (nxt s (numAt s i + 1))
  · rw [if_pos h]
    exact .inr ⟨_, _, by unfold numR; rw [if_pos ⟨h.1, h.2.1⟩], h.2.2, rfl⟩
  · rw [if_neg h]
    exact .inl rfl
mutual
theorem rdX_rel (s : ByteArray) : ∀ (f n i : Nat), RelX s (rdV s (quoQ s) f n i) (rdX s f n i)
  | 0, _, _ => .inl rfl
  | f + 1, n, i => by
    simp only [rdV, rdX]
    by_cases h1 : nxt s i = 117
    · rw [if_pos h1, if_pos h1]; exact .inl rfl
    rw [if_neg h1, if_neg h1]
    by_cases h2 : nxt s i = 121
    · rw [if_pos h2, if_pos h2]; exact .inl rfl
    rw [if_neg h2, if_neg h2]
    by_cases h3 : nxt s i = 110
    · rw [if_pos h3, if_pos h3]; exact .inl rfl
    rw [if_neg h3, if_neg h3]
    by_cases h4 : nxt s i = 45 ∨ digP (nxt s i)
    · rw [if_pos h4, if_pos h4]; exact numX_rel s i
    rw [if_neg h4, if_neg h4, rdXL_eq s f (n + 1) (i + 1) []]
    exact .inl rfl
theorem rdXL_eq (s : ByteArray) : ∀ (f n i : Nat) (acc : List T), rdXL s f n i acc = rdL s (quoQ s) f n i acc
  | 0, _, _, _ => rfl
  | f + 1, n, i, acc => by
    simp only [rdL, rdXL]
    rcases rdX_rel s f n i with e | ⟨t, a, e1, e2, e3⟩
    · rw [e]
      cases rdV s (quoQ s) f n i with
      | bad c a => rfl
      | ok t a =>
        simp only [rdXL_eq s f n (a + 2) (acc ++ [t])]
    · rw [e1, e3]
      have hd : 48 ≤ nxt s a ∧ nxt s a ≤ 57 := e2
      show Rs.bad 5 a = _
      simp only []
      rw [if_neg (by omega), if_neg (by omega)]
end
/-- What the reference's Read reads. -/
def wholeX (s : ByteArray) : Rs :=
  match rdX s (2 * s.size + 1) 0 0 with
  | .bad c a => .bad c a
  | .ok t a => if a < s.size then .bad 5 a else if 65536 < t.size then .bad 2 a else .ok t a
theorem wholeX_eq (s : ByteArray) : wholeX s = wholeR s (quoQ s) := by
  unfold wholeX wholeR
  rcases rdX_rel s (2 * s.size + 1) 0 0 with e | ⟨t, a, e1, e2, e3⟩
  · rw [e]
    cases rdV s (quoQ s) (2 * s.size + 1) 0 0 <;> rfl
  · rw [e1, e3]
    have ha : a < s.size := nxt_dig e2
    simp only []
    rw [if_pos ha]
end Go.Proofs.YtbpbkihcfdnphaaGreatDoor
/-
  What the reference's number answers.
-/
namespace Go.Proofs.YtbpbkihcfdnphaaGreatDoor
open Go.RowKit
theorem numX_bad {s : ByteArray} {i : Nat} (h : ¬ digP (nxt s (numAt s i)) ∨ nxt s (numAt s i) = 48 ∧ nxt s i = 45) : numX s i = .bad 5 (numAt s i) := by
  have h' : ¬ (nxt s (numAt s i) = 48 ∧ ¬ nxt s i = 45) := by
    rcases h with h | h
    · intro e; exact h (by rw [e.1]; decide)
    · exact fun e => e.2 h.2
  unfold numX
  rw [if_neg (fun e => h' ⟨e.1, e.2.1⟩)]
  unfold numR
  rw [if_neg h', if_pos (h.elim .inr (fun h => .inl h.1))]
theorem numX_nought {s : ByteArray} {i : Nat} (h1 : nxt s (numAt s i) = 48) (h2 : ¬ nxt s i = 45) (h3 : digP (nxt s (numAt s i + 1))) : numX s i = .bad 5 (numAt s i + 1) := by
  unfold numX
  exact if_pos ⟨h1, h2, h3⟩
/-- What number answers, by the number itself. -/
def nvR (i q : Nat) (c V : Nat) : Rs := if c = 45 then (if V ≤ 9223372036854775808 then .ok (.node 3 (-(V : Nat)) ⟨#[]⟩ []) q else .bad 21 i) else (if V < 9223372036854775808 then .ok (.node 3 (V : Nat) ⟨#[]⟩ []) q else .bad 21 i)
theorem numX_end {s : ByteArray} {i k : Nat} (hd : digP (nxt s (numAt s i))) (hE : digEnd s (numAt s i) = numAt s i + k) (h48 : nxt s (numAt s i) = 48 → ¬ nxt s i = 45 ∧ k = 1 ∧ ¬ digP (nxt s (numAt s i + 1))) : numX s i = nvR i (numAt s i + k) (nxt s i) (dvF s 0 (numAt s i) k) := by
  by_cases h : nxt s (numAt s i) = 48
  · obtain ⟨h1, rfl, h3⟩ := h48 h
    unfold numX numR nvR
    rw [if_neg (fun e => h3 e.2.2), if_pos ⟨h, h1⟩, if_neg h1]
    have e : dvF s 0 (numAt s i) 1 = 0 := by
      show 0 * 10 + (nxt s (numAt s i) - 48) = 0
      rw [h]
    rw [e, if_pos (by decide)]
    rfl
  · unfold numX nvR
    rw [if_neg (fun e => h e.1), numR_val hd h, hE, show numAt s i + k - numAt s i = k by omega]
theorem digEnd_in {s : ByteArray} {q : Nat} (h : digP (nxt s q)) : digEnd s q = digEnd s (q + 1) := by
  rw [digEnd, if_pos ⟨nxt_dig h, h⟩]
theorem digEnd_out {s : ByteArray} {q : Nat} (h : ¬ digP (nxt s q)) : digEnd s q = q := by
  rw [digEnd, if_neg (fun e => h e.2)]
theorem pk_dig {s : ByteArray} {q : Nat} : digP (pk s q) ↔ digP (nxt s q) := by
  unfold pk nxt digP
  split
  · exact Iff.rfl
  · omega
/-- What the loop holds: k digits read. -/
def NuSt (w : World) (b : Nat) (s : ByteArray) (bd : Int) (p : Nat) (n : Nat) (over : Bool) (wr : World) : Prop :=
  Kp (· ≠ b) w wr ∧ wr.heap[w.heap.size]? = some (.cells #[.int .i64 0, .int .i64 0, .string ⟨#[]⟩, .slice none 0 0] 27) ∧
   ∃ k, RRAt wr b s (p + k) bd 0 ∧ p + k ≤ s.size ∧ DvSt (dvF s 0 p k) n over ∧ digEnd s p = digEnd s (p + k) ∧ n < 18446744073709551616 ∧ (nxt s p = 48 → k ≤ 1)
end Go.Proofs.YtbpbkihcfdnphaaGreatDoor
