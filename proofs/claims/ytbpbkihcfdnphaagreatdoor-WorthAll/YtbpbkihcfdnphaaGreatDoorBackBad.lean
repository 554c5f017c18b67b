/-
  Where a text is no value's: an error, at a place in it.
-/
import Derived.Test.YtbpbkihcfdnphaaGreatDoorBackMath
import Derived.Test.YtbpbkihcfdnphaaGreatDoorReadF
namespace Go.Proofs.YtbpbkihcfdnphaaGreatDoor
open Go.RowKit
def BadIn (s : ByteArray) (r : Rs) : Prop := match r with | .ok _ _ => True | .bad e a => e ≠ 0 ∧ a ≤ s.size
theorem wordK_le {s : ByteArray} : ∀ (l : List UInt8) (i : Nat), (∀ x ∈ l, x.toNat ≠ 0) → i ≤ s.size → i + wordK s i l ≤ s.size
  | [], i, _, h => h
  | x :: l, i, h0, h => by
    rw [wordK]
    split
    · rename_i q
      have := nxt_in (s := s) (i := i) (by rw [q]; exact h0 x (List.mem_cons_self ..))
      have := wordK_le l (i + 1) (fun y hy => h0 y (List.mem_cons_of_mem _ hy)) this
      omega
    · exact h
theorem wrdR_bad {s : ByteArray} {i : Nat} {l : List UInt8} {t : T} (h0 : ∀ x ∈ l, x.toNat ≠ 0) (hi : i ≤ s.size) : BadIn s (wrdR s i l t) := by
  unfold wrdR
  split
  · trivial
  · exact ⟨by decide, wordK_le l i h0 hi⟩
theorem numR_bad {s : ByteArray} {i : Nat} (hi : i ≤ s.size) : BadIn s (numR s i) := by
  have hA : numAt s i ≤ s.size := by
    unfold numAt
    split
    · rename_i q; exact nxt_in (by omega)
    · exact hi
  unfold numR
  split
  · trivial
  split
  · exact ⟨by decide, hA⟩
  split
  · trivial
  · exact ⟨by decide, hi⟩
theorem byD_le {s : ByteArray} {i : Nat} (hi : i ≤ s.size) : (byD s i).2 ≤ s.size := by
  simp only [byD]
  split
  · exact hi
  · rename_i q
    have h1 := hexV_bounds s i
    have := nxt_hex (s := s) (i := i) (by omega)
    split
    · exact this
    · rename_i q2
      have h2 := hexV_bounds s (i + 1)
      have := nxt_hex (s := s) (i := i + 1) (by omega)
      exact this
theorem escD_le {s : ByteArray} {i : Nat} (hi : i ≤ s.size) : (escD s i).2 ≤ s.size := by
  unfold escD
  split
  · exact nxt_in (by omega)
  split
  · exact byD_le (nxt_in (by omega))
  · exact hi
theorem quoL_bad {s : ByteArray} : ∀ (f j : Nat) (acc : List UInt8), j ≤ s.size → BadIn s (quoL s f j acc)
  | 0, j, acc, _ => ⟨by decide, Nat.zero_le _⟩
  | f + 1, j, acc, hj => by
    rw [quoL]
    split
    · trivial
    split
    · exact ⟨by decide, hj⟩
    split
    · have := escD_le (s := s) (i := j + 1) (nxt_in (by omega))
      rcases hq : escD s (j + 1) with ⟨_ | c, a⟩
      · rw [hq] at this
        exact ⟨by decide, this⟩
      · rw [hq] at this
        exact quoL_bad f a _ this
    · exact quoL_bad f (j + 1) _ (nxt_in (by omega))
theorem quoQ_bad {s : ByteArray} {i : Nat} (h : nxt s i = 34) : BadIn s (quoQ s i) := quoL_bad _ _ _ (nxt_in (by omega))
theorem ok_le {s : ByteArray} {f n i : Nat} {t : T} {a : Nat} (hn : n ≤ 64) (hi : i ≤ s.size) (h : rdV s (quoQ s) f n i = .ok t a) : a ≤ s.size := by
  obtain ⟨_, _, _, h4, h5⟩ := rdV_bwd _ _ _ _ _ hn h
  have := At.le h4 hi
  omega
mutual
theorem rdV_in {s : ByteArray} : ∀ (f n i : Nat), n ≤ 64 → i ≤ s.size → BadIn s (rdV s (quoQ s) f n i)
  | 0, n, i, _, _ => by rw [rdV]; exact ⟨by decide, Nat.zero_le _⟩
  | f + 1, n, i, hn, hi => by
    rw [rdV]
    split
    · exact wrdR_bad (by decide) hi
    split
    · exact wrdR_bad (by decide) hi
    split
    · exact wrdR_bad (by decide) hi
    split
    · exact numR_bad hi
    split
    · rename_i q; exact quoQ_bad q
    split
    · split
      · exact ⟨by decide, hi⟩
      split
      · trivial
      · exact rdL_in f (n + 1) (i + 1) [] (by omega) (nxt_in (by omega))
    · exact ⟨by decide, hi⟩
theorem rdL_in {s : ByteArray} : ∀ (f n i : Nat) (acc : List T), n ≤ 64 → i ≤ s.size → BadIn s (rdL s (quoQ s) f n i acc)
  | 0, n, i, acc, _, _ => by rw [rdL]; exact ⟨by decide, Nat.zero_le _⟩
  | f + 1, n, i, acc, hn, hi => by
    have hb := rdV_in (s := s) f n i hn hi
    cases hv : rdV s (quoQ s) f n i with
    | bad e a' => simp only [rdL, hv]; rw [hv] at hb; exact hb
    | ok u a' =>
      have ha := ok_le hn hi hv
      simp only [rdL, hv]
      split
      · trivial
      split
      · split
        · exact rdL_in f n (a' + 2) _ hn (nxt_in (i := a' + 1) (by omega))
        · exact ⟨by decide, nxt_in (by omega)⟩
      · exact ⟨by decide, ha⟩
end
theorem readR_bad (s : ByteArray) : BadIn s (readR s (quoQ s)) := by
  unfold readR
  split
  · exact ⟨by decide, Nat.zero_le _⟩
  unfold wholeR
  have hb := rdV_in (s := s) (2 * s.size + 1) 0 0 (by decide) (Nat.zero_le _)
  cases hv : rdV s (quoQ s) (2 * s.size + 1) 0 0 with
  | bad e a => rw [hv] at hb; exact hb
  | ok t a =>
    have ha := ok_le (by decide) (Nat.zero_le _) hv
    show BadIn s (if a < s.size then .bad 5 a else if 65536 < t.size then .bad 2 a else .ok t a)
    split
    · exact ⟨by decide, ha⟩
    split
    · exact ⟨by decide, ha⟩
    · trivial
/-- What is read is a value that may be, and its text is what was read. -/
theorem readR_ok {s : ByteArray} {t : T} {a : Nat} (h : readR s (quoQ s) = .ok t a) : t.may ∧ t.fitI ∧ t.wr = s.data.toList ∧ s.size ≤ 1048576 := by
  unfold readR at h
  split at h
  · cases h
  rename_i hs
  unfold wholeR at h
  cases hv : rdV s (quoQ s) (2 * s.size + 1) 0 0 with
  | bad e a' => rw [hv] at h; cases h
  | ok u a' =>
    rw [hv] at h
    have h' : (if a' < s.size then Rs.bad 5 a' else if 65536 < u.size then Rs.bad 2 a' else Rs.ok u a') = .ok t a := h
    split at h'
    · cases h'
    rename_i q1
    split at h'
    · cases h'
    rename_i q2
    cases h'
    obtain ⟨g1, g2, g3, g4, g5⟩ := rdV_bwd _ _ _ _ _ (by decide) hv
    refine ⟨⟨g1, by omega, by omega⟩, g2, ?_, by omega⟩
    have hd := g4.drop
    have e : s.data.toList.length = s.size := by rw [Array.length_toList]; rfl
    rw [List.drop_zero, List.take_of_length_le (by omega)] at hd
    exact hd.symm
/-- A value's text is read as it. -/
theorem readR_text {t : T} (hm : t.may) (hf : t.fitI) (hl : t.wr.length ≤ 1048576) : readR ⟨t.wr.toArray⟩ (quoQ ⟨t.wr.toArray⟩) = .ok t t.wr.length := by
  have hsz : (ByteArray.mk t.wr.toArray).size = t.wr.length := by show t.wr.toArray.size = _; simp
  have hat : At ⟨t.wr.toArray⟩ 0 t.wr := by
    have := At.self (s := ⟨t.wr.toArray⟩) t.wr.length 0 (by rw [hsz]; rfl)
    simpa using this
  have hv := rdV_fwd (2 * (ByteArray.mk t.wr.toArray).size + 1) t 0 0 hm.1 hf (by have := hm.2.2; omega) hat (by rw [nxt_end (by rw [hsz]; omega)]; decide) (by rw [hsz]; omega)
  unfold readR
  rw [if_neg (by rw [hsz]; omega)]
  unfold wholeR
  rw [hv]
  show (if 0 + t.wr.length < (ByteArray.mk t.wr.toArray).size then Rs.bad 5 _ else if 65536 < t.size then Rs.bad 2 _ else Rs.ok t _) = _
  rw [if_neg (by rw [hsz]; omega), if_neg (by have := hm.2.1; omega), Nat.zero_add]
end Go.Proofs.YtbpbkihcfdnphaaGreatDoor
