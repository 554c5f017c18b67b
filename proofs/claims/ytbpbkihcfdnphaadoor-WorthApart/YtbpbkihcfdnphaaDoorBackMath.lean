/-
  A value's text is read as it, and only a value's text is read.
-/
import Derived.Test.YtbpbkihcfdnphaaDoorBackNum
import Derived.Test.YtbpbkihcfdnphaaDoorWrite
import Derived.Test.YtbpbkihcfdnphaaDoorWf
namespace Go.Proofs.YtbpbkihcfdnphaaDoor
open Go.RowKit
theorem wordK_at {s : ByteArray} : ∀ {l : List UInt8} {i : Nat}, At s i l → wordK s i l = l.length
  | [], i, _ => rfl
  | x :: l, i, ⟨_, h2, h3⟩ => by rw [wordK, if_pos h2, wordK_at h3, List.length_cons]; omega
theorem at_wordK {s : ByteArray} : ∀ {l : List UInt8} {i : Nat}, (∀ x ∈ l, x.toNat ≠ 0) → wordK s i l = l.length → At s i l
  | [], i, _, _ => trivial
  | x :: l, i, h0, h => by
    rw [wordK] at h
    split at h
    · rename_i q
      refine ⟨nxt_in (by rw [q]; exact h0 x (List.mem_cons_self ..)), q, at_wordK (fun y hy => h0 y (List.mem_cons_of_mem _ hy)) (by rw [List.length_cons] at h; omega)⟩
    · simp at h
theorem wrdR_fwd {s : ByteArray} {i : Nat} {l : List UInt8} {t : T} (h : At s i l) : wrdR s i l t = .ok t (i + l.length) := by
  unfold wrdR
  rw [wordK_at h, if_pos rfl]
theorem wrdR_bwd {s : ByteArray} {i : Nat} {l : List UInt8} {t t' : T} {a : Nat} (h0 : ∀ x ∈ l, x.toNat ≠ 0) (h : wrdR s i l t = .ok t' a) : t' = t ∧ At s i l ∧ a = i + l.length := by
  unfold wrdR at h
  split at h
  · rename_i q
    cases h
    exact ⟨rfl, at_wordK h0 q, by rw [q]⟩
  · cases h
theorem itoa_head (n : Int) : ∃ c l, Lib.itoa n = c :: l ∧ (c.toNat = 45 ∨ (48 ≤ c.toNat ∧ c.toNat ≤ 57)) := by
  by_cases hneg : n < 0
  · obtain ⟨u, rfl⟩ : ∃ u : Nat, n = -(u : Int) := ⟨n.natAbs, by omega⟩
    exact ⟨45, _, Lib.itoa_neg u (by omega), .inl rfl⟩
  · obtain ⟨u, rfl⟩ : ∃ u : Nat, n = (u : Int) := ⟨n.toNat, by omega⟩
    have hp : 1 ≤ (Lib.decDigits u).length := by rw [Lib.decDigits_length]; exact Lib.nDigits_pos u
    obtain ⟨c, l, e⟩ : ∃ c l, Lib.decDigits u = c :: l := by cases h : Lib.decDigits u with | nil => rw [h] at hp; simp at hp | cons c l => exact ⟨c, l, rfl⟩
    exact ⟨c, l, by rw [Lib.itoa_nonneg, e], .inr (dec_all u c (by rw [e]; exact List.mem_cons_self ..))⟩
theorem wr_head (t : T) : ∃ c l, t.wr = c :: l ∧ c.toNat ≠ 93 := by
  obtain ⟨k, n, x, ks⟩ := t
  by_cases h1 : k = 1
  · exact ⟨117, _, by rw [T.wr, if_pos h1], by decide⟩
  by_cases h2 : k = 2
  · by_cases h : n = 1
    · exact ⟨121, _, by rw [T.wr, if_neg h1, if_pos h2, if_pos h], by decide⟩
    · exact ⟨110, _, by rw [T.wr, if_neg h1, if_pos h2, if_neg h], by decide⟩
  by_cases h3 : k = 3
  · obtain ⟨c, l, e, hc⟩ := itoa_head n
    exact ⟨c, l, by rw [T.wr, if_neg h1, if_neg h2, if_pos h3, e], by omega⟩
  by_cases h4 : k = 4
  · exact ⟨34, _, by rw [T.wr, if_neg h1, if_neg h2, if_neg h3, if_pos h4]; rfl, by decide⟩
  · exact ⟨91, _, by rw [T.wr, if_neg h1, if_neg h2, if_neg h3, if_neg h4], by decide⟩
theorem wrR_head {s : ByteArray} {i : Nat} (r : List T) (h : At s i (T.wrR r ++ [93])) : ¬ digP (nxt s i) := by
  cases r with
  | nil => have : nxt s i = 93 := h.2.1; unfold digP; omega
  | cons t r => have : nxt s i = 44 := h.2.1; unfold digP; omega
theorem quo_fwd {s : ByteArray} {i : Nat} {x : ByteArray} (h : At s i (quo x)) : quoQ s i = .ok (.node 4 0 x []) (i + (quo x).length) := by
  have h2 : At s (i + 1) (escs x.data.toList ++ [34]) := h.2.2
  have hl := At.le h2 h.1
  unfold quoQ
  rw [quoL_fwd x.data.toList _ _ [] h2 (by rw [List.length_append] at hl; simp at hl; omega)]
  simp only [List.nil_append, quo, List.length_cons, List.length_append, List.length_nil]
  rw [show i + 1 + (escs x.data.toList).length + 1 = i + ((escs x.data.toList).length + (0 + 1) + 1) by omega]
theorem quo_bwd {s : ByteArray} {i : Nat} {t : T} {a : Nat} (h34 : nxt s i = 34) (h : quoQ s i = .ok t a) : ∃ x, t = .node 4 0 x [] ∧ At s i (quo x) ∧ a = i + (quo x).length := by
  obtain ⟨x, e1, e2, e3⟩ := quoL_bwd _ _ _ _ _ h
  refine ⟨⟨x.toArray⟩, e1, ⟨nxt_in (by omega), h34, e2⟩, ?_⟩
  rw [e3]
  simp only [quo, List.length_cons, List.length_append, List.length_nil]
  omega
mutual
theorem rdV_fwd {s : ByteArray} : ∀ (f : Nat) (t : T) (n i : Nat), t.good → t.fitI → t.deep + n ≤ 64 → At s i t.wr → ¬ digP (nxt s (i + t.wr.length)) → 2 * t.wr.length ≤ f → rdV s (quoQ s) f n i = .ok t (i + t.wr.length)
  | 0, t, n, i, hg, hfi, hd, hat, hnd, hf => by
    obtain ⟨c0, l0, e0, _⟩ := wr_head t
    rw [e0] at hf
    simp at hf
  | f + 1, .node k m x ks, n, i, hg, hfi, hd, hat, hnd, hf => by
    have hw : T.wfP k m x.size ks.length := hg.1
    unfold T.wfP at hw
    rcases hw with ⟨rfl, rfl, hx, hl⟩ | ⟨rfl, hm, hx, hl⟩ | ⟨rfl, hx, hl⟩ | ⟨rfl, rfl, hl⟩ | ⟨rfl, rfl, hx⟩
    · obtain rfl := empty_of hx
      obtain rfl := List.eq_nil_of_length_eq_zero hl
      have e : T.wr (.node 1 0 ⟨#[]⟩ []) = [117, 110, 105, 116] := by rw [T.wr, if_pos rfl]
      rw [e] at hat ⊢
      have h1 : nxt s i = 117 := hat.2.1
      rw [rdV, if_pos h1]
      exact wrdR_fwd hat
    · obtain rfl := empty_of hx
      obtain rfl := List.eq_nil_of_length_eq_zero hl
      rcases hm with rfl | rfl
      · have e : T.wr (.node 2 0 ⟨#[]⟩ []) = [110, 111] := by rw [T.wr, if_neg (by decide), if_pos rfl, if_neg (by decide)]
        rw [e] at hat ⊢
        have h1 : nxt s i = 110 := hat.2.1
        rw [rdV, if_neg (by omega), if_neg (by omega), if_pos h1]
        exact wrdR_fwd hat
      · have e : T.wr (.node 2 1 ⟨#[]⟩ []) = [121, 101, 115] := by rw [T.wr, if_neg (by decide), if_pos rfl, if_pos rfl]
        rw [e] at hat ⊢
        have h1 : nxt s i = 121 := hat.2.1
        rw [rdV, if_neg (by omega), if_pos h1]
        exact wrdR_fwd hat
    · obtain rfl := empty_of hx
      obtain rfl := List.eq_nil_of_length_eq_zero hl
      have e : T.wr (.node 3 m ⟨#[]⟩ []) = Lib.itoa m := by rw [T.wr, if_neg (by decide), if_neg (by decide), if_pos rfl]
      rw [e] at hat hnd ⊢
      obtain ⟨c, l, e2, hc⟩ := itoa_head m
      have h1 : nxt s i = c.toNat := by rw [e2] at hat; exact hat.2.1
      rw [rdV, if_neg (by omega), if_neg (by omega), if_neg (by omega), if_pos (by unfold digP; omega)]
      have hb := hfi.1 rfl
      exact numR_fwd hb.1 hb.2 hat hnd
    · obtain rfl := List.eq_nil_of_length_eq_zero hl
      have e : T.wr (.node 4 0 x []) = quo x := by rw [T.wr, if_neg (by decide), if_neg (by decide), if_neg (by decide), if_pos rfl]
      rw [e] at hat ⊢
      have h1 : nxt s i = 34 := hat.2.1
      rw [rdV, if_neg (by omega), if_neg (by omega), if_neg (by omega), if_neg (by unfold digP; omega), if_pos h1]
      exact quo_fwd hat
    · obtain rfl := empty_of hx
      have e : T.wr (.node 5 0 ⟨#[]⟩ ks) = 91 :: (T.wrL ks ++ [93]) := by rw [T.wr, if_neg (by decide), if_neg (by decide), if_neg (by decide), if_neg (by decide)]
      rw [e] at hat hf ⊢
      have h1 : nxt s i = 91 := hat.2.1
      simp only [T.deep, if_pos] at hd
      rw [rdV, if_neg (by omega), if_neg (by omega), if_neg (by omega), if_neg (by unfold digP; omega), if_neg (by omega), if_pos h1, if_neg (by omega)]
      cases ks with
      | nil =>
        have h2 : nxt s (i + 1) = 93 := hat.2.2.2.1
        rw [if_pos h2]
        rfl
      | cons t r =>
        obtain ⟨c, l, e2, hc⟩ := wr_head t
        have h3 : At s (i + 1) (T.wr t ++ T.wrR r ++ [93]) := hat.2.2
        have h2 : nxt s (i + 1) = c.toNat := by rw [e2] at h3; exact h3.2.1
        rw [if_neg (by omega)]
        simp only [List.length_cons, T.wrL] at hf ⊢
        rw [rdL_fwd f t r (n + 1) (i + 1) [] hg.2 hfi.2 (by omega) h3 (by omega)]
        simp only [List.nil_append]
        congr 1
        omega
theorem rdL_fwd {s : ByteArray} : ∀ (f : Nat) (t : T) (r : List T) (n i : Nat) (acc : List T), T.goodL (t :: r) → T.fitIL (t :: r) → T.deepL (t :: r) + n ≤ 64 → At s i (T.wr t ++ T.wrR r ++ [93]) → 2 * (T.wr t ++ T.wrR r ++ [93]).length ≤ f + 1 → rdL s (quoQ s) f n i acc = .ok (.node 5 0 ⟨#[]⟩ (acc ++ t :: r)) (i + (T.wr t ++ T.wrR r ++ [93]).length)
  | 0, t, r, n, i, acc, hg, hfi, hd, hat, hf => by
    simp only [List.length_append, List.length_cons, List.length_nil] at hf
    omega
  | f + 1, t, r, n, i, acc, hg, hfi, hd, hat, hf => by
    simp only [List.length_append, List.length_cons, List.length_nil] at hf
    rw [List.append_assoc, At.append] at hat
    obtain ⟨h1, h2⟩ := hat
    simp only [T.deepL] at hd
    have hv := rdV_fwd f t n i hg.1 hfi.1 (by omega) h1 (wrR_head r h2) (by omega)
    simp only [rdL, hv]
    cases r with
    | nil =>
      have h3 : nxt s (i + (T.wr t).length) = 93 := h2.2.1
      rw [if_pos h3]
      simp only [T.wrR, List.append_nil, List.length_append, List.length_cons, List.length_nil]
      rw [show i + (T.wr t).length + 1 = i + ((T.wr t).length + (0 + 1)) by omega]
    | cons t' r' =>
      have h3 : nxt s (i + (T.wr t).length) = 44 := h2.2.1
      have h4 : nxt s (i + (T.wr t).length + 1) = 32 := h2.2.2.2.1
      have h5 : At s (i + (T.wr t).length + 2) (T.wr t' ++ T.wrR r' ++ [93]) := h2.2.2.2.2
      simp only [T.wrR, List.length_append, List.length_cons, List.length_nil] at hf
      rw [if_neg (by omega), if_pos h3, if_pos h4]
      rw [rdL_fwd f t' r' n (i + (T.wr t).length + 2) (acc ++ [t]) hg.2 hfi.2 (by simp only [T.deepL] at hd ⊢; omega) h5 (by simp only [List.length_append, List.length_cons, List.length_nil]; omega)]
      simp only [List.append_assoc, List.cons_append, List.nil_append, T.wrR, List.length_append, List.length_cons, List.length_nil]
      rw [show i + (T.wr t).length + 2 + ((T.wr t').length + ((T.wrR r').length + (0 + 1))) = i + ((T.wr t).length + ((T.wr t').length + ((T.wrR r').length + (0 + 1)) + 1 + 1)) by omega]
end
mutual
theorem rdV_bwd {s : ByteArray} : ∀ (f n i : Nat) (t : T) (a : Nat), n ≤ 64 → rdV s (quoQ s) f n i = .ok t a → t.good ∧ t.fitI ∧ t.deep + n ≤ 64 ∧ At s i t.wr ∧ a = i + t.wr.length
  | 0, n, i, t, a, _, h => by simp [rdV] at h
  | f + 1, n, i, t, a, hn, h => by
    rw [rdV] at h
    split at h
    · obtain ⟨rfl, h1, h2⟩ := wrdR_bwd (by decide) h
      exact ⟨⟨by decide, trivial⟩, ⟨by decide, trivial⟩, by simp [T.deep]; exact hn, h1, h2⟩
    split at h
    · obtain ⟨rfl, h1, h2⟩ := wrdR_bwd (by decide) h
      exact ⟨⟨by decide, trivial⟩, ⟨by decide, trivial⟩, by simp [T.deep]; exact hn, h1, h2⟩
    split at h
    · obtain ⟨rfl, h1, h2⟩ := wrdR_bwd (by decide) h
      exact ⟨⟨by decide, trivial⟩, ⟨by decide, trivial⟩, by simp [T.deep]; exact hn, h1, h2⟩
    split at h
    · obtain ⟨m, rfl, h1, h2, h3, h4⟩ := numR_bwd h
      exact ⟨⟨.inr (.inr (.inl ⟨rfl, rfl, rfl⟩)), trivial⟩, ⟨fun _ => ⟨h3, h4⟩, trivial⟩, by simp [T.deep]; exact hn, h1, h2⟩
    split at h
    · rename_i h34
      obtain ⟨x, rfl, h1, h2⟩ := quo_bwd h34 h
      exact ⟨⟨.inr (.inr (.inr (.inl ⟨rfl, rfl, rfl⟩))), trivial⟩, ⟨fun q => absurd q (by decide), trivial⟩, by simp [T.deep]; exact hn, h1, h2⟩
    split at h
    · rename_i h91
      split at h
      · cases h
      rename_i hn64
      split at h
      · rename_i h93
        cases h
        exact ⟨⟨by decide, trivial⟩, ⟨by decide, trivial⟩, by simp [T.deep, T.deepL]; omega, ⟨nxt_in (by omega), h91, nxt_in (by omega), h93, trivial⟩, rfl⟩
      · obtain ⟨u, r, rfl, g1, g2, g3, g4, g5⟩ := rdL_bwd f (n + 1) (i + 1) [] t a (by omega) h
        have e : T.wr (.node 5 0 ⟨#[]⟩ (u :: r)) = 91 :: (T.wr u ++ T.wrR r ++ [93]) := by rw [T.wr, if_neg (by decide), if_neg (by decide), if_neg (by decide), if_neg (by decide)]; rfl
        refine ⟨⟨.inr (.inr (.inr (.inr ⟨rfl, rfl, rfl⟩))), g1⟩, ⟨fun q => absurd q (by decide), g2⟩, ?_, ?_, ?_⟩
        · simp only [List.nil_append, T.deep, if_pos]; omega
        · rw [List.nil_append, e]; exact ⟨nxt_in (by omega), h91, g4⟩
        · rw [List.nil_append, e, List.length_cons]; omega
    · cases h
theorem rdL_bwd {s : ByteArray} : ∀ (f n i : Nat) (acc : List T) (t : T) (a : Nat), n ≤ 64 → rdL s (quoQ s) f n i acc = .ok t a → ∃ u r, t = .node 5 0 ⟨#[]⟩ (acc ++ u :: r) ∧ T.goodL (u :: r) ∧ T.fitIL (u :: r) ∧ T.deepL (u :: r) + n ≤ 64 ∧ At s i (T.wr u ++ T.wrR r ++ [93]) ∧ a = i + (T.wr u ++ T.wrR r ++ [93]).length
  | 0, n, i, acc, t, a, _, h => by simp [rdL] at h
  | f + 1, n, i, acc, t, a, hn, h => by
    cases hv : rdV s (quoQ s) f n i with
    | bad e a' => simp only [rdL, hv] at h; cases h
    | ok u a' =>
      simp only [rdL, hv] at h
      obtain ⟨v1, v2, v3, v4, v5⟩ := rdV_bwd f n i u a' hn hv
      split at h
      · rename_i h93
        cases h
        refine ⟨u, [], rfl, ⟨v1, trivial⟩, ⟨v2, trivial⟩, by simp only [T.deepL]; omega, ?_, ?_⟩
        · simp only [T.wrR, List.append_nil]
          rw [At.append]
          exact ⟨v4, nxt_in (by rw [← v5]; omega), by rw [← v5]; exact h93, trivial⟩
        · simp only [T.wrR, List.append_nil, List.length_append, List.length_cons, List.length_nil]; omega
      split at h
      · rename_i h44
        split at h
        · rename_i h32
          obtain ⟨u', r, rfl, g1, g2, g3, g4, g5⟩ := rdL_bwd f n (a' + 2) (acc ++ [u]) t a hn h
          refine ⟨u, u' :: r, by simp, ⟨v1, g1⟩, ⟨v2, g2⟩, by simp only [T.deepL] at g3 ⊢; omega, ?_, ?_⟩
          · rw [List.append_assoc, At.append]
            refine ⟨v4, nxt_in (by rw [← v5]; omega), by rw [← v5]; exact h44, nxt_in (by rw [← v5]; omega), by rw [← v5]; exact h32, ?_⟩
            rw [← v5]
            exact g4
          · rw [g5]
            simp only [T.wrR, List.length_append, List.length_cons, List.length_nil]
            omega
        · cases h
      · cases h
end
end Go.Proofs.YtbpbkihcfdnphaaDoor
