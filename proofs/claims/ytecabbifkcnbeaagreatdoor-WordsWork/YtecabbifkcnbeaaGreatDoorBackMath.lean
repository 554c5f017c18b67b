/-
  A number is read as what was written, and only what was written is read.
-/
import Derived.Test.YtecabbifkcnbeaaGreatDoorReads
import Derived.Lib.ParseIntBCases
import Derived.Lib.ParseIntBTie
import Derived.Test.YtecabbifkcnbeaaGreatDoorWrite
import Derived.Test.YtecabbifkcnbeaaGreatDoorComp
namespace Go.Proofs.YtecabbifkcnbeaaGreatDoor
open Go.RowKit
theorem par_append (M : Nat) : ∀ (l m : List UInt8) (acc v : Nat), Lib.parseUintM M acc l = .ok v → Lib.parseUintM M acc (l ++ m) = Lib.parseUintM M v m
  | [], m, acc, v, h => by simp only [Lib.parseUintM] at h; injection h with h; rw [h]; rfl
  | c :: r, m, acc, v, h => by
    simp only [Lib.parseUintM, List.cons_append] at h ⊢
    split at h
    · rename_i q
      rw [if_pos q]
      split at h
      · cases h
      rename_i q2
      rw [if_neg q2]
      split at h
      · cases h
      rename_i q3
      rw [if_neg q3]
      exact par_append M r m _ v h
    · cases h
theorem dig_nat (d : Nat) (h : d < 10) : (UInt8.ofNat (48 + d)).toNat = 48 + d := by
  have : (48 + d) % 256 = 48 + d := Nat.mod_eq_of_lt (by omega)
  simpa using this
theorem par_fwd (u : Nat) : u ≤ 18446744073709551615 → Lib.parseUintM 18446744073709551615 0 (Lib.decDigits u) = .ok u := by
  induction u using Nat.strongRecOn with
  | _ u ih =>
    intro hu
    by_cases h : u < 10
    · rw [Lib.decDigits_one h]
      simp only [Lib.parseUintM, dig_nat u h]
      rw [if_pos (by omega), if_neg (by omega), if_neg (by omega)]
      rw [show 0 * 10 + (48 + u - 48) = u by omega]
    · rw [Lib.decDigits, dif_neg h, par_append _ _ _ _ _ (ih (u / 10) (by omega) (by omega))]
      simp only [Lib.parseUintM, dig_nat (u % 10) (by omega)]
      rw [if_pos (by omega), if_neg (by omega), if_neg (by omega)]
      rw [show u / 10 * 10 + (48 + u % 10 - 48) = u by omega]
theorem par_bwd (M : Nat) : ∀ (l : List UInt8) (acc v : Nat), 1 ≤ acc → Lib.parseUintM M acc l = .ok v → Lib.decDigits v = Lib.decDigits acc ++ l
  | [], acc, v, _, h => by simp only [Lib.parseUintM] at h; injection h with h; rw [h]; simp
  | c :: r, acc, v, ha, h => by
    simp only [Lib.parseUintM] at h
    split at h
    · rename_i q
      split at h
      · cases h
      split at h
      · cases h
      have ih := par_bwd M r _ v (by omega) h
      rw [ih, Lib.decDigits, dif_neg (by omega), List.append_assoc]
      rw [show (acc * 10 + (c.toNat - 48)) / 10 = acc by omega, show (acc * 10 + (c.toNat - 48)) % 10 = c.toNat - 48 by omega, show 48 + (c.toNat - 48) = c.toNat by omega]
      simp
    · cases h
theorem par_bwd0 (M : Nat) (c : UInt8) (r : List UInt8) (v : Nat) (h48 : 49 ≤ c.toNat ∧ c.toNat ≤ 57) (h : Lib.parseUintM M 0 (c :: r) = .ok v) : Lib.decDigits v = c :: r := by
  simp only [Lib.parseUintM] at h
  rw [if_pos (by omega), if_neg (by omega)] at h
  split at h
  · cases h
  have := par_bwd M r _ v (by omega) h
  rw [this, Lib.decDigits_one (by omega), show 48 + (0 * 10 + (c.toNat - 48)) = c.toNat by omega]
  simp
theorem dec_all (u : Nat) : ∀ x ∈ Lib.decDigits u, 48 ≤ x.toNat ∧ x.toNat ≤ 57 := by
  induction u using Nat.strongRecOn with
  | _ u ih =>
    by_cases h : u < 10
    · rw [Lib.decDigits_one h]
      intro x hx
      rw [List.mem_singleton.1 hx, dig_nat u h]
      omega
    · rw [Lib.decDigits, dif_neg h]
      intro x hx
      rcases List.mem_append.1 hx with hx | hx
      · exact ih (u / 10) (by omega) x hx
      · rw [List.mem_singleton.1 hx, dig_nat (u % 10) (by omega)]; omega
theorem dec_head (u : Nat) : 1 ≤ u → ∃ c r, Lib.decDigits u = c :: r ∧ 49 ≤ c.toNat ∧ c.toNat ≤ 57 := by
  induction u using Nat.strongRecOn with
  | _ u ih =>
    intro hu
    by_cases h : u < 10
    · exact ⟨_, _, Lib.decDigits_one h, by rw [dig_nat u h]; omega, by rw [dig_nat u h]; omega⟩
    · obtain ⟨c, r, e, h1, h2⟩ := ih (u / 10) (by omega) (by omega)
      exact ⟨c, r ++ _, by rw [Lib.decDigits, dif_neg h, e]; rfl, h1, h2⟩
theorem At.digs {s : ByteArray} : ∀ {l : List UInt8} {i : Nat}, At s i l → (∀ x ∈ l, 48 ≤ x.toNat ∧ x.toNat ≤ 57) → ∀ q, i ≤ q → q < i + l.length → q < s.size ∧ digP (nxt s q)
  | [], i, _, _, q, h1, h2 => by simp at h2; omega
  | x :: l, i, ⟨a1, a2, a3⟩, hx, q, h1, h2 => by
    by_cases e : q = i
    · subst e
      exact ⟨a1, by rw [a2]; exact hx x (List.mem_cons_self ..)⟩
    · exact At.digs a3 (fun y hy => hx y (List.mem_cons_of_mem _ hy)) q (by omega) (by simp only [List.length_cons] at h2; omega)
theorem extract_list (s : ByteArray) (i D : Nat) : (s.extract i D).data.toList = (s.data.toList.drop i).take (D - i) := by
  simp [ByteArray.data_extract, Array.toList_extract]
theorem At.take {s : ByteArray} {i D : Nat} (h : i ≤ D) (hD : D ≤ s.size) : At s i (s.extract i D).data.toList ∧ (s.extract i D).data.toList.length = D - i := by
  have e : s.data.toList.length = s.size := by rw [Array.length_toList]; rfl
  have hs := At.self (s := s) (s.size - i) i (by omega)
  rw [← List.take_append_drop (D - i) (s.data.toList.drop i), At.append] at hs
  rw [extract_list]
  exact ⟨hs.1, by rw [List.length_take, List.length_drop]; omega⟩
theorem digEnd_le {s : ByteArray} (i : Nat) (h : i ≤ s.size) : digEnd s i ≤ s.size := by
  unfold digEnd
  split
  · exact digEnd_le (i + 1) (by omega)
  · exact h
termination_by s.size - i
theorem digEnd_lt {s : ByteArray} {i : Nat} (h : digP (nxt s i)) : i < digEnd s i := by
  have hi : i < s.size := nxt_in (by unfold digP at h; omega)
  unfold digEnd
  rw [if_pos ⟨hi, h⟩]
  have := digEnd_ge s (i + 1)
  omega
theorem par64 (c : UInt8) (r : List UInt8) (hc : 49 ≤ c.toNat ∧ c.toNat ≤ 57) : Lib.parseIntB 64 (c :: r) = Lib.signlessC 9223372036854775808 (Lib.parseUintM 18446744073709551615 0 (c :: r)) := by
  rw [Lib.parseIntB_plain 64 c r (by omega) (by omega), Lib.parseUintB, if_neg (by simp)]
theorem par64m (c : UInt8) (r : List UInt8) : Lib.parseIntB 64 (45 :: c :: r) = Lib.signedC 9223372036854775808 (Lib.parseUintM 18446744073709551615 0 (c :: r)) := by
  rw [Lib.parseIntB_minus 64 (c :: r), Lib.parseUintB, if_neg (by simp)]
theorem At.extract {s : ByteArray} {l : List UInt8} {i : Nat} (h : At s i l) : (s.extract i (i + l.length)).data.toList = l := by
  rw [extract_list, show i + l.length - i = l.length by omega]
  exact h.drop
theorem numR_fwd {s : ByteArray} {i : Nat} {n : Int} (h0 : -9223372036854775808 ≤ n) (h1 : n ≤ 9223372036854775807) (h : At s i (Lib.itoa n)) (hn : ¬ digP (nxt s (i + (Lib.itoa n).length))) : numR s i = .ok (.node 3 n ⟨#[]⟩ []) (i + (Lib.itoa n).length) := by
  by_cases hneg : n < 0
  · obtain ⟨u, rfl⟩ : ∃ u : Nat, n = -(u : Int) := ⟨n.natAbs, by omega⟩
    obtain ⟨c, r, e, c1, c2⟩ := dec_head u (by omega)
    rw [Lib.itoa_neg u (by omega)] at h hn ⊢
    have hex := h.extract
    have e45 : nxt s i = 45 := h.2.1
    have hA : numAt s i = i + 1 := by unfold numAt; rw [if_pos e45]
    have hd := At.digs h.2.2 (dec_all u)
    have hde : digEnd s (i + 1) = i + 1 + (Lib.decDigits u).length := digEnd_of s _ _ hd (fun q => hn (by rw [List.length_cons, show i + ((Lib.decDigits u).length + 1) = i + 1 + (Lib.decDigits u).length by omega]; exact q.2))
    have hc : nxt s (i + 1) = c.toNat := by have := h.2.2; rw [e] at this; exact this.2.1
    unfold numR
    rw [hA, hc, if_neg (by omega), if_neg (by unfold digP; omega), hde]
    rw [List.length_cons, show i + ((Lib.decDigits u).length + 1) = i + 1 + (Lib.decDigits u).length by omega] at hex ⊢
    have hp : Lib.parseIntB 64 (45 :: Lib.decDigits u) = .ok (-(u : Int)) := by
      have hf := par_fwd u (by omega)
      rw [e] at hf ⊢
      rw [par64m, hf, Lib.signedC, if_neg (by omega)]
    rw [hex, hp]
  · obtain ⟨u, rfl⟩ : ∃ u : Nat, n = (u : Int) := ⟨n.toNat, by omega⟩
    rw [Lib.itoa_nonneg] at h hn ⊢
    have hex := h.extract
    by_cases hu : u = 0
    · subst hu
      rw [Lib.decDigits_one (by decide)] at h ⊢
      have e48 : nxt s i = 48 := h.2.1
      have hA : numAt s i = i := by unfold numAt; rw [if_neg (by omega)]
      unfold numR
      rw [hA, if_pos ⟨e48, by omega⟩]
      rfl
    · obtain ⟨c, r, e, c1, c2⟩ := dec_head u (by omega)
      have hd := At.digs h (dec_all u)
      have hc : nxt s i = c.toNat := by rw [e] at h; exact h.2.1
      have hA : numAt s i = i := by unfold numAt; rw [if_neg (by omega)]
      have hde : digEnd s i = i + (Lib.decDigits u).length := digEnd_of s _ _ hd (fun q => hn q.2)
      unfold numR
      rw [hA, hc, if_neg (by omega), if_neg (by unfold digP; omega), hde]
      have hp : Lib.parseIntB 64 (Lib.decDigits u) = .ok (u : Int) := by
        have hf := par_fwd u (by omega)
        rw [e] at hf ⊢
        rw [par64 c r ⟨c1, c2⟩, hf, Lib.signlessC, if_neg (by omega)]
      rw [hex, hp]
theorem numR_bwd {s : ByteArray} {i : Nat} {t : T} {a : Nat} (h : numR s i = .ok t a) : ∃ n, t = .node 3 n ⟨#[]⟩ [] ∧ At s i (Lib.itoa n) ∧ a = i + (Lib.itoa n).length ∧ -9223372036854775808 ≤ n ∧ n ≤ 9223372036854775807 := by
  unfold numR at h
  split at h
  · rename_i q
    cases h
    have hA : numAt s i = i := by unfold numAt; rw [if_neg q.2]
    rw [hA] at q ⊢
    have e0 : Lib.itoa 0 = [48] := by rw [show (0 : Int) = ((0 : Nat) : Int) from rfl, Lib.itoa_nonneg, Lib.decDigits_one (by decide)]; rfl
    exact ⟨0, rfl, by rw [e0]; exact ⟨nxt_in (by omega), q.1, trivial⟩, by rw [e0]; rfl, by decide, by decide⟩
  split at h
  · cases h
  rename_i q1 q2
  have hdg : digP (nxt s (numAt s i)) := Decidable.byContradiction fun x => q2 (.inr x)
  have h48 : ¬ nxt s (numAt s i) = 48 := fun x => q2 (.inl x)
  have hlt := digEnd_lt hdg
  have hin : numAt s i < s.size := nxt_in (by unfold digP at hdg; omega)
  have hle := digEnd_le (numAt s i) (Nat.le_of_lt hin)
  have hAi : i ≤ numAt s i := by unfold numAt; split <;> omega
  obtain ⟨hat, hlen⟩ := At.take (s := s) (i := i) (D := digEnd s (numAt s i)) (by omega) hle
  have hd2 := hdg
  unfold digP at hd2
  obtain ⟨l, hl⟩ : ∃ l, (s.extract i (digEnd s (numAt s i))).data.toList = l := ⟨_, rfl⟩
  rw [hl] at h hat hlen
  have hpos : 1 ≤ l.length := by omega
  rcases hp : Lib.parseIntB 64 l with v | _ | _
  rotate_left
  · rw [hp] at h; cases h
  · rw [hp] at h; cases h
  · rw [hp] at h
    cases h
    have bnd := Lib.parseIntB_bounds hp
    have e63 : ((2 ^ (64 - 1) : Nat) : Int) = 9223372036854775808 := rfl
    rw [e63] at bnd
    have key : Lib.itoa v = l := by
      by_cases h45 : nxt s i = 45
      · have hA : numAt s i = i + 1 := by unfold numAt; rw [if_pos h45]
        rw [hA] at hlen hlt h48 hd2
        obtain ⟨x, l', rfl⟩ : ∃ x l', l = x :: l' := by cases l with | nil => simp at hpos | cons x l' => exact ⟨x, l', rfl⟩
        have hx : x = 45 := UInt8.toNat_inj.1 (by rw [← hat.2.1, h45]; rfl)
        subst hx
        obtain ⟨c, r, rfl⟩ : ∃ c r, l' = c :: r := by cases l' with | nil => simp at hlen; omega | cons x l' => exact ⟨x, l', rfl⟩
        have hc : nxt s (i + 1) = c.toNat := hat.2.2.2.1
        rw [par64m] at hp
        rcases hq : Lib.parseUintM 18446744073709551615 0 (c :: r) with u | _ | _
        rotate_left
        · rw [hq] at hp; cases hp
        · rw [hq] at hp; cases hp
        · have hb := par_bwd0 _ c r u ⟨by omega, by omega⟩ hq
          rw [hq, Lib.signedC] at hp
          split at hp
          · cases hp
          cases hp
          have hu1 : 1 ≤ u := by
            rcases Nat.eq_zero_or_pos u with h0 | h0
            · subst h0
              rw [Lib.decDigits_one (by decide)] at hb
              injection hb with hb1 hb2
              have := congrArg UInt8.toNat hb1
              rw [dig_nat 0 (by decide)] at this
              omega
            · exact h0
          rw [Lib.itoa_neg u hu1, hb]
      · have hA : numAt s i = i := by unfold numAt; rw [if_neg h45]
        rw [hA] at hlen hlt h48 hd2
        obtain ⟨c, r, rfl⟩ : ∃ c r, l = c :: r := by cases l with | nil => simp at hpos | cons x l' => exact ⟨x, l', rfl⟩
        have hc : nxt s i = c.toNat := hat.2.1
        rw [par64 c r ⟨by omega, by omega⟩] at hp
        rcases hq : Lib.parseUintM 18446744073709551615 0 (c :: r) with u | _ | _
        rotate_left
        · rw [hq] at hp; cases hp
        · rw [hq] at hp; cases hp
        · have hb := par_bwd0 _ c r u ⟨by omega, by omega⟩ hq
          rw [hq, Lib.signlessC] at hp
          split at hp
          · cases hp
          cases hp
          rw [Lib.itoa_nonneg u, hb]
    refine ⟨v, rfl, by rw [key]; exact hat, by rw [key]; omega, by omega, by omega⟩
end Go.Proofs.YtecabbifkcnbeaaGreatDoor
/-
  A value's text is read as it, and only a value's text is read.
-/
namespace Go.Proofs.YtecabbifkcnbeaaGreatDoor
open Go.RowKit
theorem wordK_at {s : ByteArray} : ∀ {l : List UInt8} {i : Nat}, At s i l → wordK s i l = l.length
  | [], i, _ => rfl
  | x :: l, i, ⟨_, h2, h3⟩ => by rw [wordK, if_pos h2, wordK_at h3, List.length_cons]; omega
theorem at_wordK {s : ByteArray} : ∀ {l : List UInt8} {i : Nat}, (∀ x ∈ l, x.toNat ≠ 0) → wordK s i l = l.length → At s i l
  | [], i, _, _ => trivial
  | x :: l, i, h0, h => by
    rw [wordK] at h
    split at h
    · rename_i q
      refine ⟨nxt_in (by rw [q]; exact h0 x (List.mem_cons_self ..)), q, at_wordK (fun y hy => h0 y (List.mem_cons_of_mem _ hy)) (by rw [List.length_cons] at h; omega)⟩
    · simp at h
theorem wrdR_fwd {s : ByteArray} {i : Nat} {l : List UInt8} {t : T} (h : At s i l) : wrdR s i l t = .ok t (i + l.length) := by
  unfold wrdR
  rw [wordK_at h, if_pos rfl]
theorem wrdR_bwd {s : ByteArray} {i : Nat} {l : List UInt8} {t t' : T} {a : Nat} (h0 : ∀ x ∈ l, x.toNat ≠ 0) (h : wrdR s i l t = .ok t' a) : t' = t ∧ At s i l ∧ a = i + l.length := by
  unfold wrdR at h
  split at h
  · rename_i q
    cases h
    exact ⟨rfl, at_wordK h0 q, by rw [q]⟩
  · cases h
theorem itoa_head (n : Int) : ∃ c l, Lib.itoa n = c :: l ∧ (c.toNat = 45 ∨ (48 ≤ c.toNat ∧ c.toNat ≤ 57)) := by
  by_cases hneg : n < 0
  · obtain ⟨u, rfl⟩ : ∃ u : Nat, n = -(u : Int) := ⟨n.natAbs, by omega⟩
    exact ⟨45, _, Lib.itoa_neg u (by omega), .inl rfl⟩
  · obtain ⟨u, rfl⟩ : ∃ u : Nat, n = (u : Int) := ⟨n.toNat, by omega⟩
    have hp : 1 ≤ (Lib.decDigits u).length := by rw [Lib.decDigits_length]; exact Lib.nDigits_pos u
    obtain ⟨c, l, e⟩ : ∃ c l, Lib.decDigits u = c :: l := by cases h : Lib.decDigits u with | nil => rw [h] at hp; simp at hp | cons c l => exact ⟨c, l, rfl⟩
    exact ⟨c, l, by rw [Lib.itoa_nonneg, e], .inr (dec_all u c (by rw [e]; exact List.mem_cons_self ..))⟩
theorem wr_head (t : T) : ∃ c l, t.wr = c :: l ∧ c.toNat ≠ 93 := by
  obtain ⟨k, n, x, ks⟩ := t
  by_cases h1 : k = 1
  · exact ⟨117, _, by rw [T.wr, if_pos h1], by decide⟩
  by_cases h2 : k = 2
  · by_cases h : n = 1
    · exact ⟨121, _, by rw [T.wr, if_neg h1, if_pos h2, if_pos h], by decide⟩
    · exact ⟨110, _, by rw [T.wr, if_neg h1, if_pos h2, if_neg h], by decide⟩
  by_cases h3 : k = 3
  · obtain ⟨c, l, e, hc⟩ := itoa_head n
    exact ⟨c, l, by rw [T.wr, if_neg h1, if_neg h2, if_pos h3, e], by omega⟩
  by_cases h4 : k = 4
  · exact ⟨34, _, by rw [T.wr, if_neg h1, if_neg h2, if_neg h3, if_pos h4]; rfl, by decide⟩
  · exact ⟨91, _, by rw [T.wr, if_neg h1, if_neg h2, if_neg h3, if_neg h4], by decide⟩
theorem wrR_head {s : ByteArray} {i : Nat} (r : List T) (h : At s i (T.wrR r ++ [93])) : ¬ digP (nxt s i) := by
  cases r with
  | nil => have : nxt s i = 93 := h.2.1; unfold digP; omega
  | cons t r => have : nxt s i = 44 := h.2.1; unfold digP; omega
theorem quo_fwd {s : ByteArray} {i : Nat} {x : ByteArray} (h : At s i (quo x)) : quoQ s i = .ok (.node 4 0 x []) (i + (quo x).length) := by
  have h2 : At s (i + 1) (escs x.data.toList ++ [34]) := h.2.2
  have hl := At.le h2 h.1
  unfold quoQ
  rw [quoL_fwd x.data.toList _ _ [] h2 (by rw [List.length_append] at hl; simp at hl; omega)]
  simp only [List.nil_append, quo, List.length_cons, List.length_append, List.length_nil]
  rw [show i + 1 + (escs x.data.toList).length + 1 = i + ((escs x.data.toList).length + (0 + 1) + 1) by omega]
theorem quo_bwd {s : ByteArray} {i : Nat} {t : T} {a : Nat} (h34 : nxt s i = 34) (h : quoQ s i = .ok t a) : ∃ x, t = .node 4 0 x [] ∧ At s i (quo x) ∧ a = i + (quo x).length := by
  obtain ⟨x, e1, e2, e3⟩ := quoL_bwd _ _ _ _ _ h
  refine ⟨⟨x.toArray⟩, e1, ⟨nxt_in (by omega), h34, e2⟩, ?_⟩
  rw [e3]
  simp only [quo, List.length_cons, List.length_append, List.length_nil]
  omega
mutual
theorem rdV_fwd {s : ByteArray} : ∀ (f : Nat) (t : T) (n i : Nat), t.good → t.fitI → t.deep + n ≤ 64 → At s i t.wr → ¬ digP (nxt s (i + t.wr.length)) → 2 * t.wr.length ≤ f → rdV s (quoQ s) f n i = .ok t (i + t.wr.length)
  | 0, t, n, i, hg, hfi, hd, hat, hnd, hf => by
    obtain ⟨c0, l0, e0, _⟩ := wr_head t
    rw [e0] at hf
    simp at hf
  | f + 1, .node k m x ks, n, i, hg, hfi, hd, hat, hnd, hf => by
    have hw : T.wfP k m x.size ks.length := hg.1
    unfold T.wfP at hw
    rcases hw with ⟨rfl, rfl, hx, hl⟩ | ⟨rfl, hm, hx, hl⟩ | ⟨rfl, hx, hl⟩ | ⟨rfl, rfl, hl⟩ | ⟨rfl, rfl, hx⟩
    · obtain rfl := empty_of hx
      obtain rfl := List.eq_nil_of_length_eq_zero hl
      have e : T.wr (.node 1 0 ⟨#[]⟩ []) = [117, 110, 105, 116] := by rw [T.wr, if_pos rfl]
      rw [e] at hat ⊢
      have h1 : nxt s i = 117 := hat.2.1
      rw [rdV, if_pos h1]
      exact wrdR_fwd hat
    · obtain rfl := empty_of hx
      obtain rfl := List.eq_nil_of_length_eq_zero hl
      rcases hm with rfl | rfl
      · have e : T.wr (.node 2 0 ⟨#[]⟩ []) = [110, 111] := by rw [T.wr, if_neg (by decide), if_pos rfl, if_neg (by decide)]
        rw [e] at hat ⊢
        have h1 : nxt s i = 110 := hat.2.1
        rw [rdV, if_neg (by omega), if_neg (by omega), if_pos h1]
        exact wrdR_fwd hat
      · have e : T.wr (.node 2 1 ⟨#[]⟩ []) = [121, 101, 115] := by rw [T.wr, if_neg (by decide), if_pos rfl, if_pos rfl]
        rw [e] at hat ⊢
        have h1 : nxt s i = 121 := hat.2.1
        rw [rdV, if_neg (by omega), if_pos h1]
        exact wrdR_fwd hat
    · obtain rfl := empty_of hx
      obtain rfl := List.eq_nil_of_length_eq_zero hl
      have e : T.wr (.node 3 m ⟨#[]⟩ []) = Lib.itoa m := by rw [T.wr, if_neg (by decide), if_neg (by decide), if_pos rfl]
      rw [e] at hat hnd ⊢
      obtain ⟨c, l, e2, hc⟩ := itoa_head m
      have h1 : nxt s i = c.toNat := by rw [e2] at hat; exact hat.2.1
      rw [rdV, if_neg (by omega), if_neg (by omega), if_neg (by omega), if_pos (by unfold digP; omega)]
      have hb := hfi.1 rfl
      exact numR_fwd hb.1 hb.2 hat hnd
    · obtain rfl := List.eq_nil_of_length_eq_zero hl
      have e : T.wr (.node 4 0 x []) = quo x := by rw [T.wr, if_neg (by decide), if_neg (by decide), if_neg (by decide), if_pos rfl]
      rw [e] at hat ⊢
      have h1 : nxt s i = 34 := hat.2.1
      rw [rdV, if_neg (by omega), if_neg (by omega), if_neg (by omega), if_neg (by unfold digP; omega), if_pos h1]
      exact quo_fwd hat
    · obtain rfl := empty_of hx
      have e : T.wr (.node 5 0 ⟨#[]⟩ ks) = 91 :: (T.wrL ks ++ [93]) := by rw [T.wr, if_neg (by decide), if_neg (by decide), if_neg (by decide), if_neg (by decide)]
      rw [e] at hat hf ⊢
      have h1 : nxt s i = 91 := hat.2.1
      simp only [T.deep, if_pos] at hd
      rw [rdV, if_neg (by omega), if_neg (by omega), if_neg (by omega), if_neg (by unfold digP; omega), if_neg (by omega), if_pos h1, if_neg (by omega)]
      cases ks with
      | nil =>
        have h2 : nxt s (i + 1) = 93 := hat.2.2.2.1
        rw [if_pos h2]
        rfl
      | cons t r =>
        obtain ⟨c, l, e2, hc⟩ := wr_head t
        have h3 : At s (i + 1) (T.wr t ++ T.wrR r ++ [93]) := hat.2.2
        have h2 : nxt s (i + 1) = c.toNat := by rw [e2] at h3; exact h3.2.1
        rw [if_neg (by omega)]
        simp only [List.length_cons, T.wrL] at hf ⊢
        rw [rdL_fwd f t r (n + 1) (i + 1) [] hg.2 hfi.2 (by omega) h3 (by omega)]
        simp only [List.nil_append]
        congr 1
        omega
theorem rdL_fwd {s : ByteArray} : ∀ (f : Nat) (t : T) (r : List T) (n i : Nat) (acc : List T), T.goodL (t :: r) → T.fitIL (t :: r) → T.deepL (t :: r) + n ≤ 64 → At s i (T.wr t ++ T.wrR r ++ [93]) → 2 * (T.wr t ++ T.wrR r ++ [93]).length ≤ f + 1 → rdL s (quoQ s) f n i acc = .ok (.node 5 0 ⟨#[]⟩ (acc ++ t :: r)) (i + (T.wr t ++ T.wrR r ++ [93]).length)
  | 0, t, r, n, i, acc, hg, hfi, hd, hat, hf => by
    simp only [List.length_append, List.length_cons, List.length_nil] at hf
    omega
  | f + 1, t, r, n, i, acc, hg, hfi, hd, hat, hf => by
    simp only [List.length_append, List.length_cons, List.length_nil] at hf
    rw [List.append_assoc, At.append] at hat
    obtain ⟨h1, h2⟩ := hat
    simp only [T.deepL] at hd
    have hv := rdV_fwd f t n i hg.1 hfi.1 (by omega) h1 (wrR_head r h2) (by omega)
    simp only [rdL, hv]
    cases r with
    | nil =>
      have h3 : nxt s (i + (T.wr t).length) = 93 := h2.2.1
      rw [if_pos h3]
      simp only [T.wrR, List.append_nil, List.length_append, List.length_cons, List.length_nil]
      rw [show i + (T.wr t).length + 1 = i + ((T.wr t).length + (0 + 1)) by omega]
    | cons t' r' =>
      have h3 : nxt s (i + (T.wr t).length) = 44 := h2.2.1
      have h4 : nxt s (i + (T.wr t).length + 1) = 32 := h2.2.2.2.1
      have h5 : At s (i + (T.wr t).length + 2) (T.wr t' ++ T.wrR r' ++ [93]) := h2.2.2.2.2
      simp only [T.wrR, List.length_append, List.length_cons, List.length_nil] at hf
      rw [if_neg (by omega), if_pos h3, if_pos h4]
      rw [rdL_fwd f t' r' n (i + (T.wr t).length + 2) (acc ++ [t]) hg.2 hfi.2 (by simp only [T.deepL] at hd ⊢; omega) h5 (by simp only [List.length_append, List.length_cons, List.length_nil]; omega)]
      simp only [List.append_assoc, List.cons_append, List.nil_append, T.wrR, List.length_append, List.length_cons, List.length_nil]
      rw [show i + (T.wr t).length + 2 + ((T.wr t').length + ((T.wrR r').length + (0 + 1))) = i + ((T.wr t).length + ((T.wr t').length + ((T.wrR r').length + (0 + 1)) + 1 + 1)) by omega]
end
mutual
theorem rdV_bwd {s : ByteArray} : ∀ (f n i : Nat) (t : T) (a : Nat), n ≤ 64 → rdV s (quoQ s) f n i = .ok t a → t.good ∧ t.fitI ∧ t.deep + n ≤ 64 ∧ At s i t.wr ∧ a = i + t.wr.length
  | 0, n, i, t, a, _, h => by simp [rdV] at h
  | f + 1, n, i, t, a, hn, h => by
    rw [rdV] at h
    split at h
    · obtain ⟨rfl, h1, h2⟩ := wrdR_bwd (by decide) h
      exact ⟨⟨by decide, trivial⟩, ⟨by decide, trivial⟩, by simp [T.deep]; exact hn, h1, h2⟩
    split at h
    · obtain ⟨rfl, h1, h2⟩ := wrdR_bwd (by decide) h
      exact ⟨⟨by decide, trivial⟩, ⟨by decide, trivial⟩, by simp [T.deep]; exact hn, h1, h2⟩
    split at h
    · obtain ⟨rfl, h1, h2⟩ := wrdR_bwd (by decide) h
      exact ⟨⟨by decide, trivial⟩, ⟨by decide, trivial⟩, by simp [T.deep]; exact hn, h1, h2⟩
    split at h
    · obtain ⟨m, rfl, h1, h2, h3, h4⟩ := numR_bwd h
      exact ⟨⟨.inr (.inr (.inl ⟨rfl, rfl, rfl⟩)), trivial⟩, ⟨fun _ => ⟨h3, h4⟩, trivial⟩, by simp [T.deep]; exact hn, h1, h2⟩
    split at h
    · rename_i h34
      obtain ⟨x, rfl, h1, h2⟩ := quo_bwd h34 h
      exact ⟨⟨.inr (.inr (.inr (.inl ⟨rfl, rfl, rfl⟩))), trivial⟩, ⟨fun q => absurd q (by decide), trivial⟩, by simp [T.deep]; exact hn, h1, h2⟩
    split at h
    · rename_i h91
      split at h
      · cases h
      rename_i hn64
      split at h
      · rename_i h93
        cases h
        exact ⟨⟨by decide, trivial⟩, ⟨by decide, trivial⟩, by simp [T.deep, T.deepL]; omega, ⟨nxt_in (by omega), h91, nxt_in (by omega), h93, trivial⟩, rfl⟩
      · obtain ⟨u, r, rfl, g1, g2, g3, g4, g5⟩ := rdL_bwd f (n + 1) (i + 1) [] t a (by omega) h
        have e : T.wr (.node 5 0 ⟨#[]⟩ (u :: r)) = 91 :: (T.wr u ++ T.wrR r ++ [93]) := by rw [T.wr, if_neg (by decide), if_neg (by decide), if_neg (by decide), if_neg (by decide)]; rfl
        refine ⟨⟨.inr (.inr (.inr (.inr ⟨rfl, rfl, rfl⟩))), g1⟩, ⟨fun q => absurd q (by decide), g2⟩, ?_, ?_, ?_⟩
        · simp only [List.nil_append, T.deep, if_pos]; omega
        · rw [List.nil_append, e]; exact ⟨nxt_in (by omega), h91, g4⟩
        · rw [List.nil_append, e, List.length_cons]; omega
    · cases h
theorem rdL_bwd {s : ByteArray} : ∀ (f n i : Nat) (acc : List T) (t : T) (a : Nat), n ≤ 64 → rdL s (quoQ s) f n i acc = .ok t a → ∃ u r, t = .node 5 0 ⟨#[]⟩ (acc ++ u :: r) ∧ T.goodL (u :: r) ∧ T.fitIL (u :: r) ∧ T.deepL (u :: r) + n ≤ 64 ∧ At s i (T.wr u ++ T.wrR r ++ [93]) ∧ a = i + (T.wr u ++ T.wrR r ++ [93]).length
  | 0, n, i, acc, t, a, _, h => by simp [rdL] at h
  | f + 1, n, i, acc, t, a, hn, h => by
    cases hv : rdV s (quoQ s) f n i with
    | bad e a' => simp only [rdL, hv] at h; cases h
    | ok u a' =>
      simp only [rdL, hv] at h
      obtain ⟨v1, v2, v3, v4, v5⟩ := rdV_bwd f n i u a' hn hv
      split at h
      · rename_i h93
        cases h
        refine ⟨u, [], rfl, ⟨v1, trivial⟩, ⟨v2, trivial⟩, by simp only [T.deepL]; omega, ?_, ?_⟩
        · simp only [T.wrR, List.append_nil]
          rw [At.append]
          exact ⟨v4, nxt_in (by rw [← v5]; omega), by rw [← v5]; exact h93, trivial⟩
        · simp only [T.wrR, List.append_nil, List.length_append, List.length_cons, List.length_nil]; omega
      split at h
      · rename_i h44
        split at h
        · rename_i h32
          obtain ⟨u', r, rfl, g1, g2, g3, g4, g5⟩ := rdL_bwd f n (a' + 2) (acc ++ [u]) t a hn h
          refine ⟨u, u' :: r, by simp, ⟨v1, g1⟩, ⟨v2, g2⟩, by simp only [T.deepL] at g3 ⊢; omega, ?_, ?_⟩
          · rw [List.append_assoc, At.append]
            refine ⟨v4, nxt_in (by rw [← v5]; omega), by rw [← v5]; exact h44, nxt_in (by rw [← v5]; omega), by rw [← v5]; exact h32, ?_⟩
            rw [← v5]
            exact g4
          · rw [g5]
            simp only [T.wrR, List.length_append, List.length_cons, List.length_nil]
            omega
        · cases h
      · cases h
end
end Go.Proofs.YtecabbifkcnbeaaGreatDoor
