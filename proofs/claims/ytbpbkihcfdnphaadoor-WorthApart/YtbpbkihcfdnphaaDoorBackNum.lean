/-
  A number is read as what was written, and only what was written is read.
-/
import Derived.Test.YtbpbkihcfdnphaaDoorBackText
import Derived.Test.YtbpbkihcfdnphaaDoorReads
import Derived.Lib.ParseIntBCases
import Derived.Lib.ParseIntBTie
namespace Go.Proofs.YtbpbkihcfdnphaaDoor
open Go.RowKit
theorem par_append (M : Nat) : ∀ (l m : List UInt8) (acc v : Nat), Lib.parseUintM M acc l = .ok v → Lib.parseUintM M acc (l ++ m) = Lib.parseUintM M v m
  | [], m, acc, v, h => by simp only [Lib.parseUintM] at h; injection h with h; rw [h]; rfl
  | c :: r, m, acc, v, h => by
    simp only [Lib.parseUintM, List.cons_append] at h ⊢
    split at h
    · rename_i q
      rw [if_pos q]
      split at h
      · cases h
      rename_i q2
      rw [if_neg q2]
      split at h
      · cases h
      rename_i q3
      rw [if_neg q3]
      exact par_append M r m _ v h
    · cases h
theorem dig_nat (d : Nat) (h : d < 10) : (UInt8.ofNat (48 + d)).toNat = 48 + d := by
  have : (48 + d) % 256 = 48 + d := Nat.mod_eq_of_lt (by omega)
  simpa using this
theorem par_fwd (u : Nat) : u ≤ 18446744073709551615 → Lib.parseUintM 18446744073709551615 0 (Lib.decDigits u) = .ok u := by
  induction u using Nat.strongRecOn with
  | _ u ih =>
    intro hu
    by_cases h : u < 10
    · rw [Lib.decDigits_one h]
      simp only [Lib.parseUintM, dig_nat u h]
      rw [if_pos (by omega), if_neg (by omega), if_neg (by omega)]
      rw [show 0 * 10 + (48 + u - 48) = u by omega]
    · rw [Lib.decDigits, dif_neg h, par_append _ _ _ _ _ (ih (u / 10) (by omega) (by omega))]
      simp only [Lib.parseUintM, dig_nat (u % 10) (by omega)]
      rw [if_pos (by omega), if_neg (by omega), if_neg (by omega)]
      rw [show u / 10 * 10 + (48 + u % 10 - 48) = u by omega]
theorem par_bwd (M : Nat) : ∀ (l : List UInt8) (acc v : Nat), 1 ≤ acc → Lib.parseUintM M acc l = .ok v → Lib.decDigits v = Lib.decDigits acc ++ l
  | [], acc, v, _, h => by simp only [Lib.parseUintM] at h; injection h with h; rw [h]; simp
  | c :: r, acc, v, ha, h => by
    simp only [Lib.parseUintM] at h
    split at h
    · rename_i q
      split at h
      · cases h
      split at h
      · cases h
      have ih := par_bwd M r _ v (by omega) h
      rw [ih, Lib.decDigits, dif_neg (by omega), List.append_assoc]
      rw [show (acc * 10 + (c.toNat - 48)) / 10 = acc by omega, show (acc * 10 + (c.toNat - 48)) % 10 = c.toNat - 48 by omega, show 48 + (c.toNat - 48) = c.toNat by omega]
      simp
    · cases h
theorem par_bwd0 (M : Nat) (c : UInt8) (r : List UInt8) (v : Nat) (h48 : 49 ≤ c.toNat ∧ c.toNat ≤ 57) (h : Lib.parseUintM M 0 (c :: r) = .ok v) : Lib.decDigits v = c :: r := by
  simp only [Lib.parseUintM] at h
  rw [if_pos (by omega), if_neg (by omega)] at h
  split at h
  · cases h
  have := par_bwd M r _ v (by omega) h
  rw [this, Lib.decDigits_one (by omega), show 48 + (0 * 10 + (c.toNat - 48)) = c.toNat by omega]
  simp
theorem dec_all (u : Nat) : ∀ x ∈ Lib.decDigits u, 48 ≤ x.toNat ∧ x.toNat ≤ 57 := by
  induction u using Nat.strongRecOn with
  | _ u ih =>
    by_cases h : u < 10
    · rw [Lib.decDigits_one h]
      intro x hx
      rw [List.mem_singleton.1 hx, dig_nat u h]
      omega
    · rw [Lib.decDigits, dif_neg h]
      intro x hx
      rcases List.mem_append.1 hx with hx | hx
      · exact ih (u / 10) (by omega) x hx
      · rw [List.mem_singleton.1 hx, dig_nat (u % 10) (by omega)]; omega
theorem dec_head (u : Nat) : 1 ≤ u → ∃ c r, Lib.decDigits u = c :: r ∧ 49 ≤ c.toNat ∧ c.toNat ≤ 57 := by
  induction u using Nat.strongRecOn with
  | _ u ih =>
    intro hu
    by_cases h : u < 10
    · exact ⟨_, _, Lib.decDigits_one h, by rw [dig_nat u h]; omega, by rw [dig_nat u h]; omega⟩
    · obtain ⟨c, r, e, h1, h2⟩ := ih (u / 10) (by omega) (by omega)
      exact ⟨c, r ++ _, by rw [Lib.decDigits, dif_neg h, e]; rfl, h1, h2⟩
theorem At.digs {s : ByteArray} : ∀ {l : List UInt8} {i : Nat}, At s i l → (∀ x ∈ l, 48 ≤ x.toNat ∧ x.toNat ≤ 57) → ∀ q, i ≤ q → q < i + l.length → q < s.size ∧ digP (nxt s q)
  | [], i, _, _, q, h1, h2 => by simp at h2; omega
  | x :: l, i, ⟨a1, a2, a3⟩, hx, q, h1, h2 => by
    by_cases e : q = i
    · subst e
      exact ⟨a1, by rw [a2]; exact hx x (List.mem_cons_self ..)⟩
    · exact At.digs a3 (fun y hy => hx y (List.mem_cons_of_mem _ hy)) q (by omega) (by simp only [List.length_cons] at h2; omega)
theorem extract_list (s : ByteArray) (i D : Nat) : (s.extract i D).data.toList = (s.data.toList.drop i).take (D - i) := by
  simp [ByteArray.data_extract, Array.toList_extract]
theorem At.take {s : ByteArray} {i D : Nat} (h : i ≤ D) (hD : D ≤ s.size) : At s i (s.extract i D).data.toList ∧ (s.extract i D).data.toList.length = D - i := by
  have e : s.data.toList.length = s.size := by rw [Array.length_toList]; rfl
  have hs := At.self (s := s) (s.size - i) i (by omega)
  rw [← List.take_append_drop (D - i) (s.data.toList.drop i), At.append] at hs
  rw [extract_list]
  exact ⟨hs.1, by rw [List.length_take, List.length_drop]; omega⟩
theorem digEnd_le {s : ByteArray} (i : Nat) (h : i ≤ s.size) : digEnd s i ≤ s.size := by
  unfold digEnd
  split
  · exact digEnd_le (i + 1) (by omega)
  · exact h
termination_by s.size - i
theorem digEnd_lt {s : ByteArray} {i : Nat} (h : digP (nxt s i)) : i < digEnd s i := by
  have hi : i < s.size := nxt_in (by unfold digP at h; omega)
  unfold digEnd
  rw [if_pos ⟨hi, h⟩]
  have := digEnd_ge s (i + 1)
  omega
theorem par64 (c : UInt8) (r : List UInt8) (hc : 49 ≤ c.toNat ∧ c.toNat ≤ 57) : Lib.parseIntB 64 (c :: r) = Lib.signlessC 9223372036854775808 (Lib.parseUintM 18446744073709551615 0 (c :: r)) := by
  rw [Lib.parseIntB_plain 64 c r (by omega) (by omega), Lib.parseUintB, if_neg (by simp)]
theorem par64m (c : UInt8) (r : List UInt8) : Lib.parseIntB 64 (45 :: c :: r) = Lib.signedC 9223372036854775808 (Lib.parseUintM 18446744073709551615 0 (c :: r)) := by
  rw [Lib.parseIntB_minus 64 (c :: r), Lib.parseUintB, if_neg (by simp)]
theorem At.extract {s : ByteArray} {l : List UInt8} {i : Nat} (h : At s i l) : (s.extract i (i + l.length)).data.toList = l := by
  rw [extract_list, show i + l.length - i = l.length by omega]
  exact h.drop
theorem numR_fwd {s : ByteArray} {i : Nat} {n : Int} (h0 : -9223372036854775808 ≤ n) (h1 : n ≤ 9223372036854775807) (h : At s i (Lib.itoa n)) (hn : ¬ digP (nxt s (i + (Lib.itoa n).length))) : numR s i = .ok (.node 3 n ⟨#[]⟩ []) (i + (Lib.itoa n).length) := by
  by_cases hneg : n < 0
  · obtain ⟨u, rfl⟩ : ∃ u : Nat, n = -(u : Int) := ⟨n.natAbs, by omega⟩
    obtain ⟨c, r, e, c1, c2⟩ := dec_head u (by omega)
    rw [Lib.itoa_neg u (by omega)] at h hn ⊢
    have hex := h.extract
    have e45 : nxt s i = 45 := h.2.1
    have hA : numAt s i = i + 1 := by unfold numAt; rw [if_pos e45]
    have hd := At.digs h.2.2 (dec_all u)
    have hde : digEnd s (i + 1) = i + 1 + (Lib.decDigits u).length := digEnd_of s _ _ hd (fun q => hn (by rw [List.length_cons, show i + ((Lib.decDigits u).length + 1) = i + 1 + (Lib.decDigits u).length by omega]; exact q.2))
    have hc : nxt s (i + 1) = c.toNat := by have := h.2.2; rw [e] at this; exact this.2.1
    unfold numR
    rw [hA, hc, if_neg (by omega), if_neg (by unfold digP; omega), hde]
    rw [List.length_cons, show i + ((Lib.decDigits u).length + 1) = i + 1 + (Lib.decDigits u).length by omega] at hex ⊢
    have hp : Lib.parseIntB 64 (45 :: Lib.decDigits u) = .ok (-(u : Int)) := by
      have hf := par_fwd u (by omega)
      rw [e] at hf ⊢
      rw [par64m, hf, Lib.signedC, if_neg (by omega)]
    rw [hex, hp]
  · obtain ⟨u, rfl⟩ : ∃ u : Nat, n = (u : Int) := ⟨n.toNat, by omega⟩
    rw [Lib.itoa_nonneg] at h hn ⊢
    have hex := h.extract
    by_cases hu : u = 0
    · subst hu
      rw [Lib.decDigits_one (by decide)] at h ⊢
      have e48 : nxt s i = 48 := h.2.1
      have hA : numAt s i = i := by unfold numAt; rw [if_neg (by omega)]
      unfold numR
      rw [hA, if_pos ⟨e48, by omega⟩]
      rfl
    · obtain ⟨c, r, e, c1, c2⟩ := dec_head u (by omega)
      have hd := At.digs h (dec_all u)
      have hc : nxt s i = c.toNat := by rw [e] at h; exact h.2.1
      have hA : numAt s i = i := by unfold numAt; rw [if_neg (by omega)]
      have hde : digEnd s i = i + (Lib.decDigits u).length := digEnd_of s _ _ hd (fun q => hn q.2)
      unfold numR
      rw [hA, hc, if_neg (by omega), if_neg (by unfold digP; omega), hde]
      have hp : Lib.parseIntB 64 (Lib.decDigits u) = .ok (u : Int) := by
        have hf := par_fwd u (by omega)
        rw [e] at hf ⊢
        rw [par64 c r ⟨c1, c2⟩, hf, Lib.signlessC, if_neg (by omega)]
      rw [hex, hp]
theorem numR_bwd {s : ByteArray} {i : Nat} {t : T} {a : Nat} (h : numR s i = .ok t a) : ∃ n, t = .node 3 n ⟨#[]⟩ [] ∧ At s i (Lib.itoa n) ∧ a = i + (Lib.itoa n).length ∧ -9223372036854775808 ≤ n ∧ n ≤ 9223372036854775807 := by
  unfold numR at h
  split at h
  · rename_i q
    cases h
    have hA : numAt s i = i := by unfold numAt; rw [if_neg q.2]
    rw [hA] at q ⊢
    have e0 : Lib.itoa 0 = [48] := by rw [show (0 : Int) = ((0 : Nat) : Int) from rfl, Lib.itoa_nonneg, Lib.decDigits_one (by decide)]; rfl
    exact ⟨0, rfl, by rw [e0]; exact ⟨nxt_in (by omega), q.1, trivial⟩, by rw [e0]; rfl, by decide, by decide⟩
  split at h
  · cases h
  rename_i q1 q2
  have hdg : digP (nxt s (numAt s i)) := Decidable.byContradiction fun x => q2 (.inr x)
  have h48 : ¬ nxt s (numAt s i) = 48 := fun x => q2 (.inl x)
  have hlt := digEnd_lt hdg
  have hin : numAt s i < s.size := nxt_in (by unfold digP at hdg; omega)
  have hle := digEnd_le (numAt s i) (Nat.le_of_lt hin)
  have hAi : i ≤ numAt s i := by unfold numAt; split <;> omega
  obtain ⟨hat, hlen⟩ := At.take (s := s) (i := i) (D := digEnd s (numAt s i)) (by omega) hle
  have hd2 := hdg
  unfold digP at hd2
  obtain ⟨l, hl⟩ : ∃ l, (s.extract i (digEnd s (numAt s i))).data.toList = l := ⟨_, rfl⟩
  rw [hl] at h hat hlen
  have hpos : 1 ≤ l.length := by omega
  rcases hp : Lib.parseIntB 64 l with v | _ | _
  rotate_left
  · rw [hp] at h; cases h
  · rw [hp] at h; cases h
  · rw [hp] at h
    cases h
    have bnd := Lib.parseIntB_bounds hp
    have e63 : ((2 ^ (64 - 1) : Nat) : Int) = 9223372036854775808 := rfl
    rw [e63] at bnd
    have key : Lib.itoa v = l := by
      by_cases h45 : nxt s i = 45
      · have hA : numAt s i = i + 1 := by unfold numAt; rw [if_pos h45]
        rw [hA] at hlen hlt h48 hd2
        obtain ⟨x, l', rfl⟩ : ∃ x l', l = x :: l' := by cases l with | nil => simp at hpos | cons x l' => exact ⟨x, l', rfl⟩
        have hx : x = 45 := UInt8.toNat_inj.1 (by rw [← hat.2.1, h45]; rfl)
        subst hx
        obtain ⟨c, r, rfl⟩ : ∃ c r, l' = c :: r := by cases l' with | nil => simp at hlen; omega | cons x l' => exact ⟨x, l', rfl⟩
        have hc : nxt s (i + 1) = c.toNat := hat.2.2.2.1
        rw [par64m] at hp
        rcases hq : Lib.parseUintM 18446744073709551615 0 (c :: r) with u | _ | _
        rotate_left
        · rw [hq] at hp; cases hp
        · rw [hq] at hp; cases hp
        · have hb := par_bwd0 _ c r u ⟨by omega, by omega⟩ hq
          rw [hq, Lib.signedC] at hp
          split at hp
          · cases hp
          cases hp
          have hu1 : 1 ≤ u := by
            rcases Nat.eq_zero_or_pos u with h0 | h0
            · subst h0
              rw [Lib.decDigits_one (by decide)] at hb
              injection hb with hb1 hb2
              have := congrArg UInt8.toNat hb1
              rw [dig_nat 0 (by decide)] at this
              omega
            · exact h0
          rw [Lib.itoa_neg u hu1, hb]
      · have hA : numAt s i = i := by unfold numAt; rw [if_neg h45]
        rw [hA] at hlen hlt h48 hd2
        obtain ⟨c, r, rfl⟩ : ∃ c r, l = c :: r := by cases l with | nil => simp at hpos | cons x l' => exact ⟨x, l', rfl⟩
        have hc : nxt s i = c.toNat := hat.2.1
        rw [par64 c r ⟨by omega, by omega⟩] at hp
        rcases hq : Lib.parseUintM 18446744073709551615 0 (c :: r) with u | _ | _
        rotate_left
        · rw [hq] at hp; cases hp
        · rw [hq] at hp; cases hp
        · have hb := par_bwd0 _ c r u ⟨by omega, by omega⟩ hq
          rw [hq, Lib.signlessC] at hp
          split at hp
          · cases hp
          cases hp
          rw [Lib.itoa_nonneg u, hb]
    refine ⟨v, rfl, by rw [key]; exact hat, by rw [key]; omega, by omega, by omega⟩
end Go.Proofs.YtbpbkihcfdnphaaDoor
