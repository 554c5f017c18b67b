/-
  A text is read as what was written, and only what was written is read.
-/
import Derived.Test.YtecabbifkcnbeaaGreatDoorQuoted
import Derived.Test.YtecabbifkcnbeaaGreatDoorNumber
namespace Go.Proofs.YtecabbifkcnbeaaGreatDoor
open Go.RowKit
/-- These bytes stand at i. -/
def At (s : ByteArray) : Nat → List UInt8 → Prop
  | _, [] => True
  | i, x :: l => i < s.size ∧ nxt s i = x.toNat ∧ At s (i + 1) l
theorem At.append {s : ByteArray} : ∀ {l m : List UInt8} {i : Nat}, At s i (l ++ m) ↔ At s i l ∧ At s (i + l.length) m
  | [], m, i => by simp [At]
  | x :: l, m, i => by
    have ih := At.append (s := s) (l := l) (m := m) (i := i + 1)
    simp only [List.cons_append, At, ih, List.length_cons, and_assoc]
    rw [show i + 1 + l.length = i + (l.length + 1) by omega]
theorem At.le {s : ByteArray} : ∀ {l : List UInt8} {i : Nat}, At s i l → i ≤ s.size → i + l.length ≤ s.size
  | [], i, _, h => h
  | x :: l, i, h, _ => by have := At.le h.2.2 h.1; simp only [List.length_cons]; omega
theorem nxt_list {s : ByteArray} {i : Nat} (h : i < s.size) : ∃ h' : i < s.data.toList.length, nxt s i = (s.data.toList[i]).toNat := by
  have e : s.data.toList.length = s.size := by rw [Array.length_toList]; rfl
  exact ⟨by omega, by rw [nxt_lt h]; simp; rfl⟩
theorem At.drop {s : ByteArray} : ∀ {l : List UInt8} {i : Nat}, At s i l → (s.data.toList.drop i).take l.length = l
  | [], i, _ => by simp
  | x :: l, i, ⟨h1, h2, h3⟩ => by
    obtain ⟨hl, hn⟩ := nxt_list h1
    have ih := At.drop h3
    rw [List.drop_eq_getElem_cons hl, List.length_cons, List.take_succ_cons, ih]
    congr 1
    rw [h2] at hn
    exact UInt8.toNat_inj.1 hn.symm
theorem At.self {s : ByteArray} : ∀ (k i : Nat), k + i = s.size → At s i (s.data.toList.drop i)
  | 0, i, h => by
    have e : s.data.toList.length = s.size := by rw [Array.length_toList]; rfl
    rw [List.drop_of_length_le (by omega)]
    trivial
  | k + 1, i, h => by
    obtain ⟨hl, hn⟩ := nxt_list (s := s) (i := i) (by omega)
    rw [List.drop_eq_getElem_cons hl]
    exact ⟨by omega, hn, At.self k (i + 1) (by omega)⟩
theorem u8_back (b : UInt8) : b.toNat.toUInt8 = b := by simp
theorem u8_to (c : Nat) (h : c < 256) : c.toUInt8.toNat = c := by simp; omega
theorem hex_fwd : ∀ k : Fin 16, hexV (hexL.getD k.1 0).toNat = k.1 := by decide
theorem hex_bwd {c : Nat} (hc : c < 256) (h : 0 ≤ hexV c) : c = (hexL.getD (hexV c).toNat 0).toNat := by
  obtain ⟨o, ho⟩ : ∃ o : Nat, hexV c = o := ⟨(hexV c).toNat, by omega⟩
  have := (Lib.indexByte_some ho).1
  rw [ho, Int.toNat_natCast, List.getD_eq_getElem?_getD, this]
  exact (u8_to c hc).symm
theorem nxt_256 (s : ByteArray) (i : Nat) : nxt s i < 256 := by
  unfold nxt
  split
  · exact UInt8.toNat_lt _
  · decide
theorem byD_fwd {s : ByteArray} {i c : Nat} (hc : c < 256) (hp : ¬ (32 ≤ c ∧ c ≤ 126)) (h1 : nxt s i = (hexL.getD (c / 16) 0).toNat) (h2 : nxt s (i + 1) = (hexL.getD (c % 16) 0).toNat) : byD s i = (some c, i + 2) := by
  have e1 : hexV (nxt s i) = (c / 16 : Nat) := by rw [h1]; exact hex_fwd ⟨c / 16, by omega⟩
  have e2 : hexV (nxt s (i + 1)) = (c % 16 : Nat) := by rw [h2]; exact hex_fwd ⟨c % 16, by omega⟩
  simp only [byD, e1, e2]
  rw [if_neg (by omega), if_neg (by omega)]
  rw [show (16 * ((c / 16 : Nat) : Int) + ((c % 16 : Nat) : Int)).toNat = c by omega]
theorem byD_bwd {s : ByteArray} {i c a : Nat} (h : byD s i = (some c, a)) : c < 256 ∧ ¬ (32 ≤ c ∧ c ≤ 126) ∧ a = i + 2 ∧ nxt s i = (hexL.getD (c / 16) 0).toNat ∧ nxt s (i + 1) = (hexL.getD (c % 16) 0).toNat := by
  have b1 := hexV_bounds s i
  have b2 := hexV_bounds s (i + 1)
  have n1 := nxt_256 s i
  have n2 := nxt_256 s (i + 1)
  simp only [byD] at h
  split at h
  · cases h
  rename_i q1
  split at h
  · cases h
  rename_i q2
  cases h
  have x1 := hex_bwd n1 (by omega)
  have x2 := hex_bwd n2 (by omega)
  refine ⟨by omega, by omega, rfl, ?_, ?_⟩
  · rw [show (16 * hexV (nxt s i) + hexV (nxt s (i + 1))).toNat / 16 = (hexV (nxt s i)).toNat by omega]; exact x1
  · rw [show (16 * hexV (nxt s i) + hexV (nxt s (i + 1))).toNat % 16 = (hexV (nxt s (i + 1))).toNat by omega]; exact x2
theorem esc_one {b : UInt8} (h : b = 34 ∨ b = 92) : esc b = [92, b] := by unfold esc; rw [if_pos h]
theorem esc_two {b : UInt8} (h : ¬ (b = 34 ∨ b = 92)) (h2 : 32 ≤ b.toNat ∧ b.toNat ≤ 126) : esc b = [b] := by unfold esc; rw [if_neg h, if_pos h2]
theorem esc_three {b : UInt8} (h : ¬ (b = 34 ∨ b = 92)) (h2 : ¬ (32 ≤ b.toNat ∧ b.toNat ≤ 126)) : esc b = [92, 120, hexL.getD (b.toNat / 16) 0, hexL.getD (b.toNat % 16) 0] := by unfold esc; rw [if_neg h, if_neg h2]
theorem escs_cons (b : UInt8) (r : List UInt8) : escs (b :: r) = esc b ++ escs r := by simp [escs]
theorem quoL_fwd {s : ByteArray} : ∀ (x : List UInt8) (f j : Nat) (acc : List UInt8), At s j (escs x ++ [34]) → (escs x).length < f → quoL s f j acc = .ok (.node 4 0 ⟨(acc ++ x).toArray⟩ []) (j + (escs x).length + 1)
  | [], f, j, acc, h, hf => by
    obtain ⟨f, rfl⟩ : ∃ f', f = f' + 1 := ⟨f - 1, by omega⟩
    simp only [escs, List.flatMap_nil, List.nil_append, At] at h
    rw [quoL, if_pos (show nxt s j = 34 from h.2.1)]
    simp [escs]
  | b :: r, f, j, acc, h, hf => by
    obtain ⟨f, rfl⟩ : ∃ f', f = f' + 1 := ⟨f - 1, by omega⟩
    rw [escs_cons] at h hf ⊢
    rw [List.append_assoc, At.append] at h
    obtain ⟨h1, h2⟩ := h
    by_cases q1 : b = 34 ∨ b = 92
    · rw [esc_one q1] at h1 h2 hf ⊢
      simp only [At, List.length_cons, List.length_nil, List.length_append] at h1 h2 hf ⊢
      have ih := quoL_fwd r f (j + 2) (acc ++ [b]) h2 (by omega)
      have e92 : (92 : UInt8).toNat = 92 := rfl
      have hb : b.toNat = 34 ∨ b.toNat = 92 := by rcases q1 with rfl | rfl <;> decide
      have ee : escD s (j + 1) = (some b.toNat, j + 2) := by unfold escD; rw [h1.2.2.2.1, if_pos hb]
      rw [quoL, h1.2.1, e92, if_neg (by decide), if_neg (by decide), if_pos rfl, ee]
      show quoL s f (j + 2) (acc ++ [b.toNat.toUInt8]) = _
      rw [u8_back, ih, List.append_assoc]
      simp only [List.cons_append, List.nil_append]
      rw [show j + 2 + (escs r).length + 1 = j + (0 + 1 + 1 + (escs r).length) + 1 by omega]
    · by_cases q2 : 32 ≤ b.toNat ∧ b.toNat ≤ 126
      · rw [esc_two q1 q2] at h1 h2 hf ⊢
        simp only [At, List.length_cons, List.length_nil, List.length_append] at h1 h2 hf ⊢
        have ih := quoL_fwd r f (j + 1) (acc ++ [b]) h2 (by omega)
        have n1 : ¬ b.toNat = 34 := fun e => q1 (.inl (UInt8.toNat_inj.1 e))
        have n2 : ¬ b.toNat = 92 := fun e => q1 (.inr (UInt8.toNat_inj.1 e))
        rw [quoL, h1.2.1, if_neg n1, if_neg (by omega), if_neg n2, u8_back, ih, List.append_assoc]
        simp only [List.cons_append, List.nil_append]
        rw [show j + 1 + (escs r).length + 1 = j + (0 + 1 + (escs r).length) + 1 by omega]
      · rw [esc_three q1 q2] at h1 h2 hf ⊢
        simp only [At, List.length_cons, List.length_nil, List.length_append] at h1 h2 hf ⊢
        have ih := quoL_fwd r f (j + 4) (acc ++ [b]) h2 (by omega)
        have e92 : (92 : UInt8).toNat = 92 := rfl
        have e120 : (120 : UInt8).toNat = 120 := rfl
        have ee : escD s (j + 1) = (some b.toNat, j + 4) := by
          unfold escD
          rw [h1.2.2.2.1, e120, if_neg (by decide), if_pos rfl]
          exact byD_fwd (UInt8.toNat_lt _) q2 h1.2.2.2.2.2.1 h1.2.2.2.2.2.2.2.1
        rw [quoL, h1.2.1, e92, if_neg (by decide), if_neg (by decide), if_pos rfl, ee]
        show quoL s f (j + 4) (acc ++ [b.toNat.toUInt8]) = _
        rw [u8_back, ih, List.append_assoc]
        simp only [List.cons_append, List.nil_append]
        rw [show j + 4 + (escs r).length + 1 = j + (0 + 1 + 1 + 1 + 1 + (escs r).length) + 1 by omega]
theorem escD_bwd {s : ByteArray} {i c a : Nat} (h : escD s i = (some c, a)) : ∃ l, esc c.toUInt8 = 92 :: l ∧ At s i l ∧ a = i + l.length := by
  unfold escD at h
  split at h
  · rename_i hq
    cases h
    have h0 : nxt s i < 256 := by omega
    refine ⟨[(nxt s i).toUInt8], esc_one ?_, ⟨nxt_in (by omega), (u8_to _ h0).symm, trivial⟩, rfl⟩
    rcases hq with e | e
    · left; rw [e]; rfl
    · right; rw [e]; rfl
  split at h
  · rename_i hq
    obtain ⟨h1, h2, h3, h4, h5⟩ := byD_bwd h
    have e := u8_to c h1
    have hx : ∀ k : Fin 16, (hexL.getD k.1 0).toNat ≠ 0 := by decide
    refine ⟨_, esc_three (b := c.toUInt8) (fun q => ?_) (by rw [e]; exact h2), ⟨nxt_in (by omega), hq, nxt_in (by rw [h4]; exact hx ⟨c / 16, by omega⟩), by rw [e]; exact h4, nxt_in (by rw [h5]; exact hx ⟨c % 16, by omega⟩), by rw [e]; exact h5, trivial⟩, by rw [h3]; rfl⟩
    rcases q with q | q
    · have := congrArg UInt8.toNat q; rw [e] at this; have t : (34 : UInt8).toNat = 34 := rfl; omega
    · have := congrArg UInt8.toNat q; rw [e] at this; have t : (92 : UInt8).toNat = 92 := rfl; omega
  · cases h
theorem quoL_bwd {s : ByteArray} : ∀ (f j : Nat) (acc : List UInt8) (t : T) (a : Nat), quoL s f j acc = .ok t a → ∃ x, t = .node 4 0 ⟨(acc ++ x).toArray⟩ [] ∧ At s j (escs x ++ [34]) ∧ a = j + (escs x).length + 1
  | 0, j, acc, t, a, h => by simp [quoL] at h
  | f + 1, j, acc, t, a, h => by
    rw [quoL] at h
    split at h
    · rename_i q
      cases h
      exact ⟨[], by simp, ⟨nxt_in (by omega), q, trivial⟩, by simp [escs]⟩
    split at h
    · cases h
    rename_i n34 hpl
    split at h
    · rename_i h92
      rcases hq : escD s (j + 1) with ⟨_ | c, a'⟩
      · rw [hq] at h; cases h
      · rw [hq] at h
        obtain ⟨x, e1, e2, e3⟩ := quoL_bwd f a' _ t a h
        obtain ⟨l, l1, l2, l3⟩ := escD_bwd hq
        refine ⟨c.toUInt8 :: x, by rw [e1, List.append_assoc]; rfl, ?_, ?_⟩
        · rw [escs_cons, l1, List.append_assoc, At.append]
          refine ⟨⟨nxt_in (by omega), h92, l2⟩, ?_⟩
          rw [List.length_cons, show j + (l.length + 1) = a' by omega]
          exact e2
        · rw [escs_cons, l1, e3]; simp only [List.length_append, List.length_cons]; omega
    · rename_i h92
      obtain ⟨x, e1, e2, e3⟩ := quoL_bwd f (j + 1) _ t a h
      have hg : nxt s j < 256 := nxt_256 s j
      have e := u8_to _ hg
      have q1 : ¬ ((nxt s j).toUInt8 = 34 ∨ (nxt s j).toUInt8 = 92) := fun q => by
        rcases q with q | q
        · have := congrArg UInt8.toNat q; rw [e] at this; have t : (34 : UInt8).toNat = 34 := rfl; omega
        · have := congrArg UInt8.toNat q; rw [e] at this; have t : (92 : UInt8).toNat = 92 := rfl; omega
      have hes := esc_two q1 (by rw [e]; omega)
      refine ⟨(nxt s j).toUInt8 :: x, by rw [e1, List.append_assoc]; rfl, ?_, ?_⟩
      · rw [escs_cons, hes, List.append_assoc, At.append]
        exact ⟨⟨nxt_in (by omega), e.symm, trivial⟩, e2⟩
      · rw [escs_cons, hes, e3]; simp only [List.length_append, List.length_cons, List.length_nil]; omega
end Go.Proofs.YtecabbifkcnbeaaGreatDoor
/-
  The deferred function of the reader's list, by a contract.
-/
namespace Go.Proofs.YtecabbifkcnbeaaGreatDoor
open Go.RowKit
end Go.Proofs.YtecabbifkcnbeaaGreatDoor
/-
  What a value's text is read as, by plain data.
-/
namespace Go.Proofs.YtecabbifkcnbeaaGreatDoor
open Go.RowKit
def wrdR (s : ByteArray) (i : Nat) (l : List UInt8) (t : T) : Rs := if wordK s i l = l.length then .ok t (i + wordK s i l) else .bad 5 (i + wordK s i l)
mutual
/-- The value that stands at i, within n lists. -/
def rdV (s : ByteArray) (Q : Nat → Rs) : Nat → Nat → Nat → Rs
  | 0, _, _ => .bad 1 0
  | f + 1, n, i =>
    if nxt s i = 117 then wrdR s i [117, 110, 105, 116] (.node 1 0 ⟨#[]⟩ [])
    else if nxt s i = 121 then wrdR s i [121, 101, 115] (.node 2 1 ⟨#[]⟩ [])
    else if nxt s i = 110 then wrdR s i [110, 111] (.node 2 0 ⟨#[]⟩ [])
    else if nxt s i = 45 ∨ digP (nxt s i) then numR s i
    else if nxt s i = 34 then Q i
    else if nxt s i = 91 then (if n = 64 then .bad 2 i else if nxt s (i + 1) = 93 then .ok (.node 5 0 ⟨#[]⟩ []) (i + 2) else rdL s Q f (n + 1) (i + 1) [])
    else .bad 5 i
/-- A list's items from i on, behind acc. -/
def rdL (s : ByteArray) (Q : Nat → Rs) : Nat → Nat → Nat → List T → Rs
  | 0, _, _, _ => .bad 1 0
  | f + 1, n, i, acc =>
    match rdV s Q f n i with
    | .bad e a => .bad e a
    | .ok t a => if nxt s a = 93 then .ok (.node 5 0 ⟨#[]⟩ (acc ++ [t])) (a + 1) else if nxt s a = 44 then (if nxt s (a + 1) = 32 then rdL s Q f n (a + 2) (acc ++ [t]) else .bad 5 (a + 1)) else .bad 5 a
end
theorem digEnd_ge (s : ByteArray) (i : Nat) : i ≤ digEnd s i := by
  unfold digEnd
  split
  · have := digEnd_ge s (i + 1); omega
  · exact Nat.le_refl _
termination_by s.size - i
theorem numR_ge {s : ByteArray} {i : Nat} {t : T} {a : Nat} (h : numR s i = .ok t a) : i ≤ a := by
  have hA : i ≤ numAt s i := by unfold numAt; split <;> omega
  have hD := digEnd_ge s (numAt s i)
  unfold numR at h
  split at h
  · cases h; omega
  split at h
  · cases h
  split at h
  · cases h; omega
  · cases h
theorem wrdR_ge {s : ByteArray} {i : Nat} {l : List UInt8} {t t' : T} {a : Nat} (h : wrdR s i l t = .ok t' a) : i ≤ a := by
  unfold wrdR at h
  split at h
  · cases h; omega
  · cases h
mutual
theorem rdV_ge {s : ByteArray} {Q : Nat → Rs} (hQ : ∀ i t a, Q i = .ok t a → i ≤ a) : ∀ (f n i : Nat) (t : T) (a : Nat), rdV s Q f n i = .ok t a → i ≤ a
  | 0, _, _, _, _, h => by simp [rdV] at h
  | f + 1, n, i, t, a, h => by
    simp only [rdV] at h
    split at h
    · exact wrdR_ge h
    split at h
    · exact wrdR_ge h
    split at h
    · exact wrdR_ge h
    split at h
    · exact numR_ge h
    split at h
    · exact hQ _ _ _ h
    split at h
    · split at h
      · cases h
      split at h
      · cases h; omega
      · have := rdL_ge hQ f (n + 1) (i + 1) [] t a h; omega
    · cases h
theorem rdL_ge {s : ByteArray} {Q : Nat → Rs} (hQ : ∀ i t a, Q i = .ok t a → i ≤ a) : ∀ (f n i : Nat) (acc : List T) (t : T) (a : Nat), rdL s Q f n i acc = .ok t a → i ≤ a
  | 0, _, _, _, _, _, h => by simp [rdL] at h
  | f + 1, n, i, acc, t, a, h => by
    simp only [rdL] at h
    split at h
    · cases h
    · rename_i t1 a1 h1
      have g1 := rdV_ge hQ f n i t1 a1 h1
      split at h
      · cases h; omega
      split at h
      · split at h
        · have := rdL_ge hQ f n (a1 + 2) (acc ++ [t1]) t a h; omega
        · cases h
      · cases h
end
end Go.Proofs.YtecabbifkcnbeaaGreatDoor
