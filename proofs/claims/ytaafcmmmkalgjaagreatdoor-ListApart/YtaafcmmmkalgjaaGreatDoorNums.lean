/-
  Plain mathematics, of no program: numbers in decimal digits with a point between each two, and how a text of them is cut.
-/
import Derived.Lib.ItoaNum
namespace Go.Proofs.YtaafcmmmkalgjaaGreatDoor
open Go Go.Lib

def isDg (c : UInt8) : Prop := 48 ≤ c.toNat ∧ c.toNat ≤ 57
theorem dd_small {u : Nat} (h : u < 10) : decDigits u = [UInt8.ofNat (48 + u)] := decDigits_one h
theorem dd_big {u : Nat} (h : ¬ u < 10) : decDigits u = decDigits (u / 10) ++ [UInt8.ofNat (48 + u % 10)] := by rw [decDigits, dif_neg h]
theorem ofNat_dg {d : Nat} (h : d < 10) : (UInt8.ofNat (48 + d)).toNat = 48 + d := by
  rw [UInt8.toNat_ofNat']; omega
theorem dd_digits : ∀ (u : Nat), ∀ c ∈ decDigits u, isDg c := by
  intro u
  induction u using Nat.strongRecOn with
  | _ u ih =>
    intro c hc
    by_cases h : u < 10
    · rw [dd_small h] at hc
      simp only [List.mem_singleton] at hc
      subst hc
      unfold isDg; rw [ofNat_dg h]; omega
    · rw [dd_big h] at hc
      rcases List.mem_append.1 hc with hc | hc
      · exact ih (u / 10) (by omega) c hc
      · simp only [List.mem_singleton] at hc
        subst hc
        unfold isDg; rw [ofNat_dg (by omega)]; omega
theorem dd_ne (u : Nat) : decDigits u ≠ [] := by
  by_cases h : u < 10
  · rw [dd_small h]; simp
  · rw [dd_big h]; simp
theorem dd_len (u : Nat) : 0 < (decDigits u).length := List.length_pos_iff.2 (dd_ne u)
theorem dd_zero : decDigits 0 = [48] := by rw [dd_small (by omega)]; rfl
theorem dd_snoc {n d : Nat} (hn : 0 < n) (hd : d < 10) : decDigits (10 * n + d) = decDigits n ++ [UInt8.ofNat (48 + d)] := by
  rw [dd_big (by omega), show (10 * n + d) / 10 = n by omega, show (10 * n + d) % 10 = d by omega]
theorem head_app {a b : List UInt8} (h : a ≠ []) : (a ++ b).head? = a.head? := by
  cases a with
  | nil => exact absurd rfl h
  | cons x a => rfl
theorem dd_head : ∀ (u : Nat), (decDigits u).head? = some 48 → u = 0 := by
  intro u
  induction u using Nat.strongRecOn with
  | _ u ih =>
    intro h
    by_cases hu : u < 10
    · rw [dd_small hu] at h
      have h' := congrArg UInt8.toNat (Option.some.inj h)
      rw [ofNat_dg hu] at h'
      have : (48 : UInt8).toNat = 48 := rfl
      omega
    · rw [dd_big hu, head_app (dd_ne _)] at h
      have := ih (u / 10) (by omega) h
      omega
def val (l : List UInt8) : Nat := l.foldl (fun n c => 10 * n + (c.toNat - 48)) 0
theorem val_from (l : List UInt8) : ∀ a : Nat, a ≤ l.foldl (fun n c => 10 * n + (c.toNat - 48)) a := by
  induction l with
  | nil => intro a; exact Nat.le_refl _
  | cons c l ih =>
    intro a
    exact Nat.le_trans (show a ≤ 10 * a + (c.toNat - 48) by omega) (ih _)
theorem val_append (a b : List UInt8) : val a ≤ val (a ++ b) := by
  unfold val; rw [List.foldl_append]; exact val_from b _
theorem val_dd : ∀ u : Nat, val (decDigits u) = u := by
  intro u
  induction u using Nat.strongRecOn with
  | _ u ih =>
    by_cases h : u < 10
    · rw [dd_small h]; simp only [val, List.foldl_cons, List.foldl_nil]; rw [ofNat_dg h]; omega
    · rw [dd_big h]
      have := ih (u / 10) (by omega)
      unfold val at this ⊢
      rw [List.foldl_append, this]
      simp only [List.foldl_cons, List.foldl_nil]
      rw [ofNat_dg (by omega)]; omega
theorem dd_inj {a b : Nat} (h : decDigits a = decDigits b) : a = b := by rw [← val_dd a, h, val_dd]
theorem dd_no46 (u : Nat) : (46 : UInt8) ∉ decDigits u := fun h => by
  have := dd_digits u _ h
  unfold isDg at this
  have e : (46 : UInt8).toNat = 46 := rfl
  omega

def joinP : List Nat → List UInt8
  | [] => []
  | [x] => decDigits x
  | x :: y :: r => decDigits x ++ 46 :: joinP (y :: r)
def joinDot : List Nat → List UInt8
  | [] => []
  | x :: r => decDigits x ++ 46 :: joinDot r
theorem joinDot_snoc (xs : List Nat) (n : Nat) : joinDot (xs ++ [n]) = joinDot xs ++ (decDigits n ++ [46]) := by
  induction xs with
  | nil => simp [joinDot]
  | cons x xs ih => simp [joinDot, ih]
theorem joinP_append (xs p : List Nat) (hp : p ≠ []) : joinP (xs ++ p) = joinDot xs ++ joinP p := by
  induction xs with
  | nil => rfl
  | cons x xs ih =>
    have : ∃ y r, xs ++ p = y :: r := by
      cases h : xs ++ p with
      | nil => exact absurd (List.append_eq_nil_iff.1 h).2 hp
      | cons y r => exact ⟨y, r, rfl⟩
    obtain ⟨y, r, e⟩ := this
    show joinP (x :: (xs ++ p)) = _
    rw [e]
    show decDigits x ++ 46 :: joinP (y :: r) = _
    rw [← e, ih]
    simp [joinDot]
theorem split46 : ∀ {a a' b b' : List UInt8}, (46 : UInt8) ∉ a → (46 : UInt8) ∉ a' → a ++ 46 :: b = a' ++ 46 :: b' → a = a' ∧ b = b'
  | [], [], _, _, _, _, h => ⟨rfl, (List.cons.inj h).2⟩
  | [], x :: a', _, _, _, h2, h => absurd (List.cons.inj h).1 (fun e => h2 (by simp [e]))
  | x :: a, [], _, _, h1, _, h => absurd (List.cons.inj h).1 (fun e => h1 (by simp [← e]))
  | x :: a, y :: a', b, b', h1, h2, h => by
    have hc := List.cons.inj h
    have := split46 (fun m => h1 (List.mem_cons_of_mem _ m)) (fun m => h2 (List.mem_cons_of_mem _ m)) hc.2
    exact ⟨by rw [hc.1, this.1], this.2⟩
theorem joinP_head (p : List Nat) (hp : p ≠ []) : ∃ y r tail, p = y :: r ∧ joinP p = decDigits y ++ tail ∧ ((tail = [] ∧ r = []) ∨ (r ≠ [] ∧ tail = 46 :: joinP r)) := by
  match p, hp with
  | [x], _ => exact ⟨x, [], [], rfl, by simp [joinP], .inl ⟨rfl, rfl⟩⟩
  | x :: y :: r, _ => exact ⟨x, y :: r, _, rfl, rfl, .inr ⟨by simp, rfl⟩⟩
/-- Whoever begins with these numbers goes on with a path that the rest is the text of. -/
theorem joinP_begins : ∀ (xs p : List Nat) (rest : List UInt8), p ≠ [] → joinP p = joinDot xs ++ rest → ∃ p', p = xs ++ p' ∧ ((p' ≠ [] ∧ joinP p' = rest))
  | [], p, rest, hp, h => ⟨p, rfl, hp, h⟩
  | x :: xs, p, rest, hp, h => by
    obtain ⟨y, r, tail, rfl, hj, ht⟩ := joinP_head p hp
    rw [hj] at h
    have h' : decDigits y ++ tail = decDigits x ++ 46 :: (joinDot xs ++ rest) := by rw [h]; simp [joinDot]
    rcases ht with ⟨rfl, rfl⟩ | ⟨hr, rfl⟩
    · exfalso
      rw [List.append_nil] at h'
      exact dd_no46 y (by rw [h']; simp)
    · obtain ⟨e1, e2⟩ := split46 (dd_no46 y) (dd_no46 x) h'
      obtain ⟨p', rfl, hp', hq⟩ := joinP_begins xs r rest hr e2
      exact ⟨p', by rw [dd_inj e1]; rfl, hp', hq⟩
theorem joinP_inj {p q : List Nat} (hp : p ≠ []) (hq : q ≠ []) (h : joinP p = joinP q) : p = q := by
  have key : ∀ (n : Nat) (p q : List Nat), p.length ≤ n → p ≠ [] → q ≠ [] → joinP p = joinP q → p = q := by
    intro n
    induction n with
    | zero => intro p q hl hp; exact absurd (List.eq_nil_of_length_eq_zero (by omega)) hp
    | succ n ih =>
      intro p q hl hp hq h
      obtain ⟨y, r, t, rfl, h1, ht⟩ := joinP_head p hp
      obtain ⟨y', r', t', rfl, h1', ht'⟩ := joinP_head q hq
      rw [h1, h1'] at h
      rcases ht with ⟨rfl, rfl⟩ | ⟨hr, rfl⟩ <;> rcases ht' with ⟨rfl, rfl⟩ | ⟨hr', rfl⟩
      · simp only [List.append_nil] at h; rw [dd_inj h]
      · rw [List.append_nil] at h; exact absurd (by rw [h]; simp) (dd_no46 y)
      · rw [List.append_nil] at h; exact absurd (by rw [← h]; simp) (dd_no46 y')
      · obtain ⟨e1, e2⟩ := split46 (dd_no46 y) (dd_no46 y') h
        rw [dd_inj e1, ih r r' (by simp at hl; omega) hr hr' e2]
  exact key _ p q (Nat.le_refl _) hp hq h

/-- The numbers that a text is of: at least one and at most count, none above most. -/
def NumsOf (l : List UInt8) (count most : Nat) (p : List Nat) : Prop := p ≠ [] ∧ joinP p = l ∧ p.length ≤ count ∧ ∀ x ∈ p, x ≤ most
theorem NumsOf.one {l : List UInt8} {count most : Nat} {p q : List Nat} (hp : NumsOf l count most p) (hq : NumsOf l count most q) : p = q := joinP_inj hp.1 hq.1 (hp.2.1.trans hq.2.1.symm)

/-- What has been read of the number under way. -/
def Under (rest : List UInt8) (i n : Nat) : Prop := (i = 0 ∧ n = 0) ∨ (0 < i ∧ rest.take i = decDigits n)
theorem head_of {l : List UInt8} {count most : Nat} {xs : List Nat} {rest : List UInt8} (hl : l = joinDot xs ++ rest) {p : List Nat} (hp : NumsOf l count most p) :
    ∃ y r tail, rest = decDigits y ++ tail ∧ (tail = [] ∨ ∃ t, tail = 46 :: t) ∧ y ≤ most ∧ xs.length < count ∧ p = xs ++ y :: r := by
  obtain ⟨p', rfl, hp', hj⟩ := joinP_begins xs p rest hp.1 (hp.2.1.trans hl)
  obtain ⟨y, r, tail, rfl, h1, ht⟩ := joinP_head p' hp'
  have h3 := hp.2.2.1
  simp at h3
  refine ⟨y, r, tail, hj.symm.trans h1, ?_, hp.2.2.2 y (by simp), by omega, rfl⟩
  rcases ht with ⟨h, _⟩ | ⟨_, h⟩
  · exact .inl h
  · exact .inr ⟨_, h⟩
theorem mem_take_digits {rest : List UInt8} {i n k : Nat} (h : rest.take i = decDigits n) (hk : k < i) (hk' : k < rest.length) : isDg rest[k] := by
  refine dd_digits n _ ?_
  rw [← h]
  exact List.mem_iff_getElem.2 ⟨k, by simp; omega, by simp⟩
theorem at46 {d t : List UInt8} (h : d.length < (d ++ 46 :: t).length) : (d ++ 46 :: t)[d.length] = 46 := by simp
theorem no46 {c : UInt8} (h : isDg c) : c ≠ 46 := fun e => by
  subst e
  unfold isDg at h
  have e : (46 : UInt8).toNat = 46 := rfl
  omega
theorem fail_sign {l : List UInt8} {count most : Nat} {xs : List Nat} {rest : List UInt8} {i n : Nat} (hl : l = joinDot xs ++ rest) (hu : Under rest i n) (hi : i < rest.length) (hd : ¬ isDg rest[i]) (hc : ¬ (rest[i] = 46 ∧ 0 < i)) :
    ∀ p, ¬ NumsOf l count most p := fun p hp => by
  obtain ⟨y, r, tail, rfl, ht, _⟩ := head_of hl hp
  have hlen := dd_len y
  rcases Nat.lt_or_ge i (decDigits y).length with h1 | h1
  · rw [List.getElem_append_left h1] at hd
    exact hd (dd_digits y _ (List.getElem_mem h1))
  · rcases ht with rfl | ⟨t, rfl⟩
    · simp at hi; omega
    · rcases Nat.lt_or_eq_of_le h1 with h2 | h2
      · rcases hu with ⟨rfl, _⟩ | ⟨_, hu⟩
        · omega
        · exact no46 (mem_take_digits hu h2 (by simp)) (at46 _)
      · subst h2
        exact hc ⟨at46 _, by omega⟩
theorem fail_nought {l : List UInt8} {count most : Nat} {xs : List Nat} {rest : List UInt8} {i : Nat} (hl : l = joinDot xs ++ rest) (hu : Under rest i 0) (hi : i < rest.length) (h0 : 0 < i) (hc : rest[i] ≠ 46) :
    ∀ p, ¬ NumsOf l count most p := fun p hp => by
  obtain ⟨y, r, tail, rfl, ht, _⟩ := head_of hl hp
  have hlen := dd_len y
  have hu' : (decDigits y ++ tail).take i = decDigits 0 := by
    rcases hu with ⟨h, _⟩ | ⟨_, h⟩
    · omega
    · exact h
  rw [dd_zero] at hu'
  have hi1 : i = 1 := by
    have := congrArg List.length hu'
    simp only [List.length_take, List.length_singleton] at this
    omega
  subst hi1
  have hy : y = 0 := by
    obtain ⟨c, d', hd⟩ := List.exists_cons_of_ne_nil (dd_ne y)
    rw [hd] at hu'
    simp only [List.cons_append, List.take_succ_cons, List.take_zero, List.cons.injEq, and_true] at hu'
    exact dd_head y (by rw [hd, hu']; rfl)
  subst hy
  rcases ht with rfl | ⟨t, rfl⟩
  · rw [dd_zero] at hi; simp at hi
  · apply hc
    simp [dd_zero]
theorem fail_great {l : List UInt8} {count most : Nat} {xs : List Nat} {rest : List UInt8} {i n : Nat} (hl : l = joinDot xs ++ rest) (hi : i < rest.length) (hu : rest.take (i + 1) = decDigits n) (hn : most < n) :
    ∀ p, ¬ NumsOf l count most p := fun p hp => by
  obtain ⟨y, r, tail, rfl, ht, hy, _⟩ := head_of hl hp
  have hge : i + 1 ≤ (decDigits y).length := by
    rcases Nat.lt_or_ge i (decDigits y).length with h1 | h1
    · exact h1
    · exfalso
      rcases ht with rfl | ⟨t, rfl⟩
      · simp at hi; omega
      · exact no46 (mem_take_digits hu (Nat.lt_succ_of_le h1) (by simp)) (at46 _)
  rw [List.take_append_of_le_length hge] at hu
  have h1 := val_append ((decDigits y).take (i + 1)) ((decDigits y).drop (i + 1))
  rw [List.take_append_drop, hu, val_dd, val_dd] at h1
  omega
theorem fail_empty {l : List UInt8} {count most : Nat} {xs : List Nat} (hl : l = joinDot xs ++ []) : ∀ p, ¬ NumsOf l count most p := fun p hp => by
  obtain ⟨y, r, tail, h, _⟩ := head_of hl hp
  exact dd_ne y (List.append_eq_nil_iff.1 h.symm).1
theorem fail_many {l : List UInt8} {count most : Nat} {xs : List Nat} {rest : List UInt8} (hl : l = joinDot xs ++ rest) (h : count ≤ xs.length) : ∀ p, ¬ NumsOf l count most p := fun p hp => by
  obtain ⟨y, r, tail, _, _, _, h', _⟩ := head_of hl hp
  omega
theorem step_digit {rest : List UInt8} {i n : Nat} (hu : Under rest i n) (hi : i < rest.length) (hd : isDg rest[i]) (hz : ¬ (0 < i ∧ n = 0)) : rest.take (i + 1) = decDigits (10 * n + (rest[i].toNat - 48)) := by
  have hd' := hd
  unfold isDg at hd'
  have hb : UInt8.ofNat (48 + (rest[i].toNat - 48)) = rest[i] := by
    rw [show 48 + (rest[i].toNat - 48) = rest[i].toNat by omega]; exact UInt8.ofNat_toNat
  rw [List.take_succ_eq_append_getElem hi]
  rcases hu with ⟨rfl, rfl⟩ | ⟨h0, hu⟩
  · rw [dd_small (by omega), show 48 + (10 * 0 + (rest[0].toNat - 48)) = 48 + (rest[0].toNat - 48) by omega, hb]; rfl
  · rw [dd_snoc (by omega) (by omega), hb, hu]
theorem step_dot {l : List UInt8} {xs : List Nat} {rest : List UInt8} {i n : Nat} (hl : l = joinDot xs ++ rest) (hu : Under rest i n) (hi : i < rest.length) (h0 : 0 < i) (hc : rest[i] = 46) : l = joinDot (xs ++ [n]) ++ rest.drop (i + 1) := by
  rcases hu with ⟨h, _⟩ | ⟨_, hu⟩
  · omega
  rw [hl, joinDot_snoc, ← hu, List.append_assoc, ← hc]
  congr 1
  rw [← List.take_succ_eq_append_getElem hi, List.take_append_drop]
theorem step_end {l : List UInt8} {count most : Nat} {xs : List Nat} {rest : List UInt8} {i n : Nat} (hl : l = joinDot xs ++ rest) (hu : Under rest i n) (hi : rest.length ≤ i) (h0 : rest ≠ []) (hx : xs.length < count) (hm : ∀ x ∈ xs, x ≤ most) (hn : n ≤ most) : NumsOf l count most (xs ++ [n]) := by
  rcases hu with ⟨rfl, _⟩ | ⟨_, hu⟩
  · exact absurd (List.eq_nil_of_length_eq_zero (by omega)) h0
  rw [List.take_of_length_le hi] at hu
  refine ⟨by simp, ?_, by simp; omega, ?_⟩
  · rw [joinP_append _ _ (by simp), hl, hu]; rfl
  · intro x hx
    rcases List.mem_append.1 hx with h | h
    · exact hm x h
    · simp at h; omega
end Go.Proofs.YtaafcmmmkalgjaaGreatDoor
