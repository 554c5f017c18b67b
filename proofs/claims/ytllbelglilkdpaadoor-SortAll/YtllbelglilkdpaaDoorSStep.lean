/-
  Plain mathematics, of no program: numbers in decimal digits with a point between each two, and how a text of them is cut.
-/
import Derived.Lib.ItoaNum
import Derived.Test.YtllbelglilkdpaaDoorSNew
import Derived.Test.YtllbelglilkdpaaDoorSGs
import Derived.Test.YtllbelglilkdpaaDoorSOf
import Derived.Test.YtllbelglilkdpaaDoorSUniG
namespace Go.Proofs.YtllbelglilkdpaaDoor
open Go Go.Lib

def isDg (c : UInt8) : Prop := 48 ≤ c.toNat ∧ c.toNat ≤ 57
theorem dd_small {u : Nat} (h : u < 10) : decDigits u = [UInt8.ofNat (48 + u)] := decDigits_one h
theorem dd_big {u : Nat} (h : ¬ u < 10) : decDigits u = decDigits (u / 10) ++ [UInt8.ofNat (48 + u % 10)] := by rw [decDigits, dif_neg h]
theorem ofNat_dg {d : Nat} (h : d < 10) : (UInt8.ofNat (48 + d)).toNat = 48 + d := by
  rw [UInt8.toNat_ofNat']; omega
theorem dd_digits : ∀ (u : Nat), ∀ c ∈ decDigits u, isDg c := by
  intro u
  induction u using Nat.strongRecOn with
  | _ u ih =>
    intro c hc
    by_cases h : u < 10
    · rw [dd_small h] at hc
      simp only [List.mem_singleton] at hc
      subst hc
      unfold isDg; rw [ofNat_dg h]; omega
    · rw [dd_big h] at hc
      rcases List.mem_append.1 hc with hc | hc
      · exact ih (u / 10) (by omega) c hc
      · simp only [List.mem_singleton] at hc
        subst hc
        unfold isDg; rw [ofNat_dg (by omega)]; omega
theorem dd_ne (u : Nat) : decDigits u ≠ [] := by
  by_cases h : u < 10
  · rw [dd_small h]; simp
  · rw [dd_big h]; simp
theorem dd_len (u : Nat) : 0 < (decDigits u).length := List.length_pos_iff.2 (dd_ne u)
theorem dd_zero : decDigits 0 = [48] := by rw [dd_small (by omega)]; rfl
theorem dd_snoc {n d : Nat} (hn : 0 < n) (hd : d < 10) : decDigits (10 * n + d) = decDigits n ++ [UInt8.ofNat (48 + d)] := by
  rw [dd_big (by omega), show (10 * n + d) / 10 = n by omega, show (10 * n + d) % 10 = d by omega]
theorem head_app {a b : List UInt8} (h : a ≠ []) : (a ++ b).head? = a.head? := by
  cases a with
  | nil => exact absurd rfl h
  | cons x a => rfl
theorem dd_head : ∀ (u : Nat), (decDigits u).head? = some 48 → u = 0 := by
  intro u
  induction u using Nat.strongRecOn with
  | _ u ih =>
    intro h
    by_cases hu : u < 10
    · rw [dd_small hu] at h
      have h' := congrArg UInt8.toNat (Option.some.inj h)
      rw [ofNat_dg hu] at h'
      have : (48 : UInt8).toNat = 48 := rfl
      omega
    · rw [dd_big hu, head_app (dd_ne _)] at h
      have := ih (u / 10) (by omega) h
      omega
def val (l : List UInt8) : Nat := l.foldl (fun n c => 10 * n + (c.toNat - 48)) 0
theorem val_from (l : List UInt8) : ∀ a : Nat, a ≤ l.foldl (fun n c => 10 * n + (c.toNat - 48)) a := by
  induction l with
  | nil => intro a; exact Nat.le_refl _
  | cons c l ih =>
    intro a
    exact Nat.le_trans (show a ≤ 10 * a + (c.toNat - 48) by omega) (ih _)
theorem val_append (a b : List UInt8) : val a ≤ val (a ++ b) := by
  unfold val; rw [List.foldl_append]; exact val_from b _
theorem val_dd : ∀ u : Nat, val (decDigits u) = u := by
  intro u
  induction u using Nat.strongRecOn with
  | _ u ih =>
    by_cases h : u < 10
    · rw [dd_small h]; simp only [val, List.foldl_cons, List.foldl_nil]; rw [ofNat_dg h]; omega
    · rw [dd_big h]
      have := ih (u / 10) (by omega)
      unfold val at this ⊢
      rw [List.foldl_append, this]
      simp only [List.foldl_cons, List.foldl_nil]
      rw [ofNat_dg (by omega)]; omega
theorem dd_inj {a b : Nat} (h : decDigits a = decDigits b) : a = b := by rw [← val_dd a, h, val_dd]
theorem dd_no46 (u : Nat) : (46 : UInt8) ∉ decDigits u := fun h => by
  have := dd_digits u _ h
  unfold isDg at this
  have e : (46 : UInt8).toNat = 46 := rfl
  omega

def joinP : List Nat → List UInt8
  | [] => []
  | [x] => decDigits x
  | x :: y :: r => decDigits x ++ 46 :: joinP (y :: r)
def joinDot : List Nat → List UInt8
  | [] => []
  | x :: r => decDigits x ++ 46 :: joinDot r
theorem joinDot_snoc (xs : List Nat) (n : Nat) : joinDot (xs ++ [n]) = joinDot xs ++ (decDigits n ++ [46]) := by
  induction xs with
  | nil => simp [joinDot]
  | cons x xs ih => simp [joinDot, ih]
theorem joinP_append (xs p : List Nat) (hp : p ≠ []) : joinP (xs ++ p) = joinDot xs ++ joinP p := by
  induction xs with
  | nil => rfl
  | cons x xs ih =>
    have : ∃ y r, xs ++ p = y :: r := by
      cases h : xs ++ p with
      | nil => exact absurd (List.append_eq_nil_iff.1 h).2 hp
      | cons y r => exact ⟨y, r, rfl⟩
    obtain ⟨y, r, e⟩ := this
    show joinP (x :: (xs ++ p)) = _
    rw [e]
    show decDigits x ++ 46 :: joinP (y :: r) = _
    rw [← e, ih]
    simp [joinDot]
theorem split46 : ∀ {a a' b b' : List UInt8}, (46 : UInt8) ∉ a → (46 : UInt8) ∉ a' → a ++ 46 :: b = a' ++ 46 :: b' → a = a' ∧ b = b'
  | [], [], _, _, _, _, h => ⟨rfl, (List.cons.inj h).2⟩
  | [], x :: a', _, _, _, h2, h => absurd (List.cons.inj h).1 (fun e => h2 (by simp [e]))
  | x :: a, [], _, _, h1, _, h => absurd (List.cons.inj h).1 (fun e => h1 (by simp [← e]))
  | x :: a, y :: a', b, b', h1, h2, h => by
    have hc := List.cons.inj h
    have := split46 (fun m => h1 (List.mem_cons_of_mem _ m)) (fun m => h2 (List.mem_cons_of_mem _ m)) hc.2
    exact ⟨by rw [hc.1, this.1], this.2⟩
theorem joinP_head (p : List Nat) (hp : p ≠ []) : ∃ y r tail, p = y :: r ∧ joinP p = decDigits y ++ tail ∧ ((tail = [] ∧ r = []) ∨ (r ≠ [] ∧ tail = 46 :: joinP r)) := by
  match p, hp with
  | [x], _ => exact ⟨x, [], [], rfl, by simp [joinP], .inl ⟨rfl, rfl⟩⟩
  | x :: y :: r, _ => exact ⟨x, y :: r, _, rfl, rfl, .inr ⟨by simp, rfl⟩⟩
/-- Whoever begins with these numbers goes on with a path that the rest is the text of. -/
theorem joinP_begins : ∀ (xs p : List Nat) (rest : List UInt8), p ≠ [] → joinP p = joinDot xs ++ rest → ∃ p', p = xs ++ p' ∧ ((p' ≠ [] ∧ joinP p' = rest))
  | [], p, rest, hp, h => ⟨p, rfl, hp, h⟩
  | x :: xs, p, rest, hp, h => by
    obtain ⟨y, r, tail, rfl, hj, ht⟩ := joinP_head p hp
    rw [hj] at h
    have h' : decDigits y ++ tail = decDigits x ++ 46 :: (joinDot xs ++ rest) := by rw [h]; simp [joinDot]
    rcases ht with ⟨rfl, rfl⟩ | ⟨hr, rfl⟩
    · exfalso
      rw [List.append_nil] at h'
      exact dd_no46 y (by rw [h']; simp)
    · obtain ⟨e1, e2⟩ := split46 (dd_no46 y) (dd_no46 x) h'
      obtain ⟨p', rfl, hp', hq⟩ := joinP_begins xs r rest hr e2
      exact ⟨p', by rw [dd_inj e1]; rfl, hp', hq⟩
theorem joinP_inj {p q : List Nat} (hp : p ≠ []) (hq : q ≠ []) (h : joinP p = joinP q) : p = q := by
  have key : ∀ (n : Nat) (p q : List Nat), p.length ≤ n → p ≠ [] → q ≠ [] → joinP p = joinP q → p = q := by
    intro n
    induction n with
    | zero => intro p q hl hp; exact absurd (List.eq_nil_of_length_eq_zero (by omega)) hp
    | succ n ih =>
      intro p q hl hp hq h
      obtain ⟨y, r, t, rfl, h1, ht⟩ := joinP_head p hp
      obtain ⟨y', r', t', rfl, h1', ht'⟩ := joinP_head q hq
      rw [h1, h1'] at h
      rcases ht with ⟨rfl, rfl⟩ | ⟨hr, rfl⟩ <;> rcases ht' with ⟨rfl, rfl⟩ | ⟨hr', rfl⟩
      · simp only [List.append_nil] at h; rw [dd_inj h]
      · rw [List.append_nil] at h; exact absurd (by rw [h]; simp) (dd_no46 y)
      · rw [List.append_nil] at h; exact absurd (by rw [← h]; simp) (dd_no46 y')
      · obtain ⟨e1, e2⟩ := split46 (dd_no46 y) (dd_no46 y') h
        rw [dd_inj e1, ih r r' (by simp at hl; omega) hr hr' e2]
  exact key _ p q (Nat.le_refl _) hp hq h

/-- The numbers that a text is of: at least one and at most count, none above most. -/
def NumsOf (l : List UInt8) (count most : Nat) (p : List Nat) : Prop := p ≠ [] ∧ joinP p = l ∧ p.length ≤ count ∧ ∀ x ∈ p, x ≤ most
theorem NumsOf.one {l : List UInt8} {count most : Nat} {p q : List Nat} (hp : NumsOf l count most p) (hq : NumsOf l count most q) : p = q := joinP_inj hp.1 hq.1 (hp.2.1.trans hq.2.1.symm)

/-- What has been read of the number under way. -/
def Under (rest : List UInt8) (i n : Nat) : Prop := (i = 0 ∧ n = 0) ∨ (0 < i ∧ rest.take i = decDigits n)
theorem head_of {l : List UInt8} {count most : Nat} {xs : List Nat} {rest : List UInt8} (hl : l = joinDot xs ++ rest) {p : List Nat} (hp : NumsOf l count most p) :
    ∃ y r tail, rest = decDigits y ++ tail ∧ (tail = [] ∨ ∃ t, tail = 46 :: t) ∧ y ≤ most ∧ xs.length < count ∧ p = xs ++ y :: r := by
  obtain ⟨p', rfl, hp', hj⟩ := joinP_begins xs p rest hp.1 (hp.2.1.trans hl)
  obtain ⟨y, r, tail, rfl, h1, ht⟩ := joinP_head p' hp'
  have h3 := hp.2.2.1
  simp at h3
  refine ⟨y, r, tail, hj.symm.trans h1, ?_, hp.2.2.2 y (by simp), by omega, rfl⟩
  rcases ht with ⟨h, _⟩ | ⟨_, h⟩
  · exact .inl h
  · exact .inr ⟨_, h⟩
theorem mem_take_digits {rest : List UInt8} {i n k : Nat} (h : rest.take i = decDigits n) (hk : k < i) (hk' : k < rest.length) : isDg rest[k] := by
  refine dd_digits n _ ?_
  rw [← h]
  exact List.mem_iff_getElem.2 ⟨k, by simp; omega, by simp⟩
theorem at46 {d t : List UInt8} (h : d.length < (d ++ 46 :: t).length) : (d ++ 46 :: t)[d.length] = 46 := by simp
theorem no46 {c : UInt8} (h : isDg c) : c ≠ 46 := fun e => by
  subst e
  unfold isDg at h
  have e : (46 : UInt8).toNat = 46 := rfl
  omega
theorem fail_sign {l : List UInt8} {count most : Nat} {xs : List Nat} {rest : List UInt8} {i n : Nat} (hl : l = joinDot xs ++ rest) (hu : Under rest i n) (hi : i < rest.length) (hd : ¬ isDg rest[i]) (hc : ¬ (rest[i] = 46 ∧ 0 < i)) :
    ∀ p, ¬ NumsOf l count most p := fun p hp => by
  obtain ⟨y, r, tail, rfl, ht, _⟩ := head_of hl hp
  have hlen := dd_len y
  rcases Nat.lt_or_ge i (decDigits y).length with h1 | h1
  · rw [List.getElem_append_left h1] at hd
    exact hd (dd_digits y _ (List.getElem_mem h1))
  · rcases ht with rfl | ⟨t, rfl⟩
    · simp at hi; omega
    · rcases Nat.lt_or_eq_of_le h1 with h2 | h2
      · rcases hu with ⟨rfl, _⟩ | ⟨_, hu⟩
        · omega
        · exact no46 (mem_take_digits hu h2 (by simp)) (at46 _)
      · subst h2
        exact hc ⟨at46 _, by omega⟩
theorem fail_nought {l : List UInt8} {count most : Nat} {xs : List Nat} {rest : List UInt8} {i : Nat} (hl : l = joinDot xs ++ rest) (hu : Under rest i 0) (hi : i < rest.length) (h0 : 0 < i) (hc : rest[i] ≠ 46) :
    ∀ p, ¬ NumsOf l count most p := fun p hp => by
  obtain ⟨y, r, tail, rfl, ht, _⟩ := head_of hl hp
  have hlen := dd_len y
  have hu' : (decDigits y ++ tail).take i = decDigits 0 := by
    rcases hu with ⟨h, _⟩ | ⟨_, h⟩
    · omega
    · exact h
  rw [dd_zero] at hu'
  have hi1 : i = 1 := by
    have := congrArg List.length hu'
    simp only [List.length_take, List.length_singleton] at this
    omega
  subst hi1
  have hy : y = 0 := by
    obtain ⟨c, d', hd⟩ := List.exists_cons_of_ne_nil (dd_ne y)
    rw [hd] at hu'
    simp only [List.cons_append, List.take_succ_cons, List.take_zero, List.cons.injEq, and_true] at hu'
    exact dd_head y (by rw [hd, hu']; rfl)
  subst hy
  rcases ht with rfl | ⟨t, rfl⟩
  · rw [dd_zero] at hi; simp at hi
  · apply hc
    simp [dd_zero]
theorem fail_great {l : List UInt8} {count most : Nat} {xs : List Nat} {rest : List UInt8} {i n : Nat} (hl : l = joinDot xs ++ rest) (hi : i < rest.length) (hu : rest.take (i + 1) = decDigits n) (hn : most < n) :
    ∀ p, ¬ NumsOf l count most p := fun p hp => by
  obtain ⟨y, r, tail, rfl, ht, hy, _⟩ := head_of hl hp
  have hge : i + 1 ≤ (decDigits y).length := by
    rcases Nat.lt_or_ge i (decDigits y).length with h1 | h1
    · exact h1
    · exfalso
      rcases ht with rfl | ⟨t, rfl⟩
      · simp at hi; omega
      · exact no46 (mem_take_digits hu (Nat.lt_succ_of_le h1) (by simp)) (at46 _)
  rw [List.take_append_of_le_length hge] at hu
  have h1 := val_append ((decDigits y).take (i + 1)) ((decDigits y).drop (i + 1))
  rw [List.take_append_drop, hu, val_dd, val_dd] at h1
  omega
theorem fail_empty {l : List UInt8} {count most : Nat} {xs : List Nat} (hl : l = joinDot xs ++ []) : ∀ p, ¬ NumsOf l count most p := fun p hp => by
  obtain ⟨y, r, tail, h, _⟩ := head_of hl hp
  exact dd_ne y (List.append_eq_nil_iff.1 h.symm).1
theorem fail_many {l : List UInt8} {count most : Nat} {xs : List Nat} {rest : List UInt8} (hl : l = joinDot xs ++ rest) (h : count ≤ xs.length) : ∀ p, ¬ NumsOf l count most p := fun p hp => by
  obtain ⟨y, r, tail, _, _, _, h', _⟩ := head_of hl hp
  omega
theorem step_digit {rest : List UInt8} {i n : Nat} (hu : Under rest i n) (hi : i < rest.length) (hd : isDg rest[i]) (hz : ¬ (0 < i ∧ n = 0)) : rest.take (i + 1) = decDigits (10 * n + (rest[i].toNat - 48)) := by
  have hd' := hd
  unfold isDg at hd'
  have hb : UInt8.ofNat (48 + (rest[i].toNat - 48)) = rest[i] := by
    rw [show 48 + (rest[i].toNat - 48) = rest[i].toNat by omega]; exact UInt8.ofNat_toNat
  rw [List.take_succ_eq_append_getElem hi]
  rcases hu with ⟨rfl, rfl⟩ | ⟨h0, hu⟩
  · rw [dd_small (by omega), show 48 + (10 * 0 + (rest[0].toNat - 48)) = 48 + (rest[0].toNat - 48) by omega, hb]; rfl
  · rw [dd_snoc (by omega) (by omega), hb, hu]
theorem step_dot {l : List UInt8} {xs : List Nat} {rest : List UInt8} {i n : Nat} (hl : l = joinDot xs ++ rest) (hu : Under rest i n) (hi : i < rest.length) (h0 : 0 < i) (hc : rest[i] = 46) : l = joinDot (xs ++ [n]) ++ rest.drop (i + 1) := by
  rcases hu with ⟨h, _⟩ | ⟨_, hu⟩
  · omega
  rw [hl, joinDot_snoc, ← hu, List.append_assoc, ← hc]
  congr 1
  rw [← List.take_succ_eq_append_getElem hi, List.take_append_drop]
theorem step_end {l : List UInt8} {count most : Nat} {xs : List Nat} {rest : List UInt8} {i n : Nat} (hl : l = joinDot xs ++ rest) (hu : Under rest i n) (hi : rest.length ≤ i) (h0 : rest ≠ []) (hx : xs.length < count) (hm : ∀ x ∈ xs, x ≤ most) (hn : n ≤ most) : NumsOf l count most (xs ++ [n]) := by
  rcases hu with ⟨rfl, _⟩ | ⟨_, hu⟩
  · exact absurd (List.eq_nil_of_length_eq_zero (by omega)) h0
  rw [List.take_of_length_le hi] at hu
  refine ⟨by simp, ?_, by simp; omega, ?_⟩
  · rw [joinP_append _ _ (by simp), hl, hu]; rfl
  · intro x hx
    rcases List.mem_append.1 hx with h | h
    · exact hm x h
    · simp at h; omega
end Go.Proofs.YtllbelglilkdpaaDoor
/-
  strconv.Itoa by the laid table; the solver's fresh, in general.
-/
namespace Go.Proofs.YtllbelglilkdpaaDoor
open Go.RowKit
/-- The table of powers that strconv reads, as the program's text lays it. -/
def Laid (w : World) : Prop := Lib.TabIs Tryd.prog w "internal/strconv.uint64pow10" .u64 Lib.pow10Tab
theorem Laid.keep {w w' : World} {K : Nat → Prop} (h : Laid w) (hk : Kp K w w') (h1 : K 1) : Laid w' := by
  have hgn : Tryd.prog.globalNamed "internal/strconv.uint64pow10" = some 1 := by kernel_rfl
  unfold Laid Lib.TabIs World.var? at h ⊢
  rw [hgn] at h ⊢
  simp only [Option.bind_some] at h ⊢
  have hlt : 1 < w.heap.size := by
    rcases Nat.lt_or_ge 1 w.heap.size with h' | h'
    · exact h'
    · rw [Array.getElem?_eq_none h'] at h; cases h
  rw [hk.block 1 hlt h1]
  exact h
theorem Laid.later {w w' : World} (h : Laid w) (hx : Ext w w') : Laid w' := h.keep (hx.kp (fun _ => True)) trivial
theorem Laid.lt {w : World} (h : Laid w) : 1 < w.heap.size := by
  have hgn : Tryd.prog.globalNamed "internal/strconv.uint64pow10" = some 1 := by kernel_rfl
  unfold Laid Lib.TabIs World.var? at h
  rw [hgn] at h
  simp only [Option.bind_some] at h
  rcases Nat.lt_or_ge 1 w.heap.size with h' | h'
  · exact h'
  · rw [Array.getElem?_eq_none h'] at h; cases h
/-- The name of a fresh variable. -/
def frB (n : Nat) : ByteArray := ⟨(Lib.decDigits n).toArray⟩
theorem frB_list (n : Nat) : (frB n).data.toList = Lib.decDigits n := by unfold frB; simp
theorem frB_inj {a b : Nat} (h : frB a = frB b) : a = b := dd_inj (by rw [← frB_list, h, frB_list])
theorem frB_grd (n : Nat) : grdL (frB n).data.toList = false := by
  rw [frB_list]
  have hd := dd_digits n
  have hne := dd_ne n
  cases h : grdL (Lib.decDigits n) with
  | false => rfl
  | true =>
    exfalso
    unfold grdL at h
    simp only [Bool.or_eq_true, decide_eq_true_eq] at h
    rcases h with ((h | h) | h) | h
    · have := hd 117 (by rw [h]; simp); exact absurd this.2 (by decide)
    · have := hd 116 (by rw [h]; simp); exact absurd this.2 (by decide)
    · have := hd 105 (by rw [h]; simp); exact absurd this.2 (by decide)
    · have := hd 116 (by rw [h]; simp); exact absurd this.2 (by decide)
theorem frB_leaf (n : Nat) : leafL (frB n).data.toList = false := by
  unfold leafL
  rw [frB_grd, Bool.false_or]
  cases h : vrbL (frB n).data.toList with
  | false => rfl
  | true =>
    exfalso
    obtain ⟨b, e, h1, _⟩ := vrb_one h
    rw [frB_list] at e
    have := dd_digits n b (by rw [e]; simp)
    unfold isDg at this
    omega
theorem itoa_any (n : Nat) (w : World) (hn : n ≤ 1000000) (hG : Laid w) : Calls Tryd.prog 62 #[.int .i64 (n : Int)] w fun e w' => e = .returned (.string (frB n)) ∧ Ext w w' := by
  refine (Tryd.strconv_Itoa n (by omega) (by omega) w hG).mono ?_
  rintro e w' ⟨rfl, k, os, rfl⟩
  refine ⟨?_, ?_⟩
  · unfold Lib.itoa frB
    rw [if_neg (by omega)]
    rfl
  · have h := (Ext.refl w).drewN k
    exact ⟨h.os, h.tape, h.output, Nat.le_trans h.size (by simp [Sort.grow]), fun j hj => by rw [← Below.block h j hj]; simp only [Sort.grow]; rw [Array.getElem?_append_left (Nat.lt_of_lt_of_le hj h.size)]⟩
set_option maxRecDepth 100000 in
theorem fresh_gen (l : Nat) (w : World) {b5 : Nat} (h : w.heap[b5]? = some (.cells #[.int .i64 l] 3)) (hl : l + 1 ≤ 1000000) (hG : Laid w) (hb : b5 ≠ 1) : Calls Tryd.prog 61 #[.pointer (some ⟨b5, 0, none⟩)] w fun e w' => e = .returned (shV (0, frB (l + 1))) ∧ Kp (· ≠ b5) w w' ∧ w'.heap[b5]? = some (.cells #[.int .i64 ((l + 1 : Nat) : Int)] 3) := by
  have HB := hid h
  have hbl := lt_of_block h
  have c0 : w.cell? ⟨b5, 0, none⟩ = some (.int .i64 l) := cell_of h rfl
  have f0 := frozen_of (i := 0) h
  have hl' : (l : Int) + 1 ≤ 1000000 := by omega
  have HI := hid (fun w1 (h1 : Laid w1) => itoa_any (l + 1) w1 hl h1)
  have HG := hid hG
  have HB1' := hid hb
  obtain ⟨X, hX⟩ : ∃ X, frB (l + 1) = X := ⟨_, rfl⟩
  rw [hX] at HI ⊢
  clear hX hG hb
  have HS1 := hid (show (w.setCell ⟨b5, 0, none⟩ (.int .i64 ((l : Int) + 1))).heap[b5]? = some (.cells #[.int .i64 ((l + 1 : Nat) : Int)] 3) from (set_at h 0 _).trans rfl)
  clear h
  go_enter Tryd.func61, Tryd.ntmps61
  go_upto_region 2 with fail
  have HB1 := hid (show ((w.setCell ⟨b5, 0, none⟩ (.int .i64 ((l : Int) + 1))).alloc (.cells #[.int .i64 0, .string ⟨#[]⟩] 58)).heap[b5]? = _ from blkOld _ HS1.out)
  have HK1 := hid ((Kp.set (K := (· ≠ b5)) w b5 0 (.int .i64 ((l : Int) + 1)) (fun h => h rfl)).alloc (.cells #[.int .i64 0, .string ⟨#[]⟩] 58))
  have HR1 := hid (show ((w.setCell ⟨b5, 0, none⟩ (.int .i64 ((l : Int) + 1))).alloc (.cells #[.int .i64 0, .string ⟨#[]⟩] 58)).heap[w.heap.size]? = _ from blkN (size_set _ _ _))
  generalize (w.setCell ⟨b5, 0, none⟩ (.int .i64 ((l : Int) + 1))).alloc (.cells #[.int .i64 0, .string ⟨#[]⟩] 58) = W1 at *
  clear c0 f0
  have c1 : W1.cell? ⟨b5, 0, none⟩ = some (.int .i64 ((l + 1 : Nat) : Int)) := cell_of HB1.out rfl
  go_wp2_with fail
  refine (HI.out W1 (HG.out.keep HK1.out (fun e => HB1'.out e.symm))).mono ?_
  rintro e w2 ⟨rfl, hx2⟩
  have HB2 := hid (hx2.block HB1.out)
  have HR2 := hid (hx2.block HR1.out)
  have HK2 := hid (HK1.out.trans (hx2.kp _))
  clear c1 hx2
  obtain ⟨r0, r1⟩ := two_of HR2.out
  obtain ⟨e0, e1⟩ := two_free HR2.out
  go_wp2_with fail
  obtain ⟨z0, z1⟩ := two_of (two_set (u0 := .int .i64 0) (u1 := .string X) HR2.out)
  refine bodyPost_ret (v := shV (0, X)) (by simp [results, Tryd.results61, go_sem, z0, z1]) rfl ?_
  have k2 := Kp.set2 w2 w.heap.size 0 (.int .i64 0) (.string X)
  exact ⟨rfl, HK2.out.trans' (n := w.heap.size) (L := fun _ => False) (k2.mono (fun q _ h => fun e => h.elim (fun h => by omega) id)), k2.block' HB2.out (by omega)⟩
end Go.Proofs.YtllbelglilkdpaaDoor
/-
  The sort of a plain value, by data; what a solver's map says, and how it grows.
-/
namespace Go.Proofs.YtllbelglilkdpaaDoor
open Go.RowKit
/-- Two sorts of values brought together: so many lists, and a ground name or none. -/
def uniA (a b : Nat × Option ByteArray) : Option (Nat × Option ByteArray) := match a.2, b.2 with
  | some g, some h => if a.1 = b.1 ∧ g = h then some a else none
  | none, some _ => if a.1 ≤ b.1 then some b else none
  | some _, none => if b.1 ≤ a.1 then some a else none
  | none, none => some (max a.1 b.1, none)
mutual
/-- The sort of a plain value. -/
def srt : T → Option (Nat × Option ByteArray)
  | .node k _ _ ks => if k = 5 then (srtL (0, none) ks).map (fun a => (a.1 + 1, a.2)) else some (0, some (nameB k))
def srtL (acc : Nat × Option ByteArray) : List T → Option (Nat × Option ByteArray)
  | [] => some acc
  | t :: r => match srt t with
    | none => none
    | some b => match uniA acc b with
      | none => none
      | some c => srtL c r
end
theorem srtL_snoc (t : T) : ∀ (l : List T) (acc : Nat × Option ByteArray), srtL acc (l ++ [t]) = match srtL acc l with
    | none => none
    | some a => match srt t with
      | none => none
      | some b => uniA a b
  | [], acc => by
    show srtL acc (t :: []) = _
    rw [show srtL acc [] = some acc by rw [srtL], srtL]
    cases srt t with
    | none => rfl
    | some b =>
      show (match uniA acc b with | none => none | some c => srtL c []) = uniA acc b
      cases uniA acc b with
      | none => rfl
      | some c =>
        show srtL c [] = some c
        rw [srtL]
  | x :: l, acc => by
    show srtL acc (x :: (l ++ [t])) = _
    rw [srtL, srtL]
    cases srt x with
    | none => rfl
    | some b =>
      show (match uniA acc b with | none => none | some c => srtL c (l ++ [t])) = (match (match uniA acc b with | none => none | some c => srtL c l) with | none => none | some a => match srt t with | none => none | some b => uniA a b)
      cases uniA acc b with
      | none => rfl
      | some c => exact srtL_snoc t l c
theorem srtL_app (l r : List T) (acc : Nat × Option ByteArray) (h : srtL acc l = none) : srtL acc (l ++ r) = none := by
  induction l generalizing acc with
  | nil => rw [srtL] at h; cases h
  | cons x l ih =>
    show srtL acc (x :: (l ++ r)) = none
    rw [srtL] at h ⊢
    cases hx : srt x with
    | none => rfl
    | some b =>
      rw [hx] at h
      show (match uniA acc b with | none => none | some c => srtL c (l ++ r)) = none
      have h' : (match uniA acc b with | none => none | some c => srtL c l) = none := h
      cases hu : uniA acc b with
      | none => rfl
      | some c => rw [hu] at h'; exact ih c h'
theorem name_grd (k : Int) : grdL (nameB k).data.toList = true ∧ (nameB k).size ≤ 5 := by
  unfold nameB
  split
  · exact ⟨rfl, by decide⟩
  · split
    · exact ⟨rfl, by decide⟩
    · split
      · exact ⟨rfl, by decide⟩
      · exact ⟨rfl, by decide⟩
/-- Whether ground. -/
def okG (a : Nat × Option ByteArray) (m : Nat) : Prop := a.1 ≤ m ∧ ∀ g, a.2 = some g → grdL g.data.toList = true ∧ g.size ≤ 5
theorem uniA_ok {a b c : Nat × Option ByteArray} {m : Nat} (ha : okG a m) (hb : okG b m) (h : uniA a b = some c) : okG c m := by
  obtain ⟨an, ag⟩ := a
  obtain ⟨bn, bg⟩ := b
  have h1 : an ≤ m := ha.1
  have h2 : bn ≤ m := hb.1
  cases ag with
  | none =>
    cases bg with
    | none =>
      have h' : some (max an bn, none) = some c := h
      rw [← Option.some.inj h']
      exact ⟨by show max an bn ≤ m; omega, fun g hg => by cases hg⟩
    | some y =>
      have h' : (if an ≤ bn then some (bn, some y) else none) = some c := h
      split at h'
      · rw [← Option.some.inj h']; exact hb
      · cases h'
  | some x =>
    cases bg with
    | none =>
      have h' : (if bn ≤ an then some (an, some x) else none) = some c := h
      split at h'
      · rw [← Option.some.inj h']; exact ha
      · cases h'
    | some y =>
      have h' : (if an = bn ∧ x = y then some (an, some x) else none) = some c := h
      split at h'
      · rw [← Option.some.inj h']; exact ha
      · cases h'
mutual
theorem srt_ok : ∀ (t : T) (c : Nat × Option ByteArray), srt t = some c → okG c t.deep
  | .node k n x ks, c, h => by
    rw [srt] at h
    unfold T.deep
    by_cases hk : k = 5
    · rw [if_pos hk] at h ⊢
      cases hl : srtL (0, none) ks with
      | none => rw [hl] at h; cases h
      | some a =>
        rw [hl] at h
        have h' : some (a.1 + 1, a.2) = some c := h
        rw [← Option.some.inj h']
        have := srtL_ok ks (0, none) a (T.deepL ks) ⟨Nat.zero_le _, fun g hg => by cases hg⟩ (Nat.le_refl _) hl
        exact ⟨by show a.1 + 1 ≤ 1 + T.deepL ks; have := this.1; omega, this.2⟩
    · rw [if_neg hk] at h ⊢
      rw [← Option.some.inj h]
      exact ⟨Nat.le_refl _, fun g hg => by rw [← Option.some.inj hg]; exact name_grd k⟩
theorem srtL_ok : ∀ (l : List T) (acc c : Nat × Option ByteArray) (m : Nat), okG acc m → T.deepL l ≤ m → srtL acc l = some c → okG c m
  | [], acc, c, m, ha, _, h => by rw [srtL] at h; rw [← Option.some.inj h]; exact ha
  | t :: r, acc, c, m, ha, hd, h => by
    rw [srtL] at h
    unfold T.deepL at hd
    cases ht : srt t with
    | none => rw [ht] at h; cases h
    | some b =>
      rw [ht] at h
      have h' : (match uniA acc b with | none => none | some c => srtL c r) = some c := h
      have hb := srt_ok t b ht
      cases hu : uniA acc b with
      | none => rw [hu] at h'; cases h'
      | some d =>
        rw [hu] at h'
        exact srtL_ok r d c m (uniA_ok ha ⟨by have := hb.1; omega, hb.2⟩ hu) (by omega) h'
end
/-- A fresh name, of a number between. -/
def isFr (l l' : Nat) (z : ByteArray) : Prop := ∃ i, l < i ∧ i ≤ l' ∧ z = frB i
theorem isFr.grd {l l' : Nat} {z : ByteArray} (h : isFr l l' z) : grdL z.data.toList = false := by obtain ⟨i, _, _, rfl⟩ := h; exact frB_grd i
theorem isFr.mono {l l' m m' : Nat} {z : ByteArray} (h : isFr l l' z) (h1 : m ≤ l) (h2 : l' ≤ m') : isFr m m' z := by obtain ⟨i, a, b, c⟩ := h; exact ⟨i, by omega, by omega, c⟩
theorem isFr.ne {l l' m m' : Nat} {y z : ByteArray} (h : isFr l l' y) (h' : isFr m m' z) (hl : l' ≤ m) : y ≠ z := by
  obtain ⟨i, a, b, rfl⟩ := h
  obtain ⟨j, c, d, rfl⟩ := h'
  intro e
  have := frB_inj e
  omega
/-- A map of fresh names alone, to what is ground or fresh. -/
structure Inv (σ : ByteArray → Option Sh) (l : Nat) : Prop where
  keys : ∀ k s, σ k = some s → isFr 0 l k
  vals : ∀ k s, σ k = some s → grdL s.2.data.toList = true ∨ isFr 0 l s.2
theorem Inv.grd {σ : ByteArray → Option Sh} {l : Nat} (h : Inv σ l) {z : ByteArray} (hz : grdL z.data.toList = true) : σ z = none := by
  cases e : σ z with
  | none => rfl
  | some s => have := (h.keys z s e).grd; rw [hz] at this; cases this
theorem Inv.new {σ : ByteArray → Option Sh} {l i : Nat} (h : Inv σ l) (hi : l < i) : σ (frB i) = none := by
  cases e : σ (frB i) with
  | none => rfl
  | some s => obtain ⟨j, h1, h2, h3⟩ := h.keys _ s e; have := frB_inj h3; omega
theorem Inv.more {σ : ByteArray → Option Sh} {l l' : Nat} (h : Inv σ l) (hl : l ≤ l') : Inv σ l' := ⟨fun k s e => (h.keys k s e).mono (Nat.le_refl _) hl, fun k s e => (h.vals k s e).imp id (fun x => x.mono (Nat.le_refl _) hl)⟩
/-- The same but for fresh names of these numbers. -/
def Agree (σ τ : ByteArray → Option Sh) (l l' : Nat) : Prop := ∀ z, ¬ isFr l l' z → τ z = σ z
theorem Agree.refl (σ : ByteArray → Option Sh) (l l' : Nat) : Agree σ σ l l' := fun _ _ => rfl
theorem Agree.trans {σ τ ρ : ByteArray → Option Sh} {l m n : Nat} (h : Agree σ τ l m) (h' : Agree τ ρ m n) (h1 : l ≤ m) (h2 : m ≤ n) : Agree σ ρ l n := fun z hz => (h' z (fun x => hz (x.mono h1 (Nat.le_refl _)))).trans (h z (fun x => hz (x.mono (Nat.le_refl _) h2)))
theorem Agree.wide {σ τ : ByteArray → Option Sh} {l l' m m' : Nat} (h : Agree σ τ l l') (h1 : m ≤ l) (h2 : l' ≤ m') : Agree σ τ m m' := fun z hz => h z (fun x => hz (x.mono h1 h2))
theorem FndN.pres {σ τ : ByteArray → Option Sh} {l l' : Nat} (hi : Inv σ l) (ha : Agree σ τ l l') : ∀ {k : Nat} {x y : Sh}, ¬ isFr l l' x.2 → FndN σ k x y → FndN τ k x y
  | 0, _, _, hx, ⟨h1, h2, h3⟩ => ⟨h1, by rw [ha _ hx]; exact h2, h3⟩
  | k + 1, x, y, hx, ⟨h1, s, h2, h3, h4⟩ => ⟨h1, s, by rw [ha _ hx]; exact h2, h3, FndN.pres hi ha (x := (s.1 + x.1, s.2)) (fun hf => by
      rcases hi.vals _ s h2 with h | h
      · have := hf.grd; rw [h] at this; cases this
      · exact absurd rfl (h.ne hf (Nat.le_refl _))) h4⟩
/-- A name that is unbound, bound. -/
theorem bind_fnd {σ : ByteArray → Option Sh} {v : ByteArray} {Q : Sh} (hv : σ v = none) (hQ : Q.2 ≠ v) (hQn : σ Q.2 = none) (bQ : Bd Q) : ∀ {k : Nat} {x y : Sh}, y.2 = v → Bd (Q.1 + y.1, Q.2) → FndN σ k x y → FndN (fun q => if q = v then some Q else σ q) (k + 1) x (Q.1 + y.1, Q.2)
  | 0, x, y, hy, hb, ⟨h1, h2, h3⟩ => by
    rw [h3] at hy hb ⊢
    refine ⟨h1, Q, by show (if x.2 = v then some Q else σ x.2) = some Q; rw [if_pos hy], bQ, ?_⟩
    exact ⟨hb, by show (if Q.2 = v then some Q else σ Q.2) = none; rw [if_neg hQ]; exact hQn, rfl⟩
  | k + 1, x, y, hy, hb, ⟨h1, s, h2, h3, h4⟩ => by
    refine ⟨h1, s, ?_, h3, bind_fnd hv hQ hQn bQ hy hb h4⟩
    show (if x.2 = v then some Q else σ x.2) = some s
    rw [if_neg (fun e => by rw [e, hv] at h2; cases h2)]
    exact h2
theorem bind_off {σ : ByteArray → Option Sh} {v : ByteArray} {Q : Sh} (hv : σ v = none) : ∀ {k : Nat} {x y : Sh}, y.2 ≠ v → FndN σ k x y → FndN (fun q => if q = v then some Q else σ q) k x y
  | 0, x, y, hy, ⟨h1, h2, h3⟩ => by
    rw [h3] at hy ⊢
    exact ⟨h1, by show (if x.2 = v then some Q else σ x.2) = none; rw [if_neg hy]; exact h2, rfl⟩
  | k + 1, x, y, hy, ⟨h1, s, h2, h3, h4⟩ => by
    refine ⟨h1, s, ?_, h3, bind_off hv hy h4⟩
    show (if x.2 = v then some Q else σ x.2) = some s
    rw [if_neg (fun e => by rw [e, hv] at h2; cases h2)]
    exact h2
/-- A shape that stands for such a sort, its variable fresh. -/
def Rt (l l' : Nat) (a : Nat × Option ByteArray) (x : Nat × ByteArray) : Prop := x.1 = a.1 ∧ match a.2 with
  | some g => x.2 = g ∧ grdL g.data.toList = true
  | none => isFr l l' x.2
theorem Rt.wide {l l' m m' : Nat} {a : Nat × Option ByteArray} {x : Nat × ByteArray} (h : Rt l l' a x) (h1 : m ≤ l) (h2 : l' ≤ m') : Rt m m' a x := by
  obtain ⟨an, ag⟩ := a
  cases ag with
  | none => exact ⟨h.1, h.2.mono h1 h2⟩
  | some g => exact h
/-- What makes two shapes the same, of any names. -/
theorem uniS_gen (a b : Nat × ByteArray) :
    (uniS a b = some none ∧ a = b) ∨ (∃ k q m, uniS a b = some (some (k, q)) ∧ grdL k.data.toList = false ∧ q.2 ≠ k ∧ ((a = (m, k) ∧ b = (q.1 + m, q.2)) ∨ (b = (m, k) ∧ a = (q.1 + m, q.2)))) ∨
    (uniS a b = none ∧ ((a.2 = b.2 ∧ a.1 ≠ b.1) ∨ (a ≠ b ∧ (a.1 ≤ b.1 → grdL a.2.data.toList = true) ∧ (b.1 ≤ a.1 → grdL b.2.data.toList = true)))) := by
  obtain ⟨p, q, hpq, hor⟩ := barS_two a b
  obtain ⟨an, ax⟩ := a
  obtain ⟨bn, bx⟩ := b
  obtain ⟨pn, px⟩ := p
  obtain ⟨qn, qx⟩ := q
  simp only [Prod.mk.injEq] at hor
  by_cases h1 : (shI (pn, px)) = (shI (qn, qx))
  · left
    have h1' : (pn : Int) = qn ∧ px = qx := by simpa using h1
    refine ⟨by unfold uniS; rw [hpq]; exact if_pos h1, ?_⟩
    rcases hor with ⟨⟨h2, h3⟩, h4, h5⟩ | ⟨⟨h2, h3⟩, h4, h5⟩
    · exact Prod.ext (by show an = bn; omega) (by show ax = bx; rw [← h3, ← h5, h1'.2])
    · exact Prod.ext (by show an = bn; omega) (by show ax = bx; rw [← h3, ← h5, h1'.2])
  · right
    by_cases h2 : opS (shI (pn, px)) = true ∧ px ≠ qx
    · left
      have hv : grdL px.data.toList = false ∧ pn = 0 := by
        have ho := h2.1
        unfold opS at ho
        simp only [Bool.and_eq_true, decide_eq_true_eq, Bool.not_eq_true'] at ho
        exact ⟨ho.2, by have : (pn : Int) = 0 := ho.1; omega⟩
      have h0' := hv.2
      refine ⟨px, (qn, qx), min an bn, ?_, hv.1, fun e => h2.2 e.symm, ?_⟩
      · unfold uniS
        rw [hpq, if_neg h1, if_pos h2]
        simp
      · rcases hor with ⟨⟨h3, h4⟩, h5, h6⟩ | ⟨⟨h3, h4⟩, h5, h6⟩
        · left
          exact ⟨Prod.ext (by show an = min an bn; omega) h4.symm, Prod.ext (by show bn = qn + min an bn; omega) h6.symm⟩
        · right
          exact ⟨Prod.ext (by show bn = min an bn; omega) h6.symm, Prod.ext (by show an = qn + min an bn; omega) h4.symm⟩
    · right
      refine ⟨by unfold uniS; rw [hpq, if_neg h1, if_neg h2], ?_⟩
      by_cases hx : ax = bx
      · left
        refine ⟨hx, fun hn => h1 ?_⟩
        have hn' : an = bn := hn
        rcases hor with ⟨⟨h3, h4⟩, h5, h6⟩ | ⟨⟨h3, h4⟩, h5, h6⟩
        · rw [h4, h6, hx, show pn = qn by omega]
        · rw [h4, h6, hx, show pn = qn by omega]
      · right
        refine ⟨fun e => hx (Prod.mk.inj e).2, ?_⟩
        have hno : opS (shI (pn, px)) = false := by
          cases ho : opS (shI (pn, px)) with
          | false => rfl
          | true =>
            refine absurd ⟨ho, fun e => ?_⟩ h2
            rcases hor with ⟨⟨h3, h4⟩, h5, h6⟩ | ⟨⟨h3, h4⟩, h5, h6⟩
            · exact hx (by rw [← h4, ← h6, e])
            · exact hx (by rw [← h4, ← h6, e])
        have key : ∀ s : Sh, opS s = false → s.1 = 0 → grdL s.2.data.toList = true := fun s hs h0 => by
          unfold opS at hs
          rw [decide_eq_true h0] at hs
          simpa using hs
        have hbar : barS (an, ax) (bn, bx) = meetPQ ((an : Int) + -(if (bn : Int) < an then (bn : Int) else an), ax) ((bn : Int) + -(if (bn : Int) < an then (bn : Int) else an), bx) := rfl
        have hboth : opS ((an : Int) + -(if (bn : Int) < an then (bn : Int) else an), ax) = false ∧ opS ((bn : Int) + -(if (bn : Int) < an then (bn : Int) else an), bx) = false := by
          rw [hbar] at hpq
          generalize ((an : Int) + -(if (bn : Int) < an then (bn : Int) else an), ax) = A at *
          generalize ((bn : Int) + -(if (bn : Int) < an then (bn : Int) else an), bx) = B at *
          unfold meetPQ at hpq
          split at hpq
          · next hh =>
            have e1' : B = shI (pn, px) := congrArg Prod.fst hpq
            rw [← e1'] at hno
            rw [hno] at hh
            simp at hh
          · next hh =>
            have e1' : A = shI (pn, px) := congrArg Prod.fst hpq
            rw [← e1'] at hno
            rw [hno] at hh
            refine ⟨hno, ?_⟩
            simpa using hh
        refine ⟨fun hle => key _ hboth.1 ?_, fun hle => key _ hboth.2 ?_⟩
        · have hle' : an ≤ bn := hle
          show (an : Int) + -(if (bn : Int) < an then (bn : Int) else an) = 0
          split <;> omega
        · have hle' : bn ≤ an := hle
          show (bn : Int) + -(if (bn : Int) < an then (bn : Int) else an) = 0
          split <;> omega
/-- What meet leaves, by what makes them the same. -/
theorem meetR_uni {w w' : World} {kb mb N b1 b2 b3 : Nat} {σ : ByteArray → Option Sh} {a b : Nat × ByteArray} {e : Ending} (hr : MeetR w kb mb N b1 b2 b3 σ (barS a b).1 (barS a b).2 e w') :
    (uniS a b = none ∧ e = .returned (.bool false) ∧ Ext w w') ∨ (uniS a b = some none ∧ e = .returned (.bool true) ∧ Ext w w') ∨ (∃ k q, uniS a b = some (some (k, q)) ∧ e = .returned (.bool true) ∧ Kp (· ≠ mb) w w' ∧ Sol w' kb mb (N + 1) b1 b2 b3 (fun x => if x = k then some (shI q) else σ x)) := by
  obtain ⟨p, q, hpq, _⟩ := barS_two a b
  unfold uniS
  rw [hpq] at hr ⊢
  rcases hr with ⟨h1, h2, h3⟩ | ⟨h1, h2, h3, h4, h5⟩ | ⟨h1, h2, h3, h4⟩
  · exact .inr (.inl ⟨if_pos h1, h2, h3⟩)
  · refine .inr (.inr ⟨p.2, q, ?_, h3, h4, h5⟩)
    rw [if_neg h1, if_pos h2]
    simp
  · refine .inl ⟨?_, h3, h4⟩
    rw [if_neg h1, if_neg h2]
end Go.Proofs.YtllbelglilkdpaaDoor
/-
  A list's variable and the sort of one more of its values, brought together.
-/
namespace Go.Proofs.YtllbelglilkdpaaDoor
open Go.RowKit
theorem bd_root {σ : ByteArray → Option Sh} : ∀ {k : Nat} {x y : Sh}, FndN σ k x y → Bd y
  | 0, _, _, ⟨h1, _, h3⟩ => by rw [h3]; exact h1
  | _ + 1, _, _, ⟨_, _, _, _, h4⟩ => bd_root h4
theorem dd_short : ∀ n : Nat, (Lib.decDigits n).length ≤ n + 1 := by
  intro n
  induction n using Nat.strongRecOn with
  | _ n ih =>
    by_cases h : n < 10
    · rw [dd_small h]; simp
    · rw [dd_big h, List.length_append]
      have := ih (n / 10) (by omega)
      simp only [List.length_cons, List.length_nil]
      omega
theorem frB_size (n : Nat) (h : n ≤ 1000000) : (frB n).size ≤ 1000001 := by
  have h1 := dd_short n
  have e : (frB n).size = (Lib.decDigits n).length := by rw [← frB_list, Array.length_toList]; rfl
  omega
theorem bd_fr (n : Nat) (h : n ≤ 1000000) : Bd (0, frB n) := by
  have h1 := frB_size n h
  generalize frB n = y at *
  exact ⟨by show (-70368744175616 : Int) ≤ 0; decide, by show (0 : Int) ≤ 70368744175616; decide, by show y.size ≤ _; omega⟩
theorem bd_le {n m : Nat} {z : ByteArray} (h : Bd (shI (n, z))) (hm : m ≤ n) : Bd (shI (m, z)) := by
  obtain ⟨h1, h2, h3⟩ := h
  have h2' : (n : Int) ≤ 70368744175616 := h2
  exact ⟨by show (-70368744175616 : Int) ≤ m; omega, by show (m : Int) ≤ 70368744175616; omega, h3⟩
theorem inv_bind {σ : ByteArray → Option Sh} {l : Nat} {k : ByteArray} {Q : Sh} (h : Inv σ l) (hk : isFr 0 l k) (hQ : grdL Q.2.data.toList = true ∨ isFr 0 l Q.2) : Inv (fun x => if x = k then some Q else σ x) l := by
  refine ⟨fun x s e => ?_, fun x s e => ?_⟩
  · have e : (if x = k then some Q else σ x) = some s := e
    split at e
    · next hx => rw [hx]; exact hk
    · exact h.keys x s e
  · have e : (if x = k then some Q else σ x) = some s := e
    split at e
    · rw [← Option.some.inj e]; exact hQ
    · exact h.vals x s e
theorem agree_bind {σ : ByteArray → Option Sh} {l l' : Nat} {k : ByteArray} {Q : Sh} (hk : isFr l l' k) : Agree σ (fun x => if x = k then some Q else σ x) l l' := fun z hz => by
  show (if z = k then some Q else σ z) = σ z
  rw [if_neg (fun e : z = k => hz (by rw [e]; exact hk))]
theorem Rt.val {l l' : Nat} {a : Nat × Option ByteArray} {x : Nat × ByteArray} (h : Rt l l' a x) : grdL x.2.data.toList = true ∨ isFr l l' x.2 := by
  obtain ⟨an, ag⟩ := a
  cases ag with
  | none => exact .inr h.2
  | some g => left; rw [h.2.1]; exact h.2.2
theorem Rt.fr {l l' : Nat} {a : Nat × Option ByteArray} {x : Nat × ByteArray} (h : Rt l l' a x) (hg : grdL x.2.data.toList = false) : isFr l l' x.2 ∧ a = (x.1, none) := by
  obtain ⟨an, ag⟩ := a
  cases ag with
  | none => exact ⟨h.2, by rw [h.1]⟩
  | some g =>
    have h1 : x.2 = g := h.2.1
    rw [h1, h.2.2] at hg
    cases hg
theorem Rt.gr {l l' : Nat} {a : Nat × Option ByteArray} {x : Nat × ByteArray} (h : Rt l l' a x) (hg : grdL x.2.data.toList = true) : a = (x.1, some x.2) := by
  obtain ⟨an, ag⟩ := a
  cases ag with
  | none => have := isFr.grd h.2; rw [hg] at this; cases this
  | some g =>
    have h1 : x.2 = g := h.2.1
    rw [h1, h.1]
theorem step_uni {σ : ByteArray → Option Sh} {l0 l lj kA : Nat} {acc b : Nat × Option ByteArray} {A B : Nat × ByteArray} {f : ByteArray} (hi : Inv σ lj) (hA : FndN σ kA (0, f) (shI A)) (hB : FndN σ 0 (shI B) (shI B)) (rA : Rt l0 l acc A) (rB : Rt l lj b B) (h0 : l0 ≤ l) (h1 : l ≤ lj) :
    (uniS A B = none → uniA acc b = none) ∧ (uniS A B = some none → ∃ c, uniA acc b = some c ∧ Rt l0 lj c A) ∧
    (∀ k q, uniS A B = some (some (k, q)) → ∃ c, uniA acc b = some c ∧ isFr l0 lj k ∧ Inv (fun x => if x = k then some (shI q) else σ x) lj ∧ ∃ k' A', FndN (fun x => if x = k then some (shI q) else σ x) k' (0, f) (shI A') ∧ Rt l0 lj c A') := by
  have nA : σ A.2 = none := FndN.none hA
  have nB : σ B.2 = none := FndN.none hB
  have bA := bd_root hA
  have bB := bd_root hB
  have wA := rA.wide (Nat.le_refl l0) h1
  have wB := rB.wide h0 (Nat.le_refl lj)
  obtain ⟨An, Ax⟩ := A
  obtain ⟨Bn, Bx⟩ := B
  have hne : Ax = Bx → grdL Ax.data.toList = true := fun e => by
    rcases rA.val with h | h
    · exact h
    · rcases rB.val with h' | h'
      · rw [e]; exact h'
      · exact absurd e (h.ne h' (Nat.le_refl _))
  refine ⟨fun hu => ?_, fun hu => ?_, fun k q hu => ?_⟩
  · rcases uniS_gen (An, Ax) (Bn, Bx) with ⟨g1, _⟩ | ⟨_, _, _, g1, _⟩ | ⟨_, g1⟩
    · rw [hu] at g1; cases g1
    · rw [hu] at g1; cases g1
    · rcases g1 with ⟨e1, e2⟩ | ⟨e1, e2, e3⟩
      · have e1' : Ax = Bx := e1
        have e2' : An ≠ Bn := e2
        have hg := hne e1'
        rw [rA.gr hg, rB.gr (by show grdL Bx.data.toList = true; rw [← e1']; exact hg)]
        show (if An = Bn ∧ Ax = Bx then some (An, some Ax) else none) = none
        rw [if_neg (fun h => e2' h.1)]
      · have e2' : An ≤ Bn → grdL Ax.data.toList = true := e2
        have e3' : Bn ≤ An → grdL Bx.data.toList = true := e3
        cases ga : grdL Ax.data.toList with
        | true =>
          rw [rA.gr ga]
          cases gb : grdL Bx.data.toList with
          | true =>
            rw [rB.gr gb]
            show (if An = Bn ∧ Ax = Bx then some (An, some Ax) else none) = none
            rw [if_neg (fun h => e1 (Prod.ext h.1 h.2))]
          | false =>
            rw [(rB.fr gb).2]
            show (if Bn ≤ An then some (An, some Ax) else none) = none
            rw [if_neg (fun h => by have := e3' h; rw [gb] at this; cases this)]
        | false =>
          rw [(rA.fr ga).2]
          cases gb : grdL Bx.data.toList with
          | true =>
            rw [rB.gr gb]
            show (if An ≤ Bn then some (Bn, some Bx) else none) = none
            rw [if_neg (fun h => by have := e2' h; rw [ga] at this; cases this)]
          | false =>
            exfalso
            rcases Nat.le_total An Bn with h | h
            · have := e2' h; rw [ga] at this; cases this
            · have := e3' h; rw [gb] at this; cases this
  · rcases uniS_gen (An, Ax) (Bn, Bx) with ⟨_, g1⟩ | ⟨_, _, _, g1, _⟩ | ⟨g1, _⟩
    · obtain ⟨e1, e2⟩ := Prod.mk.inj g1
      have hg := hne e2
      refine ⟨acc, ?_, wA⟩
      rw [rA.gr hg, rB.gr (by show grdL Bx.data.toList = true; rw [← e2]; exact hg)]
      show (if An = Bn ∧ Ax = Bx then some (An, some Ax) else none) = _
      rw [if_pos ⟨e1, e2⟩]
    · rw [hu] at g1; cases g1
    · rw [hu] at g1; cases g1
  · rcases uniS_gen (An, Ax) (Bn, Bx) with ⟨g1, _⟩ | ⟨k', q', m, g1, hkg, hqk, hor⟩ | ⟨g1, _⟩
    · rw [hu] at g1; cases g1
    · rw [hu] at g1
      obtain ⟨rfl, rfl⟩ := Prod.mk.inj (Option.some.inj (Option.some.inj g1))
      obtain ⟨qn, qx⟩ := q
      rcases hor with ⟨c1, c2⟩ | ⟨c1, c2⟩
      · obtain ⟨rfl, rfl⟩ := Prod.mk.inj c1
        obtain ⟨rfl, rfl⟩ := Prod.mk.inj c2
        have hf := rA.fr hkg
        refine ⟨b, ?_, hf.1.mono (Nat.le_refl _) h1, ?_, ?_⟩
        · rw [hf.2]
          cases gb : grdL Bx.data.toList with
          | true =>
            rw [rB.gr gb]
            show (if An ≤ qn + An then some (qn + An, some Bx) else none) = _
            rw [if_pos (by omega)]
          | false =>
            rw [(rB.fr gb).2]
            show some (max An (qn + An), none) = some (qn + An, none)
            rw [show max An (qn + An) = qn + An by omega]
        · exact inv_bind hi (hf.1.mono (Nat.zero_le _) h1) (wB.val.imp id (fun h => h.mono (Nat.zero_le _) (Nat.le_refl _)))
        · refine ⟨kA + 1, (qn + An, Bx), ?_, wB⟩
          have := bind_fnd (Q := shI (qn, Bx)) nA hqk nB (bd_le bB (by omega)) (y := shI (An, Ax)) rfl (by
            have e : ((shI (qn, Bx)).1 + (shI (An, Ax)).1, (shI (qn, Bx)).2) = shI (qn + An, Bx) := by simp
            rw [e]
            exact bB) hA
          have e : ((shI (qn, Bx)).1 + (shI (An, Ax)).1, (shI (qn, Bx)).2) = shI (qn + An, Bx) := by simp
          rw [e] at this
          exact this
      · obtain ⟨rfl, rfl⟩ := Prod.mk.inj c1
        obtain ⟨rfl, rfl⟩ := Prod.mk.inj c2
        have hf := rB.fr hkg
        refine ⟨acc, ?_, hf.1.mono h0 (Nat.le_refl _), ?_, ?_⟩
        · rw [hf.2]
          cases ga : grdL Ax.data.toList with
          | true =>
            rw [rA.gr ga]
            show (if Bn ≤ qn + Bn then some (qn + Bn, some Ax) else none) = _
            rw [if_pos (by omega)]
          | false =>
            rw [(rA.fr ga).2]
            show some (max (qn + Bn) Bn, none) = some (qn + Bn, none)
            rw [show max (qn + Bn) Bn = qn + Bn by omega]
        · exact inv_bind hi (hf.1.mono (Nat.zero_le _) (Nat.le_refl _)) (wA.val.imp id (fun h => h.mono (Nat.zero_le _) (Nat.le_refl _)))
        · exact ⟨kA, (qn + Bn, Ax), bind_off nB hqk hA, wA⟩
    · rw [hu] at g1; cases g1
end Go.Proofs.YtllbelglilkdpaaDoor
