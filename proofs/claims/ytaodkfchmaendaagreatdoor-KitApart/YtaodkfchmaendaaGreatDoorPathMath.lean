/-
  Plain mathematics: the texts of paths and places, and what they are the texts of.
-/
import Derived.Test.YtaodkfchmaendaaGreatDoorNumbers
namespace Go.Proofs.YtaodkfchmaendaaGreatDoor
open Go.RowKit

def pathB (xs : List Int) : Bool := decide (xs.length ≤ 63) && xs.all (fun n => decide (0 ≤ n ∧ n ≤ 1022))
def nats (xs : List Int) : List Nat := xs.map Int.toNat
def ints (p : List Nat) : List Int := p.map (fun (n : Nat) => (n : Int))
theorem ints_len (p : List Nat) : (ints p).length = p.length := by simp [ints]
theorem nats_len (p : List Int) : (nats p).length = p.length := by simp [nats]
theorem numCells_ints (p : List Nat) : numCells p = (ints p).map (Value.int .i64) := by simp [numCells, ints]
theorem nats_ints (p : List Nat) : nats (ints p) = p := by simp [nats, ints, Function.comp_def]
theorem pathB_iff (xs : List Int) : pathB xs = true ↔ xs.length ≤ 63 ∧ ∀ n ∈ xs, 0 ≤ n ∧ n ≤ 1022 := by
  simp [pathB]
theorem ints_nats {xs : List Int} (h : pathB xs = true) : ints (nats xs) = xs := by
  have h2 := ((pathB_iff xs).1 h).2
  unfold ints nats
  rw [List.map_map]
  conv => rhs; rw [← List.map_id xs]
  refine List.map_congr_left (fun n hn => ?_)
  have := h2 n hn
  show ((n.toNat : Nat) : Int) = n
  omega
theorem pathB_ints (p : List Nat) : pathB (ints p) = true ↔ p.length ≤ 63 ∧ ∀ x ∈ p, x ≤ 1022 := by
  rw [pathB_iff, ints_len]
  unfold ints
  constructor
  · rintro ⟨h1, h2⟩
    exact ⟨h1, fun x hx => by have := (h2 x (List.mem_map.2 ⟨x, hx, rfl⟩)).2; omega⟩
  · rintro ⟨h1, h2⟩
    refine ⟨h1, fun n hn => ?_⟩
    obtain ⟨x, hx, rfl⟩ := List.mem_map.1 hn
    have := h2 x hx
    omega
/-- A path's text. -/
def pathText (p : List Nat) : List UInt8 := if p = [] then [45] else joinP p
/-- Of which path a text is. -/
def PathOf (l : List UInt8) (p : List Nat) : Prop := pathB (ints p) = true ∧ pathText p = l
theorem joinP_signs : ∀ (p : List Nat), ∀ c ∈ joinP p, isDg c ∨ c = 46
  | [], c, h => absurd h (by simp [joinP])
  | [x], c, h => .inl (dd_digits x c h)
  | x :: y :: r, c, h => by
    rcases List.mem_append.1 h with h | h
    · exact .inl (dd_digits x c h)
    · rcases List.mem_cons.1 h with h | h
      · exact .inr h
      · exact joinP_signs (y :: r) c h
theorem joinP_not45 {p : List Nat} : joinP p ≠ [45] := fun h => by
  rcases joinP_signs p 45 (by rw [h]; simp) with h | h
  · unfold isDg at h
    have e : (45 : UInt8).toNat = 45 := rfl
    omega
  · exact absurd h (by decide)
theorem pathText_no58 (p : List Nat) : (58 : UInt8) ∉ pathText p := fun h => by
  unfold pathText at h
  split at h
  · exact absurd h (by decide)
  · rcases joinP_signs p _ h with h | h
    · unfold isDg at h
      have e : (58 : UInt8).toNat = 58 := rfl
      omega
    · exact absurd h (by decide)
theorem pathOf_nums {l : List UInt8} {p : List Nat} (h : NumsOf l 63 1022 p) : PathOf l p :=
  ⟨(pathB_ints p).2 ⟨h.2.2.1, h.2.2.2⟩, by unfold pathText; rw [if_neg h.1]; exact h.2.1⟩
theorem pathOf_none : PathOf [45] [] := ⟨rfl, rfl⟩
theorem nums_pathOf {l : List UInt8} {p : List Nat} (h : PathOf l p) (hl : l ≠ [45]) : NumsOf l 63 1022 p := by
  obtain ⟨h1, h2⟩ := h
  have h3 := (pathB_ints p).1 h1
  have hp : p ≠ [] := fun e => hl (by rw [← h2, e]; rfl)
  unfold pathText at h2
  rw [if_neg hp] at h2
  exact ⟨hp, h2, h3.1, h3.2⟩
theorem PathOf.one {l : List UInt8} {p q : List Nat} (hp : PathOf l p) (hq : PathOf l q) : p = q := by
  by_cases hl : l = [45]
  · have key : ∀ p, PathOf l p → p = [] := fun p hp => by
      by_cases e : p = []
      · exact e
      · have := hp.2
        unfold pathText at this
        rw [if_neg e, hl] at this
        exact absurd this joinP_not45
    rw [key p hp, key q hq]
  · exact (nums_pathOf hp hl).one (nums_pathOf hq hl)

/-- A place's text; of which place a text is. -/
def placeText (f : List UInt8) (p : List Nat) : List UInt8 := if f = [] then pathText p else f ++ 58 :: pathText p
def nameB (f : List UInt8) : Bool := speltB nameI 32 f
def placeB (f : List UInt8) (xs : List Int) : Bool := (f.isEmpty || nameB f) && pathB xs
def PlaceOf (l f : List UInt8) (p : List Nat) : Prop := placeB f (ints p) = true ∧ placeText f p = l
theorem nameB_no {c : UInt8} (hc : nameI (c.toNat : Int) = false) {f : List UInt8} (h : nameB f = true) : c ∉ f := fun hm => by
  obtain ⟨k, hk, e⟩ := List.getElem_of_mem hm
  have := speltB_bad (f := nameI) (m := 32) (l := f) hk (by rw [e]; exact hc)
  unfold nameB at h
  rw [this] at h
  cases h
theorem no58_name {f : List UInt8} (h : nameB f = true) : (58 : UInt8) ∉ f := nameB_no (by decide) h
theorem split58 : ∀ {a a' b b' : List UInt8} {c : UInt8}, c ∉ a → c ∉ a' → a ++ c :: b = a' ++ c :: b' → a = a' ∧ b = b'
  | [], [], _, _, _, _, _, h => ⟨rfl, (List.cons.inj h).2⟩
  | [], x :: a', _, _, _, _, h2, h => absurd (List.cons.inj h).1 (fun e => h2 (by simp [e]))
  | x :: a, [], _, _, _, h1, _, h => absurd (List.cons.inj h).1 (fun e => h1 (by simp [← e]))
  | x :: a, y :: a', b, b', c, h1, h2, h => by
    have hc := List.cons.inj h
    have := split58 (fun m => h1 (List.mem_cons_of_mem _ m)) (fun m => h2 (List.mem_cons_of_mem _ m)) hc.2
    exact ⟨by rw [hc.1, this.1], this.2⟩
theorem placeOf_path {l f : List UInt8} {p : List Nat} (h : PlaceOf l f p) (h58 : (58 : UInt8) ∉ l) : f = [] ∧ PathOf l p := by
  obtain ⟨h1, h2⟩ := h
  unfold placeText at h2
  by_cases e : f = []
  · rw [if_pos e] at h2
    unfold placeB at h1
    simp only [Bool.and_eq_true] at h1
    exact ⟨e, h1.2, h2⟩
  · rw [if_neg e] at h2
    exact absurd (by rw [← h2]; simp) h58
theorem path_placeOf {l : List UInt8} {p : List Nat} (h : PathOf l p) : PlaceOf l [] p := ⟨by unfold placeB; rw [h.1]; rfl, by unfold placeText; rw [if_pos rfl]; exact h.2⟩
theorem placeOf_fun {pre post f : List UInt8} {p : List Nat} (h : PlaceOf (pre ++ 58 :: post) f p) (h58 : (58 : UInt8) ∉ pre) : f = pre ∧ nameB pre = true ∧ PathOf post p := by
  obtain ⟨h1, h2⟩ := h
  unfold placeText at h2
  unfold placeB at h1
  simp only [Bool.and_eq_true, Bool.or_eq_true, List.isEmpty_iff] at h1
  by_cases e : f = []
  · rw [if_pos e] at h2
    exact absurd (by rw [h2]; simp) (pathText_no58 p)
  · rw [if_neg e] at h2
    have hn : nameB f = true := h1.1.resolve_left e
    obtain ⟨e1, e2⟩ := split58 (no58_name hn) h58 h2
    exact ⟨e1, e1 ▸ hn, h1.2, e2⟩
theorem fun_placeOf {pre post : List UInt8} {p : List Nat} (hn : nameB pre = true) (h : PathOf post p) : PlaceOf (pre ++ 58 :: post) pre p := by
  have e : pre ≠ [] := fun e => by rw [e] at hn; cases hn
  exact ⟨by unfold placeB; rw [h.1, hn]; simp, by unfold placeText; rw [if_neg e, h.2]⟩
theorem PlaceOf.one {l f g : List UInt8} {p q : List Nat} (h : PlaceOf l f p) (k : PlaceOf l g q) : f = g ∧ p = q := by
  rcases parts_of l 58 with h58 | ⟨pre, post, rfl, h58⟩
  · obtain ⟨e1, h1⟩ := placeOf_path h h58
    obtain ⟨e2, h2⟩ := placeOf_path k h58
    exact ⟨e1.trans e2.symm, h1.one h2⟩
  · obtain ⟨e1, _, h1⟩ := placeOf_fun h h58
    obtain ⟨e2, _, h2⟩ := placeOf_fun k h58
    exact ⟨e1.trans e2.symm, h1.one h2⟩
theorem dd_le (u : Nat) : (Lib.decDigits u).length ≤ u + 1 := by
  induction u using Nat.strongRecOn with
  | _ u ih =>
    by_cases h : u < 10
    · rw [dd_small h]; simp
    · rw [dd_big h]
      have := ih (u / 10) (by omega)
      simp
      omega
theorem joinP_le : ∀ (p : List Nat), (∀ x ∈ p, x ≤ 1022) → (joinP p).length ≤ 1024 * p.length
  | [], _ => by simp [joinP]
  | [x], h => by have := dd_le x; have := h x (by simp); simp [joinP]; omega
  | x :: y :: r, h => by
    have h1 := dd_le x
    have h2 := h x (by simp)
    have h3 := joinP_le (y :: r) (fun z hz => h z (List.mem_cons_of_mem _ hz))
    simp only [joinP, List.length_append, List.length_cons] at h3 ⊢
    omega
theorem pathText_le {p : List Nat} (h : pathB (ints p) = true) : (pathText p).length ≤ 64512 := by
  have h3 := (pathB_ints p).1 h
  unfold pathText
  split
  · decide
  · have := joinP_le p h3.2
    omega
end Go.Proofs.YtaodkfchmaendaaGreatDoor
