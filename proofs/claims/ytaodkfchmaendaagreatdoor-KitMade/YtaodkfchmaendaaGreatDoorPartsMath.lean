/-
  Names put together by blanks, and cut again; the list of texts that two lists are.
-/
import Derived.Test.YtaodkfchmaendaaGreatDoorNames
namespace Go.Proofs.YtaodkfchmaendaaGreatDoor
open Go.RowKit Go.Shelf
theorem joinSp_joinS (xs : List (List UInt8)) (h : xs ≠ []) : joinSp xs = joinS xs ++ [32] := by
  induction xs with
  | nil => exact absurd rfl h
  | cons x xs ih =>
    cases xs with
    | nil => simp [joinSp, joinS]
    | cons y r =>
      show x ++ 32 :: joinSp (y :: r) = (x ++ 32 :: joinS (y :: r)) ++ [32]
      rw [ih (by simp)]; simp
theorem joinS_first (x : List UInt8) : joinS ([] ++ [x]) = x := rfl
theorem joinS_snoc (xs : List (List UInt8)) (x : List UInt8) (h : xs ≠ []) : joinS (xs ++ [x]) = joinS xs ++ 32 :: x := by
  rw [joinS_append _ _ (by simp), joinSp_joinS xs h]
  simp [joinS]
/-- How great a list of texts is. -/
def tot (xs : List (List UInt8)) : Nat := (xs.map (fun x => x.length + 1)).sum
theorem joinS_tot (xs : List (List UInt8)) : (joinS xs).length ≤ tot xs := by
  induction xs with
  | nil => simp [joinS]
  | cons x xs ih =>
    cases xs with
    | nil => simp [joinS, tot]
    | cons y r =>
      show (x ++ 32 :: joinS (y :: r)).length ≤ _
      have e : tot (x :: y :: r) = x.length + 1 + tot (y :: r) := by simp [tot]
      rw [e]; simp only [List.length_append, List.length_cons]; omega
theorem tot_append (xs ys : List (List UInt8)) : tot (xs ++ ys) = tot xs + tot ys := by simp [tot]
theorem tot_take (xs : List (List UInt8)) (i : Nat) : tot (xs.take i) ≤ tot xs := by
  conv => rhs; rw [← List.take_append_drop i xs]
  rw [tot_append]; omega
theorem tot_len (xs : List (List UInt8)) : xs.length ≤ tot xs := by
  induction xs with
  | nil => simp
  | cons x xs ih => simp [tot] at ih ⊢; omega
theorem tot_mem {xs : List (List UInt8)} {x : List UInt8} (h : x ∈ xs) : x.length + 1 ≤ tot xs := by
  induction xs with
  | nil => cases h
  | cons y xs ih =>
    have e : tot (y :: xs) = y.length + 1 + tot xs := by simp [tot]
    rw [e]
    rcases List.mem_cons.1 h with rfl | h
    · omega
    · have := ih h; omega
theorem joinS_inj {p q : List (List UInt8)} (hp : p ≠ []) (hq : q ≠ []) (bp : ∀ x ∈ p, (32 : UInt8) ∉ x) (bq : ∀ x ∈ q, (32 : UInt8) ∉ x) (h : joinS p = joinS q) : p = q := by
  obtain ⟨q1, x, rfl⟩ : ∃ q1 x, q = q1 ++ [x] := ⟨q.dropLast, q.getLast hq, (List.dropLast_concat_getLast hq).symm⟩
  rw [joinS_append _ _ (by simp)] at h
  obtain ⟨p', rfl, hp', hj⟩ := joinS_begins q1 p _ hp (fun y hy => bq y (by simp [hy])) bp h
  obtain ⟨y, r, tail, rfl, hh, ht⟩ := joinS_head p' hp'
  have hx : joinS [x] = x := rfl
  rw [hx] at hj
  rcases ht with ⟨rfl, rfl⟩ | ⟨_, rfl⟩
  · rw [List.append_nil] at hh
    rw [← hj, hh]
  · exact absurd (show (32 : UInt8) ∈ x by rw [← hj, hh]; simp) (bq x (by simp))
theorem joinS_empty {xs : List (List UInt8)} (h : joinS xs ≠ []) : xs ≠ [] := fun e => h (by rw [e]; rfl)
theorem take_snoc {xs : List (List UInt8)} {i : Nat} (h : i < xs.length) : xs.take (i + 1) = xs.take i ++ [xs[i]] := by simp

/-- Kind of two texts with a point between. -/
theorem word_no46 {l : List UInt8} (h : 46 ∈ l) : speltB wordI 16 l = false := by
  obtain ⟨k, hk, e⟩ := List.getElem_of_mem h
  exact speltB_bad hk (by rw [e]; decide)
theorem kind_joined (s u : ByteArray) (w : World) (hb : (s ++ ⟨#[46]⟩ ++ u).size ≤ 140737488355328) :
    Calls Tryz.prog 71 #[.string (s ++ ⟨#[46]⟩ ++ u)] w fun e w' => e = .returned (kindV s.data.toList u.data.toList) ∧ Ext w w' := by
  have hd : (s ++ ⟨#[46]⟩ ++ u).data.toList = s.data.toList ++ 46 :: u.data.toList := by simp [ByteArray.data_append]
  rcases parts_of s.data.toList 46 with h | ⟨pre, post, hs, h⟩
  · exact kind_found _ _ _ w hd h hb
  · have h1 : speltB wordI 16 s.data.toList = false := word_no46 (by rw [hs]; simp)
    have h2 : speltB wordI 16 (post ++ 46 :: u.data.toList) = false := word_no46 (by simp)
    have h3 : kindV s.data.toList u.data.toList = kindV pre (post ++ 46 :: u.data.toList) := by unfold kindV; rw [h1, h2]; simp
    rw [h3]
    exact kind_found _ pre _ w (by rw [hd, hs]; simp) h hb
theorem use_name (s : ByteArray) (w : World) (hb : s.size ≤ 140737488355328) (h : nameB s.data.toList = true) : Calls Tryz.prog 102 #[.string s] w fun e w' => e = .returned (.bool true) ∧ Ext w w' := by
  refine (use_any s w hb).mono ?_
  rintro e w' ⟨h', hx⟩
  rcases h' with ⟨h', _⟩ | ⟨_, h'⟩
  · exact ⟨h', hx⟩
  · exact absurd (.inl h) h'

theorem Vals.cell {w : World} {a : Option Addr} {n c : Nat} {vs : List Value} (h : Vals w (.slice a n c) vs) : n = vs.length ∧ ∀ (j : Nat) (v : Value), vs[j]? = some v → ∃ g off, a = some ⟨g, off, none⟩ ∧ w.cell? ⟨g, off + j, none⟩ = some v := by
  rcases h with ⟨h, rfl⟩ | ⟨g, off, cap, h, hc⟩
  · cases h; exact ⟨rfl, fun j v hj => by simp at hj⟩
  · cases h; exact ⟨rfl, fun j v hj => ⟨g, off, rfl, hc j v hj⟩⟩
theorem strs_at {w : World} {a : Option Addr} {c : Nat} {ss : List (List UInt8)} (h : Vals w (.slice a ss.length c) (strCells' ss)) (j : Nat) (hj : j < ss.length) : ∃ g off, a = some ⟨g, off, none⟩ ∧ w.cell? ⟨g, off + j, none⟩ = some (strV ss[j]) :=
  h.cell.2 j _ (by simp [strCells', hj])
end Go.Proofs.YtaodkfchmaendaaGreatDoor
