/-
  Paths of a tree: where they lead, which is ahead; what Put puts.
-/
import Derived.Test.YthdmoghooaccgaaPutAny
namespace Go.Proofs.Ythdmoghooaccgaa
open Go.RowKit
/-- Which path is ahead. -/
def aheadB : List Int → List Int → Bool
  | [], [] => false
  | [], _ :: _ => true
  | _ :: _, [] => false
  | x :: a, y :: b => if x = y then aheadB a b else decide (x < y)
theorem aheadB_ext (q : List Int) (x : Int) (r : List Int) : aheadB q (q ++ x :: r) = true := by
  induction q with
  | nil => rfl
  | cons y q ih => simp [aheadB, ih]
theorem aheadB_fork (q : List Int) (x y : Int) (r s : List Int) (h : x < y) : aheadB (q ++ x :: r) (q ++ y :: s) = true := by
  induction q with
  | nil => simp only [List.nil_append, aheadB]; rw [if_neg (by omega)]; exact decide_eq_true h
  | cons z q ih => simp [aheadB, ih]
namespace T
mutual
theorem all_at : ∀ (t : T) (q : List Int) (y : List Int × T), y ∈ all q t → ∃ p, y.1 = q ++ p ∧ at? t p = some y.2
  | node k n x ks, q, y, h => by
    simp only [all, List.mem_cons] at h
    rcases h with rfl | h
    · exact ⟨[], by simp, rfl⟩
    · obtain ⟨j, hj, p, e, ha⟩ := allL_at ks q 0 y h
      exact ⟨(j : Int) :: p, by rw [e]; simp, by simp only [at?]; rw [if_pos (by omega), Int.toNat_natCast, List.getElem?_eq_getElem hj]; exact ha⟩
theorem allL_at : ∀ (l : List T) (q : List Int) (i : Nat) (y : List Int × T), y ∈ allL q i l → ∃ j, ∃ hj : j < l.length, ∃ p, y.1 = q ++ ((i + j : Nat) : Int) :: p ∧ at? l[j] p = some y.2
  | [], _, _, _, h => by simp [allL] at h
  | t :: r, q, i, y, h => by
    simp only [allL, List.mem_append] at h
    rcases h with h | h
    · obtain ⟨p, e, ha⟩ := all_at t (q ++ [(i : Int)]) y h
      exact ⟨0, by simp, p, by rw [e]; simp, ha⟩
    · obtain ⟨j, hj, p, e, ha⟩ := allL_at r q (i + 1) y h
      exact ⟨j + 1, by simpa using hj, p, by rw [e, show i + (j + 1) = i + 1 + j by omega], by simpa using ha⟩
end
mutual
theorem all_ahead : ∀ (t : T) (q : List Int), (all q t).Pairwise (fun a b => aheadB a.1 b.1 = true)
  | node k n x ks, q => by
    simp only [all, List.pairwise_cons]
    refine ⟨fun y hy => ?_, allL_ahead ks q 0⟩
    obtain ⟨j, hj, p, e, _⟩ := allL_at ks q 0 y hy
    rw [e]
    exact aheadB_ext _ _ _
theorem allL_ahead : ∀ (l : List T) (q : List Int) (i : Nat), (allL q i l).Pairwise (fun a b => aheadB a.1 b.1 = true)
  | [], _, _ => by simp [allL]
  | t :: r, q, i => by
    simp only [allL, List.pairwise_append]
    refine ⟨all_ahead t _, allL_ahead r q (i + 1), fun a ha b hb => ?_⟩
    obtain ⟨p, e, _⟩ := all_at t _ a ha
    obtain ⟨j, hj, p', e', _⟩ := allL_at r q (i + 1) b hb
    rw [e, e', List.append_assoc]
    exact aheadB_fork _ _ _ _ _ (by omega)
end
theorem at_small {t u : T} {p : List Int} (hs : t.small) (h : at? t p = some u) : u.small := by
  induction p generalizing t with
  | nil => simp only [at?] at h; cases h; exact hs
  | cons i r ih =>
    obtain ⟨k, n, x, ks⟩ := t
    obtain ⟨m, hm, rfl, h'⟩ := at_cons h
    exact ih (small_kid hs (List.getElem_mem hm)) h'
theorem at_deep {t u : T} {p : List Int} (h : at? t p = some u) : p.length + u.height ≤ t.height := by
  induction p generalizing t with
  | nil => simp only [at?] at h; cases h; simp
  | cons i r ih =>
    obtain ⟨k, n, x, ks⟩ := t
    obtain ⟨m, hm, rfl, h'⟩ := at_cons h
    have h1 := ih h'
    have h2 := heightL_mem (List.getElem_mem hm)
    simp only [height, List.length_cons]
    omega
theorem at_put {t y : T} {p : List Int} (u : T) (h : at? t p = some y) : at? (put t p u) p = some u := by
  induction p generalizing t with
  | nil => rfl
  | cons i r ih =>
    obtain ⟨k, n, x, ks⟩ := t
    obtain ⟨m, hm, rfl, h'⟩ := at_cons h
    rw [put_cons u hm]
    simp only [at?, Int.toNat_natCast, List.length_set]
    rw [if_pos (by omega), List.getElem?_set_self hm]
    exact ih h'
theorem put_back {t y : T} {p : List Int} (u : T) (h : at? t p = some y) : put (put t p u) p y = t := by
  induction p generalizing t with
  | nil => simp only [at?] at h; cases h; rfl
  | cons i r ih =>
    obtain ⟨k, n, x, ks⟩ := t
    obtain ⟨m, hm, rfl, h'⟩ := at_cons h
    rw [put_cons u hm, put_cons y (by simpa using hm)]
    simp only [List.getElem_set_self, List.set_set, ih h', List.set_getElem_self]
mutual
theorem beq_refl : ∀ t : T, beq t t = true
  | node k n x ks => by simp [beq, beqL_refl ks]
theorem beqL_refl : ∀ l : List T, beqL l l = true
  | [] => rfl
  | a :: r => by simp [beqL, beq_refl a, beqL_refl r]
end
end T
theorem path_at {t u : T} {p : List Int} {i : Nat} (h : (T.all [] t)[i]? = some (p, u)) : T.at? t p = some u := by
  obtain ⟨p', e, ha⟩ := T.all_at t [] (p, u) (List.mem_of_getElem? h)
  have e' : p = p' := by simpa using e
  rw [e']
  exact ha
theorem path_ahead {t : T} {i : Nat} {a b : List Int × T} (ha : (T.all [] t)[i]? = some a) (hb : (T.all [] t)[i + 1]? = some b) : aheadB a.1 b.1 = true := by
  obtain ⟨h1, rfl⟩ := List.getElem?_eq_some_iff.1 ha
  obtain ⟨h2, rfl⟩ := List.getElem?_eq_some_iff.1 hb
  exact List.pairwise_iff_getElem.1 (T.all_ahead t []) i (i + 1) h1 h2 (Nat.lt_succ_self _)
theorem path_len {t : T} (hs : t.small) {i : Nat} {y : List Int × T} (h : (T.all [] t)[i]? = some y) : y.1.length ≤ 64 := by
  have := T.at_deep (path_at (p := y.1) (u := y.2) h)
  have := hs.2.1
  omega
end Go.Proofs.Ythdmoghooaccgaa
