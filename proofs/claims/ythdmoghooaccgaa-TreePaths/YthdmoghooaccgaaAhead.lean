/-
  ahead, by a contract.
-/
import Derived.Test.YthdmoghooaccgaaPathsMath
import Derived.Test.YthdmoghooaccgaaRef
namespace Go.Proofs.Ythdmoghooaccgaa
open Go.RowKit
theorem aheadB_split : ∀ (j : Nat) (xs ys : List Int), (∀ i, i < j → xs[i]? = ys[i]?) → j ≤ xs.length → j ≤ ys.length → aheadB xs ys = aheadB (xs.drop j) (ys.drop j)
  | 0, _, _, _, _, _ => by simp
  | j + 1, [], _, _, h, _ => by simp at h
  | j + 1, _ :: _, [], _, _, h => by simp at h
  | j + 1, x :: xs, y :: ys, hh, h1, h2 => by
    have h0 := hh 0 (Nat.succ_pos _)
    simp only [List.getElem?_cons_zero, Option.some.injEq] at h0
    simp only [aheadB, List.drop_succ_cons]
    rw [if_pos h0]
    exact aheadB_split j xs ys (fun i hi => by have := hh (i + 1) (by omega); simpa using this) (by simpa using h1) (by simpa using h2)
theorem aheadB_at (xs ys : List Int) (j : Nat) (hx : j < xs.length) (hy : j < ys.length) (hh : ∀ i, i < j → xs[i]? = ys[i]?) (hne : xs[j] ≠ ys[j]) : aheadB xs ys = decide (xs[j] < ys[j]) := by
  rw [aheadB_split j xs ys hh (by omega) (by omega), List.drop_eq_getElem_cons hx, List.drop_eq_getElem_cons hy]
  simp only [aheadB]
  rw [if_neg hne]
theorem aheadB_end (xs ys : List Int) (j : Nat) (hj : j ≤ xs.length) (hj' : j ≤ ys.length) (he : j = xs.length ∨ j = ys.length) (hh : ∀ i, i < j → xs[i]? = ys[i]?) : aheadB xs ys = decide (xs.length < ys.length) := by
  rw [aheadB_split j xs ys hh hj hj']
  cases hx : xs.drop j with
  | nil =>
    have h1 : xs.length - j = 0 := by rw [← List.length_drop, hx]; rfl
    cases hy : ys.drop j with
    | nil =>
      have h2 : ys.length - j = 0 := by rw [← List.length_drop, hy]; rfl
      simp only [aheadB]
      exact (decide_eq_false (by omega)).symm
    | cons y r =>
      have h2 : ys.length - j = r.length + 1 := by rw [← List.length_drop, hy]; rfl
      simp only [aheadB]
      exact (decide_eq_true (by omega)).symm
  | cons x r =>
    have h1 : xs.length - j = r.length + 1 := by rw [← List.length_drop, hx]; rfl
    cases hy : ys.drop j with
    | nil =>
      have h2 : ys.length - j = 0 := by rw [← List.length_drop, hy]; rfl
      simp only [aheadB]
      exact (decide_eq_false (by omega)).symm
    | cons y r' =>
      have h2 : ys.length - j = r'.length + 1 := by rw [← List.length_drop, hy]; rfl
      omega
set_option maxRecDepth 100000 in
set_option maxHeartbeats 2000000 in
theorem ahead_any (a a' : Option Addr) (c c' : Nat) (xs ys : List Int) (w : World) (hb : xs.length * 8 ≤ 140737488355328) (hb' : ys.length * 8 ≤ 140737488355328) (h : Ints w (.slice a xs.length c) xs) (h' : Ints w (.slice a' ys.length c') ys) :
    Calls Try.prog 18 #[.slice a xs.length c, .slice a' ys.length c'] w fun e w' => e = .returned (.bool (aheadB xs ys)) ∧ Ext w w' := by
  have HA := hid h
  have HB := hid h'
  have hl : (xs.length : Int) ≤ 140737488355328 := by omega
  have hl' : (ys.length : Int) ≤ 140737488355328 := by omega
  clear h h'
  go_enter Try.func18, Try.ntmps18
  go_wp2_with fail
  go_loopw [5] (fun i wr => ∃ j : Nat, j ≤ xs.length ∧ j ≤ ys.length ∧ i = .int .i64 j ∧ Ext w wr ∧ (∀ i, i < j → xs[i]? = ys[i]?)) (fun i _ => xs.length - (intOf i).toNat)
  case atStart => exact ⟨0, Nat.zero_le _, Nat.zero_le _, rfl, Ext.refl _, fun i h => absurd h (Nat.not_lt_zero _)⟩
  case round =>
    obtain ⟨j, hj, hj', rfl, hx, hall⟩ := hrel
    have HX := hid hx
    have HALL := hid hall
    clear hx hall
    by_cases hlt : j < xs.length
    · have hlt' : (j : Int) < xs.length := by omega
      have d1 : decide ((j : Int) < xs.length) = true := decide_eq_true hlt'
      by_cases hlt2 : j < ys.length
      · have hlt3 : (j : Int) < ys.length := by omega
        have d2 : decide ((j : Int) < ys.length) = true := decide_eq_true hlt3
        obtain ⟨g, off, rfl, hc⟩ := (HA.out.later HX.out).cell.2 j hlt
        obtain ⟨g', off', rfl, hc'⟩ := (HB.out.later HX.out).cell.2 j hlt2
        generalize hv : xs[j] = v at hc
        generalize hv' : ys[j] = v' at hc'
        have HV := hid (And.intro hv hv')
        clear hv hv'
        by_cases hq : v = v'
        · have hq' : (v != v') = false := by rw [hq]; simp
          have HQ := hid hq
          clear hq
          go_wp2_with fail
          go_quiet (fail)
          go_wp2_with fail
          go_roundw
          case rel =>
            have REL : ∀ W, Ext w W → ∃ j' : Nat, j' ≤ xs.length ∧ j' ≤ ys.length ∧ Value.int .i64 ((j : Int) + 1) = .int .i64 j' ∧ Ext w W ∧ (∀ i, i < j' → xs[i]? = ys[i]?) := fun W hW =>
              ⟨j + 1, hlt, hlt2, by go_num, hW, fun i hi => by
                rcases Nat.lt_or_eq_of_le (Nat.le_of_lt_succ hi) with e | rfl
                · exact HALL.out i e
                · rw [List.getElem?_eq_getElem hlt, List.getElem?_eq_getElem hlt2, HV.out.1, HV.out.2, HQ.out]⟩
            first | exact REL _ (HX.out.drewN _) | ((repeat apply Exists.intro); exact ⟨REL _ (HX.out.drewN _), rfl⟩)
          case measure => simp [intOf]; omega
        · have hq' : (v != v') = true := by simpa using hq
          have HN := hid (show aheadB xs ys = decide (v < v') by rw [aheadB_at xs ys j hlt hlt2 HALL.out (by rw [HV.out.1, HV.out.2]; exact hq), HV.out.1, HV.out.2])
          clear hq
          go_wp2_with fail
          go_quiet (fail)
          go_wp2_with fail
          go_quiet (fail)
          go_wp2_with fail
          go_ret
          exact ⟨ret_bool HN.out.symm, by repeat (first | exact HX.out | refine Ext.drewN ?_ _)⟩
      · have d2 : decide ((j : Int) < ys.length) = false := decide_eq_false (by omega)
        have HN := hid (aheadB_end xs ys j hj hj' (.inr (by omega)) HALL.out)
        go_wp2_with fail
        go_ret
        exact ⟨ret_bool HN.out.symm, HX.out⟩
    · have d1 : decide ((j : Int) < xs.length) = false := decide_eq_false (by omega)
      have HN := hid (aheadB_end xs ys j hj hj' (.inl (by omega)) HALL.out)
      go_wp2_with fail
      go_ret
      exact ⟨ret_bool HN.out.symm, HX.out⟩
end Go.Proofs.Ythdmoghooaccgaa
