/-
  Whole of the statements' Paths, by a contract: each path holds its own marks alone.
-/
import Derived.Test.YthdmoghooaccgaaWholeA
namespace Go.Proofs.Ythdmoghooaccgaa
open Go.RowKit
/-- The length that a cell tells. -/
def lenC : Option Value → Nat | some (.slice _ n _) => n | _ => 0
theorem GBook.cells {w : World} {b base lb lc : Nat} {nv : Value} {rs : List PR} {sz : Int} {n : Nat → Nat} (h : GBook w b base lb lc nv rs sz n) {i : Nat} (hi : i < rs.length) : w.cell? ⟨lb, i, none⟩ = some (.slice (some ⟨rs[i].1, 0, none⟩) (n i) rs[i].2.2) := by
  obtain ⟨L, hL, hc⟩ := h.rowL
  exact (hL.cellAt i (by omega)).trans (hc i hi)
theorem GBook.lens {w : World} {b base lb lc nb nc : Nat} {rs : List PR} {sz : Int} {n : Nat → Nat} (h : GBook w b base lb lc (.slice (some ⟨nb, 0, none⟩) rs.length nc) rs sz n) {i : Nat} (hi : i < rs.length) : w.cell? ⟨nb, i, none⟩ = some (.int .i64 (rs[i].2.1 : Int)) := by
  rw [h.rowN.cellAt i (by omega)]
  simp [hi]
theorem GBook.later {w w' : World} {b base lb lc : Nat} {nv : Value} {rs : List PR} {sz : Int} {n : Nat → Nat} (h : GBook w b base lb lc nv rs sz n) (hx : Ext w w') : GBook w' b base lb lc nv rs sz n := by
  obtain ⟨L, hL, hc⟩ := h.rowL
  exact ⟨hx.block h.box, ⟨L, ownsRow_keep hL (hx.kp (fun _ => True)) (fun _ _ => trivial), hc⟩, ownsRow_keep h.rowN (hx.kp (fun _ => True)) (fun _ _ => trivial), fun i hi => (h.grown i hi).keep (hx.kp (fun _ => True)) trivial, h.nodup, h.apart, h.apartL, h.ne⟩
theorem nodup_at {rs : List PR} (h : (rs.map (·.1)).Nodup) {i j : Nat} (hi : i < rs.length) (hj : j < rs.length) (e : rs[i].1 = rs[j].1) : i = j := by
  have hp := List.pairwise_iff_getElem.1 h
  rcases Nat.lt_trichotomy i j with hl | hl | hl
  · have := hp i j (by simpa using hi) (by simpa using hj) hl
    simp only [List.getElem_map] at this
    exact absurd e this
  · exact hl
  · have := hp j i (by simpa using hj) (by simpa using hi) hl
    simp only [List.getElem_map] at this
    exact absurd e.symm this
/-- A path grown by one. -/
theorem GBook.step {w : World} {b base lb lc : Nat} {nv : Value} {rs : List PR} {sz : Int} {n : Nat → Nat} (h : GBook w b base lb lc nv rs sz n) {j : Nat} (hj : j < rs.length) (hr : n j + 1 ≤ rs[j].2.2) (w1 : World) (hx : Ext w w1) :
    GBook ((w1.setCell ⟨rs[j].1, n j, none⟩ (.int .i64 (-2 * (j : Int) - 3))).setCell ⟨lb, j, none⟩ (.slice (some ⟨rs[j].1, 0, none⟩) (n j + 1) rs[j].2.2)) b base lb lc nv rs sz (fun i => if i = j then n j + 1 else n i) := by
  have hmj : rs[j] ∈ rs := List.getElem_mem hj
  have k1 := Kp.set (K := (· ≠ rs[j].1)) w1 rs[j].1 (n j) (.int .i64 (-2 * (j : Int) - 3)) (fun h => h rfl)
  have k2 := Kp.set (K := (· ≠ lb)) (w1.setCell ⟨rs[j].1, n j, none⟩ (.int .i64 (-2 * (j : Int) - 3))) lb j (.slice (some ⟨rs[j].1, 0, none⟩) (n j + 1) rs[j].2.2) (fun h => h rfl)
  have kk : Kp (fun q => q ≠ rs[j].1 ∧ q ≠ lb) w ((w1.setCell ⟨rs[j].1, n j, none⟩ (.int .i64 (-2 * (j : Int) - 3))).setCell ⟨lb, j, none⟩ (.slice (some ⟨rs[j].1, 0, none⟩) (n j + 1) rs[j].2.2)) := ((hx.kp _).trans (k1.mono (fun q _ h => h.1))).trans (k2.mono (fun q _ h => h.2))
  obtain ⟨L, hL, hc⟩ := h.rowL
  refine ⟨kk.block' h.box ⟨fun e => h.ne.2.2.2 _ hmj e.symm, fun e => h.ne.1 e.symm⟩, ⟨L.set j (.slice (some ⟨rs[j].1, 0, none⟩) (n j + 1) rs[j].2.2), ?_, fun i hi => ?_⟩, ownsRow_keep h.rowN kk (fun q hq => ⟨fun e => h.apart _ hmj (by rw [← e]; exact hq), fun e => h.ne.2.1 (by rw [← e]; exact hq)⟩), fun i hi => ?_, h.nodup, h.apart, h.apartL, h.ne⟩
  · exact row_setAt (ownsRow_keep hL ((hx.kp (· ≠ rs[j].1)).trans k1) (fun q hq => by cases hq; exact h.apartL _ hmj)) _
  · by_cases e : i = j
    · subst e
      have hl : L.length = rs.length := by have := hL.1; omega
      rw [List.getElem?_set_self (by omega), if_pos rfl]
    · rw [List.getElem?_set_ne (fun e2 => e e2.symm), if_neg e]; exact hc i hi
  · by_cases e : i = j
    · subst e
      rw [if_pos rfl]
      obtain ⟨h1, h3, h4, h5, cur, h6, h7, h8, h9, h10⟩ := h.grown i hi
      refine ⟨h1, by omega, hr, h5, cur.setIfInBounds (n i) (.int .i64 (-2 * (i : Int) - 3)), k2.block' (set_at (hx.block h6) (n i) _) (fun e => h.apartL _ hmj e.symm), by simpa using h7, fun k hk => ?_, fun k hk => ?_, fun k hk hk' => ?_⟩
      · by_cases e : n i = k
        · subst e; exact ⟨_, by rw [Array.getElem?_setIfInBounds_self_of_lt (by omega)]⟩
        · rw [Array.getElem?_setIfInBounds_ne e]; exact h8 k hk
      · rw [Array.getElem?_setIfInBounds_ne (by omega)]; exact h9 k hk
      · by_cases e : n i = k
        · subst e; rw [Array.getElem?_setIfInBounds_self_of_lt (by omega)]
        · rw [Array.getElem?_setIfInBounds_ne e]; exact h10 k hk (by omega)
    · rw [if_neg e]
      have hmi : rs[i] ∈ rs := List.getElem_mem hi
      refine (h.grown i hi).keep kk ⟨fun e2 => e ?_, fun e2 => h.apartL _ hmi e2.symm⟩
      exact nodup_at h.nodup hi hj e2
end Go.Proofs.Ythdmoghooaccgaa
