/-
  A list's variable and the sort of one more of its values, brought together.
-/
import Derived.Test.YtllbelglilkdpaaDoorSSrt
namespace Go.Proofs.YtllbelglilkdpaaDoor
open Go.RowKit
theorem bd_root {σ : ByteArray → Option Sh} : ∀ {k : Nat} {x y : Sh}, FndN σ k x y → Bd y
  | 0, _, _, ⟨h1, _, h3⟩ => by rw [h3]; exact h1
  | _ + 1, _, _, ⟨_, _, _, _, h4⟩ => bd_root h4
theorem dd_short : ∀ n : Nat, (Lib.decDigits n).length ≤ n + 1 := by
  intro n
  induction n using Nat.strongRecOn with
  | _ n ih =>
    by_cases h : n < 10
    · rw [dd_small h]; simp
    · rw [dd_big h, List.length_append]
      have := ih (n / 10) (by omega)
      simp only [List.length_cons, List.length_nil]
      omega
theorem frB_size (n : Nat) (h : n ≤ 1000000) : (frB n).size ≤ 1000001 := by
  have h1 := dd_short n
  have e : (frB n).size = (Lib.decDigits n).length := by rw [← frB_list, Array.length_toList]; rfl
  omega
theorem bd_fr (n : Nat) (h : n ≤ 1000000) : Bd (0, frB n) := by
  have h1 := frB_size n h
  generalize frB n = y at *
  exact ⟨by show (-70368744175616 : Int) ≤ 0; decide, by show (0 : Int) ≤ 70368744175616; decide, by show y.size ≤ _; omega⟩
theorem bd_le {n m : Nat} {z : ByteArray} (h : Bd (shI (n, z))) (hm : m ≤ n) : Bd (shI (m, z)) := by
  obtain ⟨h1, h2, h3⟩ := h
  have h2' : (n : Int) ≤ 70368744175616 := h2
  exact ⟨by show (-70368744175616 : Int) ≤ m; omega, by show (m : Int) ≤ 70368744175616; omega, h3⟩
theorem inv_bind {σ : ByteArray → Option Sh} {l : Nat} {k : ByteArray} {Q : Sh} (h : Inv σ l) (hk : isFr 0 l k) (hQ : grdL Q.2.data.toList = true ∨ isFr 0 l Q.2) : Inv (fun x => if x = k then some Q else σ x) l := by
  refine ⟨fun x s e => ?_, fun x s e => ?_⟩
  · have e : (if x = k then some Q else σ x) = some s := e
    split at e
    · next hx => rw [hx]; exact hk
    · exact h.keys x s e
  · have e : (if x = k then some Q else σ x) = some s := e
    split at e
    · rw [← Option.some.inj e]; exact hQ
    · exact h.vals x s e
theorem agree_bind {σ : ByteArray → Option Sh} {l l' : Nat} {k : ByteArray} {Q : Sh} (hk : isFr l l' k) : Agree σ (fun x => if x = k then some Q else σ x) l l' := fun z hz => by
  show (if z = k then some Q else σ z) = σ z
  rw [if_neg (fun e : z = k => hz (by rw [e]; exact hk))]
theorem Rt.val {l l' : Nat} {a : Nat × Option ByteArray} {x : Nat × ByteArray} (h : Rt l l' a x) : grdL x.2.data.toList = true ∨ isFr l l' x.2 := by
  obtain ⟨an, ag⟩ := a
  cases ag with
  | none => exact .inr h.2
  | some g => left; rw [h.2.1]; exact h.2.2
theorem Rt.fr {l l' : Nat} {a : Nat × Option ByteArray} {x : Nat × ByteArray} (h : Rt l l' a x) (hg : grdL x.2.data.toList = false) : isFr l l' x.2 ∧ a = (x.1, none) := by
  obtain ⟨an, ag⟩ := a
  cases ag with
  | none => exact ⟨h.2, by rw [h.1]⟩
  | some g =>
    have h1 : x.2 = g := h.2.1
    rw [h1, h.2.2] at hg
    cases hg
theorem Rt.gr {l l' : Nat} {a : Nat × Option ByteArray} {x : Nat × ByteArray} (h : Rt l l' a x) (hg : grdL x.2.data.toList = true) : a = (x.1, some x.2) := by
  obtain ⟨an, ag⟩ := a
  cases ag with
  | none => have := isFr.grd h.2; rw [hg] at this; cases this
  | some g =>
    have h1 : x.2 = g := h.2.1
    rw [h1, h.1]
theorem step_uni {σ : ByteArray → Option Sh} {l0 l lj kA : Nat} {acc b : Nat × Option ByteArray} {A B : Nat × ByteArray} {f : ByteArray} (hi : Inv σ lj) (hA : FndN σ kA (0, f) (shI A)) (hB : FndN σ 0 (shI B) (shI B)) (rA : Rt l0 l acc A) (rB : Rt l lj b B) (h0 : l0 ≤ l) (h1 : l ≤ lj) :
    (uniS A B = none → uniA acc b = none) ∧ (uniS A B = some none → ∃ c, uniA acc b = some c ∧ Rt l0 lj c A) ∧
    (∀ k q, uniS A B = some (some (k, q)) → ∃ c, uniA acc b = some c ∧ isFr l0 lj k ∧ Inv (fun x => if x = k then some (shI q) else σ x) lj ∧ ∃ k' A', FndN (fun x => if x = k then some (shI q) else σ x) k' (0, f) (shI A') ∧ Rt l0 lj c A') := by
  have nA : σ A.2 = none := FndN.none hA
  have nB : σ B.2 = none := FndN.none hB
  have bA := bd_root hA
  have bB := bd_root hB
  have wA := rA.wide (Nat.le_refl l0) h1
  have wB := rB.wide h0 (Nat.le_refl lj)
  obtain ⟨An, Ax⟩ := A
  obtain ⟨Bn, Bx⟩ := B
  have hne : Ax = Bx → grdL Ax.data.toList = true := fun e => by
    rcases rA.val with h | h
    · exact h
    · rcases rB.val with h' | h'
      · rw [e]; exact h'
      · exact absurd e (h.ne h' (Nat.le_refl _))
  refine ⟨fun hu => ?_, fun hu => ?_, fun k q hu => ?_⟩
  · rcases uniS_gen (An, Ax) (Bn, Bx) with ⟨g1, _⟩ | ⟨_, _, _, g1, _⟩ | ⟨_, g1⟩
    · rw [hu] at g1; cases g1
    · rw [hu] at g1; cases g1
    · rcases g1 with ⟨e1, e2⟩ | ⟨e1, e2, e3⟩
      · have e1' : Ax = Bx := e1
        have e2' : An ≠ Bn := e2
        have hg := hne e1'
        rw [rA.gr hg, rB.gr (by show grdL Bx.data.toList = true; rw [← e1']; exact hg)]
        show (if An = Bn ∧ Ax = Bx then some (An, some Ax) else none) = none
        rw [if_neg (fun h => e2' h.1)]
      · have e2' : An ≤ Bn → grdL Ax.data.toList = true := e2
        have e3' : Bn ≤ An → grdL Bx.data.toList = true := e3
        cases ga : grdL Ax.data.toList with
        | true =>
          rw [rA.gr ga]
          cases gb : grdL Bx.data.toList with
          | true =>
            rw [rB.gr gb]
            show (if An = Bn ∧ Ax = Bx then some (An, some Ax) else none) = none
            rw [if_neg (fun h => e1 (Prod.ext h.1 h.2))]
          | false =>
            rw [(rB.fr gb).2]
            show (if Bn ≤ An then some (An, some Ax) else none) = none
            rw [if_neg (fun h => by have := e3' h; rw [gb] at this; cases this)]
        | false =>
          rw [(rA.fr ga).2]
          cases gb : grdL Bx.data.toList with
          | true =>
            rw [rB.gr gb]
            show (if An ≤ Bn then some (Bn, some Bx) else none) = none
            rw [if_neg (fun h => by have := e2' h; rw [ga] at this; cases this)]
          | false =>
            exfalso
            rcases Nat.le_total An Bn with h | h
            · have := e2' h; rw [ga] at this; cases this
            · have := e3' h; rw [gb] at this; cases this
  · rcases uniS_gen (An, Ax) (Bn, Bx) with ⟨_, g1⟩ | ⟨_, _, _, g1, _⟩ | ⟨g1, _⟩
    · obtain ⟨e1, e2⟩ := Prod.mk.inj g1
      have hg := hne e2
      refine ⟨acc, ?_, wA⟩
      rw [rA.gr hg, rB.gr (by show grdL Bx.data.toList = true; rw [← e2]; exact hg)]
      show (if An = Bn ∧ Ax = Bx then some (An, some Ax) else none) = _
      rw [if_pos ⟨e1, e2⟩]
    · rw [hu] at g1; cases g1
    · rw [hu] at g1; cases g1
  · rcases uniS_gen (An, Ax) (Bn, Bx) with ⟨g1, _⟩ | ⟨k', q', m, g1, hkg, hqk, hor⟩ | ⟨g1, _⟩
    · rw [hu] at g1; cases g1
    · rw [hu] at g1
      obtain ⟨rfl, rfl⟩ := Prod.mk.inj (Option.some.inj (Option.some.inj g1))
      obtain ⟨qn, qx⟩ := q
      rcases hor with ⟨c1, c2⟩ | ⟨c1, c2⟩
      · obtain ⟨rfl, rfl⟩ := Prod.mk.inj c1
        obtain ⟨rfl, rfl⟩ := Prod.mk.inj c2
        have hf := rA.fr hkg
        refine ⟨b, ?_, hf.1.mono (Nat.le_refl _) h1, ?_, ?_⟩
        · rw [hf.2]
          cases gb : grdL Bx.data.toList with
          | true =>
            rw [rB.gr gb]
            show (if An ≤ qn + An then some (qn + An, some Bx) else none) = _
            rw [if_pos (by omega)]
          | false =>
            rw [(rB.fr gb).2]
            show some (max An (qn + An), none) = some (qn + An, none)
            rw [show max An (qn + An) = qn + An by omega]
        · exact inv_bind hi (hf.1.mono (Nat.zero_le _) h1) (wB.val.imp id (fun h => h.mono (Nat.zero_le _) (Nat.le_refl _)))
        · refine ⟨kA + 1, (qn + An, Bx), ?_, wB⟩
          have := bind_fnd (Q := shI (qn, Bx)) nA hqk nB (bd_le bB (by omega)) (y := shI (An, Ax)) rfl (by
            have e : ((shI (qn, Bx)).1 + (shI (An, Ax)).1, (shI (qn, Bx)).2) = shI (qn + An, Bx) := by simp
            rw [e]
            exact bB) hA
          have e : ((shI (qn, Bx)).1 + (shI (An, Ax)).1, (shI (qn, Bx)).2) = shI (qn + An, Bx) := by simp
          rw [e] at this
          exact this
      · obtain ⟨rfl, rfl⟩ := Prod.mk.inj c1
        obtain ⟨rfl, rfl⟩ := Prod.mk.inj c2
        have hf := rB.fr hkg
        refine ⟨acc, ?_, hf.1.mono h0 (Nat.le_refl _), ?_, ?_⟩
        · rw [hf.2]
          cases ga : grdL Ax.data.toList with
          | true =>
            rw [rA.gr ga]
            show (if Bn ≤ qn + Bn then some (qn + Bn, some Ax) else none) = _
            rw [if_pos (by omega)]
          | false =>
            rw [(rA.fr ga).2]
            show some (max (qn + Bn) Bn, none) = some (qn + Bn, none)
            rw [show max (qn + Bn) Bn = qn + Bn by omega]
        · exact inv_bind hi (hf.1.mono (Nat.zero_le _) (Nat.le_refl _)) (wA.val.imp id (fun h => h.mono (Nat.zero_le _) (Nat.le_refl _)))
        · exact ⟨kA, (qn + Bn, Ax), bind_off nB hqk hA, wA⟩
    · rw [hu] at g1; cases g1
end Go.Proofs.YtllbelglilkdpaaDoor
