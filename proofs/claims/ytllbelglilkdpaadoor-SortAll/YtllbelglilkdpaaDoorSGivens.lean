/-
  The statement's own givens at two lists that read the same, by a contract.
-/
import Derived.Test.YtllbelglilkdpaaDoorSApply
namespace Go.Proofs.YtllbelglilkdpaaDoor
open Go.RowKit
set_option maxRecDepth 100000 in
set_option maxHeartbeats 2000000 in
theorem givens_same {K K' : Nat → Prop} {d d' : Nat} {v v' : Value} {L : List (ByteArray × S)} (w : World) (hch : ∀ g ∈ L, ∃ n x, g.2 = chain n x) (h : GsRd K w d v L) (h' : GsRd K' w d' v' L) : Calls Tryd.prog 15 #[v, v'] w fun e w' => e = .returned (.bool true) ∧ Ext w w' := by
  obtain ⟨a, c, rfl, hlen, hgs⟩ := h
  obtain ⟨a', c', rfl, _, hgs'⟩ := h'
  have HGS := hid hgs
  have HGS' := hid hgs'
  have HCH := hid hch
  have hlen' : (L.length : Int) ≤ 140737488351232 := by omega
  clear hgs hgs' hch hlen
  obtain ⟨ll, hll⟩ : ∃ ll, L.length = ll := ⟨_, rfl⟩
  rw [hll] at hlen' ⊢
  have HLL := hid hll
  clear hll
  have hq : ((ll : Int) != (ll : Int)) = false := by simp
  go_enter Tryd.func15, Tryd.ntmps15
  go_wp2_with fail
  go_loopw [5] (fun i wr => ∃ j : Nat, j ≤ ll ∧ i = .int .i64 j ∧ Ext w wr) (fun i _ => ll - (intOf i).toNat)
  case atStart => exact ⟨0, Nat.zero_le _, rfl, Ext.refl _⟩
  case round =>
    obtain ⟨j, hj, rfl, hxr⟩ := hrel
    have XR := hid hxr
    clear hxr
    by_cases hlt : j < ll
    · have hlt' : (j : Int) < ll := by omega
      have hjl : j < L.length := by have := HLL.out; omega
      rcases HGS.out with h0 | ⟨g, off, rfl, hg, hc⟩
      · rw [h0] at hjl; exact absurd hjl (Nat.not_lt_zero _)
      rcases HGS'.out with h0 | ⟨g', off', rfl, hg', hc'⟩
      · rw [h0] at hjl; exact absurd hjl (Nat.not_lt_zero _)
      obtain ⟨a2, c2, p0, _, p1, p2, hr2⟩ := (hc j hjl).open'
      obtain ⟨a3, c3, q0, _, q1, q2, hr3⟩ := (hc' j hjl).open'
      obtain ⟨n, x, hnx⟩ := HCH.out L[j] (List.getElem_mem hjl)
      rw [hnx] at p1 p2 hr2 q1 q2 hr3
      generalize L[j].1 = yj at *
      have HR2 := hid hr2
      have HR3 := hid hr3
      obtain ⟨nm, hnm⟩ : ∃ nm, (chain n x).name = nm := ⟨_, rfl⟩
      obtain ⟨kl, hkl⟩ : ∃ kl, (chain n x).kids.length = kl := ⟨_, rfl⟩
      rw [hnm, hkl] at HR2 HR3
      rw [hnm] at p1 q1
      rw [hkl] at p2 q2
      have HC := hid (show ∀ W', Ext w W' → (Ext w W' ∧ W'.cell? ⟨g, off + j * 3, none⟩ = some (.string yj) ∧ W'.cell? ⟨g, off + j * 3 + 1, none⟩ = some (.string nm) ∧ W'.cell? ⟨g, off + j * 3 + 2, none⟩ = some (.slice a2 kl c2) ∧ W'.cell? ⟨g', off' + j * 3, none⟩ = some (.string yj) ∧ W'.cell? ⟨g', off' + j * 3 + 1, none⟩ = some (.string nm) ∧ W'.cell? ⟨g', off' + j * 3 + 2, none⟩ = some (.slice a3 kl c3)) from fun W' X => ⟨X, (X.kp (fun _ => True)).cell p0 trivial, (X.kp (fun _ => True)).cell p1 trivial, (X.kp (fun _ => True)).cell p2 trivial, (X.kp (fun _ => True)).cell q0 trivial, (X.kp (fun _ => True)).cell q1 trivial, (X.kp (fun _ => True)).cell q2 trivial⟩)
      clear hc hc' hg hg' hr2 hr3 hnx hnm hkl p0 p1 p2 q0 q1 q2 hjl
      have hyy : (yj.toList != yj.toList) = false := by simp
      obtain ⟨_, s0, s1, s2, s3, s4, s5⟩ := HC.out _ XR.out
      go_wp2_with fail
      go_region_held3 (fun W' => Ext w W' ∧ W'.cell? ⟨g, off + j * 3, none⟩ = some (.string yj) ∧ W'.cell? ⟨g, off + j * 3 + 1, none⟩ = some (.string nm) ∧ W'.cell? ⟨g, off + j * 3 + 2, none⟩ = some (.slice a2 kl c2) ∧ W'.cell? ⟨g', off' + j * 3, none⟩ = some (.string yj) ∧ W'.cell? ⟨g', off' + j * 3 + 1, none⟩ = some (.string nm) ∧ W'.cell? ⟨g', off' + j * 3 + 2, none⟩ = some (.slice a3 kl c3)) (first
        | exact HC.out _ (XR.out.drew)
        | exact HC.out _ Z1) (first
        | (go_at_call 23; have ZS := (‹Ext w _ ∧ _›).1; refine (eqS_any n _ _ _ _ _ _ x _ (HR2.out.later ZS) (HR3.out.later ZS)).mono ?_; rintro e w1 ⟨rfl, hx1⟩; have Z1 : Ext w w1 := ZS.trans hx1; clear hx1))
      all_goals
        go_wp2_with fail
        go_roundw
        case rel => exact ⟨j + 1, by omega, by go_num, Z1⟩
        case measure => simp [intOf]; omega
    · have hlt' : ¬ (j : Int) < ll := by omega
      go_wp2_with fail
      go_ret
      exact ⟨rfl, XR.out⟩
end Go.Proofs.YtllbelglilkdpaaDoor
