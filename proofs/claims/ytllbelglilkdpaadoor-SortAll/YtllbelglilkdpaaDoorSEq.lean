/-
  The statement's own Eq at a sort and itself, by a contract.
-/
import Derived.Test.YtllbelglilkdpaaDoorSLaw
import Derived.LoopN
import Derived.Deep.RegionHeld3
namespace Go.Proofs.YtllbelglilkdpaaDoor
open Go.RowKit
def EqC (n : Nat) : Prop := ∀ (K K' : Nat → Prop) (d d' : Nat) (v v' : Value) (x : ByteArray) (w : World), SRd K w d v (chain n x) → SRd K' w d' v' (chain n x) → Calls Tryd.prog 23 #[v, v'] w fun e w' => e = .returned (.bool true) ∧ Ext w w'
set_option maxRecDepth 100000 in
set_option maxHeartbeats 1000000 in
theorem eq_zero : EqC 0 := by
  intro K K' d d' v v' x w h h'
  obtain ⟨a, c, rfl⟩ := h.shape
  obtain ⟨a', c', rfl⟩ := h'.shape
  simp only [chain, S.name, S.kids, List.length_nil]
  clear h h'
  have hn : (x.toList != x.toList) = false := by simp
  go_enter Tryd.func23, Tryd.ntmps23
  go_wp2_with fail
  refine wp_loop_once ?_
  go_wp2_with fail
  go_ret
  exact ⟨rfl, Ext.alloc2 _ _ _⟩
set_option maxRecDepth 100000 in
set_option maxHeartbeats 2000000 in
theorem eq_succ (n : Nat) (ih : EqC n) : EqC (n + 1) := by
  intro K K' d d' v v' x w h h'
  obtain ⟨a, c, rfl⟩ := h.shape
  obtain ⟨a', c', rfl⟩ := h'.shape
  simp only [chain, S.name, S.kids, List.length_cons, List.length_nil, Nat.zero_add] at h h' ⊢
  obtain ⟨g, off, a1, c1, d1, rfl, hg, ht, hr⟩ := h.kid
  obtain ⟨g', off', a2, c2, d2, rfl, hg', ht', hr'⟩ := h'.kid
  obtain ⟨nm, hnm⟩ : ∃ nm, (chain n x).name = nm := ⟨_, rfl⟩
  obtain ⟨kl, hkl⟩ : ∃ kl, (chain n x).kids.length = kl := ⟨_, rfl⟩
  rw [hnm, hkl] at ht ht' hr hr'
  have HR := hid hr
  have HR' := hid hr'
  have HT := hid ht
  have HT' := hid ht'
  have HG := hid hg
  have HG' := hid hg'
  have HIH := hid ih
  clear h h' hr hr' ht ht' hg hg' hnm hkl ih
  obtain ⟨M, hM⟩ : ∃ M, (w.alloc (.cells #[.string wList, .slice (some ⟨g, off, none⟩) 1 c] 27)).alloc (.cells #[.string wList, .slice (some ⟨g', off', none⟩) 1 c'] 27) = M := ⟨_, rfl⟩
  have XM := hid (show Ext w M from hM ▸ Ext.alloc2 _ _ _)
  have HM0 := hid (show M.heap[w.heap.size]? = some (.cells #[.string wList, .slice (some ⟨g, off, none⟩) 1 c] 27) from hM ▸ blkOld _ (blk0 _ _))
  have HM1 := hid (show M.heap[w.heap.size + 1]? = some (.cells #[.string wList, .slice (some ⟨g', off', none⟩) 1 c'] 27) from hM ▸ blk1 _ _ _)
  have HC := hid (show ∀ W', Ext M W' → (W'.cell? ⟨w.heap.size, 1, none⟩ = some (.slice (some ⟨g, off, none⟩) 1 c) ∧ W'.cell? ⟨w.heap.size + 1, 1, none⟩ = some (.slice (some ⟨g', off', none⟩) 1 c') ∧ W'.cell? ⟨g, off, none⟩ = some (.string nm) ∧ W'.cell? ⟨g, off + 1, none⟩ = some (.slice a1 kl c1) ∧ W'.cell? ⟨g', off', none⟩ = some (.string nm) ∧ W'.cell? ⟨g', off' + 1, none⟩ = some (.slice a2 kl c2)) from fun W' X => by
    obtain ⟨x1, x2⟩ := HT.out.keep ((XM.out.trans X).kp _) HG.out
    obtain ⟨y1, y2⟩ := HT'.out.keep ((XM.out.trans X).kp _) HG'.out
    exact ⟨cell_of (X.block HM0.out) rfl, cell_of (X.block HM1.out) rfl, x1, x2, y1, y2⟩)
  obtain ⟨m0, m1⟩ := two_of HM0.out
  obtain ⟨m2, m3⟩ := two_of HM1.out
  have hn : (wList.toList != wList.toList) = false := by simp
  obtain ⟨_, _, s2, s3, s4, s5⟩ := HC.out M (Ext.refl _)
  go_enter Tryd.func23, Tryd.ntmps23
  go_wp2_with fail
  refine wp_loop_rounds 2 ?_
  rw [rounds_succ]
  go_wp2_with fail
  clear hM
  go_region_held3 (fun W' => W'.cell? ⟨w.heap.size, 1, none⟩ = some (.slice (some ⟨g, off, none⟩) 1 c) ∧ W'.cell? ⟨w.heap.size + 1, 1, none⟩ = some (.slice (some ⟨g', off', none⟩) 1 c') ∧ W'.cell? ⟨g, off, none⟩ = some (.string nm) ∧ W'.cell? ⟨g, off + 1, none⟩ = some (.slice a1 kl c1) ∧ W'.cell? ⟨g', off', none⟩ = some (.string nm) ∧ W'.cell? ⟨g', off' + 1, none⟩ = some (.slice a2 kl c2)) (first
    | exact HC.out _ ((Ext.refl M).drew)
    | exact HC.out _ Z1) (first
    | (go_at_call 23; refine (HIH.out _ _ _ _ _ _ x _ (HR.out.later (XM.out.trans (Ext.refl M).drew)) (HR'.out.later (XM.out.trans (Ext.refl M).drew))).mono ?_; rintro e w1 ⟨rfl, hx1⟩; have Z1 : Ext M w1 := (Ext.refl M).drew.trans hx1; clear hx1))
  all_goals
    obtain ⟨u0, u1, _⟩ := HC.out w1 Z1
    go_wp2_with fail
    rw [rounds_succ]
    go_wp2_with fail
    go_ret
    exact ⟨rfl, XM.out.trans Z1⟩
theorem eqS_any : ∀ n, EqC n
  | 0 => eq_zero
  | n + 1 => eq_succ n (eqS_any n)
end Go.Proofs.YtllbelglilkdpaaDoor
