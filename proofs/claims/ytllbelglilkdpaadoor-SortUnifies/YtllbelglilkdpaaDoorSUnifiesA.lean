/-
  The walk of espalierlaw5.SortUnifies: it returns true.
-/
import Derived.Test.YtllbelglilkdpaaDoorSUnifiesH
namespace Go.Proofs.YtllbelglilkdpaaDoor
open Go.RowKit
set_option maxRecDepth 100000 in
set_option maxHeartbeats 4000000 in
theorem unifies_bad1 {K K' K3 : Nat → Prop} {d d' d3 : Nat} {v v' vg : Value} {t u : S} {l : List (ByteArray × S)} (w : World) (h : SRd K w d v t) (h' : SRd K' w d' v' u) (hg : GsRd K3 w d3 vg l) (ht : shp t = none) : Calls Tryd.prog 5 #[v, v', vg] w fun e w' => e = .returned (.bool true) ∧ Ext w w' := by
  obtain ⟨a, c, rfl⟩ := h.shape
  obtain ⟨a', c', rfl⟩ := h'.shape
  obtain ⟨ga, gc, rfl, hjunk⟩ := id hg
  clear hjunk
  have U12 := hid (fun w1 (hx : Ext w w1) => unify_any w1 (h.later hx) (h'.later hx))
  have U21 := hid (fun w1 (hx : Ext w w1) => unify_any w1 (h'.later hx) (h.later hx))
  rw [uniT_sym u t] at U21
  have MY1 := hid (fun w1 (hx : Ext w w1) => mayS_any w1 (h.later hx))
  have MY2 := hid (fun w1 (hx : Ext w w1) => mayS_any w1 (h'.later hx))
  have A1 := hid (fun w1 (hx : Ext w w1) => apply_any w1 (h.later hx) (hg.later hx))
  have A2 := hid (fun w1 (hx : Ext w w1) => apply_any w1 (h'.later hx) (hg.later hx))
  have AL1 := hid (fun w1 (hx : Ext w w1) v1 d1 L (hL : GsRd (fun _ => True) w1 d1 v1 L) => apply_any w1 (h.later hx) hL)
  have AL2 := hid (fun w1 (hx : Ext w w1) v1 d1 L (hL : GsRd (fun _ => True) w1 d1 v1 L) => apply_any w1 (h'.later hx) hL)
  have AG := hid (fun w1 (hx : Ext w w1) v1 d1 K1 s (hs : SRd K1 w1 d1 v1 s) => apply_any w1 hs (hg.later hx))
  clear h h' hg
  generalize t.name = nt at *
  generalize t.kids.length = kt at *
  generalize u.name = nu at *
  generalize u.kids.length = ku at *
  generalize l.length = gl at *
  obtain ⟨o, ho⟩ : ∃ o, uniT t u = o := ⟨_, rfl⟩
  rw [ho] at U12 U21
  have HO := hid ho
  clear ho
  obtain ⟨M, hM⟩ : ∃ M, (w.alloc (.cells #[.string nt, .slice a kt c] 27)).alloc (.cells #[.string nu, .slice a' ku c'] 27) = M := ⟨_, rfl⟩
  have XM := hid (show Ext w M from hM ▸ Ext.alloc2 _ _ _)
  have HC := hid (show ∀ W', Ext M W' → Two W' w.heap.size 0 (.string nt) (.slice a kt c) ∧ Two W' (w.heap.size + 1) 0 (.string nu) (.slice a' ku c') from fun W' X => ⟨two_of (X.block (show M.heap[w.heap.size]? = some (.cells #[.string nt, .slice a kt c] 27) from hM ▸ blkOld _ (blk0 _ _))), two_of (X.block (show M.heap[w.heap.size + 1]? = some (.cells #[.string nu, .slice a' ku c'] 27) from hM ▸ blk1 _ _ _))⟩)
  go_enter Tryd.func5, Tryd.ntmps5
  go_wp2_with fail
  clear hM
  go_at_call 7
  refine (begun_any _).mono ?_
  rintro e w1 ⟨rfl, hx1⟩
  have X1 := hid hx1
  clear hx1
  obtain ⟨⟨m0, m1⟩, m2, m3⟩ := HC.out w1 X1.out
  go_wp2_with fail
  go_at_call 14
  refine (U12.out w1 (XM.out.trans X1.out)).mono ?_
  rintro e w2 ⟨l1, d1, rfl, hl1, hx2⟩
  have L1 := hid hl1
  obtain ⟨la, lc, rfl, hjunk⟩ := hl1
  clear hjunk
  have X2 := hid (X1.out.trans hx2)
  clear hx2 m0 m1 m2 m3
  obtain ⟨⟨m0, m1⟩, m2, m3⟩ := HC.out w2 X2.out
  obtain ⟨ln, hln⟩ : ∃ ln, (uniL o).length = ln := ⟨_, rfl⟩
  obtain ⟨E, hE⟩ : ∃ E, uniN o = E := ⟨_, rfl⟩
  rw [hln] at L1 ⊢
  rw [hE]
  have HLN := hid hln
  have HE := hid hE
  clear hln hE
  go_wp2_with fail
  go_at_call 14
  refine (U21.out w2 (XM.out.trans X2.out)).mono ?_
  rintro e w3 ⟨l2, d2, rfl, hl2, hx3⟩
  have L2 := hid hl2
  obtain ⟨lb, lc', rfl, hjunk⟩ := hl2
  clear hjunk
  rw [HLN.out] at L2 ⊢
  rw [HE.out]
  have X3 := hid (X2.out.trans hx3)
  have L1' := hid (L1.out.later hx3)
  clear hx3 m0 m1 m2 m3 L1
  obtain ⟨⟨m0, m1⟩, m2, m3⟩ := HC.out w3 X3.out
  go_wp2_with fail
  go_at_call 10
  refine (MY1.out w3 (XM.out.trans X3.out)).mono ?_
  rintro e w4 ⟨rfl, hx4⟩
  have X4 := hid (X3.out.trans hx4)
  have L1 := hid (L1'.out.later hx4)
  have L2' := hid (L2.out.later hx4)
  clear hx4 m0 m1 m2 m3 L1' L2
  obtain ⟨⟨m0, m1⟩, m2, m3⟩ := HC.out w4 X4.out
  have hon : o = none := by rw [← HO.out]; unfold uniT; rw [ht]
  subst hon
  have e1 : E = 14 := HE.out.symm
  have e2 : ln = 0 := HLN.out.symm
  subst e1 e2
  rw [mayS_none ht]
  clear ht
  go_wp2_with fail
  go_ret
  exact ⟨rfl, XM.out.trans X4.out⟩
set_option maxRecDepth 100000 in
set_option maxHeartbeats 4000000 in
theorem unifies_bad2 {K K' K3 : Nat → Prop} {d d' d3 : Nat} {v v' vg : Value} {t u : S} {l : List (ByteArray × S)} (w : World) (h : SRd K w d v t) (h' : SRd K' w d' v' u) (hg : GsRd K3 w d3 vg l) {a0 : Nat × ByteArray} (ht : shp t = some a0) (hu : shp u = none) : Calls Tryd.prog 5 #[v, v', vg] w fun e w' => e = .returned (.bool true) ∧ Ext w w' := by
  obtain ⟨a, c, rfl⟩ := h.shape
  obtain ⟨a', c', rfl⟩ := h'.shape
  obtain ⟨ga, gc, rfl, hjunk⟩ := id hg
  clear hjunk
  have U12 := hid (fun w1 (hx : Ext w w1) => unify_any w1 (h.later hx) (h'.later hx))
  have U21 := hid (fun w1 (hx : Ext w w1) => unify_any w1 (h'.later hx) (h.later hx))
  rw [uniT_sym u t] at U21
  have MY1 := hid (fun w1 (hx : Ext w w1) => mayS_any w1 (h.later hx))
  have MY2 := hid (fun w1 (hx : Ext w w1) => mayS_any w1 (h'.later hx))
  have A1 := hid (fun w1 (hx : Ext w w1) => apply_any w1 (h.later hx) (hg.later hx))
  have A2 := hid (fun w1 (hx : Ext w w1) => apply_any w1 (h'.later hx) (hg.later hx))
  have AL1 := hid (fun w1 (hx : Ext w w1) v1 d1 L (hL : GsRd (fun _ => True) w1 d1 v1 L) => apply_any w1 (h.later hx) hL)
  have AL2 := hid (fun w1 (hx : Ext w w1) v1 d1 L (hL : GsRd (fun _ => True) w1 d1 v1 L) => apply_any w1 (h'.later hx) hL)
  have AG := hid (fun w1 (hx : Ext w w1) v1 d1 K1 s (hs : SRd K1 w1 d1 v1 s) => apply_any w1 hs (hg.later hx))
  clear h h' hg
  generalize t.name = nt at *
  generalize t.kids.length = kt at *
  generalize u.name = nu at *
  generalize u.kids.length = ku at *
  generalize l.length = gl at *
  obtain ⟨o, ho⟩ : ∃ o, uniT t u = o := ⟨_, rfl⟩
  rw [ho] at U12 U21
  have HO := hid ho
  clear ho
  obtain ⟨M, hM⟩ : ∃ M, (w.alloc (.cells #[.string nt, .slice a kt c] 27)).alloc (.cells #[.string nu, .slice a' ku c'] 27) = M := ⟨_, rfl⟩
  have XM := hid (show Ext w M from hM ▸ Ext.alloc2 _ _ _)
  have HC := hid (show ∀ W', Ext M W' → Two W' w.heap.size 0 (.string nt) (.slice a kt c) ∧ Two W' (w.heap.size + 1) 0 (.string nu) (.slice a' ku c') from fun W' X => ⟨two_of (X.block (show M.heap[w.heap.size]? = some (.cells #[.string nt, .slice a kt c] 27) from hM ▸ blkOld _ (blk0 _ _))), two_of (X.block (show M.heap[w.heap.size + 1]? = some (.cells #[.string nu, .slice a' ku c'] 27) from hM ▸ blk1 _ _ _))⟩)
  go_enter Tryd.func5, Tryd.ntmps5
  go_wp2_with fail
  clear hM
  go_at_call 7
  refine (begun_any _).mono ?_
  rintro e w1 ⟨rfl, hx1⟩
  have X1 := hid hx1
  clear hx1
  obtain ⟨⟨m0, m1⟩, m2, m3⟩ := HC.out w1 X1.out
  go_wp2_with fail
  go_at_call 14
  refine (U12.out w1 (XM.out.trans X1.out)).mono ?_
  rintro e w2 ⟨l1, d1, rfl, hl1, hx2⟩
  have L1 := hid hl1
  obtain ⟨la, lc, rfl, hjunk⟩ := hl1
  clear hjunk
  have X2 := hid (X1.out.trans hx2)
  clear hx2 m0 m1 m2 m3
  obtain ⟨⟨m0, m1⟩, m2, m3⟩ := HC.out w2 X2.out
  obtain ⟨ln, hln⟩ : ∃ ln, (uniL o).length = ln := ⟨_, rfl⟩
  obtain ⟨E, hE⟩ : ∃ E, uniN o = E := ⟨_, rfl⟩
  rw [hln] at L1 ⊢
  rw [hE]
  have HLN := hid hln
  have HE := hid hE
  clear hln hE
  go_wp2_with fail
  go_at_call 14
  refine (U21.out w2 (XM.out.trans X2.out)).mono ?_
  rintro e w3 ⟨l2, d2, rfl, hl2, hx3⟩
  have L2 := hid hl2
  obtain ⟨lb, lc', rfl, hjunk⟩ := hl2
  clear hjunk
  rw [HLN.out] at L2 ⊢
  rw [HE.out]
  have X3 := hid (X2.out.trans hx3)
  have L1' := hid (L1.out.later hx3)
  clear hx3 m0 m1 m2 m3 L1
  obtain ⟨⟨m0, m1⟩, m2, m3⟩ := HC.out w3 X3.out
  go_wp2_with fail
  go_at_call 10
  refine (MY1.out w3 (XM.out.trans X3.out)).mono ?_
  rintro e w4 ⟨rfl, hx4⟩
  have X4 := hid (X3.out.trans hx4)
  have L1 := hid (L1'.out.later hx4)
  have L2' := hid (L2.out.later hx4)
  clear hx4 m0 m1 m2 m3 L1' L2
  obtain ⟨⟨m0, m1⟩, m2, m3⟩ := HC.out w4 X4.out
  have hon : o = none := by rw [← HO.out]; unfold uniT; rw [ht, hu]
  subst hon
  have e1 : E = 14 := HE.out.symm
  have e2 : ln = 0 := HLN.out.symm
  subst e1 e2
  rw [mayS_some ht]
  clear ht
  go_wp2_with fail
  go_at_call 10
  refine (MY2.out w4 (XM.out.trans X4.out)).mono ?_
  rintro e w5 ⟨rfl, hx5⟩
  have X5 := hid (X4.out.trans hx5)
  have L1' := hid (L1.out.later hx5)
  have L2 := hid (L2'.out.later hx5)
  clear hx5 m0 m1 m2 m3 L1 L2'
  obtain ⟨⟨m0, m1⟩, m2, m3⟩ := HC.out w5 X5.out
  rw [mayS_none hu]
  clear hu
  go_wp2_with fail
  go_ret
  exact ⟨rfl, XM.out.trans X5.out⟩
end Go.Proofs.YtllbelglilkdpaaDoor
