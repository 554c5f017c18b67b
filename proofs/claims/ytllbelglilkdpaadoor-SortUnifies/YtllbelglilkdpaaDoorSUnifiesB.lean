/-
  The walk of espalierlaw5.SortUnifies: it returns true.
-/
import Derived.Test.YtllbelglilkdpaaDoorSUnifiesH
namespace Go.Proofs.YtllbelglilkdpaaDoor
open Go.RowKit
set_option maxRecDepth 100000 in
set_option maxHeartbeats 4000000 in
theorem unifies_none {K K' K3 : Nat → Prop} {d d' d3 : Nat} {v v' vg : Value} {t u : S} {l : List (ByteArray × S)} (w : World) (h : SRd K w d v t) (h' : SRd K' w d' v' u) (hg : GsRd K3 w d3 vg l) {a0 b0 : Nat × ByteArray} (ht : shp t = some a0) (hu : shp u = some b0) (hno : uniT t u = none) : Calls Tryd.prog 5 #[v, v', vg] w fun e w' => e = .returned (.bool true) ∧ Ext w w' := by
  obtain ⟨a, c, rfl⟩ := h.shape
  obtain ⟨a', c', rfl⟩ := h'.shape
  obtain ⟨ga, gc, rfl, hjunk⟩ := id hg
  clear hjunk
  have U12 := hid (fun w1 (hx : Ext w w1) => unify_any w1 (h.later hx) (h'.later hx))
  have U21 := hid (fun w1 (hx : Ext w w1) => unify_any w1 (h'.later hx) (h.later hx))
  rw [uniT_sym u t] at U21
  have MY1 := hid (fun w1 (hx : Ext w w1) => mayS_any w1 (h.later hx))
  have MY2 := hid (fun w1 (hx : Ext w w1) => mayS_any w1 (h'.later hx))
  have A1 := hid (fun w1 (hx : Ext w w1) => apply_any w1 (h.later hx) (hg.later hx))
  have A2 := hid (fun w1 (hx : Ext w w1) => apply_any w1 (h'.later hx) (hg.later hx))
  have AL1 := hid (fun w1 (hx : Ext w w1) v1 d1 L (hL : GsRd (fun _ => True) w1 d1 v1 L) => apply_any w1 (h.later hx) hL)
  have AL2 := hid (fun w1 (hx : Ext w w1) v1 d1 L (hL : GsRd (fun _ => True) w1 d1 v1 L) => apply_any w1 (h'.later hx) hL)
  have AG := hid (fun w1 (hx : Ext w w1) v1 d1 K1 s (hs : SRd K1 w1 d1 v1 s) => apply_any w1 hs (hg.later hx))
  clear h h' hg
  generalize t.name = nt at *
  generalize t.kids.length = kt at *
  generalize u.name = nu at *
  generalize u.kids.length = ku at *
  generalize l.length = gl at *
  obtain ⟨o, ho⟩ : ∃ o, uniT t u = o := ⟨_, rfl⟩
  rw [ho] at U12 U21
  have HO := hid ho
  clear ho
  obtain ⟨M, hM⟩ : ∃ M, (w.alloc (.cells #[.string nt, .slice a kt c] 27)).alloc (.cells #[.string nu, .slice a' ku c'] 27) = M := ⟨_, rfl⟩
  have XM := hid (show Ext w M from hM ▸ Ext.alloc2 _ _ _)
  have HC := hid (show ∀ W', Ext M W' → Two W' w.heap.size 0 (.string nt) (.slice a kt c) ∧ Two W' (w.heap.size + 1) 0 (.string nu) (.slice a' ku c') from fun W' X => ⟨two_of (X.block (show M.heap[w.heap.size]? = some (.cells #[.string nt, .slice a kt c] 27) from hM ▸ blkOld _ (blk0 _ _))), two_of (X.block (show M.heap[w.heap.size + 1]? = some (.cells #[.string nu, .slice a' ku c'] 27) from hM ▸ blk1 _ _ _))⟩)
  go_enter Tryd.func5, Tryd.ntmps5
  go_wp2_with fail
  clear hM
  go_at_call 7
  refine (begun_any _).mono ?_
  rintro e w1 ⟨rfl, hx1⟩
  have X1 := hid hx1
  clear hx1
  obtain ⟨⟨m0, m1⟩, m2, m3⟩ := HC.out w1 X1.out
  go_wp2_with fail
  go_at_call 14
  refine (U12.out w1 (XM.out.trans X1.out)).mono ?_
  rintro e w2 ⟨l1, d1, rfl, hl1, hx2⟩
  have L1 := hid hl1
  obtain ⟨la, lc, rfl, hjunk⟩ := hl1
  clear hjunk
  have X2 := hid (X1.out.trans hx2)
  clear hx2 m0 m1 m2 m3
  obtain ⟨⟨m0, m1⟩, m2, m3⟩ := HC.out w2 X2.out
  obtain ⟨ln, hln⟩ : ∃ ln, (uniL o).length = ln := ⟨_, rfl⟩
  obtain ⟨E, hE⟩ : ∃ E, uniN o = E := ⟨_, rfl⟩
  rw [hln] at L1 ⊢
  rw [hE]
  have HLN := hid hln
  have HE := hid hE
  clear hln hE
  go_wp2_with fail
  go_at_call 14
  refine (U21.out w2 (XM.out.trans X2.out)).mono ?_
  rintro e w3 ⟨l2, d2, rfl, hl2, hx3⟩
  have L2 := hid hl2
  obtain ⟨lb, lc', rfl, hjunk⟩ := hl2
  clear hjunk
  rw [HLN.out] at L2 ⊢
  rw [HE.out]
  have X3 := hid (X2.out.trans hx3)
  have L1' := hid (L1.out.later hx3)
  clear hx3 m0 m1 m2 m3 L1
  obtain ⟨⟨m0, m1⟩, m2, m3⟩ := HC.out w3 X3.out
  go_wp2_with fail
  go_at_call 10
  refine (MY1.out w3 (XM.out.trans X3.out)).mono ?_
  rintro e w4 ⟨rfl, hx4⟩
  have X4 := hid (X3.out.trans hx4)
  have L1 := hid (L1'.out.later hx4)
  have L2' := hid (L2.out.later hx4)
  clear hx4 m0 m1 m2 m3 L1' L2
  obtain ⟨⟨m0, m1⟩, m2, m3⟩ := HC.out w4 X4.out
  have hon : o = none := by rw [← HO.out]; exact hno
  subst hon
  have e1 : E = 14 := HE.out.symm
  have e2 : ln = 0 := HLN.out.symm
  subst e1 e2
  clear hno
  have HT := hid ht
  have HU := hid hu
  rw [mayS_some ht]
  clear ht hu
  go_wp2_with fail
  go_at_call 10
  refine (MY2.out w4 (XM.out.trans X4.out)).mono ?_
  rintro e w5 ⟨rfl, hx5⟩
  have X5 := hid (X4.out.trans hx5)
  have L1' := hid (L1.out.later hx5)
  have L2 := hid (L2'.out.later hx5)
  clear hx5 m0 m1 m2 m3 L1 L2'
  obtain ⟨⟨m0, m1⟩, m2, m3⟩ := HC.out w5 X5.out
  rw [mayS_some HU.out]
  go_wp2_with fail
  go_at_call 15
  refine (givens_same w5 (uniL_chain _) L1'.out L2.out).mono ?_
  rintro e w6 ⟨rfl, hx6⟩
  have X6 := hid (X5.out.trans hx6)
  have L1 := hid (L1'.out.later hx6)
  clear hx6 m0 m1 m2 m3 L1' L2
  obtain ⟨⟨m0, m1⟩, m2, m3⟩ := HC.out w6 X6.out
  go_wp2_with fail
  go_at_call 16
  refine (A1.out w6 (XM.out.trans X6.out)).mono ?_
  rintro e u1 ⟨r1, k1, rfl, hr1, hx⟩
  obtain ⟨ra, rc, rfl⟩ := hr1.shape
  generalize S.name (apS t l).2 = rn at *
  generalize (S.kids (apS t l).2).length = rk at *
  obtain ⟨V1, hV1⟩ : ∃ V, u1.alloc (.cells #[.string rn, .slice ra rk rc] 27) = V := ⟨_, rfl⟩
  have Y1 := hid (show Ext M V1 from hV1 ▸ X6.out.trans (hx.trans (Ext.alloc _ _)))
  have HB1 := hid (show V1.heap[u1.heap.size]? = some (.cells #[.string rn, .slice ra rk rc] 27) from hV1 ▸ blk0 _ _)
  have R1 := hid (hr1.later (hV1 ▸ Ext.alloc _ _ : Ext u1 V1))
  have hs1 := hx.size
  have LL1 := hid (L1.out.later (hV1 ▸ hx.trans (Ext.alloc _ _) : Ext w6 V1))
  clear hx hr1 m0 m1 m2 m3
  obtain ⟨⟨m0, m1⟩, m2, m3⟩ := HC.out V1 Y1.out
  obtain ⟨E1, hE1⟩ : ∃ E1, (apS t l).1 = E1 := ⟨_, rfl⟩
  rw [hE1]
  have HE1 := hid hE1
  clear hE1
  go_wp2_with fail
  clear hV1
  go_at_call 16
  refine (A2.out V1 (XM.out.trans Y1.out)).mono ?_
  rintro e u2 ⟨r2, k2, rfl, hr2, hx⟩
  obtain ⟨sa, sc, rfl⟩ := hr2.shape
  generalize S.name (apS u l).2 = sn at *
  generalize (S.kids (apS u l).2).length = sk at *
  obtain ⟨V2, hV2⟩ : ∃ V, u2.alloc (.cells #[.string sn, .slice sa sk sc] 27) = V := ⟨_, rfl⟩
  have Z2 := hid (show Ext V1 V2 from hV2 ▸ hx.trans (Ext.alloc _ _))
  have Y2 := hid (Y1.out.trans Z2.out)
  have HB2 := hid (show V2.heap[u2.heap.size]? = some (.cells #[.string sn, .slice sa sk sc] 27) from hV2 ▸ blk0 _ _)
  have R2 := hid (hr2.later (hV2 ▸ Ext.alloc _ _ : Ext u2 V2))
  have R1' := hid (R1.out.later Z2.out)
  have LL2 := hid (LL1.out.later Z2.out)
  clear hx hr2 m0 m1 m2 m3
  obtain ⟨b0, b1⟩ := two_of (Z2.out.block HB1.out)
  obtain ⟨b2, b3⟩ := two_of HB2.out
  obtain ⟨E2, hE2⟩ : ∃ E2, (apS u l).1 = E2 := ⟨_, rfl⟩
  rw [hE2]
  have HE2 := hid hE2
  clear hE2
  by_cases z1 : E1 = 0
  case neg =>
    obtain ⟨z3, z4⟩ := ne_zero z1
    clear z1
    go_wp2_with fail
    go_ret
    exact ⟨rfl, XM.out.trans Y2.out⟩
  case pos =>
    subst z1
    by_cases z2 : E2 = 0
    case neg =>
      obtain ⟨z3, z4⟩ := ne_zero z2
      clear z2
      go_wp2_with fail
      go_ret
      exact ⟨rfl, XM.out.trans Y2.out⟩
    case pos =>
      subst z2
      go_wp2_with fail
      clear hV2
      go_at_call 12
      refine (sameS_any V2 R1'.out R2.out).mono ?_
      rintro e u3 ⟨rfl, hx⟩
      have Y3 := hid (Y2.out.trans hx)
      have LL3 := hid (LL2.out.later hx)
      clear hx b0 b1 b2 b3
      obtain ⟨B, hB⟩ : ∃ B, sameS (apS t l).2 (apS u l).2 = B := ⟨_, rfl⟩
      rw [hB]
      cases B with
      | false =>
        clear hB
        go_wp2_with fail
        go_ret
        exact ⟨rfl, XM.out.trans Y3.out⟩
      | true =>
        obtain ⟨hsm, hea⟩ := uni_each HT.out HU.out HE1.out HE2.out hB
        rw [HO.out] at hsm
        cases hsm
end Go.Proofs.YtllbelglilkdpaaDoor
