/-
  The walk of espalierlaw5.SortValues where a value has no sort.
-/
import Derived.Test.YtllbelglilkdpaaDoorSValuesH
import Derived.Deep.DeepCutAuto
namespace Go.Proofs.YtllbelglilkdpaaDoor
open Go.RowKit
set_option maxRecDepth 100000 in
set_option maxHeartbeats 4000000 in
theorem values_bad {d d' : Nat} {vp vq vs : Value} {p q : T} {s : S} {K' : Nat → Prop} (w : World) (hp : Rd (fun _ => True) w d vp p) (hq : Rd (fun _ => True) w d vq q) (hs : SRd K' w d' vs s) (hG : Laid w) (hb : ¬ (ofS p).1 = 0) : Calls Tryd.prog 6 #[vp, vq, vs] w fun e w' => e = .returned (.bool true) ∧ Ext w w' := by
  obtain ⟨p0, p1, p2, p3, rfl⟩ := hp.agg
  obtain ⟨pk, pn, px, pa, pc, rfl, rfl, rfl, rfl⟩ := hp.shape
  obtain ⟨q0, q1, q2, q3, rfl⟩ := hq.agg
  obtain ⟨qk, qn, qx, qa, qc, rfl, rfl, rfl, rfl⟩ := hq.shape
  obtain ⟨sa, sc, rfl⟩ := hs.shape
  have OP := hid (fun w1 (hx : Ext w w1) => ofS_any w1 (hp.later hx) (hG.later hx))
  have OQ := hid (fun w1 (hx : Ext w w1) => ofS_any w1 (hq.later hx) (hG.later hx))
  have IP := hid (fun w1 (hx : Ext w w1) K1 d1 v1 u1 (h1 : SRd K1 w1 d1 v1 u1) => isS_any w1 (hp.later hx) h1 (hG.later hx))
  have MS := hid (fun w1 (hx : Ext w w1) => mayS_any w1 (hs.later hx))
  have HP := hid hp
  have HQ := hid hq
  have HS := hid hs
  have HG := hid hG
  clear hp hq hs hG
  generalize p.kids.length = pl at *
  generalize q.kids.length = ql at *
  obtain ⟨ns, hns⟩ : ∃ ns, S.name s = ns := ⟨_, rfl⟩
  obtain ⟨ks, hks⟩ : ∃ ks, (S.kids s).length = ks := ⟨_, rfl⟩
  rw [hns, hks] at HS MS ⊢
  clear hns hks
  obtain ⟨M, hM⟩ : ∃ M, ((w.alloc (.cells #[.int .i64 pk, .int .i64 pn, .string px, .slice pa pl pc] 31)).alloc (.cells #[.int .i64 qk, .int .i64 qn, .string qx, .slice qa ql qc] 31)).alloc (.cells #[.string ns, .slice sa ks sc] 27) = M := ⟨_, rfl⟩
  have XM := hid (show Ext w M from hM ▸ (Ext.alloc2 _ _ _).trans (Ext.alloc _ _))
  have HM0 := hid (show M.heap[w.heap.size]? = some (.cells #[.int .i64 pk, .int .i64 pn, .string px, .slice pa pl pc] 31) from hM ▸ blkOld _ (blkOld _ (blk0 _ _)))
  have HM1 := hid (show M.heap[w.heap.size + 1]? = some (.cells #[.int .i64 qk, .int .i64 qn, .string qx, .slice qa ql qc] 31) from hM ▸ blkOld _ (blk1 _ _ _))
  have HM2 := hid (show M.heap[w.heap.size + 1 + 1]? = some (.cells #[.string ns, .slice sa ks sc] 27) from hM ▸ blk2 _ _ _ _)
  have HC := hid (show ∀ W', Ext M W' → (fun W' => Ext M W' ∧ W'.cell? ⟨w.heap.size, 0, none⟩ = some (.int .i64 pk) ∧ W'.cell? ⟨w.heap.size, 1, none⟩ = some (.int .i64 pn) ∧ W'.cell? ⟨w.heap.size, 2, none⟩ = some (.string px) ∧ W'.cell? ⟨w.heap.size, 3, none⟩ = some (.slice pa pl pc) ∧ W'.cell? ⟨w.heap.size + 1, 0, none⟩ = some (.int .i64 qk) ∧ W'.cell? ⟨w.heap.size + 1, 1, none⟩ = some (.int .i64 qn) ∧ W'.cell? ⟨w.heap.size + 1, 2, none⟩ = some (.string qx) ∧ W'.cell? ⟨w.heap.size + 1, 3, none⟩ = some (.slice qa ql qc) ∧ W'.cell? ⟨w.heap.size + 1 + 1, 0, none⟩ = some (.string ns) ∧ W'.cell? ⟨w.heap.size + 1 + 1, 1, none⟩ = some (.slice sa ks sc)) W' from fun W' X => ⟨X, cell_of (X.block HM0.out) rfl, cell_of (X.block HM0.out) rfl, cell_of (X.block HM0.out) rfl, cell_of (X.block HM0.out) rfl, cell_of (X.block HM1.out) rfl, cell_of (X.block HM1.out) rfl, cell_of (X.block HM1.out) rfl, cell_of (X.block HM1.out) rfl, cell_of (X.block HM2.out) rfl, cell_of (X.block HM2.out) rfl⟩)
  go_enter Tryd.func6, Tryd.ntmps6
  go_wp2_with fail
  clear hM
  go_at_call 7
  refine (begun_any _).mono ?_
  rintro e w1 ⟨rfl, hx1⟩
  have X1 := hid hx1
  clear hx1
  obtain ⟨_, c0, c1, c2, c3, c4, c5, c6, c7, c8, c9⟩ := HC.out w1 X1.out
  go_wp2_with fail
  go_at_call 17
  refine (OP.out w1 (XM.out.trans X1.out)).mono ?_
  rintro e u1 ⟨r1, k1, rfl, hr1, hx⟩
  obtain ⟨aa, ac, rfl⟩ := hr1.shape
  obtain ⟨na, hna⟩ : ∃ na, S.name (ofS p).2 = na := ⟨_, rfl⟩
  obtain ⟨ka, hka⟩ : ∃ ka, (S.kids (ofS p).2).length = ka := ⟨_, rfl⟩
  obtain ⟨E1, hE1⟩ : ∃ E1, (ofS p).1 = E1 := ⟨_, rfl⟩
  rw [hna, hka] at hr1 ⊢
  rw [hE1]
  have HE1 := hid hE1
  obtain ⟨V1, hV1⟩ : ∃ V, u1.alloc (.cells #[.string na, .slice aa ka ac] 27) = V := ⟨_, rfl⟩
  have Y1 := hid (show Ext M V1 from hV1 ▸ X1.out.trans (hx.trans (Ext.alloc _ _)))
  have HA1 := hid (show V1.heap[u1.heap.size]? = some (.cells #[.string na, .slice aa ka ac] 27) from hV1 ▸ blk0 _ _)
  have RA := hid (hr1.later (hV1 ▸ Ext.alloc _ _ : Ext u1 V1))
  clear hx hr1 hna hka hE1 c0 c1 c2 c3 c4 c5 c6 c7 c8 c9
  obtain ⟨hor, hi⟩ := ofS_bad hb s
  have HI := hid hi
  rw [HE1.out] at hor hb
  obtain ⟨_, c0, c1, c2, c3, c4, c5, c6, c7, c8, c9⟩ := HC.out V1 Y1.out
  rcases hor with rfl | rfl
  all_goals
    clear hb hi
    go_wp2_with fail
    clear hV1
    go_at_call 18
    refine (IP.out V1 (XM.out.trans Y1.out) _ _ _ _ (HS.out.later (XM.out.trans Y1.out))).mono ?_
    rintro e w5 ⟨rfl, hx5⟩
    rw [HI.out]
    have X5 := hid (Y1.out.trans hx5)
    clear hx5 c0 c1 c2 c3 c4 c5 c6 c7 c8 c9
    go_wp2_with fail
    go_ret
    exact ⟨rfl, XM.out.trans X5.out⟩
end Go.Proofs.YtllbelglilkdpaaDoor
