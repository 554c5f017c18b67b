/-
  For the walk of espalierlaw5.SortValues.
-/
import Derived.Test.YtllbelglilkdpaaDoorSValM
import Derived.Test.YtllbelglilkdpaaDoorSBegun
import Derived.Test.YtllbelglilkdpaaDoorPlainIn
import Derived.Deep.DeepCutAuto
namespace Go.Proofs.YtllbelglilkdpaaDoor
open Go.RowKit
theorem Rd.up {K : Nat → Prop} {w : World} {d : Nat} {v : Value} {t : T} (h : Rd K w d v t) : ∀ k, Rd K w (d + k) v t
  | 0 => h
  | k + 1 => (Rd.up h k).deep
theorem ne_zero' {E : Int} (h : ¬ E = 0) : (E != 0) = true ∧ (E == 0) = false := ⟨by rw [bne_iff_ne]; exact h, by rw [beq_eq_false_iff_ne]; exact h⟩
theorem mayS_some' {t : S} {a : Nat × ByteArray} (h : shp t = some a) : mayS t = 0 := by unfold mayS; rw [h]; rfl
theorem mayS_none' {t : S} (h : shp t = none) : mayS t = 14 := by unfold mayS; rw [h]; rfl
/-- A list of two plain values. -/
theorem two_rd {w : World} {g d : Nat} {p q : T} {a0 a1 a2 a3 b0 b1 b2 b3 : Value} {ty : TypeId} (h : w.heap[g]? = some (.cells #[a0, a1, a2, a3, b0, b1, b2, b3] ty)) (hp : Rd (fun _ => True) w d (.agg #[a0, a1, a2, a3]) p) (hq : Rd (fun _ => True) w d (.agg #[b0, b1, b2, b3]) q) : Rd (fun _ => True) w (d + 1) (.agg #[.int .i64 5, .int .i64 0, .string ⟨#[]⟩, .slice (some ⟨g, 0, none⟩) 2 2]) (twoT p q) := by
  refine ⟨some ⟨g, 0, none⟩, 2, rfl, by decide, by show 2 * 56 ≤ 140737488351232; decide, .inr ⟨g, 0, rfl, trivial, fun j hj => ?_⟩⟩
  have hj' : j < 2 := hj
  match j, hj' with
  | 0, _ => exact ⟨a0, a1, a2, a3, ⟨cell_of h rfl, cell_of h rfl, cell_of h rfl, cell_of h rfl⟩, hp⟩
  | 1, _ => exact ⟨b0, b1, b2, b3, ⟨cell_of h rfl, cell_of h rfl, cell_of h rfl, cell_of h rfl⟩, hq⟩
end Go.Proofs.YtllbelglilkdpaaDoor
/-
  The walk of espalierlaw5.SortValues where a value has no sort.
-/
namespace Go.Proofs.YtllbelglilkdpaaDoor
open Go.RowKit
set_option maxRecDepth 100000 in
set_option maxHeartbeats 4000000 in
theorem values_bad {d d' : Nat} {vp vq vs : Value} {p q : T} {s : S} {K' : Nat → Prop} (w : World) (hp : Rd (fun _ => True) w d vp p) (hq : Rd (fun _ => True) w d vq q) (hs : SRd K' w d' vs s) (hG : Laid w) (hb : ¬ (ofS p).1 = 0) : Calls Tryd.prog 6 #[vp, vq, vs] w fun e w' => e = .returned (.bool true) ∧ Ext w w' := by
  obtain ⟨p0, p1, p2, p3, rfl⟩ := hp.agg
  obtain ⟨pk, pn, px, pa, pc, rfl, rfl, rfl, rfl⟩ := hp.shape
  obtain ⟨q0, q1, q2, q3, rfl⟩ := hq.agg
  obtain ⟨qk, qn, qx, qa, qc, rfl, rfl, rfl, rfl⟩ := hq.shape
  obtain ⟨sa, sc, rfl⟩ := hs.shape
  have OP := hid (fun w1 (hx : Ext w w1) => ofS_any w1 (hp.later hx) (hG.later hx))
  have OQ := hid (fun w1 (hx : Ext w w1) => ofS_any w1 (hq.later hx) (hG.later hx))
  have IP := hid (fun w1 (hx : Ext w w1) K1 d1 v1 u1 (h1 : SRd K1 w1 d1 v1 u1) => isS_any w1 (hp.later hx) h1 (hG.later hx))
  have MS := hid (fun w1 (hx : Ext w w1) => mayS_any w1 (hs.later hx))
  have HP := hid hp
  have HQ := hid hq
  have HS := hid hs
  have HG := hid hG
  clear hp hq hs hG
  generalize p.kids.length = pl at *
  generalize q.kids.length = ql at *
  obtain ⟨ns, hns⟩ : ∃ ns, S.name s = ns := ⟨_, rfl⟩
  obtain ⟨ks, hks⟩ : ∃ ks, (S.kids s).length = ks := ⟨_, rfl⟩
  rw [hns, hks] at HS MS ⊢
  clear hns hks
  obtain ⟨M, hM⟩ : ∃ M, ((w.alloc (.cells #[.int .i64 pk, .int .i64 pn, .string px, .slice pa pl pc] 31)).alloc (.cells #[.int .i64 qk, .int .i64 qn, .string qx, .slice qa ql qc] 31)).alloc (.cells #[.string ns, .slice sa ks sc] 27) = M := ⟨_, rfl⟩
  have XM := hid (show Ext w M from hM ▸ (Ext.alloc2 _ _ _).trans (Ext.alloc _ _))
  have HM0 := hid (show M.heap[w.heap.size]? = some (.cells #[.int .i64 pk, .int .i64 pn, .string px, .slice pa pl pc] 31) from hM ▸ blkOld _ (blkOld _ (blk0 _ _)))
  have HM1 := hid (show M.heap[w.heap.size + 1]? = some (.cells #[.int .i64 qk, .int .i64 qn, .string qx, .slice qa ql qc] 31) from hM ▸ blkOld _ (blk1 _ _ _))
  have HM2 := hid (show M.heap[w.heap.size + 1 + 1]? = some (.cells #[.string ns, .slice sa ks sc] 27) from hM ▸ blk2 _ _ _ _)
  have HC := hid (show ∀ W', Ext M W' → (fun W' => Ext M W' ∧ W'.cell? ⟨w.heap.size, 0, none⟩ = some (.int .i64 pk) ∧ W'.cell? ⟨w.heap.size, 1, none⟩ = some (.int .i64 pn) ∧ W'.cell? ⟨w.heap.size, 2, none⟩ = some (.string px) ∧ W'.cell? ⟨w.heap.size, 3, none⟩ = some (.slice pa pl pc) ∧ W'.cell? ⟨w.heap.size + 1, 0, none⟩ = some (.int .i64 qk) ∧ W'.cell? ⟨w.heap.size + 1, 1, none⟩ = some (.int .i64 qn) ∧ W'.cell? ⟨w.heap.size + 1, 2, none⟩ = some (.string qx) ∧ W'.cell? ⟨w.heap.size + 1, 3, none⟩ = some (.slice qa ql qc) ∧ W'.cell? ⟨w.heap.size + 1 + 1, 0, none⟩ = some (.string ns) ∧ W'.cell? ⟨w.heap.size + 1 + 1, 1, none⟩ = some (.slice sa ks sc)) W' from fun W' X => ⟨X, cell_of (X.block HM0.out) rfl, cell_of (X.block HM0.out) rfl, cell_of (X.block HM0.out) rfl, cell_of (X.block HM0.out) rfl, cell_of (X.block HM1.out) rfl, cell_of (X.block HM1.out) rfl, cell_of (X.block HM1.out) rfl, cell_of (X.block HM1.out) rfl, cell_of (X.block HM2.out) rfl, cell_of (X.block HM2.out) rfl⟩)
  go_enter Tryd.func6, Tryd.ntmps6
  go_wp2_with fail
  clear hM
  go_at_call 7
  refine (begun_any _).mono ?_
  rintro e w1 ⟨rfl, hx1⟩
  have X1 := hid hx1
  clear hx1
  obtain ⟨_, c0, c1, c2, c3, c4, c5, c6, c7, c8, c9⟩ := HC.out w1 X1.out
  go_wp2_with fail
  go_at_call 17
  refine (OP.out w1 (XM.out.trans X1.out)).mono ?_
  rintro e u1 ⟨r1, k1, rfl, hr1, hx⟩
  obtain ⟨aa, ac, rfl⟩ := hr1.shape
  obtain ⟨na, hna⟩ : ∃ na, S.name (ofS p).2 = na := ⟨_, rfl⟩
  obtain ⟨ka, hka⟩ : ∃ ka, (S.kids (ofS p).2).length = ka := ⟨_, rfl⟩
  obtain ⟨E1, hE1⟩ : ∃ E1, (ofS p).1 = E1 := ⟨_, rfl⟩
  rw [hna, hka] at hr1 ⊢
  rw [hE1]
  have HE1 := hid hE1
  obtain ⟨V1, hV1⟩ : ∃ V, u1.alloc (.cells #[.string na, .slice aa ka ac] 27) = V := ⟨_, rfl⟩
  have Y1 := hid (show Ext M V1 from hV1 ▸ X1.out.trans (hx.trans (Ext.alloc _ _)))
  have HA1 := hid (show V1.heap[u1.heap.size]? = some (.cells #[.string na, .slice aa ka ac] 27) from hV1 ▸ blk0 _ _)
  have RA := hid (hr1.later (hV1 ▸ Ext.alloc _ _ : Ext u1 V1))
  clear hx hr1 hna hka hE1 c0 c1 c2 c3 c4 c5 c6 c7 c8 c9
  obtain ⟨hor, hi⟩ := ofS_bad hb s
  have HI := hid hi
  rw [HE1.out] at hor hb
  obtain ⟨_, c0, c1, c2, c3, c4, c5, c6, c7, c8, c9⟩ := HC.out V1 Y1.out
  rcases hor with rfl | rfl
  all_goals
    clear hb hi
    go_wp2_with fail
    clear hV1
    go_at_call 18
    refine (IP.out V1 (XM.out.trans Y1.out) _ _ _ _ (HS.out.later (XM.out.trans Y1.out))).mono ?_
    rintro e w5 ⟨rfl, hx5⟩
    rw [HI.out]
    have X5 := hid (Y1.out.trans hx5)
    clear hx5 c0 c1 c2 c3 c4 c5 c6 c7 c8 c9
    go_wp2_with fail
    go_ret
    exact ⟨rfl, XM.out.trans X5.out⟩
end Go.Proofs.YtllbelglilkdpaaDoor
/-
  The walk of espalierlaw5.SortValues where the sort may not be.
-/
namespace Go.Proofs.YtllbelglilkdpaaDoor
open Go.RowKit
set_option maxRecDepth 100000 in
set_option maxHeartbeats 4000000 in
theorem values_none {d d' : Nat} {vp vq vs : Value} {p q : T} {s : S} {K' : Nat → Prop} (w : World) (hp : Rd (fun _ => True) w d vp p) (hq : Rd (fun _ => True) w d vq q) (hs : SRd K' w d' vs s) (hG : Laid w) (ha : (ofS p).1 = 0) (hsn : shp s = none) : Calls Tryd.prog 6 #[vp, vq, vs] w fun e w' => e = .returned (.bool true) ∧ Ext w w' := by
  obtain ⟨p0, p1, p2, p3, rfl⟩ := hp.agg
  obtain ⟨pk, pn, px, pa, pc, rfl, rfl, rfl, rfl⟩ := hp.shape
  obtain ⟨q0, q1, q2, q3, rfl⟩ := hq.agg
  obtain ⟨qk, qn, qx, qa, qc, rfl, rfl, rfl, rfl⟩ := hq.shape
  obtain ⟨sa, sc, rfl⟩ := hs.shape
  have OP := hid (fun w1 (hx : Ext w w1) => ofS_any w1 (hp.later hx) (hG.later hx))
  have OQ := hid (fun w1 (hx : Ext w w1) => ofS_any w1 (hq.later hx) (hG.later hx))
  have IP := hid (fun w1 (hx : Ext w w1) K1 d1 v1 u1 (h1 : SRd K1 w1 d1 v1 u1) => isS_any w1 (hp.later hx) h1 (hG.later hx))
  have MS := hid (fun w1 (hx : Ext w w1) => mayS_any w1 (hs.later hx))
  have HP := hid hp
  have HQ := hid hq
  have HS := hid hs
  have HG := hid hG
  clear hp hq hs hG
  generalize p.kids.length = pl at *
  generalize q.kids.length = ql at *
  obtain ⟨ns, hns⟩ : ∃ ns, S.name s = ns := ⟨_, rfl⟩
  obtain ⟨ks, hks⟩ : ∃ ks, (S.kids s).length = ks := ⟨_, rfl⟩
  rw [hns, hks] at HS MS ⊢
  clear hns hks
  obtain ⟨M, hM⟩ : ∃ M, ((w.alloc (.cells #[.int .i64 pk, .int .i64 pn, .string px, .slice pa pl pc] 31)).alloc (.cells #[.int .i64 qk, .int .i64 qn, .string qx, .slice qa ql qc] 31)).alloc (.cells #[.string ns, .slice sa ks sc] 27) = M := ⟨_, rfl⟩
  have XM := hid (show Ext w M from hM ▸ (Ext.alloc2 _ _ _).trans (Ext.alloc _ _))
  have HM0 := hid (show M.heap[w.heap.size]? = some (.cells #[.int .i64 pk, .int .i64 pn, .string px, .slice pa pl pc] 31) from hM ▸ blkOld _ (blkOld _ (blk0 _ _)))
  have HM1 := hid (show M.heap[w.heap.size + 1]? = some (.cells #[.int .i64 qk, .int .i64 qn, .string qx, .slice qa ql qc] 31) from hM ▸ blkOld _ (blk1 _ _ _))
  have HM2 := hid (show M.heap[w.heap.size + 1 + 1]? = some (.cells #[.string ns, .slice sa ks sc] 27) from hM ▸ blk2 _ _ _ _)
  have HC := hid (show ∀ W', Ext M W' → (fun W' => Ext M W' ∧ W'.cell? ⟨w.heap.size, 0, none⟩ = some (.int .i64 pk) ∧ W'.cell? ⟨w.heap.size, 1, none⟩ = some (.int .i64 pn) ∧ W'.cell? ⟨w.heap.size, 2, none⟩ = some (.string px) ∧ W'.cell? ⟨w.heap.size, 3, none⟩ = some (.slice pa pl pc) ∧ W'.cell? ⟨w.heap.size + 1, 0, none⟩ = some (.int .i64 qk) ∧ W'.cell? ⟨w.heap.size + 1, 1, none⟩ = some (.int .i64 qn) ∧ W'.cell? ⟨w.heap.size + 1, 2, none⟩ = some (.string qx) ∧ W'.cell? ⟨w.heap.size + 1, 3, none⟩ = some (.slice qa ql qc) ∧ W'.cell? ⟨w.heap.size + 1 + 1, 0, none⟩ = some (.string ns) ∧ W'.cell? ⟨w.heap.size + 1 + 1, 1, none⟩ = some (.slice sa ks sc)) W' from fun W' X => ⟨X, cell_of (X.block HM0.out) rfl, cell_of (X.block HM0.out) rfl, cell_of (X.block HM0.out) rfl, cell_of (X.block HM0.out) rfl, cell_of (X.block HM1.out) rfl, cell_of (X.block HM1.out) rfl, cell_of (X.block HM1.out) rfl, cell_of (X.block HM1.out) rfl, cell_of (X.block HM2.out) rfl, cell_of (X.block HM2.out) rfl⟩)
  go_enter Tryd.func6, Tryd.ntmps6
  go_wp2_with fail
  clear hM
  go_at_call 7
  refine (begun_any _).mono ?_
  rintro e w1 ⟨rfl, hx1⟩
  have X1 := hid hx1
  clear hx1
  obtain ⟨_, c0, c1, c2, c3, c4, c5, c6, c7, c8, c9⟩ := HC.out w1 X1.out
  go_wp2_with fail
  go_at_call 17
  refine (OP.out w1 (XM.out.trans X1.out)).mono ?_
  rintro e u1 ⟨r1, k1, rfl, hr1, hx⟩
  obtain ⟨aa, ac, rfl⟩ := hr1.shape
  obtain ⟨na, hna⟩ : ∃ na, S.name (ofS p).2 = na := ⟨_, rfl⟩
  obtain ⟨ka, hka⟩ : ∃ ka, (S.kids (ofS p).2).length = ka := ⟨_, rfl⟩
  obtain ⟨E1, hE1⟩ : ∃ E1, (ofS p).1 = E1 := ⟨_, rfl⟩
  rw [hna, hka] at hr1 ⊢
  rw [hE1]
  have HE1 := hid hE1
  obtain ⟨V1, hV1⟩ : ∃ V, u1.alloc (.cells #[.string na, .slice aa ka ac] 27) = V := ⟨_, rfl⟩
  have Y1 := hid (show Ext M V1 from hV1 ▸ X1.out.trans (hx.trans (Ext.alloc _ _)))
  have HA1 := hid (show V1.heap[u1.heap.size]? = some (.cells #[.string na, .slice aa ka ac] 27) from hV1 ▸ blk0 _ _)
  have RA := hid (hr1.later (hV1 ▸ Ext.alloc _ _ : Ext u1 V1))
  clear hx hr1 hna hka hE1 c0 c1 c2 c3 c4 c5 c6 c7 c8 c9
  obtain ⟨hpm, n1, g1, hs1, hd1, hn1, hg1, he1⟩ := ofS_ok ha
  have HA0 := hid ha
  have HA2 := hid (show (ofS p).2 = chain n1 (g1.getD yA) by rw [he1])
  have HIS := hid (is_own hpm hs1 hn1 hg1)
  have HIZ := hid (is_z (x := ⟨#[122]⟩) hpm hs1 rfl)
  have HMY := hid (mayS_some' (shp_chain hn1 (getD_leaf hg1 vA)))
  have HPM := hid hpm
  have HS1 := hid hs1
  have HN1 := hid hn1
  have HG1 := hid hg1
  have e10 : E1 = 0 := by rw [← HE1.out]; exact ha
  subst e10
  rw [HA2.out] at RA
  clear hpm hs1 hd1 hn1 hg1 he1 ha
  have HC6 := hid (show ∀ W', Ext V1 W' → (fun W' => Ext V1 W' ∧ W'.cell? ⟨w.heap.size, 0, none⟩ = some (.int .i64 pk) ∧ W'.cell? ⟨w.heap.size, 1, none⟩ = some (.int .i64 pn) ∧ W'.cell? ⟨w.heap.size, 2, none⟩ = some (.string px) ∧ W'.cell? ⟨w.heap.size, 3, none⟩ = some (.slice pa pl pc) ∧ W'.cell? ⟨u1.heap.size, 0, none⟩ = some (.string na) ∧ W'.cell? ⟨u1.heap.size, 1, none⟩ = some (.slice aa ka ac)) W' from fun W' X => ⟨X, cell_of (X.block (Y1.out.block HM0.out)) rfl, cell_of (X.block (Y1.out.block HM0.out)) rfl, cell_of (X.block (Y1.out.block HM0.out)) rfl, cell_of (X.block (Y1.out.block HM0.out)) rfl, cell_of (X.block HA1.out) rfl, cell_of (X.block HA1.out) rfl⟩)
  go_wp2_with fail
  clear hV1
  have M1 := trivial
  go_region_held3 (fun W' => Ext V1 W' ∧ W'.cell? ⟨w.heap.size, 0, none⟩ = some (.int .i64 pk) ∧ W'.cell? ⟨w.heap.size, 1, none⟩ = some (.int .i64 pn) ∧ W'.cell? ⟨w.heap.size, 2, none⟩ = some (.string px) ∧ W'.cell? ⟨w.heap.size, 3, none⟩ = some (.slice pa pl pc) ∧ W'.cell? ⟨u1.heap.size, 0, none⟩ = some (.string na) ∧ W'.cell? ⟨u1.heap.size, 1, none⟩ = some (.slice aa ka ac)) (first
    | with_reducible exact HC6.out _ (Ext.refl _).drew
    | with_reducible exact HC6.out _ Z4
    | with_reducible exact HC6.out _ Z3
    | with_reducible exact HC6.out _ Z2
    | with_reducible exact HC6.out _ Z1) (first
    | (have _ := M1; go_at_call 18; have ZS := (‹Ext V1 _ ∧ _›).1; refine (IP.out _ (XM.out.trans (Y1.out.trans ZS)) _ _ _ _ (RA.out.later ZS)).mono ?_; rintro e y1 ⟨rfl, hx⟩; rw [HIS.out]; have Z1 : Ext V1 y1 := ZS.trans hx; clear hx ZS M1; have M2 := trivial)
    | (have _ := M2; go_at_call 13; have ZS := (‹Ext V1 _ ∧ _›).1; refine (named_any ⟨#[122]⟩ _).mono ?_; rintro e y2 ⟨rfl, hx⟩; have Z2 : Ext V1 y2 := ZS.trans hx; clear hx ZS M2; have M3 := trivial)
    | (have _ := M3; go_at_call 18; have ZS := (‹Ext V1 _ ∧ _›).1; refine (IP.out _ (XM.out.trans (Y1.out.trans ZS)) (fun _ => True) 1 _ _ (srd_leaf ⟨#[122]⟩ none 0 _ (by decide))).mono ?_; rintro e y3 ⟨rfl, hx⟩; rw [HIZ.out]; have Z3 : Ext V1 y3 := ZS.trans hx; clear hx ZS M3; have M4 := trivial)
    | (have _ := M4; go_at_call 10; have ZS := (‹Ext V1 _ ∧ _›).1; refine (mayS_any _ (RA.out.later ZS)).mono ?_; rintro e y4 ⟨rfl, hx⟩; rw [HMY.out]; have Z4 : Ext V1 y4 := ZS.trans hx; clear hx ZS M4; have M5 := trivial))
  have Y4 := hid (Y1.out.trans Z4)
  have ZA4 := hid Z4
  clear Z1 Z2 Z3 Z4 M5
  obtain ⟨_, c0, c1, c2, c3, c4, c5, c6, c7, c8, c9⟩ := HC.out y4 Y4.out
  go_wp2_with fail
  go_at_call 10
  refine (MS.out y4 (XM.out.trans Y4.out)).mono ?_
  rintro e w5 ⟨rfl, hx5⟩
  have Y5 := hid (Y4.out.trans hx5)
  have ZA5 := hid (ZA4.out.trans hx5)
  clear hx5 c0 c1 c2 c3 c4 c5 c6 c7 c8 c9
  rw [mayS_none' hsn]
  clear hsn
  have Yw5 := hid Y5.out
  have ZAw5 := hid ZA5.out
  obtain ⟨_, c0, c1, c2, c3, c4, c5, c6, c7, c8, c9⟩ := HC.out w5 Yw5.out
  go_wp2_with fail
  go_at_call 17
  refine (OQ.out w5 (XM.out.trans Yw5.out)).mono ?_
  rintro e u2 ⟨r2, k2, rfl, hr2, hx⟩
  obtain ⟨ba, bc, rfl⟩ := hr2.shape
  obtain ⟨nb, hnb⟩ : ∃ nb, S.name (ofS q).2 = nb := ⟨_, rfl⟩
  obtain ⟨kb, hkb⟩ : ∃ kb, (S.kids (ofS q).2).length = kb := ⟨_, rfl⟩
  obtain ⟨E2, hE2⟩ : ∃ E2, (ofS q).1 = E2 := ⟨_, rfl⟩
  rw [hnb, hkb] at hr2 ⊢
  rw [hE2]
  have HE2 := hid hE2
  obtain ⟨V2, hV2⟩ : ∃ V, u2.alloc (.cells #[.string nb, .slice ba kb bc] 27) = V := ⟨_, rfl⟩
  have Z2w := hid (show Ext w5 V2 from hV2 ▸ hx.trans (Ext.alloc _ _))
  have Y2 := hid (Yw5.out.trans Z2w.out)
  have HB1 := hid (show V2.heap[u2.heap.size]? = some (.cells #[.string nb, .slice ba kb bc] 27) from hV2 ▸ blk0 _ _)
  have RB := hid (hr2.later (hV2 ▸ Ext.alloc _ _ : Ext u2 V2))
  clear hx hr2 hnb hkb hE2 c0 c1 c2 c3 c4 c5 c6 c7 c8 c9
  obtain ⟨_, c0, c1, c2, c3, c4, c5, c6, c7, c8, c9⟩ := HC.out V2 Y2.out
  obtain ⟨Vl, hVl⟩ : ∃ V, V2.alloc (.cells #[.int .i64 pk, .int .i64 pn, .string px, .slice pa pl pc, .int .i64 qk, .int .i64 qn, .string qx, .slice qa ql qc] 31) = V := ⟨_, rfl⟩
  have Zl := hid (show Ext V2 Vl from hVl ▸ Ext.alloc _ _)
  have RL := hid (two_rd (show Vl.heap[V2.heap.size]? = some (.cells #[.int .i64 pk, .int .i64 pn, .string px, .slice pa pl pc, .int .i64 qk, .int .i64 qn, .string qx, .slice qa ql qc] 31) from hVl ▸ blk0 _ _) (HP.out.later (XM.out.trans (Y2.out.trans Zl.out))) (HQ.out.later (XM.out.trans (Y2.out.trans Zl.out))))
  have OL := hid (ofS_any Vl RL.out (HG.out.later (XM.out.trans (Y2.out.trans Zl.out))))
  go_wp2_with fail
  clear hV2 hVl
  go_at_call 17
  refine OL.out.mono ?_
  rintro e u3 ⟨r3, k3, rfl, hr3, hx⟩
  obtain ⟨la, lc, rfl⟩ := hr3.shape
  obtain ⟨nl, hnl⟩ : ∃ nl, S.name (ofS (twoT p q)).2 = nl := ⟨_, rfl⟩
  obtain ⟨kl, hkl⟩ : ∃ kl, (S.kids (ofS (twoT p q)).2).length = kl := ⟨_, rfl⟩
  obtain ⟨E3, hE3⟩ : ∃ E3, (ofS (twoT p q)).1 = E3 := ⟨_, rfl⟩
  rw [hnl, hkl] at hr3 ⊢
  rw [hE3]
  have HE3 := hid hE3
  obtain ⟨V3, hV3⟩ : ∃ V, u3.alloc (.cells #[.string nl, .slice la kl lc] 27) = V := ⟨_, rfl⟩
  have Z3b := hid (show Ext V2 V3 from hV3 ▸ Zl.out.trans (hx.trans (Ext.alloc _ _)))
  have Z3a := hid (show Ext V1 V3 from (ZAw5.out.trans Z2w.out).trans Z3b.out)
  have Y3 := hid (Y2.out.trans Z3b.out)
  have HL1 := hid (show V3.heap[u3.heap.size]? = some (.cells #[.string nl, .slice la kl lc] 27) from hV3 ▸ blk0 _ _)
  have RL3 := hid (hr3.later (hV3 ▸ Ext.alloc _ _ : Ext u3 V3))
  clear hx hr3 hnl hkl hE3 c0 c1 c2 c3 c4 c5 c6 c7 c8 c9 RL OL
  by_cases z2 : E2 = 0
  case neg =>
    have hne : ¬ E3 = 0 := by rw [← HE3.out]; exact two_bad HA0.out (by rw [HE2.out]; exact z2)
    obtain ⟨n1', n2'⟩ := ne_zero' z2
    obtain ⟨n3', n4'⟩ := ne_zero' hne
    clear z2 hne
    go_wp2_with fail
    go_ret
    exact ⟨rfl, XM.out.trans Y3.out⟩
  case pos =>
  subst z2
  by_cases z3 : E3 = 1
  case pos =>
    subst z3
    go_wp2_with fail
    go_ret
    exact ⟨rfl, XM.out.trans Y3.out⟩
  case neg =>
  obtain ⟨t1, t2, t3⟩ := two_kind HA0.out HE2.out (by rw [HE3.out]; exact z3)
  have hq1 : (E3 == 1) = false := by rw [beq_eq_false_iff_ne]; exact z3
  obtain ⟨o, ho⟩ : ∃ o, uniT (ofS p).2 (renS (ofS q).2 yA yY) = o := ⟨_, rfl⟩
  rw [HE3.out] at t1 t2 t3
  rw [ho] at t2 t3
  have HO := hid ho
  have T1 := hid t1
  have T2 := hid t2
  have T3 := hid t3
  clear z3 t1 t2 t3 ho
  have HC16 := hid (show ∀ W', Ext V3 W' → (fun W' => Ext V3 W' ∧ W'.cell? ⟨u1.heap.size, 0, none⟩ = some (.string na) ∧ W'.cell? ⟨u1.heap.size, 1, none⟩ = some (.slice aa ka ac) ∧ W'.cell? ⟨u2.heap.size, 0, none⟩ = some (.string nb) ∧ W'.cell? ⟨u2.heap.size, 1, none⟩ = some (.slice ba kb bc)) W' from fun W' X => ⟨X, cell_of (X.block (Z3a.out.block HA1.out)) rfl, cell_of (X.block (Z3a.out.block HA1.out)) rfl, cell_of (X.block (Z3b.out.block HB1.out)) rfl, cell_of (X.block (Z3b.out.block HB1.out)) rfl⟩)
  go_wp2_with fail
  clear hV3
  have N1 := trivial
  have RA3 := hid (RA.out.later Z3a.out)
  have RB3 := hid (RB.out.later Z3b.out)
  rw [← HA2.out] at RA3
  go_region_held3 (fun W' => Ext V3 W' ∧ W'.cell? ⟨u1.heap.size, 0, none⟩ = some (.string na) ∧ W'.cell? ⟨u1.heap.size, 1, none⟩ = some (.slice aa ka ac) ∧ W'.cell? ⟨u2.heap.size, 0, none⟩ = some (.string nb) ∧ W'.cell? ⟨u2.heap.size, 1, none⟩ = some (.slice ba kb bc)) (first
    | with_reducible exact HC16.out _ (Ext.refl _).drew
    | with_reducible exact HC16.out _ Z5
    | with_reducible exact HC16.out _ Z4) (first
    | (have _ := N1; go_at_call 20; have ZS := (‹Ext V3 _ ∧ _›).1; refine (other_any _ (RB3.out.later ZS)).mono ?_; rintro e y6 ⟨vo, ko, rfl, hro, hx⟩; have Z4 : Ext V3 y6 := ZS.trans hx; have RO := hid hro; clear hx ZS N1 hro; have N2 := trivial)
    | (have _ := N2; go_at_call 14; have ZS := (‹Ext V3 _ ∧ _›).1; refine (unify_any _ (RA3.out.later ZS) RO.out).mono ?_; rintro e y7 ⟨ul, ku, rfl, hul, hx⟩; have Z5 : Ext V3 y7 := ZS.trans hx; rw [HO.out] at hul ⊢; have LU := hid hul; obtain ⟨ua, uc, rfl, hjunk⟩ := hul; clear hjunk hx ZS N2; have N3 := trivial))
  have ZV := hid Z5
  have Y5' := hid (Y3.out.trans Z5)
  clear Z4 Z5 N3
  obtain ⟨un, hun⟩ : ∃ un, (uniL o).length = un := ⟨_, rfl⟩
  rw [hun] at LU ⊢
  clear hun
  rcases T1.out with h30 | h314
  case inr =>
    subst h314
    have hno : o = none := by
      cases o with
      | none => rfl
      | some oo => have h := T2.out; simp at h
    have hN : uniN o = 14 := by rw [hno]; rfl
    rw [hN]
    clear hno hN
    go_wp2_with fail
    go_ret
    exact ⟨rfl, XM.out.trans Y5'.out⟩
  case inl =>
  subst h30
  have hso : o.isSome = true := by have h := T2.out; simpa using h.symm
  have hN : uniN o = 0 := by unfold uniN; rw [if_pos hso]
  rw [hN]
  clear hN hso
  obtain ⟨_, a0, a1, _⟩ := HC16.out y7 ZV.out
  have RA7 := hid (RA3.out.later ZV.out)
  go_wp2_with fail
  go_at_call 21
  refine (list_any y7 RA7.out).mono ?_
  rintro e y8 ⟨vl, rfl, hrl, hx⟩
  have Z8 := hid (show Ext V3 y8 from ZV.out.trans hx)
  have AP := hid (apply_any y8 hrl (LU.out.later hx))
  clear hx a0 a1 hrl
  go_wp2_with fail
  go_at_call 16
  refine AP.out.mono ?_
  rintro e u6 ⟨r6, k6, rfl, hr6, hx⟩
  obtain ⟨wa, wc, rfl⟩ := hr6.shape
  obtain ⟨nw, hnw⟩ : ∃ nw, S.name (apS (.node wList [(ofS p).2]) (uniL o)).2 = nw := ⟨_, rfl⟩
  obtain ⟨kw, hkw⟩ : ∃ kw, (S.kids (apS (.node wList [(ofS p).2]) (uniL o)).2).length = kw := ⟨_, rfl⟩
  obtain ⟨E6, hE6⟩ : ∃ E6, (apS (.node wList [(ofS p).2]) (uniL o)).1 = E6 := ⟨_, rfl⟩
  rw [hnw, hkw] at hr6 ⊢
  rw [hE6]
  have HE6 := hid hE6
  obtain ⟨V6, hV6⟩ : ∃ V, u6.alloc (.cells #[.string nw, .slice wa kw wc] 27) = V := ⟨_, rfl⟩
  have Z6c := hid (show Ext V3 V6 from hV6 ▸ Z8.out.trans (hx.trans (Ext.alloc _ _)))
  have Y6 := hid (Y3.out.trans Z6c.out)
  have HW1 := hid (show V6.heap[u6.heap.size]? = some (.cells #[.string nw, .slice wa kw wc] 27) from hV6 ▸ blk0 _ _)
  have RW := hid (hr6.later (hV6 ▸ Ext.alloc _ _ : Ext u6 V6))
  have RL6 := hid (RL3.out.later Z6c.out)
  clear hx hr6 hnw hkw hE6
  by_cases z6 : E6 = 0
  case neg =>
    obtain ⟨n1', n2'⟩ := ne_zero' z6
    clear z6
    go_wp2_with fail
    clear hV6
    go_quiet (fail)
    go_wp2_with fail
    go_ret
    exact ⟨rfl, XM.out.trans (Y6.out.drewN _)⟩
  case pos =>
  subst z6
  have HSM := hid (T3.out (by first | rfl | trivial) HE6.out)
  have HC22 := hid (show ∀ W', Ext V6 W' → (fun W' => Ext V6 W' ∧ W'.cell? ⟨u3.heap.size, 0, none⟩ = some (.string nl) ∧ W'.cell? ⟨u3.heap.size, 1, none⟩ = some (.slice la kl lc) ∧ W'.cell? ⟨u6.heap.size, 0, none⟩ = some (.string nw) ∧ W'.cell? ⟨u6.heap.size, 1, none⟩ = some (.slice wa kw wc)) W' from fun W' X => ⟨X, cell_of (X.block (Z6c.out.block HL1.out)) rfl, cell_of (X.block (Z6c.out.block HL1.out)) rfl, cell_of (X.block HW1.out) rfl, cell_of (X.block HW1.out) rfl⟩)
  go_wp2_with fail
  clear hV6
  have N1 := trivial
  go_region_held3 (fun W' => Ext V6 W' ∧ W'.cell? ⟨u3.heap.size, 0, none⟩ = some (.string nl) ∧ W'.cell? ⟨u3.heap.size, 1, none⟩ = some (.slice la kl lc) ∧ W'.cell? ⟨u6.heap.size, 0, none⟩ = some (.string nw) ∧ W'.cell? ⟨u6.heap.size, 1, none⟩ = some (.slice wa kw wc)) (first
    | with_reducible exact HC22.out _ (Ext.refl _).drew
    | with_reducible exact HC22.out _ Z5
    | with_reducible exact HC22.out _ Z4) (first
    | (have _ := N1; go_at_call 22; have ZS := (‹Ext V6 _ ∧ _›).1; refine (first_any _ (RW.out.later ZS)).mono ?_; rintro e y9 ⟨vo, ko, rfl, hro, hx⟩; have Z4 : Ext V6 y9 := ZS.trans hx; have RO := hid hro; clear hx ZS N1 hro; have N2 := trivial)
    | (have _ := N2; go_at_call 12; have ZS := (‹Ext V6 _ ∧ _›).1; refine (sameS_any _ (RL6.out.later ZS) RO.out).mono ?_; rintro e y10 ⟨rfl, hx⟩; rw [HSM.out]; have Z5 : Ext V6 y10 := ZS.trans hx; clear hx ZS N2; have N3 := trivial))
  go_wp2_with fail
  go_ret
  exact ⟨rfl, XM.out.trans (Y6.out.trans Z5)⟩
end Go.Proofs.YtllbelglilkdpaaDoor
/-
  The walk of espalierlaw5.SortValues where the sort may be.
-/
namespace Go.Proofs.YtllbelglilkdpaaDoor
open Go.RowKit
set_option maxRecDepth 100000 in
set_option maxHeartbeats 4000000 in
theorem values_some {d d' : Nat} {vp vq vs : Value} {p q : T} {s : S} {K' : Nat → Prop} (w : World) (hp : Rd (fun _ => True) w d vp p) (hq : Rd (fun _ => True) w d vq q) (hs : SRd K' w d' vs s) (hG : Laid w) {wn : Nat} {wx : ByteArray} (ha : (ofS p).1 = 0) (hss : shp s = some (wn, wx)) : Calls Tryd.prog 6 #[vp, vq, vs] w fun e w' => e = .returned (.bool true) ∧ Ext w w' := by
  obtain ⟨p0, p1, p2, p3, rfl⟩ := hp.agg
  obtain ⟨pk, pn, px, pa, pc, rfl, rfl, rfl, rfl⟩ := hp.shape
  obtain ⟨q0, q1, q2, q3, rfl⟩ := hq.agg
  obtain ⟨qk, qn, qx, qa, qc, rfl, rfl, rfl, rfl⟩ := hq.shape
  obtain ⟨sa, sc, rfl⟩ := hs.shape
  have OP := hid (fun w1 (hx : Ext w w1) => ofS_any w1 (hp.later hx) (hG.later hx))
  have OQ := hid (fun w1 (hx : Ext w w1) => ofS_any w1 (hq.later hx) (hG.later hx))
  have IP := hid (fun w1 (hx : Ext w w1) K1 d1 v1 u1 (h1 : SRd K1 w1 d1 v1 u1) => isS_any w1 (hp.later hx) h1 (hG.later hx))
  have MS := hid (fun w1 (hx : Ext w w1) => mayS_any w1 (hs.later hx))
  have HP := hid hp
  have HQ := hid hq
  have HS := hid hs
  have HG := hid hG
  clear hp hq hs hG
  generalize p.kids.length = pl at *
  generalize q.kids.length = ql at *
  obtain ⟨ns, hns⟩ : ∃ ns, S.name s = ns := ⟨_, rfl⟩
  obtain ⟨ks, hks⟩ : ∃ ks, (S.kids s).length = ks := ⟨_, rfl⟩
  rw [hns, hks] at HS MS ⊢
  clear hns hks
  obtain ⟨M, hM⟩ : ∃ M, ((w.alloc (.cells #[.int .i64 pk, .int .i64 pn, .string px, .slice pa pl pc] 31)).alloc (.cells #[.int .i64 qk, .int .i64 qn, .string qx, .slice qa ql qc] 31)).alloc (.cells #[.string ns, .slice sa ks sc] 27) = M := ⟨_, rfl⟩
  have XM := hid (show Ext w M from hM ▸ (Ext.alloc2 _ _ _).trans (Ext.alloc _ _))
  have HM0 := hid (show M.heap[w.heap.size]? = some (.cells #[.int .i64 pk, .int .i64 pn, .string px, .slice pa pl pc] 31) from hM ▸ blkOld _ (blkOld _ (blk0 _ _)))
  have HM1 := hid (show M.heap[w.heap.size + 1]? = some (.cells #[.int .i64 qk, .int .i64 qn, .string qx, .slice qa ql qc] 31) from hM ▸ blkOld _ (blk1 _ _ _))
  have HM2 := hid (show M.heap[w.heap.size + 1 + 1]? = some (.cells #[.string ns, .slice sa ks sc] 27) from hM ▸ blk2 _ _ _ _)
  have HC := hid (show ∀ W', Ext M W' → (fun W' => Ext M W' ∧ W'.cell? ⟨w.heap.size, 0, none⟩ = some (.int .i64 pk) ∧ W'.cell? ⟨w.heap.size, 1, none⟩ = some (.int .i64 pn) ∧ W'.cell? ⟨w.heap.size, 2, none⟩ = some (.string px) ∧ W'.cell? ⟨w.heap.size, 3, none⟩ = some (.slice pa pl pc) ∧ W'.cell? ⟨w.heap.size + 1, 0, none⟩ = some (.int .i64 qk) ∧ W'.cell? ⟨w.heap.size + 1, 1, none⟩ = some (.int .i64 qn) ∧ W'.cell? ⟨w.heap.size + 1, 2, none⟩ = some (.string qx) ∧ W'.cell? ⟨w.heap.size + 1, 3, none⟩ = some (.slice qa ql qc) ∧ W'.cell? ⟨w.heap.size + 1 + 1, 0, none⟩ = some (.string ns) ∧ W'.cell? ⟨w.heap.size + 1 + 1, 1, none⟩ = some (.slice sa ks sc)) W' from fun W' X => ⟨X, cell_of (X.block HM0.out) rfl, cell_of (X.block HM0.out) rfl, cell_of (X.block HM0.out) rfl, cell_of (X.block HM0.out) rfl, cell_of (X.block HM1.out) rfl, cell_of (X.block HM1.out) rfl, cell_of (X.block HM1.out) rfl, cell_of (X.block HM1.out) rfl, cell_of (X.block HM2.out) rfl, cell_of (X.block HM2.out) rfl⟩)
  go_enter Tryd.func6, Tryd.ntmps6
  go_wp2_with fail
  clear hM
  go_at_call 7
  refine (begun_any _).mono ?_
  rintro e w1 ⟨rfl, hx1⟩
  have X1 := hid hx1
  clear hx1
  obtain ⟨_, c0, c1, c2, c3, c4, c5, c6, c7, c8, c9⟩ := HC.out w1 X1.out
  go_wp2_with fail
  go_at_call 17
  refine (OP.out w1 (XM.out.trans X1.out)).mono ?_
  rintro e u1 ⟨r1, k1, rfl, hr1, hx⟩
  obtain ⟨aa, ac, rfl⟩ := hr1.shape
  obtain ⟨na, hna⟩ : ∃ na, S.name (ofS p).2 = na := ⟨_, rfl⟩
  obtain ⟨ka, hka⟩ : ∃ ka, (S.kids (ofS p).2).length = ka := ⟨_, rfl⟩
  obtain ⟨E1, hE1⟩ : ∃ E1, (ofS p).1 = E1 := ⟨_, rfl⟩
  rw [hna, hka] at hr1 ⊢
  rw [hE1]
  have HE1 := hid hE1
  obtain ⟨V1, hV1⟩ : ∃ V, u1.alloc (.cells #[.string na, .slice aa ka ac] 27) = V := ⟨_, rfl⟩
  have Y1 := hid (show Ext M V1 from hV1 ▸ X1.out.trans (hx.trans (Ext.alloc _ _)))
  have HA1 := hid (show V1.heap[u1.heap.size]? = some (.cells #[.string na, .slice aa ka ac] 27) from hV1 ▸ blk0 _ _)
  have RA := hid (hr1.later (hV1 ▸ Ext.alloc _ _ : Ext u1 V1))
  clear hx hr1 hna hka hE1 c0 c1 c2 c3 c4 c5 c6 c7 c8 c9
  obtain ⟨hpm, n1, g1, hs1, hd1, hn1, hg1, he1⟩ := ofS_ok ha
  have HA0 := hid ha
  have HA2 := hid (show (ofS p).2 = chain n1 (g1.getD yA) by rw [he1])
  have HIS := hid (is_own hpm hs1 hn1 hg1)
  have HIZ := hid (is_z (x := ⟨#[122]⟩) hpm hs1 rfl)
  have HMY := hid (mayS_some' (shp_chain hn1 (getD_leaf hg1 vA)))
  have HPM := hid hpm
  have HS1 := hid hs1
  have HN1 := hid hn1
  have HG1 := hid hg1
  have e10 : E1 = 0 := by rw [← HE1.out]; exact ha
  subst e10
  rw [HA2.out] at RA
  clear hpm hs1 hd1 hn1 hg1 he1 ha
  have HC6 := hid (show ∀ W', Ext V1 W' → (fun W' => Ext V1 W' ∧ W'.cell? ⟨w.heap.size, 0, none⟩ = some (.int .i64 pk) ∧ W'.cell? ⟨w.heap.size, 1, none⟩ = some (.int .i64 pn) ∧ W'.cell? ⟨w.heap.size, 2, none⟩ = some (.string px) ∧ W'.cell? ⟨w.heap.size, 3, none⟩ = some (.slice pa pl pc) ∧ W'.cell? ⟨u1.heap.size, 0, none⟩ = some (.string na) ∧ W'.cell? ⟨u1.heap.size, 1, none⟩ = some (.slice aa ka ac)) W' from fun W' X => ⟨X, cell_of (X.block (Y1.out.block HM0.out)) rfl, cell_of (X.block (Y1.out.block HM0.out)) rfl, cell_of (X.block (Y1.out.block HM0.out)) rfl, cell_of (X.block (Y1.out.block HM0.out)) rfl, cell_of (X.block HA1.out) rfl, cell_of (X.block HA1.out) rfl⟩)
  go_wp2_with fail
  clear hV1
  have M1 := trivial
  go_region_held3 (fun W' => Ext V1 W' ∧ W'.cell? ⟨w.heap.size, 0, none⟩ = some (.int .i64 pk) ∧ W'.cell? ⟨w.heap.size, 1, none⟩ = some (.int .i64 pn) ∧ W'.cell? ⟨w.heap.size, 2, none⟩ = some (.string px) ∧ W'.cell? ⟨w.heap.size, 3, none⟩ = some (.slice pa pl pc) ∧ W'.cell? ⟨u1.heap.size, 0, none⟩ = some (.string na) ∧ W'.cell? ⟨u1.heap.size, 1, none⟩ = some (.slice aa ka ac)) (first
    | with_reducible exact HC6.out _ (Ext.refl _).drew
    | with_reducible exact HC6.out _ Z4
    | with_reducible exact HC6.out _ Z3
    | with_reducible exact HC6.out _ Z2
    | with_reducible exact HC6.out _ Z1) (first
    | (have _ := M1; go_at_call 18; have ZS := (‹Ext V1 _ ∧ _›).1; refine (IP.out _ (XM.out.trans (Y1.out.trans ZS)) _ _ _ _ (RA.out.later ZS)).mono ?_; rintro e y1 ⟨rfl, hx⟩; rw [HIS.out]; have Z1 : Ext V1 y1 := ZS.trans hx; clear hx ZS M1; have M2 := trivial)
    | (have _ := M2; go_at_call 13; have ZS := (‹Ext V1 _ ∧ _›).1; refine (named_any ⟨#[122]⟩ _).mono ?_; rintro e y2 ⟨rfl, hx⟩; have Z2 : Ext V1 y2 := ZS.trans hx; clear hx ZS M2; have M3 := trivial)
    | (have _ := M3; go_at_call 18; have ZS := (‹Ext V1 _ ∧ _›).1; refine (IP.out _ (XM.out.trans (Y1.out.trans ZS)) (fun _ => True) 1 _ _ (srd_leaf ⟨#[122]⟩ none 0 _ (by decide))).mono ?_; rintro e y3 ⟨rfl, hx⟩; rw [HIZ.out]; have Z3 : Ext V1 y3 := ZS.trans hx; clear hx ZS M3; have M4 := trivial)
    | (have _ := M4; go_at_call 10; have ZS := (‹Ext V1 _ ∧ _›).1; refine (mayS_any _ (RA.out.later ZS)).mono ?_; rintro e y4 ⟨rfl, hx⟩; rw [HMY.out]; have Z4 : Ext V1 y4 := ZS.trans hx; clear hx ZS M4; have M5 := trivial))
  have Y4 := hid (Y1.out.trans Z4)
  have ZA4 := hid Z4
  clear Z1 Z2 Z3 Z4 M5
  obtain ⟨_, c0, c1, c2, c3, c4, c5, c6, c7, c8, c9⟩ := HC.out y4 Y4.out
  go_wp2_with fail
  go_at_call 10
  refine (MS.out y4 (XM.out.trans Y4.out)).mono ?_
  rintro e w5 ⟨rfl, hx5⟩
  have Y5 := hid (Y4.out.trans hx5)
  have ZA5 := hid (ZA4.out.trans hx5)
  clear hx5 c0 c1 c2 c3 c4 c5 c6 c7 c8 c9
  rw [mayS_some' hss]
  have HLS := hid (leafN_shp HS.out hss)
  obtain ⟨nm, hnm⟩ : ∃ nm, (if leafN d' s = yY then yX else yY) = nm := ⟨_, rfl⟩
  have hv : vrbL nm.data.toList = true := by rw [← hnm]; split <;> rfl
  have hne : nm ≠ wx := by
    rw [← hnm, HLS.out]
    split
    · next h => rw [h]; decide
    · next h => exact fun e => h e.symm
  have HIA := hid (is_apart HPM.out HS1.out HN1.out HG1.out hss hv hne)
  have HNM := hid hnm
  clear hss hnm hv hne
  have HC9 := hid (show ∀ W', Ext w5 W' → (fun W' => Ext w5 W' ∧ W'.cell? ⟨u1.heap.size, 0, none⟩ = some (.string na) ∧ W'.cell? ⟨u1.heap.size, 1, none⟩ = some (.slice aa ka ac) ∧ W'.cell? ⟨w.heap.size + 1 + 1, 0, none⟩ = some (.string ns) ∧ W'.cell? ⟨w.heap.size + 1 + 1, 1, none⟩ = some (.slice sa ks sc)) W' from fun W' X => ⟨X, cell_of (X.block (ZA5.out.block HA1.out)) rfl, cell_of (X.block (ZA5.out.block HA1.out)) rfl, cell_of (X.block (Y5.out.block HM2.out)) rfl, cell_of (X.block (Y5.out.block HM2.out)) rfl⟩)
  obtain ⟨o9, ho9⟩ : ∃ o9, uniT (renS (chain n1 (g1.getD yA)) yA nm) s = o9 := ⟨_, rfl⟩
  rw [ho9] at HIA
  have HO9 := hid ho9
  clear ho9
  go_wp2_with fail
  have N1 := trivial
  have RA5 := hid (RA.out.later ZA5.out)
  have RS5 := hid (HS.out.later (XM.out.trans Y5.out))
  go_region_held3 (fun W' => Ext w5 W' ∧ W'.cell? ⟨u1.heap.size, 0, none⟩ = some (.string na) ∧ W'.cell? ⟨u1.heap.size, 1, none⟩ = some (.slice aa ka ac) ∧ W'.cell? ⟨w.heap.size + 1 + 1, 0, none⟩ = some (.string ns) ∧ W'.cell? ⟨w.heap.size + 1 + 1, 1, none⟩ = some (.slice sa ks sc)) (first
    | with_reducible exact HC9.out _ (Ext.refl _).drew
    | with_reducible exact HC9.out _ Z2
    | with_reducible exact HC9.out _ Z1) (first
    | (have _ := N1; go_at_call 19; have ZS := (‹Ext w5 _ ∧ _›).1; refine (apart_any _ (RA5.out.later ZS) (RS5.out.later ZS)).mono ?_; rintro e y11 ⟨vo, ko, rfl, hro, hx⟩; have Z1 : Ext w5 y11 := ZS.trans hx; rw [HNM.out] at hro; have RO := hid hro; clear hx ZS N1 hro; have N2 := trivial)
    | (have _ := N2; go_at_call 14; have ZS := (‹Ext w5 _ ∧ _›).1; refine (unify_any _ RO.out (RS5.out.later ZS)).mono ?_; rintro e y12 ⟨ul, ku, rfl, hul, hx⟩; have Z2 : Ext w5 y12 := ZS.trans hx; rw [HO9.out] at hul ⊢; obtain ⟨ua, uc, rfl, hjunk⟩ := hul; clear hjunk hx ZS N2; have N3 := trivial))
  have Yw := hid (Y5.out.trans Z2)
  have ZAw := hid (ZA5.out.trans Z2)
  clear Z1 Z2 N3
  obtain ⟨E9, hE9⟩ : ∃ E9, uniN o9 = E9 := ⟨_, rfl⟩
  rw [hE9]
  obtain ⟨un9, hun9⟩ : ∃ un9, (uniL o9).length = un9 := ⟨_, rfl⟩
  rw [hun9]
  clear hun9
  have hb9 : (E9 == 0) = o9.isSome := by
    rw [← hE9]
    cases o9 with
    | none => rfl
    | some x => rfl
  clear hE9
  obtain ⟨b9, hb9'⟩ : ∃ b9, o9.isSome = b9 := ⟨_, rfl⟩
  rw [hb9'] at hb9 HIA
  clear hb9'
  obtain ⟨_, c0, c1, c2, c3, c4, c5, c6, c7, c8, c9⟩ := HC.out y12 Yw.out
  go_wp2_with fail
  go_at_call 18
  refine (IP.out y12 (XM.out.trans Yw.out) _ _ _ _ (HS.out.later (XM.out.trans Yw.out))).mono ?_
  rintro e w13 ⟨rfl, hx13⟩
  rw [HIA.out]
  have Yw13 := hid (Yw.out.trans hx13)
  have ZAw13 := hid (ZAw.out.trans hx13)
  have hbb : (b9 != b9) = false := by cases b9 <;> rfl
  clear hx13 c0 c1 c2 c3 c4 c5 c6 c7 c8 c9
  obtain ⟨_, c0, c1, c2, c3, c4, c5, c6, c7, c8, c9⟩ := HC.out w13 Yw13.out
  go_wp2_with fail
  go_at_call 17
  refine (OQ.out w13 (XM.out.trans Yw13.out)).mono ?_
  rintro e u2 ⟨r2, k2, rfl, hr2, hx⟩
  obtain ⟨ba, bc, rfl⟩ := hr2.shape
  obtain ⟨nb, hnb⟩ : ∃ nb, S.name (ofS q).2 = nb := ⟨_, rfl⟩
  obtain ⟨kb, hkb⟩ : ∃ kb, (S.kids (ofS q).2).length = kb := ⟨_, rfl⟩
  obtain ⟨E2, hE2⟩ : ∃ E2, (ofS q).1 = E2 := ⟨_, rfl⟩
  rw [hnb, hkb] at hr2 ⊢
  rw [hE2]
  have HE2 := hid hE2
  obtain ⟨V2, hV2⟩ : ∃ V, u2.alloc (.cells #[.string nb, .slice ba kb bc] 27) = V := ⟨_, rfl⟩
  have Z2w := hid (show Ext w13 V2 from hV2 ▸ hx.trans (Ext.alloc _ _))
  have Y2 := hid (Yw13.out.trans Z2w.out)
  have HB1 := hid (show V2.heap[u2.heap.size]? = some (.cells #[.string nb, .slice ba kb bc] 27) from hV2 ▸ blk0 _ _)
  have RB := hid (hr2.later (hV2 ▸ Ext.alloc _ _ : Ext u2 V2))
  clear hx hr2 hnb hkb hE2 c0 c1 c2 c3 c4 c5 c6 c7 c8 c9
  obtain ⟨_, c0, c1, c2, c3, c4, c5, c6, c7, c8, c9⟩ := HC.out V2 Y2.out
  obtain ⟨Vl, hVl⟩ : ∃ V, V2.alloc (.cells #[.int .i64 pk, .int .i64 pn, .string px, .slice pa pl pc, .int .i64 qk, .int .i64 qn, .string qx, .slice qa ql qc] 31) = V := ⟨_, rfl⟩
  have Zl := hid (show Ext V2 Vl from hVl ▸ Ext.alloc _ _)
  have RL := hid (two_rd (show Vl.heap[V2.heap.size]? = some (.cells #[.int .i64 pk, .int .i64 pn, .string px, .slice pa pl pc, .int .i64 qk, .int .i64 qn, .string qx, .slice qa ql qc] 31) from hVl ▸ blk0 _ _) (HP.out.later (XM.out.trans (Y2.out.trans Zl.out))) (HQ.out.later (XM.out.trans (Y2.out.trans Zl.out))))
  have OL := hid (ofS_any Vl RL.out (HG.out.later (XM.out.trans (Y2.out.trans Zl.out))))
  go_wp2_with fail
  clear hV2 hVl
  go_at_call 17
  refine OL.out.mono ?_
  rintro e u3 ⟨r3, k3, rfl, hr3, hx⟩
  obtain ⟨la, lc, rfl⟩ := hr3.shape
  obtain ⟨nl, hnl⟩ : ∃ nl, S.name (ofS (twoT p q)).2 = nl := ⟨_, rfl⟩
  obtain ⟨kl, hkl⟩ : ∃ kl, (S.kids (ofS (twoT p q)).2).length = kl := ⟨_, rfl⟩
  obtain ⟨E3, hE3⟩ : ∃ E3, (ofS (twoT p q)).1 = E3 := ⟨_, rfl⟩
  rw [hnl, hkl] at hr3 ⊢
  rw [hE3]
  have HE3 := hid hE3
  obtain ⟨V3, hV3⟩ : ∃ V, u3.alloc (.cells #[.string nl, .slice la kl lc] 27) = V := ⟨_, rfl⟩
  have Z3b := hid (show Ext V2 V3 from hV3 ▸ Zl.out.trans (hx.trans (Ext.alloc _ _)))
  have Z3a := hid (show Ext V1 V3 from (ZAw13.out.trans Z2w.out).trans Z3b.out)
  have Y3 := hid (Y2.out.trans Z3b.out)
  have HL1 := hid (show V3.heap[u3.heap.size]? = some (.cells #[.string nl, .slice la kl lc] 27) from hV3 ▸ blk0 _ _)
  have RL3 := hid (hr3.later (hV3 ▸ Ext.alloc _ _ : Ext u3 V3))
  clear hx hr3 hnl hkl hE3 c0 c1 c2 c3 c4 c5 c6 c7 c8 c9 RL OL
  by_cases z2 : E2 = 0
  case neg =>
    have hne : ¬ E3 = 0 := by rw [← HE3.out]; exact two_bad HA0.out (by rw [HE2.out]; exact z2)
    obtain ⟨n1', n2'⟩ := ne_zero' z2
    obtain ⟨n3', n4'⟩ := ne_zero' hne
    clear z2 hne
    go_wp2_with fail
    go_ret
    exact ⟨rfl, XM.out.trans Y3.out⟩
  case pos =>
  subst z2
  by_cases z3 : E3 = 1
  case pos =>
    subst z3
    go_wp2_with fail
    go_ret
    exact ⟨rfl, XM.out.trans Y3.out⟩
  case neg =>
  obtain ⟨t1, t2, t3⟩ := two_kind HA0.out HE2.out (by rw [HE3.out]; exact z3)
  have hq1 : (E3 == 1) = false := by rw [beq_eq_false_iff_ne]; exact z3
  obtain ⟨o, ho⟩ : ∃ o, uniT (ofS p).2 (renS (ofS q).2 yA yY) = o := ⟨_, rfl⟩
  rw [HE3.out] at t1 t2 t3
  rw [ho] at t2 t3
  have HO := hid ho
  have T1 := hid t1
  have T2 := hid t2
  have T3 := hid t3
  clear z3 t1 t2 t3 ho
  have HC16 := hid (show ∀ W', Ext V3 W' → (fun W' => Ext V3 W' ∧ W'.cell? ⟨u1.heap.size, 0, none⟩ = some (.string na) ∧ W'.cell? ⟨u1.heap.size, 1, none⟩ = some (.slice aa ka ac) ∧ W'.cell? ⟨u2.heap.size, 0, none⟩ = some (.string nb) ∧ W'.cell? ⟨u2.heap.size, 1, none⟩ = some (.slice ba kb bc)) W' from fun W' X => ⟨X, cell_of (X.block (Z3a.out.block HA1.out)) rfl, cell_of (X.block (Z3a.out.block HA1.out)) rfl, cell_of (X.block (Z3b.out.block HB1.out)) rfl, cell_of (X.block (Z3b.out.block HB1.out)) rfl⟩)
  go_wp2_with fail
  clear hV3
  have N1 := trivial
  have RA3 := hid (RA.out.later Z3a.out)
  have RB3 := hid (RB.out.later Z3b.out)
  rw [← HA2.out] at RA3
  go_region_held3 (fun W' => Ext V3 W' ∧ W'.cell? ⟨u1.heap.size, 0, none⟩ = some (.string na) ∧ W'.cell? ⟨u1.heap.size, 1, none⟩ = some (.slice aa ka ac) ∧ W'.cell? ⟨u2.heap.size, 0, none⟩ = some (.string nb) ∧ W'.cell? ⟨u2.heap.size, 1, none⟩ = some (.slice ba kb bc)) (first
    | with_reducible exact HC16.out _ (Ext.refl _).drew
    | with_reducible exact HC16.out _ Z5
    | with_reducible exact HC16.out _ Z4) (first
    | (have _ := N1; go_at_call 20; have ZS := (‹Ext V3 _ ∧ _›).1; refine (other_any _ (RB3.out.later ZS)).mono ?_; rintro e y6 ⟨vo, ko, rfl, hro, hx⟩; have Z4 : Ext V3 y6 := ZS.trans hx; have RO := hid hro; clear hx ZS N1 hro; have N2 := trivial)
    | (have _ := N2; go_at_call 14; have ZS := (‹Ext V3 _ ∧ _›).1; refine (unify_any _ (RA3.out.later ZS) RO.out).mono ?_; rintro e y7 ⟨ul, ku, rfl, hul, hx⟩; have Z5 : Ext V3 y7 := ZS.trans hx; rw [HO.out] at hul ⊢; have LU := hid hul; obtain ⟨ua, uc, rfl, hjunk⟩ := hul; clear hjunk hx ZS N2; have N3 := trivial))
  have ZV := hid Z5
  have Y5' := hid (Y3.out.trans Z5)
  clear Z4 Z5 N3
  obtain ⟨un, hun⟩ : ∃ un, (uniL o).length = un := ⟨_, rfl⟩
  rw [hun] at LU ⊢
  clear hun
  rcases T1.out with h30 | h314
  case inr =>
    subst h314
    have hno : o = none := by
      cases o with
      | none => rfl
      | some oo => have h := T2.out; simp at h
    have hN : uniN o = 14 := by rw [hno]; rfl
    rw [hN]
    clear hno hN
    go_wp2_with fail
    go_ret
    exact ⟨rfl, XM.out.trans Y5'.out⟩
  case inl =>
  subst h30
  have hso : o.isSome = true := by have h := T2.out; simpa using h.symm
  have hN : uniN o = 0 := by unfold uniN; rw [if_pos hso]
  rw [hN]
  clear hN hso
  obtain ⟨_, a0, a1, _⟩ := HC16.out y7 ZV.out
  have RA7 := hid (RA3.out.later ZV.out)
  go_wp2_with fail
  go_at_call 21
  refine (list_any y7 RA7.out).mono ?_
  rintro e y8 ⟨vl, rfl, hrl, hx⟩
  have Z8 := hid (show Ext V3 y8 from ZV.out.trans hx)
  have AP := hid (apply_any y8 hrl (LU.out.later hx))
  clear hx a0 a1 hrl
  go_wp2_with fail
  go_at_call 16
  refine AP.out.mono ?_
  rintro e u6 ⟨r6, k6, rfl, hr6, hx⟩
  obtain ⟨wa, wc, rfl⟩ := hr6.shape
  obtain ⟨nw, hnw⟩ : ∃ nw, S.name (apS (.node wList [(ofS p).2]) (uniL o)).2 = nw := ⟨_, rfl⟩
  obtain ⟨kw, hkw⟩ : ∃ kw, (S.kids (apS (.node wList [(ofS p).2]) (uniL o)).2).length = kw := ⟨_, rfl⟩
  obtain ⟨E6, hE6⟩ : ∃ E6, (apS (.node wList [(ofS p).2]) (uniL o)).1 = E6 := ⟨_, rfl⟩
  rw [hnw, hkw] at hr6 ⊢
  rw [hE6]
  have HE6 := hid hE6
  obtain ⟨V6, hV6⟩ : ∃ V, u6.alloc (.cells #[.string nw, .slice wa kw wc] 27) = V := ⟨_, rfl⟩
  have Z6c := hid (show Ext V3 V6 from hV6 ▸ Z8.out.trans (hx.trans (Ext.alloc _ _)))
  have Y6 := hid (Y3.out.trans Z6c.out)
  have HW1 := hid (show V6.heap[u6.heap.size]? = some (.cells #[.string nw, .slice wa kw wc] 27) from hV6 ▸ blk0 _ _)
  have RW := hid (hr6.later (hV6 ▸ Ext.alloc _ _ : Ext u6 V6))
  have RL6 := hid (RL3.out.later Z6c.out)
  clear hx hr6 hnw hkw hE6
  by_cases z6 : E6 = 0
  case neg =>
    obtain ⟨n1', n2'⟩ := ne_zero' z6
    clear z6
    go_wp2_with fail
    clear hV6
    go_quiet (fail)
    go_wp2_with fail
    go_ret
    exact ⟨rfl, XM.out.trans (Y6.out.drewN _)⟩
  case pos =>
  subst z6
  have HSM := hid (T3.out (by first | rfl | trivial) HE6.out)
  have HC22 := hid (show ∀ W', Ext V6 W' → (fun W' => Ext V6 W' ∧ W'.cell? ⟨u3.heap.size, 0, none⟩ = some (.string nl) ∧ W'.cell? ⟨u3.heap.size, 1, none⟩ = some (.slice la kl lc) ∧ W'.cell? ⟨u6.heap.size, 0, none⟩ = some (.string nw) ∧ W'.cell? ⟨u6.heap.size, 1, none⟩ = some (.slice wa kw wc)) W' from fun W' X => ⟨X, cell_of (X.block (Z6c.out.block HL1.out)) rfl, cell_of (X.block (Z6c.out.block HL1.out)) rfl, cell_of (X.block HW1.out) rfl, cell_of (X.block HW1.out) rfl⟩)
  go_wp2_with fail
  clear hV6
  have N1 := trivial
  go_region_held3 (fun W' => Ext V6 W' ∧ W'.cell? ⟨u3.heap.size, 0, none⟩ = some (.string nl) ∧ W'.cell? ⟨u3.heap.size, 1, none⟩ = some (.slice la kl lc) ∧ W'.cell? ⟨u6.heap.size, 0, none⟩ = some (.string nw) ∧ W'.cell? ⟨u6.heap.size, 1, none⟩ = some (.slice wa kw wc)) (first
    | with_reducible exact HC22.out _ (Ext.refl _).drew
    | with_reducible exact HC22.out _ Z5
    | with_reducible exact HC22.out _ Z4) (first
    | (have _ := N1; go_at_call 22; have ZS := (‹Ext V6 _ ∧ _›).1; refine (first_any _ (RW.out.later ZS)).mono ?_; rintro e y9 ⟨vo, ko, rfl, hro, hx⟩; have Z4 : Ext V6 y9 := ZS.trans hx; have RO := hid hro; clear hx ZS N1 hro; have N2 := trivial)
    | (have _ := N2; go_at_call 12; have ZS := (‹Ext V6 _ ∧ _›).1; refine (sameS_any _ (RL6.out.later ZS) RO.out).mono ?_; rintro e y10 ⟨rfl, hx⟩; rw [HSM.out]; have Z5 : Ext V6 y10 := ZS.trans hx; clear hx ZS N2; have N3 := trivial))
  go_wp2_with fail
  go_ret
  exact ⟨rfl, XM.out.trans (Y6.out.trans Z5)⟩
end Go.Proofs.YtllbelglilkdpaaDoor
