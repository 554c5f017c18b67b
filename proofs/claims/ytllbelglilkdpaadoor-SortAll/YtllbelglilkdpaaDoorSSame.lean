/-
  shapesOf and Same of package sort, each by a contract.
-/
import Derived.Test.YtllbelglilkdpaaDoorSFace
import Derived.RegionTactic
import Derived.Deep.Cut
import Derived.Deep.RegionHeld3
import Derived.WalkSpells
namespace Go.Proofs.YtllbelglilkdpaaDoor
open Go.RowKit
theorem shapeV_some {t : S} {n : Nat} {x : ByteArray} (h : shp t = some (n, x)) : shpV (shp t) = .tuple #[.agg #[.int .i64 n, .string x], .int .i64 0] := by rw [h]; rfl
theorem shapeV_none {t : S} (h : shp t = none) : shpV (shp t) = .tuple #[.agg #[.int .i64 0, .string ⟨#[]⟩], .int .i64 14] := by rw [h]; rfl
set_option maxRecDepth 100000 in
set_option maxHeartbeats 2000000 in
theorem shapesOf_any {K K' : Nat → Prop} {d d' : Nat} {v v' : Value} {t u : S} (w : World) (hr : SRd K w d v t) (hr' : SRd K' w d' v' u) : Calls Tryd.prog 38 #[v, v'] w fun e w' => e = .returned (shsV t u) ∧ Ext w w' := by
  obtain ⟨a, c, rfl⟩ := hr.shape
  obtain ⟨a', c', rfl⟩ := hr'.shape
  have C1 := hid (fun w1 (h : Ext w w1) => shapeOf_any w1 (hr.later h))
  have C2 := hid (fun w1 (h : Ext w w1) => shapeOf_any w1 (hr'.later h))
  obtain ⟨ans, hans⟩ : ∃ ans, shsV t u = ans := ⟨_, rfl⟩
  rw [hans]
  clear hr hr'
  obtain ⟨U, hU⟩ : ∃ U, (((w.alloc (.cells #[.string t.name, .slice a t.kids.length c] 27)).alloc (.cells #[.string u.name, .slice a' u.kids.length c'] 27)).alloc (.cells #[.int .i64 0, .string ⟨#[]⟩] 58)).alloc (.cells #[.int .i64 0, .string ⟨#[]⟩] 58) = U := ⟨_, rfl⟩
  have HXU := hid (show Ext w U from hU ▸ ((Ext.alloc2 _ _ _).trans (Ext.alloc2 _ _ _)))
  have HB1 := hid (show U.heap[w.heap.size + 1]? = some (.cells #[.string u.name, .slice a' u.kids.length c'] 27) from hU ▸ blkOld _ (blkOld _ (blk1 _ _ _)))
  have HB2 := hid (show U.heap[w.heap.size + 1 + 1]? = some (.cells #[.int .i64 0, .string ⟨#[]⟩] 58) from hU ▸ blkOld _ (blkN (by rw [blkS, blkS])))
  have HB3 := hid (show U.heap[w.heap.size + 1 + 1 + 1]? = some (.cells #[.int .i64 0, .string ⟨#[]⟩] 58) from hU ▸ blkN (by rw [blkS, blkS, blkS]))
  have HB0 := hid (show U.heap[w.heap.size]? = some (.cells #[.string t.name, .slice a t.kids.length c] 27) from hU ▸ blkOld _ (blkOld _ (blkOld _ (blk0 _ _))))
  obtain ⟨t0, t1⟩ := two_of HB0.out
  cases h1 : shp t with
  | none =>
    have HA := hid (show ans = .tuple #[.agg #[.int .i64 0, .string ⟨#[]⟩], .agg #[.int .i64 0, .string ⟨#[]⟩], .int .i64 14] by rw [← hans]; unfold shsV; rw [h1])
    rw [shapeV_none h1] at C1
    clear h1 hans C2
    generalize t.name = nt at *
    generalize t.kids.length = kt at *
    generalize u.name = nu at *
    generalize u.kids.length = ku at *
    go_enter Tryd.func38, Tryd.ntmps38
    go_wp2_with fail
    clear hU
    refine (C1.out U HXU.out).mono ?_
    rintro e w1 ⟨rfl, hx1⟩
    have HX1 := hid (HXU.out.trans hx1)
    have HM2 := hid (hx1.block HB2.out)
    have HM3 := hid (hx1.block HB3.out)
    have HM1 := hid (hx1.block HB1.out)
    clear hx1 t0 t1 HB0 HB1 HB2 HB3
    obtain ⟨r0, r1⟩ := two_of HM2.out
    obtain ⟨e0, e1⟩ := two_free HM2.out
    go_upto_region 2 with fail
    have k2 := Kp.set2 w1 (w.heap.size + 1 + 1) 0 (.int .i64 0) (.string ⟨#[]⟩)
    have HD2 := hid (two_set (u0 := .int .i64 0) (u1 := .string ⟨#[]⟩) HM2.out)
    have HD3 := hid (k2.block' HM3.out (by omega))
    have HD1 := hid (k2.block' HM1.out (by omega))
    have HX2 := hid (Kp.ext ((HX1.out.kp _).trans k2) (fun q hq => by show q ≠ w.heap.size + 1 + 1; omega))
    clear r0 r1 e0 e1 k2 HM1 HM2 HM3
    generalize (w1.setCell ⟨w.heap.size + 1 + 1, 0, none⟩ (.int .i64 0)).setCell ⟨w.heap.size + 1 + 1, 1, none⟩ (.string ⟨#[]⟩) = w2 at *
    obtain ⟨r0, r1⟩ := two_of HD2.out
    obtain ⟨e0, e1⟩ := two_free HD2.out
    obtain ⟨s0, s1⟩ := two_of HD3.out
    obtain ⟨f0, f1⟩ := two_free HD3.out
    have hne : w.heap.size + 1 + 1 ≠ w.heap.size + 1 + 1 + 1 := by omega
    have hne2 : w.heap.size + 1 + 1 + 1 ≠ w.heap.size + 1 + 1 := by omega
    go_wp2_with fail
    go_region
    all_goals
      go_wp2_with fail
      have k2 := Kp.set2 w2 (w.heap.size + 1 + 1) 0 (.int .i64 0) (.string ⟨#[]⟩)
      have b2 := two_set (u0 := .int .i64 0) (u1 := .string ⟨#[]⟩) HD2.out
      have b3 := k2.block' HD3.out (by omega)
      have k3 := Kp.set2 ((w2.setCell ⟨w.heap.size + 1 + 1, 0, none⟩ (.int .i64 0)).setCell ⟨w.heap.size + 1 + 1, 1, none⟩ (.string ⟨#[]⟩)) (w.heap.size + 1 + 1 + 1) 0 (.int .i64 0) (.string ⟨#[]⟩)
      obtain ⟨z0, z1⟩ := two_of (k3.block' b2 (by omega))
      obtain ⟨y0, y1⟩ := two_of (two_set (u0 := .int .i64 0) (u1 := .string ⟨#[]⟩) b3)
      refine bodyPost_ret (v := .tuple #[.agg #[.int .i64 0, .string ⟨#[]⟩], .agg #[.int .i64 0, .string ⟨#[]⟩], .int .i64 14]) (by simp [results, Tryd.results38, go_sem, z0, z1, y0, y1]) rfl ?_
      have X4 := Kp.ext (((HX2.out.kp (fun q => q ≠ w.heap.size + 1 + 1 ∧ q ≠ w.heap.size + 1 + 1 + 1)).trans (k2.mono (fun q _ h => h.1))).trans (k3.mono (fun q _ h => h.2))) (fun q hq => ⟨by omega, by omega⟩)
      first
        | exact ⟨by rw [HA.out], X4⟩
        | exact ⟨by rw [HA.out], X4.drewN _⟩
        | exact ⟨by rw [HA.out], X4.drew⟩
  | some y =>
    obtain ⟨n, x⟩ := y
    cases h2 : shp u with
    | none =>
      have HA := hid (show ans = .tuple #[.agg #[.int .i64 n, .string x], .agg #[.int .i64 0, .string ⟨#[]⟩], .int .i64 14] by rw [← hans]; unfold shsV; rw [h1, h2])
      rw [shapeV_some h1] at C1
      rw [shapeV_none h2] at C2
      clear h1 h2 hans
      generalize t.name = nt at *
      generalize t.kids.length = kt at *
      generalize u.name = nu at *
      generalize u.kids.length = ku at *
      go_enter Tryd.func38, Tryd.ntmps38
      go_wp2_with fail
      clear hU
      refine (C1.out U HXU.out).mono ?_
      rintro e w1 ⟨rfl, hx1⟩
      have HX1 := hid (HXU.out.trans hx1)
      have HM2 := hid (hx1.block HB2.out)
      have HM3 := hid (hx1.block HB3.out)
      have HM1 := hid (hx1.block HB1.out)
      clear hx1 t0 t1 HB0 HB1 HB2 HB3
      obtain ⟨r0, r1⟩ := two_of HM2.out
      obtain ⟨e0, e1⟩ := two_free HM2.out
      go_upto_region 2 with fail
      have k2 := Kp.set2 w1 (w.heap.size + 1 + 1) 0 (.int .i64 n) (.string x)
      have HD2 := hid (two_set (u0 := .int .i64 n) (u1 := .string x) HM2.out)
      have HD3 := hid (k2.block' HM3.out (by omega))
      have HD1 := hid (k2.block' HM1.out (by omega))
      have HX2 := hid (Kp.ext ((HX1.out.kp _).trans k2) (fun q hq => by show q ≠ w.heap.size + 1 + 1; omega))
      clear r0 r1 e0 e1 k2 HM1 HM2 HM3
      generalize (w1.setCell ⟨w.heap.size + 1 + 1, 0, none⟩ (.int .i64 n)).setCell ⟨w.heap.size + 1 + 1, 1, none⟩ (.string x) = w2 at *
      obtain ⟨q0, q1⟩ := two_of HD1.out
      go_wp2_with fail
      refine (C2.out w2 HX2.out).mono ?_
      rintro e w3 ⟨rfl, hx3⟩
      have HX3 := hid (HX2.out.trans hx3)
      have HE2 := hid (hx3.block HD2.out)
      have HE3 := hid (hx3.block HD3.out)
      clear hx3 q0 q1 HD1 HD2 HD3
      obtain ⟨r0, r1⟩ := two_of HE3.out
      obtain ⟨e0, e1⟩ := two_free HE3.out
      go_upto_region 4 with fail
      have k2 := Kp.set2 w3 (w.heap.size + 1 + 1 + 1) 0 (.int .i64 0) (.string ⟨#[]⟩)
      have HF3 := hid (two_set (u0 := .int .i64 0) (u1 := .string ⟨#[]⟩) HE3.out)
      have HF2 := hid (k2.block' HE2.out (by omega))
      have HX4 := hid (Kp.ext ((HX3.out.kp _).trans k2) (fun q hq => by show q ≠ w.heap.size + 1 + 1 + 1; omega))
      clear r0 r1 e0 e1 k2 HE2 HE3
      generalize (w3.setCell ⟨w.heap.size + 1 + 1 + 1, 0, none⟩ (.int .i64 0)).setCell ⟨w.heap.size + 1 + 1 + 1, 1, none⟩ (.string ⟨#[]⟩) = w4 at *
      obtain ⟨r0, r1⟩ := two_of HF2.out
      obtain ⟨e0, e1⟩ := two_free HF2.out
      obtain ⟨s0, s1⟩ := two_of HF3.out
      obtain ⟨f0, f1⟩ := two_free HF3.out
      have hne : w.heap.size + 1 + 1 ≠ w.heap.size + 1 + 1 + 1 := by omega
      have hne2 : w.heap.size + 1 + 1 + 1 ≠ w.heap.size + 1 + 1 := by omega
      go_wp2_with fail
      go_region
      all_goals
        go_wp2_with fail
        have k2 := Kp.set2 w4 (w.heap.size + 1 + 1) 0 (.int .i64 n) (.string x)
        have b2 := two_set (u0 := .int .i64 n) (u1 := .string x) HF2.out
        have b3 := k2.block' HF3.out (by omega)
        have k3 := Kp.set2 ((w4.setCell ⟨w.heap.size + 1 + 1, 0, none⟩ (.int .i64 n)).setCell ⟨w.heap.size + 1 + 1, 1, none⟩ (.string x)) (w.heap.size + 1 + 1 + 1) 0 (.int .i64 0) (.string ⟨#[]⟩)
        obtain ⟨z0, z1⟩ := two_of (k3.block' b2 (by omega))
        obtain ⟨y0, y1⟩ := two_of (two_set (u0 := .int .i64 0) (u1 := .string ⟨#[]⟩) b3)
        refine bodyPost_ret (v := .tuple #[.agg #[.int .i64 n, .string x], .agg #[.int .i64 0, .string ⟨#[]⟩], .int .i64 14]) (by simp [results, Tryd.results38, go_sem, z0, z1, y0, y1]) rfl ?_
        have X4 := Kp.ext (((HX4.out.kp (fun q => q ≠ w.heap.size + 1 + 1 ∧ q ≠ w.heap.size + 1 + 1 + 1)).trans (k2.mono (fun q _ h => h.1))).trans (k3.mono (fun q _ h => h.2))) (fun q hq => ⟨by omega, by omega⟩)
        first
          | exact ⟨by rw [HA.out], X4⟩
          | exact ⟨by rw [HA.out], X4.drewN _⟩
          | exact ⟨by rw [HA.out], X4.drew⟩
    | some z =>
      obtain ⟨m, y⟩ := z
      have HA := hid (show ans = .tuple #[.agg #[.int .i64 n, .string x], .agg #[.int .i64 m, .string y], .int .i64 0] by rw [← hans]; unfold shsV; rw [h1, h2])
      rw [shapeV_some h1] at C1
      rw [shapeV_some h2] at C2
      clear h1 h2 hans
      generalize t.name = nt at *
      generalize t.kids.length = kt at *
      generalize u.name = nu at *
      generalize u.kids.length = ku at *
      go_enter Tryd.func38, Tryd.ntmps38
      go_wp2_with fail
      clear hU
      refine (C1.out U HXU.out).mono ?_
      rintro e w1 ⟨rfl, hx1⟩
      have HX1 := hid (HXU.out.trans hx1)
      have HM2 := hid (hx1.block HB2.out)
      have HM3 := hid (hx1.block HB3.out)
      have HM1 := hid (hx1.block HB1.out)
      clear hx1 t0 t1 HB0 HB1 HB2 HB3
      obtain ⟨r0, r1⟩ := two_of HM2.out
      obtain ⟨e0, e1⟩ := two_free HM2.out
      go_upto_region 2 with fail
      have k2 := Kp.set2 w1 (w.heap.size + 1 + 1) 0 (.int .i64 n) (.string x)
      have HD2 := hid (two_set (u0 := .int .i64 n) (u1 := .string x) HM2.out)
      have HD3 := hid (k2.block' HM3.out (by omega))
      have HD1 := hid (k2.block' HM1.out (by omega))
      have HX2 := hid (Kp.ext ((HX1.out.kp _).trans k2) (fun q hq => by show q ≠ w.heap.size + 1 + 1; omega))
      clear r0 r1 e0 e1 k2 HM1 HM2 HM3
      generalize (w1.setCell ⟨w.heap.size + 1 + 1, 0, none⟩ (.int .i64 n)).setCell ⟨w.heap.size + 1 + 1, 1, none⟩ (.string x) = w2 at *
      obtain ⟨q0, q1⟩ := two_of HD1.out
      go_wp2_with fail
      refine (C2.out w2 HX2.out).mono ?_
      rintro e w3 ⟨rfl, hx3⟩
      have HX3 := hid (HX2.out.trans hx3)
      have HE2 := hid (hx3.block HD2.out)
      have HE3 := hid (hx3.block HD3.out)
      clear hx3 q0 q1 HD1 HD2 HD3
      obtain ⟨r0, r1⟩ := two_of HE3.out
      obtain ⟨e0, e1⟩ := two_free HE3.out
      go_upto_region 4 with fail
      have k2 := Kp.set2 w3 (w.heap.size + 1 + 1 + 1) 0 (.int .i64 m) (.string y)
      have HF3 := hid (two_set (u0 := .int .i64 m) (u1 := .string y) HE3.out)
      have HF2 := hid (k2.block' HE2.out (by omega))
      have HX4 := hid (Kp.ext ((HX3.out.kp _).trans k2) (fun q hq => by show q ≠ w.heap.size + 1 + 1 + 1; omega))
      clear r0 r1 e0 e1 k2 HE2 HE3
      generalize (w3.setCell ⟨w.heap.size + 1 + 1 + 1, 0, none⟩ (.int .i64 m)).setCell ⟨w.heap.size + 1 + 1 + 1, 1, none⟩ (.string y) = w4 at *
      obtain ⟨r0, r1⟩ := two_of HF2.out
      obtain ⟨e0, e1⟩ := two_free HF2.out
      obtain ⟨s0, s1⟩ := two_of HF3.out
      obtain ⟨f0, f1⟩ := two_free HF3.out
      have hne : w.heap.size + 1 + 1 ≠ w.heap.size + 1 + 1 + 1 := by omega
      have hne2 : w.heap.size + 1 + 1 + 1 ≠ w.heap.size + 1 + 1 := by omega
      go_wp2_with fail
      go_region
      all_goals
        go_wp2_with fail
        have k2 := Kp.set2 w4 (w.heap.size + 1 + 1) 0 (.int .i64 n) (.string x)
        have b2 := two_set (u0 := .int .i64 n) (u1 := .string x) HF2.out
        have b3 := k2.block' HF3.out (by omega)
        have k3 := Kp.set2 ((w4.setCell ⟨w.heap.size + 1 + 1, 0, none⟩ (.int .i64 n)).setCell ⟨w.heap.size + 1 + 1, 1, none⟩ (.string x)) (w.heap.size + 1 + 1 + 1) 0 (.int .i64 m) (.string y)
        obtain ⟨z0, z1⟩ := two_of (k3.block' b2 (by omega))
        obtain ⟨y0, y1⟩ := two_of (two_set (u0 := .int .i64 m) (u1 := .string y) b3)
        refine bodyPost_ret (v := .tuple #[.agg #[.int .i64 n, .string x], .agg #[.int .i64 m, .string y], .int .i64 0]) (by simp [results, Tryd.results38, go_sem, z0, z1, y0, y1]) rfl ?_
        have X4 := Kp.ext (((HX4.out.kp (fun q => q ≠ w.heap.size + 1 + 1 ∧ q ≠ w.heap.size + 1 + 1 + 1)).trans (k2.mono (fun q _ h => h.1))).trans (k3.mono (fun q _ h => h.2))) (fun q hq => ⟨by omega, by omega⟩)
        first
          | exact ⟨by rw [HA.out], X4⟩
          | exact ⟨by rw [HA.out], X4.drewN _⟩
          | exact ⟨by rw [HA.out], X4.drew⟩
end Go.Proofs.YtllbelglilkdpaaDoor
