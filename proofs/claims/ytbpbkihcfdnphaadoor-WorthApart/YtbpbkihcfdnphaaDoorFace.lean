/-
  Of, Size, Same, Compare of package worth, each by a contract.
-/
import Derived.Test.YtbpbkihcfdnphaaDoorSz
import Derived.Test.YtbpbkihcfdnphaaDoorHolds
import Derived.Test.YtbpbkihcfdnphaaDoorValue
namespace Go.Proofs.YtbpbkihcfdnphaaDoor
open Go.RowKit
theorem four_of {w : World} {b : Nat} {v0 v1 v2 v3 : Value} {t : TypeId} (h : w.heap[b]? = some (.cells #[v0, v1, v2, v3] t)) : Four w b 0 v0 v1 v2 v3 := ⟨cell_of h rfl, cell_of h rfl, cell_of h rfl, cell_of h rfl⟩
theorem may_to {K : Nat → Prop} {d : Nat} {v : Value} {t : T} {w : World} (hr : Rd K w d v t) (b : Bool) (hb : decide t.may = b) (w1 : World) (hx : Ext w w1) : Calls Tryd.prog 15 #[v] w1 fun e w' => e = .returned (.bool b) ∧ Ext w1 w' := by
  have := may_any w1 (hr.later hx)
  rw [hb] at this
  exact this
/-- What Of answers. -/
def OfR (w : World) (d : Nat) (t : T) (e : Ending) (w' : World) : Prop := Ext w w' ∧ ((t.may ∧ ∃ u bs, e = .returned (.tuple #[u, .int .i64 0]) ∧ VOwn w' d u t bs ∧ (∀ b ∈ bs, w.heap.size ≤ b) ∧ bs.Nodup) ∨ (¬ t.may ∧ e = .returned (.tuple #[.nilIface, .int .i64 1])))
set_option maxRecDepth 100000 in
set_option maxHeartbeats 1000000 in
theorem of_any {K : Nat → Prop} {d : Nat} {v : Value} {t : T} (w : World) (hr : Rd K w d v t) : Calls Tryd.prog 21 #[v] w (OfR w d t) := by
  obtain ⟨u0, u1, u2, u3, rfl⟩ := hr.agg
  obtain ⟨k, n, x, a, c, rfl, rfl, rfl, rfl⟩ := hr.shape
  have HR := hid hr
  generalize t.kids.length = l at *
  by_cases hm : t.may
  · have HM := hid (may_to hr true (decide_eq_true hm))
    have HG := hid hm
    clear hr hm
    go_enter Tryd.func21, Tryd.ntmps21
    go_wp2_with fail
    refine (HM.out _ (Ext.alloc _ _)).mono ?_
    rintro e w1 ⟨rfl, hx1⟩
    obtain ⟨p0, p1, p2, p3⟩ := four_of (hx1.block (blk0 w _))
    have HX1 := hid ((Ext.alloc w _).trans hx1)
    clear hx1
    go_wp2_with fail
    refine (value_any d _ t K w1 (HR.out.later HX1.out) HG.out.1).mono ?_
    rintro e w2 ⟨u, bs, rfl, hx2, ho, hge, hnd⟩
    obtain ⟨τ, p, rfl⟩ := ho.rd.iface
    clear p0 p1 p2 p3
    have HO := hid ho
    have HX2 := hid (HX1.out.trans hx2)
    have HGE := hid hge
    clear ho hx2 hge
    go_wp2_with fail
    go_ret2
    exact ⟨HX2.out, .inl ⟨HG.out, _, bs, rfl, HO.out, fun b hb => Nat.le_trans HX1.out.size (HGE.out b hb), hnd⟩⟩
  · have HM := hid (may_to hr false (decide_eq_false hm))
    have HG := hid hm
    clear hr hm
    go_enter Tryd.func21, Tryd.ntmps21
    go_wp2_with fail
    refine (HM.out _ (Ext.alloc _ _)).mono ?_
    rintro e w1 ⟨rfl, hx1⟩
    have HX1 := hid ((Ext.alloc w _).trans hx1)
    clear hx1
    go_wp2_with fail
    go_ret2
    exact ⟨HX1.out, .inr ⟨HG.out, rfl⟩⟩
/-- What Size tells. -/
def sizeN (t : T) : Int := if t.may then t.size else 0
set_option maxRecDepth 100000 in
set_option maxHeartbeats 1000000 in
theorem sizeOf_any {K : Nat → Prop} {d : Nat} {v : Value} {t : T} (w : World) (hr : Rd K w d v t) : Calls Tryd.prog 16 #[v] w fun e w' => e = .returned (.int .i64 (sizeN t)) ∧ Ext w w' := by
  obtain ⟨u0, u1, u2, u3, rfl⟩ := hr.agg
  obtain ⟨k, n, x, a, c, rfl, rfl, rfl, rfl⟩ := hr.shape
  have HR := hid hr
  generalize t.kids.length = l at *
  by_cases hm : t.may
  · have HM := hid (may_to hr true (decide_eq_true hm))
    have HG := hid hm
    clear hr hm
    go_enter Tryd.func16, Tryd.ntmps16
    go_wp2_with fail
    refine (HM.out _ (Ext.alloc _ _)).mono ?_
    rintro e w1 ⟨rfl, hx1⟩
    obtain ⟨p0, p1, p2, p3⟩ := four_of (hx1.block (blk0 w _))
    have HX1 := hid ((Ext.alloc w _).trans hx1)
    clear hx1
    go_wp2_with fail
    refine (value_any d _ t K w1 (HR.out.later HX1.out) HG.out.1).mono ?_
    rintro e w2 ⟨u, bs, rfl, hx2, ho, hge, hnd⟩
    have HO := hid ho
    obtain ⟨τ, p, rfl⟩ := ho.rd.iface
    clear p0 p1 p2 p3
    have HX2 := hid (HX1.out.trans hx2)
    clear ho hx2 hge hnd
    go_wp2_with fail
    refine (size_any d _ t _ w2 HO.out.rd (by have := HG.out.2.1; omega)).mono ?_
    rintro e w3 ⟨rfl, rfl⟩
    go_wp2_with fail
    go_ret
    exact ⟨ret_int' (by rw [sizeN, if_pos HG.out]), HX2.out⟩
  · have HM := hid (may_to hr false (decide_eq_false hm))
    have HG := hid hm
    clear hr hm
    go_enter Tryd.func16, Tryd.ntmps16
    go_wp2_with fail
    refine (HM.out _ (Ext.alloc _ _)).mono ?_
    rintro e w1 ⟨rfl, hx1⟩
    have HX1 := hid ((Ext.alloc w _).trans hx1)
    clear hx1
    go_wp2_with fail
    go_ret
    exact ⟨ret_int' (by rw [sizeN, if_neg HG.out]), HX1.out⟩
def cmpN (t t' : T) : Int := if t.may then (if t'.may then T.cmp t t' else -1) else (if t'.may then 1 else 0)
set_option maxRecDepth 100000 in
set_option maxHeartbeats 4000000 in
theorem compareOf_any {K K' : Nat → Prop} {d d' : Nat} {v v' : Value} {t t' : T} (w : World) (hr : Rd K w d v t) (hr' : Rd K' w d' v' t') : Calls Tryd.prog 14 #[v, v'] w fun e w' => e = .returned (.int .i64 (cmpN t t')) ∧ Ext w w' := by
  obtain ⟨u0, u1, u2, u3, rfl⟩ := hr.agg
  obtain ⟨k, n, x, a, c, rfl, rfl, rfl, rfl⟩ := hr.shape
  obtain ⟨u0, u1, u2, u3, rfl⟩ := hr'.agg
  obtain ⟨k', n', x', a', c', rfl, rfl, rfl, rfl⟩ := hr'.shape
  have HR := hid hr
  have HR' := hid hr'
  generalize t.kids.length = l at *
  generalize t'.kids.length = l' at *
  by_cases hm : t.may
  · by_cases hm' : t'.may
    · have HM := hid (may_to hr true (decide_eq_true hm))
      have HM' := hid (may_to hr' true (decide_eq_true hm'))
      have HG := hid hm
      have HG' := hid hm'
      clear hr hr' hm hm'
      go_enter Tryd.func14, Tryd.ntmps14
      go_wp2_with fail
      obtain ⟨m00, m01, m02, m03⟩ := four_of (Ext.block (Ext.refl ((w.alloc (.cells #[.int .i64 k, .int .i64 n, .string x, .slice a l c] 24)).alloc (.cells #[.int .i64 k', .int .i64 n', .string x', .slice a' l' c'] 24))) (blkOld _ (blk0 w (.cells #[.int .i64 k, .int .i64 n, .string x, .slice a l c] 24)))); obtain ⟨m04, m05, m06, m07⟩ := four_of (Ext.block (Ext.refl ((w.alloc (.cells #[.int .i64 k, .int .i64 n, .string x, .slice a l c] 24)).alloc (.cells #[.int .i64 k', .int .i64 n', .string x', .slice a' l' c'] 24))) (blk1 w (.cells #[.int .i64 k, .int .i64 n, .string x, .slice a l c] 24) (.cells #[.int .i64 k', .int .i64 n', .string x', .slice a' l' c'] 24)))
      go_region_held3 (fun W' => W'.cell? ⟨w.heap.size, 0, none⟩ = some (.int .i64 k) ∧ W'.cell? ⟨w.heap.size, 1, none⟩ = some (.int .i64 n) ∧ W'.cell? ⟨w.heap.size, 2, none⟩ = some (.string x) ∧ W'.cell? ⟨w.heap.size, 3, none⟩ = some (.slice a l c) ∧ W'.cell? ⟨w.heap.size + 1, 0, none⟩ = some (.int .i64 k') ∧ W'.cell? ⟨w.heap.size + 1, 1, none⟩ = some (.int .i64 n') ∧ W'.cell? ⟨w.heap.size + 1, 2, none⟩ = some (.string x') ∧ W'.cell? ⟨w.heap.size + 1, 3, none⟩ = some (.slice a' l' c')) (first | exact ⟨m20, m21, m22, m23, m24, m25, m26, m27⟩ | exact ⟨m10, m11, m12, m13, m14, m15, m16, m17⟩ | exact ⟨m00, m01, m02, m03, m04, m05, m06, m07⟩ | go_keep) (first | (go_at_call 15; (fail_if_success (have g1 := s1)); refine (HM.out _ ((Ext.alloc2 _ _ _).trans (Ext.drew (Ext.refl _)))).mono ?_; rintro r v1 ⟨rfl, hv1⟩; skip; have Y1 : Ext ((w.alloc (.cells #[.int .i64 k, .int .i64 n, .string x, .slice a l c] 24)).alloc (.cells #[.int .i64 k', .int .i64 n', .string x', .slice a' l' c'] 24)) v1 := Ext.trans (Ext.drew (Ext.refl _)) hv1; have s1 : True := trivial; obtain ⟨m10, m11, m12, m13⟩ := four_of (Ext.block Y1 (blkOld _ (blk0 w (.cells #[.int .i64 k, .int .i64 n, .string x, .slice a l c] 24)))); obtain ⟨m14, m15, m16, m17⟩ := four_of (Ext.block Y1 (blk1 w (.cells #[.int .i64 k, .int .i64 n, .string x, .slice a l c] 24) (.cells #[.int .i64 k', .int .i64 n', .string x', .slice a' l' c'] 24)))) | (go_at_call 15; have g1 := s1; (fail_if_success (have g2 := s2)); refine (HM'.out _ ((Ext.alloc2 _ _ _).trans Y1)).mono ?_; rintro r v2 ⟨rfl, hv2⟩; skip; have Y2 : Ext ((w.alloc (.cells #[.int .i64 k, .int .i64 n, .string x, .slice a l c] 24)).alloc (.cells #[.int .i64 k', .int .i64 n', .string x', .slice a' l' c'] 24)) v2 := Ext.trans Y1 hv2; have s2 : True := trivial; obtain ⟨m20, m21, m22, m23⟩ := four_of (Ext.block Y2 (blkOld _ (blk0 w (.cells #[.int .i64 k, .int .i64 n, .string x, .slice a l c] 24)))); obtain ⟨m24, m25, m26, m27⟩ := four_of (Ext.block Y2 (blk1 w (.cells #[.int .i64 k, .int .i64 n, .string x, .slice a l c] 24) (.cells #[.int .i64 k', .int .i64 n', .string x', .slice a' l' c'] 24)))))
      clear m00 m01 m02 m03 m04 m05 m06 m07 m10 m11 m12 m13 m14 m15 m16 m17
      go_wp2_with fail
      clear s1 s2
      go_region_held3 (fun W' => W'.cell? ⟨w.heap.size, 0, none⟩ = some (.int .i64 k) ∧ W'.cell? ⟨w.heap.size, 1, none⟩ = some (.int .i64 n) ∧ W'.cell? ⟨w.heap.size, 2, none⟩ = some (.string x) ∧ W'.cell? ⟨w.heap.size, 3, none⟩ = some (.slice a l c) ∧ W'.cell? ⟨w.heap.size + 1, 0, none⟩ = some (.int .i64 k') ∧ W'.cell? ⟨w.heap.size + 1, 1, none⟩ = some (.int .i64 n') ∧ W'.cell? ⟨w.heap.size + 1, 2, none⟩ = some (.string x') ∧ W'.cell? ⟨w.heap.size + 1, 3, none⟩ = some (.slice a' l' c')) (first | exact ⟨m50, m51, m52, m53, m54, m55, m56, m57⟩ | exact ⟨m40, m41, m42, m43, m44, m45, m46, m47⟩ | exact ⟨m30, m31, m32, m33, m34, m35, m36, m37⟩ | exact ⟨m20, m21, m22, m23, m24, m25, m26, m27⟩ | exact ⟨m00, m01, m02, m03, m04, m05, m06, m07⟩ | go_keep) (first | (go_at_call 31; (fail_if_success (have g3 := s3)); refine (value_any d _ t K _ (HR.out.later ((Ext.alloc2 _ _ _).trans (Ext.drew Y2))) HG.out.1).mono ?_; rintro r v3 ⟨u1, bs1, rfl, hv3, ho1, hge1, hnd1⟩; obtain ⟨τ1, q1, rfl⟩ := ho1.rd.iface; have Y3 : Ext ((w.alloc (.cells #[.int .i64 k, .int .i64 n, .string x, .slice a l c] 24)).alloc (.cells #[.int .i64 k', .int .i64 n', .string x', .slice a' l' c'] 24)) v3 := Ext.trans (Ext.drew Y2) hv3; have s3 : True := trivial; obtain ⟨m30, m31, m32, m33⟩ := four_of (Ext.block Y3 (blkOld _ (blk0 w (.cells #[.int .i64 k, .int .i64 n, .string x, .slice a l c] 24)))); obtain ⟨m34, m35, m36, m37⟩ := four_of (Ext.block Y3 (blk1 w (.cells #[.int .i64 k, .int .i64 n, .string x, .slice a l c] 24) (.cells #[.int .i64 k', .int .i64 n', .string x', .slice a' l' c'] 24)))) | (go_at_call 31; have g3 := s3; (fail_if_success (have g4 := s4)); refine (value_any d' _ t' K' _ (HR'.out.later ((Ext.alloc2 _ _ _).trans Y3)) HG'.out.1).mono ?_; rintro r v4 ⟨u2, bs2, rfl, hv4, ho2, hge2, hnd2⟩; obtain ⟨τ2, q2, rfl⟩ := ho2.rd.iface; have Y4 : Ext ((w.alloc (.cells #[.int .i64 k, .int .i64 n, .string x, .slice a l c] 24)).alloc (.cells #[.int .i64 k', .int .i64 n', .string x', .slice a' l' c'] 24)) v4 := Ext.trans Y3 hv4; have s4 : True := trivial; obtain ⟨m40, m41, m42, m43⟩ := four_of (Ext.block Y4 (blkOld _ (blk0 w (.cells #[.int .i64 k, .int .i64 n, .string x, .slice a l c] 24)))); obtain ⟨m44, m45, m46, m47⟩ := four_of (Ext.block Y4 (blk1 w (.cells #[.int .i64 k, .int .i64 n, .string x, .slice a l c] 24) (.cells #[.int .i64 k', .int .i64 n', .string x', .slice a' l' c'] 24)))) | (go_at_call 34; have g3 := s3; have g4 := s4; (fail_if_success (have g5 := s5)); refine (compare_any d _ _ t t' _ _ _ d' (ho1.rd.later hv4) ho2.rd).mono ?_; rintro r v5 ⟨rfl, hv5⟩; skip; have Y5 : Ext ((w.alloc (.cells #[.int .i64 k, .int .i64 n, .string x, .slice a l c] 24)).alloc (.cells #[.int .i64 k', .int .i64 n', .string x', .slice a' l' c'] 24)) v5 := Ext.trans Y4 hv5; have s5 : True := trivial; obtain ⟨m50, m51, m52, m53⟩ := four_of (Ext.block Y5 (blkOld _ (blk0 w (.cells #[.int .i64 k, .int .i64 n, .string x, .slice a l c] 24)))); obtain ⟨m54, m55, m56, m57⟩ := four_of (Ext.block Y5 (blk1 w (.cells #[.int .i64 k, .int .i64 n, .string x, .slice a l c] 24) (.cells #[.int .i64 k', .int .i64 n', .string x', .slice a' l' c'] 24)))))
      go_wp2_with fail
      go_ret
      exact ⟨ret_int' (by rw [cmpN, if_pos HG.out, if_pos HG'.out]), (Ext.alloc2 w _ _).trans Y5⟩
    · have HM := hid (may_to hr true (decide_eq_true hm))
      have HM' := hid (may_to hr' false (decide_eq_false hm'))
      have HG := hid hm
      have HG' := hid hm'
      clear hr hr' hm hm'
      go_enter Tryd.func14, Tryd.ntmps14
      go_wp2_with fail
      obtain ⟨m00, m01, m02, m03⟩ := four_of (Ext.block (Ext.refl ((w.alloc (.cells #[.int .i64 k, .int .i64 n, .string x, .slice a l c] 24)).alloc (.cells #[.int .i64 k', .int .i64 n', .string x', .slice a' l' c'] 24))) (blkOld _ (blk0 w (.cells #[.int .i64 k, .int .i64 n, .string x, .slice a l c] 24)))); obtain ⟨m04, m05, m06, m07⟩ := four_of (Ext.block (Ext.refl ((w.alloc (.cells #[.int .i64 k, .int .i64 n, .string x, .slice a l c] 24)).alloc (.cells #[.int .i64 k', .int .i64 n', .string x', .slice a' l' c'] 24))) (blk1 w (.cells #[.int .i64 k, .int .i64 n, .string x, .slice a l c] 24) (.cells #[.int .i64 k', .int .i64 n', .string x', .slice a' l' c'] 24)))
      go_region_held3 (fun W' => W'.cell? ⟨w.heap.size, 0, none⟩ = some (.int .i64 k) ∧ W'.cell? ⟨w.heap.size, 1, none⟩ = some (.int .i64 n) ∧ W'.cell? ⟨w.heap.size, 2, none⟩ = some (.string x) ∧ W'.cell? ⟨w.heap.size, 3, none⟩ = some (.slice a l c) ∧ W'.cell? ⟨w.heap.size + 1, 0, none⟩ = some (.int .i64 k') ∧ W'.cell? ⟨w.heap.size + 1, 1, none⟩ = some (.int .i64 n') ∧ W'.cell? ⟨w.heap.size + 1, 2, none⟩ = some (.string x') ∧ W'.cell? ⟨w.heap.size + 1, 3, none⟩ = some (.slice a' l' c')) (first | exact ⟨m20, m21, m22, m23, m24, m25, m26, m27⟩ | exact ⟨m10, m11, m12, m13, m14, m15, m16, m17⟩ | exact ⟨m00, m01, m02, m03, m04, m05, m06, m07⟩ | go_keep) (first | (go_at_call 15; (fail_if_success (have g1 := s1)); refine (HM.out _ ((Ext.alloc2 _ _ _).trans (Ext.drew (Ext.refl _)))).mono ?_; rintro r v1 ⟨rfl, hv1⟩; skip; have Y1 : Ext ((w.alloc (.cells #[.int .i64 k, .int .i64 n, .string x, .slice a l c] 24)).alloc (.cells #[.int .i64 k', .int .i64 n', .string x', .slice a' l' c'] 24)) v1 := Ext.trans (Ext.drew (Ext.refl _)) hv1; have s1 : True := trivial; obtain ⟨m10, m11, m12, m13⟩ := four_of (Ext.block Y1 (blkOld _ (blk0 w (.cells #[.int .i64 k, .int .i64 n, .string x, .slice a l c] 24)))); obtain ⟨m14, m15, m16, m17⟩ := four_of (Ext.block Y1 (blk1 w (.cells #[.int .i64 k, .int .i64 n, .string x, .slice a l c] 24) (.cells #[.int .i64 k', .int .i64 n', .string x', .slice a' l' c'] 24)))) | (go_at_call 15; have g1 := s1; (fail_if_success (have g2 := s2)); refine (HM'.out _ ((Ext.alloc2 _ _ _).trans Y1)).mono ?_; rintro r v2 ⟨rfl, hv2⟩; skip; have Y2 : Ext ((w.alloc (.cells #[.int .i64 k, .int .i64 n, .string x, .slice a l c] 24)).alloc (.cells #[.int .i64 k', .int .i64 n', .string x', .slice a' l' c'] 24)) v2 := Ext.trans Y1 hv2; have s2 : True := trivial; obtain ⟨m20, m21, m22, m23⟩ := four_of (Ext.block Y2 (blkOld _ (blk0 w (.cells #[.int .i64 k, .int .i64 n, .string x, .slice a l c] 24)))); obtain ⟨m24, m25, m26, m27⟩ := four_of (Ext.block Y2 (blk1 w (.cells #[.int .i64 k, .int .i64 n, .string x, .slice a l c] 24) (.cells #[.int .i64 k', .int .i64 n', .string x', .slice a' l' c'] 24)))))
      clear m00 m01 m02 m03 m04 m05 m06 m07 m10 m11 m12 m13 m14 m15 m16 m17
      go_wp2_with fail
      go_ret
      exact ⟨ret_int' (by rw [cmpN, if_pos HG.out, if_neg HG'.out]), (Ext.alloc2 w _ _).trans Y2⟩
  · by_cases hm' : t'.may
    · have HM := hid (may_to hr false (decide_eq_false hm))
      have HM' := hid (may_to hr' true (decide_eq_true hm'))
      have HG := hid hm
      have HG' := hid hm'
      clear hr hr' hm hm'
      go_enter Tryd.func14, Tryd.ntmps14
      go_wp2_with fail
      obtain ⟨m00, m01, m02, m03⟩ := four_of (Ext.block (Ext.refl ((w.alloc (.cells #[.int .i64 k, .int .i64 n, .string x, .slice a l c] 24)).alloc (.cells #[.int .i64 k', .int .i64 n', .string x', .slice a' l' c'] 24))) (blkOld _ (blk0 w (.cells #[.int .i64 k, .int .i64 n, .string x, .slice a l c] 24)))); obtain ⟨m04, m05, m06, m07⟩ := four_of (Ext.block (Ext.refl ((w.alloc (.cells #[.int .i64 k, .int .i64 n, .string x, .slice a l c] 24)).alloc (.cells #[.int .i64 k', .int .i64 n', .string x', .slice a' l' c'] 24))) (blk1 w (.cells #[.int .i64 k, .int .i64 n, .string x, .slice a l c] 24) (.cells #[.int .i64 k', .int .i64 n', .string x', .slice a' l' c'] 24)))
      go_region_held3 (fun W' => W'.cell? ⟨w.heap.size, 0, none⟩ = some (.int .i64 k) ∧ W'.cell? ⟨w.heap.size, 1, none⟩ = some (.int .i64 n) ∧ W'.cell? ⟨w.heap.size, 2, none⟩ = some (.string x) ∧ W'.cell? ⟨w.heap.size, 3, none⟩ = some (.slice a l c) ∧ W'.cell? ⟨w.heap.size + 1, 0, none⟩ = some (.int .i64 k') ∧ W'.cell? ⟨w.heap.size + 1, 1, none⟩ = some (.int .i64 n') ∧ W'.cell? ⟨w.heap.size + 1, 2, none⟩ = some (.string x') ∧ W'.cell? ⟨w.heap.size + 1, 3, none⟩ = some (.slice a' l' c')) (first | exact ⟨m20, m21, m22, m23, m24, m25, m26, m27⟩ | exact ⟨m10, m11, m12, m13, m14, m15, m16, m17⟩ | exact ⟨m00, m01, m02, m03, m04, m05, m06, m07⟩ | go_keep) (first | (go_at_call 15; (fail_if_success (have g1 := s1)); refine (HM.out _ ((Ext.alloc2 _ _ _).trans (Ext.drew (Ext.refl _)))).mono ?_; rintro r v1 ⟨rfl, hv1⟩; skip; have Y1 : Ext ((w.alloc (.cells #[.int .i64 k, .int .i64 n, .string x, .slice a l c] 24)).alloc (.cells #[.int .i64 k', .int .i64 n', .string x', .slice a' l' c'] 24)) v1 := Ext.trans (Ext.drew (Ext.refl _)) hv1; have s1 : True := trivial; obtain ⟨m10, m11, m12, m13⟩ := four_of (Ext.block Y1 (blkOld _ (blk0 w (.cells #[.int .i64 k, .int .i64 n, .string x, .slice a l c] 24)))); obtain ⟨m14, m15, m16, m17⟩ := four_of (Ext.block Y1 (blk1 w (.cells #[.int .i64 k, .int .i64 n, .string x, .slice a l c] 24) (.cells #[.int .i64 k', .int .i64 n', .string x', .slice a' l' c'] 24)))) | (go_at_call 15; have g1 := s1; (fail_if_success (have g2 := s2)); refine (HM'.out _ ((Ext.alloc2 _ _ _).trans Y1)).mono ?_; rintro r v2 ⟨rfl, hv2⟩; skip; have Y2 : Ext ((w.alloc (.cells #[.int .i64 k, .int .i64 n, .string x, .slice a l c] 24)).alloc (.cells #[.int .i64 k', .int .i64 n', .string x', .slice a' l' c'] 24)) v2 := Ext.trans Y1 hv2; have s2 : True := trivial; obtain ⟨m20, m21, m22, m23⟩ := four_of (Ext.block Y2 (blkOld _ (blk0 w (.cells #[.int .i64 k, .int .i64 n, .string x, .slice a l c] 24)))); obtain ⟨m24, m25, m26, m27⟩ := four_of (Ext.block Y2 (blk1 w (.cells #[.int .i64 k, .int .i64 n, .string x, .slice a l c] 24) (.cells #[.int .i64 k', .int .i64 n', .string x', .slice a' l' c'] 24)))))
      clear m00 m01 m02 m03 m04 m05 m06 m07 m10 m11 m12 m13 m14 m15 m16 m17
      go_wp2_with fail
      go_ret
      exact ⟨ret_int' (by rw [cmpN, if_neg HG.out, if_pos HG'.out]), (Ext.alloc2 w _ _).trans Y2⟩
    · have HM := hid (may_to hr false (decide_eq_false hm))
      have HM' := hid (may_to hr' false (decide_eq_false hm'))
      have HG := hid hm
      have HG' := hid hm'
      clear hr hr' hm hm'
      go_enter Tryd.func14, Tryd.ntmps14
      go_wp2_with fail
      obtain ⟨m00, m01, m02, m03⟩ := four_of (Ext.block (Ext.refl ((w.alloc (.cells #[.int .i64 k, .int .i64 n, .string x, .slice a l c] 24)).alloc (.cells #[.int .i64 k', .int .i64 n', .string x', .slice a' l' c'] 24))) (blkOld _ (blk0 w (.cells #[.int .i64 k, .int .i64 n, .string x, .slice a l c] 24)))); obtain ⟨m04, m05, m06, m07⟩ := four_of (Ext.block (Ext.refl ((w.alloc (.cells #[.int .i64 k, .int .i64 n, .string x, .slice a l c] 24)).alloc (.cells #[.int .i64 k', .int .i64 n', .string x', .slice a' l' c'] 24))) (blk1 w (.cells #[.int .i64 k, .int .i64 n, .string x, .slice a l c] 24) (.cells #[.int .i64 k', .int .i64 n', .string x', .slice a' l' c'] 24)))
      go_region_held3 (fun W' => W'.cell? ⟨w.heap.size, 0, none⟩ = some (.int .i64 k) ∧ W'.cell? ⟨w.heap.size, 1, none⟩ = some (.int .i64 n) ∧ W'.cell? ⟨w.heap.size, 2, none⟩ = some (.string x) ∧ W'.cell? ⟨w.heap.size, 3, none⟩ = some (.slice a l c) ∧ W'.cell? ⟨w.heap.size + 1, 0, none⟩ = some (.int .i64 k') ∧ W'.cell? ⟨w.heap.size + 1, 1, none⟩ = some (.int .i64 n') ∧ W'.cell? ⟨w.heap.size + 1, 2, none⟩ = some (.string x') ∧ W'.cell? ⟨w.heap.size + 1, 3, none⟩ = some (.slice a' l' c')) (first | exact ⟨m20, m21, m22, m23, m24, m25, m26, m27⟩ | exact ⟨m10, m11, m12, m13, m14, m15, m16, m17⟩ | exact ⟨m00, m01, m02, m03, m04, m05, m06, m07⟩ | go_keep) (first | (go_at_call 15; (fail_if_success (have g1 := s1)); refine (HM.out _ ((Ext.alloc2 _ _ _).trans (Ext.drew (Ext.refl _)))).mono ?_; rintro r v1 ⟨rfl, hv1⟩; skip; have Y1 : Ext ((w.alloc (.cells #[.int .i64 k, .int .i64 n, .string x, .slice a l c] 24)).alloc (.cells #[.int .i64 k', .int .i64 n', .string x', .slice a' l' c'] 24)) v1 := Ext.trans (Ext.drew (Ext.refl _)) hv1; have s1 : True := trivial; obtain ⟨m10, m11, m12, m13⟩ := four_of (Ext.block Y1 (blkOld _ (blk0 w (.cells #[.int .i64 k, .int .i64 n, .string x, .slice a l c] 24)))); obtain ⟨m14, m15, m16, m17⟩ := four_of (Ext.block Y1 (blk1 w (.cells #[.int .i64 k, .int .i64 n, .string x, .slice a l c] 24) (.cells #[.int .i64 k', .int .i64 n', .string x', .slice a' l' c'] 24)))) | (go_at_call 15; have g1 := s1; (fail_if_success (have g2 := s2)); refine (HM'.out _ ((Ext.alloc2 _ _ _).trans Y1)).mono ?_; rintro r v2 ⟨rfl, hv2⟩; skip; have Y2 : Ext ((w.alloc (.cells #[.int .i64 k, .int .i64 n, .string x, .slice a l c] 24)).alloc (.cells #[.int .i64 k', .int .i64 n', .string x', .slice a' l' c'] 24)) v2 := Ext.trans Y1 hv2; have s2 : True := trivial; obtain ⟨m20, m21, m22, m23⟩ := four_of (Ext.block Y2 (blkOld _ (blk0 w (.cells #[.int .i64 k, .int .i64 n, .string x, .slice a l c] 24)))); obtain ⟨m24, m25, m26, m27⟩ := four_of (Ext.block Y2 (blk1 w (.cells #[.int .i64 k, .int .i64 n, .string x, .slice a l c] 24) (.cells #[.int .i64 k', .int .i64 n', .string x', .slice a' l' c'] 24)))))
      clear m00 m01 m02 m03 m04 m05 m06 m07 m10 m11 m12 m13 m14 m15 m16 m17
      go_wp2_with fail
      go_ret
      exact ⟨ret_int' (by rw [cmpN, if_neg HG.out, if_neg HG'.out]), (Ext.alloc2 w _ _).trans Y2⟩
def sameN (t t' : T) : Bool := decide t.may && decide t'.may && decide (T.cmp t t' = 0)
set_option maxRecDepth 100000 in
set_option maxHeartbeats 4000000 in
theorem sameOf_any {K K' : Nat → Prop} {d d' : Nat} {v v' : Value} {t t' : T} (w : World) (hr : Rd K w d v t) (hr' : Rd K' w d' v' t') : Calls Tryd.prog 12 #[v, v'] w fun e w' => e = .returned (.bool (sameN t t')) ∧ Ext w w' := by
  obtain ⟨u0, u1, u2, u3, rfl⟩ := hr.agg
  obtain ⟨k, n, x, a, c, rfl, rfl, rfl, rfl⟩ := hr.shape
  obtain ⟨u0, u1, u2, u3, rfl⟩ := hr'.agg
  obtain ⟨k', n', x', a', c', rfl, rfl, rfl, rfl⟩ := hr'.shape
  have HR := hid hr
  have HR' := hid hr'
  generalize t.kids.length = l at *
  generalize t'.kids.length = l' at *
  by_cases hm : t.may
  · by_cases hm' : t'.may
    · have HM := hid (may_to hr true (decide_eq_true hm))
      have HM' := hid (may_to hr' true (decide_eq_true hm'))
      have HG := hid hm
      have HG' := hid hm'
      clear hr hr' hm hm'
      go_enter Tryd.func12, Tryd.ntmps12
      go_wp2_with fail
      obtain ⟨m00, m01, m02, m03⟩ := four_of (Ext.block (Ext.refl ((w.alloc (.cells #[.int .i64 k, .int .i64 n, .string x, .slice a l c] 24)).alloc (.cells #[.int .i64 k', .int .i64 n', .string x', .slice a' l' c'] 24))) (blkOld _ (blk0 w (.cells #[.int .i64 k, .int .i64 n, .string x, .slice a l c] 24)))); obtain ⟨m04, m05, m06, m07⟩ := four_of (Ext.block (Ext.refl ((w.alloc (.cells #[.int .i64 k, .int .i64 n, .string x, .slice a l c] 24)).alloc (.cells #[.int .i64 k', .int .i64 n', .string x', .slice a' l' c'] 24))) (blk1 w (.cells #[.int .i64 k, .int .i64 n, .string x, .slice a l c] 24) (.cells #[.int .i64 k', .int .i64 n', .string x', .slice a' l' c'] 24)))
      go_region_held3 (fun W' => W'.cell? ⟨w.heap.size, 0, none⟩ = some (.int .i64 k) ∧ W'.cell? ⟨w.heap.size, 1, none⟩ = some (.int .i64 n) ∧ W'.cell? ⟨w.heap.size, 2, none⟩ = some (.string x) ∧ W'.cell? ⟨w.heap.size, 3, none⟩ = some (.slice a l c) ∧ W'.cell? ⟨w.heap.size + 1, 0, none⟩ = some (.int .i64 k') ∧ W'.cell? ⟨w.heap.size + 1, 1, none⟩ = some (.int .i64 n') ∧ W'.cell? ⟨w.heap.size + 1, 2, none⟩ = some (.string x') ∧ W'.cell? ⟨w.heap.size + 1, 3, none⟩ = some (.slice a' l' c')) (first | exact ⟨m50, m51, m52, m53, m54, m55, m56, m57⟩ | exact ⟨m40, m41, m42, m43, m44, m45, m46, m47⟩ | exact ⟨m30, m31, m32, m33, m34, m35, m36, m37⟩ | exact ⟨m20, m21, m22, m23, m24, m25, m26, m27⟩ | exact ⟨m10, m11, m12, m13, m14, m15, m16, m17⟩ | exact ⟨m00, m01, m02, m03, m04, m05, m06, m07⟩ | go_keep) (first | (go_at_call 15; (fail_if_success (have g1 := s1)); refine (HM.out _ ((Ext.alloc2 _ _ _).trans (Ext.drew (Ext.refl _)))).mono ?_; rintro r v1 ⟨rfl, hv1⟩; skip; have Y1 : Ext ((w.alloc (.cells #[.int .i64 k, .int .i64 n, .string x, .slice a l c] 24)).alloc (.cells #[.int .i64 k', .int .i64 n', .string x', .slice a' l' c'] 24)) v1 := Ext.trans (Ext.drew (Ext.refl _)) hv1; have s1 : True := trivial; obtain ⟨m10, m11, m12, m13⟩ := four_of (Ext.block Y1 (blkOld _ (blk0 w (.cells #[.int .i64 k, .int .i64 n, .string x, .slice a l c] 24)))); obtain ⟨m14, m15, m16, m17⟩ := four_of (Ext.block Y1 (blk1 w (.cells #[.int .i64 k, .int .i64 n, .string x, .slice a l c] 24) (.cells #[.int .i64 k', .int .i64 n', .string x', .slice a' l' c'] 24)))) | (go_at_call 15; have g1 := s1; (fail_if_success (have g2 := s2)); refine (HM'.out _ ((Ext.alloc2 _ _ _).trans Y1)).mono ?_; rintro r v2 ⟨rfl, hv2⟩; skip; have Y2 : Ext ((w.alloc (.cells #[.int .i64 k, .int .i64 n, .string x, .slice a l c] 24)).alloc (.cells #[.int .i64 k', .int .i64 n', .string x', .slice a' l' c'] 24)) v2 := Ext.trans Y1 hv2; have s2 : True := trivial; obtain ⟨m20, m21, m22, m23⟩ := four_of (Ext.block Y2 (blkOld _ (blk0 w (.cells #[.int .i64 k, .int .i64 n, .string x, .slice a l c] 24)))); obtain ⟨m24, m25, m26, m27⟩ := four_of (Ext.block Y2 (blk1 w (.cells #[.int .i64 k, .int .i64 n, .string x, .slice a l c] 24) (.cells #[.int .i64 k', .int .i64 n', .string x', .slice a' l' c'] 24)))) | (go_at_call 31; have g1 := s1; have g2 := s2; (fail_if_success (have g3 := s3)); refine (value_any d _ t K _ (HR.out.later ((Ext.alloc2 _ _ _).trans Y2)) HG.out.1).mono ?_; rintro r v3 ⟨u1, bs1, rfl, hv3, ho1, hge1, hnd1⟩; obtain ⟨τ1, q1, rfl⟩ := ho1.rd.iface; have Y3 : Ext ((w.alloc (.cells #[.int .i64 k, .int .i64 n, .string x, .slice a l c] 24)).alloc (.cells #[.int .i64 k', .int .i64 n', .string x', .slice a' l' c'] 24)) v3 := Ext.trans Y2 hv3; have s3 : True := trivial; obtain ⟨m30, m31, m32, m33⟩ := four_of (Ext.block Y3 (blkOld _ (blk0 w (.cells #[.int .i64 k, .int .i64 n, .string x, .slice a l c] 24)))); obtain ⟨m34, m35, m36, m37⟩ := four_of (Ext.block Y3 (blk1 w (.cells #[.int .i64 k, .int .i64 n, .string x, .slice a l c] 24) (.cells #[.int .i64 k', .int .i64 n', .string x', .slice a' l' c'] 24)))) | (go_at_call 31; have g1 := s1; have g2 := s2; have g3 := s3; (fail_if_success (have g4 := s4)); refine (value_any d' _ t' K' _ (HR'.out.later ((Ext.alloc2 _ _ _).trans Y3)) HG'.out.1).mono ?_; rintro r v4 ⟨u2, bs2, rfl, hv4, ho2, hge2, hnd2⟩; obtain ⟨τ2, q2, rfl⟩ := ho2.rd.iface; have Y4 : Ext ((w.alloc (.cells #[.int .i64 k, .int .i64 n, .string x, .slice a l c] 24)).alloc (.cells #[.int .i64 k', .int .i64 n', .string x', .slice a' l' c'] 24)) v4 := Ext.trans Y3 hv4; have s4 : True := trivial; obtain ⟨m40, m41, m42, m43⟩ := four_of (Ext.block Y4 (blkOld _ (blk0 w (.cells #[.int .i64 k, .int .i64 n, .string x, .slice a l c] 24)))); obtain ⟨m44, m45, m46, m47⟩ := four_of (Ext.block Y4 (blk1 w (.cells #[.int .i64 k, .int .i64 n, .string x, .slice a l c] 24) (.cells #[.int .i64 k', .int .i64 n', .string x', .slice a' l' c'] 24)))) | (go_at_call 34; have g1 := s1; have g2 := s2; have g3 := s3; have g4 := s4; (fail_if_success (have g5 := s5)); refine (compare_any d _ _ t t' _ _ _ d' (ho1.rd.later hv4) ho2.rd).mono ?_; rintro r v5 ⟨rfl, hv5⟩; skip; have Y5 : Ext ((w.alloc (.cells #[.int .i64 k, .int .i64 n, .string x, .slice a l c] 24)).alloc (.cells #[.int .i64 k', .int .i64 n', .string x', .slice a' l' c'] 24)) v5 := Ext.trans Y4 hv5; have s5 : True := trivial; obtain ⟨m50, m51, m52, m53⟩ := four_of (Ext.block Y5 (blkOld _ (blk0 w (.cells #[.int .i64 k, .int .i64 n, .string x, .slice a l c] 24)))); obtain ⟨m54, m55, m56, m57⟩ := four_of (Ext.block Y5 (blk1 w (.cells #[.int .i64 k, .int .i64 n, .string x, .slice a l c] 24) (.cells #[.int .i64 k', .int .i64 n', .string x', .slice a' l' c'] 24)))))
      all_goals
        go_wp2_with fail
        go_ret
        exact ⟨ret_bool (by rw [sameN, decide_eq_true HG.out, decide_eq_true HG'.out]; rfl), (Ext.alloc2 w _ _).trans Y5⟩
    · have HM := hid (may_to hr true (decide_eq_true hm))
      have HM' := hid (may_to hr' false (decide_eq_false hm'))
      have HG := hid hm
      have HG' := hid hm'
      clear hr hr' hm hm'
      go_enter Tryd.func12, Tryd.ntmps12
      go_wp2_with fail
      obtain ⟨m00, m01, m02, m03⟩ := four_of (Ext.block (Ext.refl ((w.alloc (.cells #[.int .i64 k, .int .i64 n, .string x, .slice a l c] 24)).alloc (.cells #[.int .i64 k', .int .i64 n', .string x', .slice a' l' c'] 24))) (blkOld _ (blk0 w (.cells #[.int .i64 k, .int .i64 n, .string x, .slice a l c] 24)))); obtain ⟨m04, m05, m06, m07⟩ := four_of (Ext.block (Ext.refl ((w.alloc (.cells #[.int .i64 k, .int .i64 n, .string x, .slice a l c] 24)).alloc (.cells #[.int .i64 k', .int .i64 n', .string x', .slice a' l' c'] 24))) (blk1 w (.cells #[.int .i64 k, .int .i64 n, .string x, .slice a l c] 24) (.cells #[.int .i64 k', .int .i64 n', .string x', .slice a' l' c'] 24)))
      go_region_with (first | (go_at_call 15; (fail_if_success (have g1 := s1)); refine (HM.out _ ((Ext.alloc2 _ _ _).trans (Ext.drew (Ext.refl _)))).mono ?_; rintro r v1 ⟨rfl, hv1⟩; skip; have Y1 : Ext ((w.alloc (.cells #[.int .i64 k, .int .i64 n, .string x, .slice a l c] 24)).alloc (.cells #[.int .i64 k', .int .i64 n', .string x', .slice a' l' c'] 24)) v1 := Ext.trans (Ext.drew (Ext.refl _)) hv1; have s1 : True := trivial; obtain ⟨m10, m11, m12, m13⟩ := four_of (Ext.block Y1 (blkOld _ (blk0 w (.cells #[.int .i64 k, .int .i64 n, .string x, .slice a l c] 24)))); obtain ⟨m14, m15, m16, m17⟩ := four_of (Ext.block Y1 (blk1 w (.cells #[.int .i64 k, .int .i64 n, .string x, .slice a l c] 24) (.cells #[.int .i64 k', .int .i64 n', .string x', .slice a' l' c'] 24)))) | (go_at_call 15; have g1 := s1; (fail_if_success (have g2 := s2)); refine (HM'.out _ ((Ext.alloc2 _ _ _).trans Y1)).mono ?_; rintro r v2 ⟨rfl, hv2⟩; skip; have Y2 : Ext ((w.alloc (.cells #[.int .i64 k, .int .i64 n, .string x, .slice a l c] 24)).alloc (.cells #[.int .i64 k', .int .i64 n', .string x', .slice a' l' c'] 24)) v2 := Ext.trans Y1 hv2; have s2 : True := trivial; obtain ⟨m20, m21, m22, m23⟩ := four_of (Ext.block Y2 (blkOld _ (blk0 w (.cells #[.int .i64 k, .int .i64 n, .string x, .slice a l c] 24)))); obtain ⟨m24, m25, m26, m27⟩ := four_of (Ext.block Y2 (blk1 w (.cells #[.int .i64 k, .int .i64 n, .string x, .slice a l c] 24) (.cells #[.int .i64 k', .int .i64 n', .string x', .slice a' l' c'] 24)))))
      all_goals
        go_wp2_with fail
        go_ret
        exact ⟨ret_bool (by rw [sameN, decide_eq_false HG'.out]; simp), (Ext.alloc2 w _ _).trans Y2⟩
  · by_cases hm' : t'.may
    · have HM := hid (may_to hr false (decide_eq_false hm))
      have HM' := hid (may_to hr' true (decide_eq_true hm'))
      have HG := hid hm
      have HG' := hid hm'
      clear hr hr' hm hm'
      go_enter Tryd.func12, Tryd.ntmps12
      go_wp2_with fail
      obtain ⟨m00, m01, m02, m03⟩ := four_of (Ext.block (Ext.refl ((w.alloc (.cells #[.int .i64 k, .int .i64 n, .string x, .slice a l c] 24)).alloc (.cells #[.int .i64 k', .int .i64 n', .string x', .slice a' l' c'] 24))) (blkOld _ (blk0 w (.cells #[.int .i64 k, .int .i64 n, .string x, .slice a l c] 24)))); obtain ⟨m04, m05, m06, m07⟩ := four_of (Ext.block (Ext.refl ((w.alloc (.cells #[.int .i64 k, .int .i64 n, .string x, .slice a l c] 24)).alloc (.cells #[.int .i64 k', .int .i64 n', .string x', .slice a' l' c'] 24))) (blk1 w (.cells #[.int .i64 k, .int .i64 n, .string x, .slice a l c] 24) (.cells #[.int .i64 k', .int .i64 n', .string x', .slice a' l' c'] 24)))
      go_region_with (first | (go_at_call 15; (fail_if_success (have g1 := s1)); refine (HM.out _ ((Ext.alloc2 _ _ _).trans (Ext.drew (Ext.refl _)))).mono ?_; rintro r v1 ⟨rfl, hv1⟩; skip; have Y1 : Ext ((w.alloc (.cells #[.int .i64 k, .int .i64 n, .string x, .slice a l c] 24)).alloc (.cells #[.int .i64 k', .int .i64 n', .string x', .slice a' l' c'] 24)) v1 := Ext.trans (Ext.drew (Ext.refl _)) hv1; have s1 : True := trivial; obtain ⟨m10, m11, m12, m13⟩ := four_of (Ext.block Y1 (blkOld _ (blk0 w (.cells #[.int .i64 k, .int .i64 n, .string x, .slice a l c] 24)))); obtain ⟨m14, m15, m16, m17⟩ := four_of (Ext.block Y1 (blk1 w (.cells #[.int .i64 k, .int .i64 n, .string x, .slice a l c] 24) (.cells #[.int .i64 k', .int .i64 n', .string x', .slice a' l' c'] 24)))))
      all_goals
        go_wp2_with fail
        go_ret
        exact ⟨ret_bool (by rw [sameN, decide_eq_false HG.out]; rfl), (Ext.alloc2 w _ _).trans Y1⟩
    · have HM := hid (may_to hr false (decide_eq_false hm))
      have HM' := hid (may_to hr' false (decide_eq_false hm'))
      have HG := hid hm
      have HG' := hid hm'
      clear hr hr' hm hm'
      go_enter Tryd.func12, Tryd.ntmps12
      go_wp2_with fail
      obtain ⟨m00, m01, m02, m03⟩ := four_of (Ext.block (Ext.refl ((w.alloc (.cells #[.int .i64 k, .int .i64 n, .string x, .slice a l c] 24)).alloc (.cells #[.int .i64 k', .int .i64 n', .string x', .slice a' l' c'] 24))) (blkOld _ (blk0 w (.cells #[.int .i64 k, .int .i64 n, .string x, .slice a l c] 24)))); obtain ⟨m04, m05, m06, m07⟩ := four_of (Ext.block (Ext.refl ((w.alloc (.cells #[.int .i64 k, .int .i64 n, .string x, .slice a l c] 24)).alloc (.cells #[.int .i64 k', .int .i64 n', .string x', .slice a' l' c'] 24))) (blk1 w (.cells #[.int .i64 k, .int .i64 n, .string x, .slice a l c] 24) (.cells #[.int .i64 k', .int .i64 n', .string x', .slice a' l' c'] 24)))
      go_region_with (first | (go_at_call 15; (fail_if_success (have g1 := s1)); refine (HM.out _ ((Ext.alloc2 _ _ _).trans (Ext.drew (Ext.refl _)))).mono ?_; rintro r v1 ⟨rfl, hv1⟩; skip; have Y1 : Ext ((w.alloc (.cells #[.int .i64 k, .int .i64 n, .string x, .slice a l c] 24)).alloc (.cells #[.int .i64 k', .int .i64 n', .string x', .slice a' l' c'] 24)) v1 := Ext.trans (Ext.drew (Ext.refl _)) hv1; have s1 : True := trivial; obtain ⟨m10, m11, m12, m13⟩ := four_of (Ext.block Y1 (blkOld _ (blk0 w (.cells #[.int .i64 k, .int .i64 n, .string x, .slice a l c] 24)))); obtain ⟨m14, m15, m16, m17⟩ := four_of (Ext.block Y1 (blk1 w (.cells #[.int .i64 k, .int .i64 n, .string x, .slice a l c] 24) (.cells #[.int .i64 k', .int .i64 n', .string x', .slice a' l' c'] 24)))))
      all_goals
        go_wp2_with fail
        go_ret
        exact ⟨ret_bool (by rw [sameN, decide_eq_false HG.out]; rfl), (Ext.alloc2 w _ _).trans Y1⟩
end Go.Proofs.YtbpbkihcfdnphaaDoor
