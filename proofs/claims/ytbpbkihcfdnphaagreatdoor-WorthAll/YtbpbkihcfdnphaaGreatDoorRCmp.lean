/-
  The reference's Compare, Same and Join, and the statements' own Fits, each by a contract.
-/
import Derived.Test.YtbpbkihcfdnphaaGreatDoorROrder
import Derived.Test.YtbpbkihcfdnphaaGreatDoorRCopy
import Derived.Test.YtbpbkihcfdnphaaGreatDoorIsF
namespace Go.Proofs.YtbpbkihcfdnphaaGreatDoor
open Go.RowKit
theorem rmay_to {K : Nat → Prop} {d : Nat} {v : Value} {t : T} {w : World} (hr : Rd K w d v t) (b : Bool) (hb : decide t.may = b) (w1 : World) (hx : Ext w w1) : Calls Tryz.prog 16 #[v] w1 fun e w' => e = .returned (.bool b) ∧ Ext w1 w' := by
  have := rmay_any w1 (hr.later hx)
  rw [hb] at this
  exact this
set_option maxRecDepth 100000 in
set_option maxHeartbeats 4000000 in
theorem rcompare_any {K K' : Nat → Prop} {d d' : Nat} {v v' : Value} {t t' : T} (w : World) (hr : Rd K w d v t) (hr' : Rd K' w d' v' t') : Calls Tryz.prog 21 #[v, v'] w fun e w' => e = .returned (.int .i64 (cmpN t t')) ∧ Ext w w' := by
  obtain ⟨u0, u1, u2, u3, rfl⟩ := hr.agg
  obtain ⟨k, n, x, a, c, rfl, rfl, rfl, rfl⟩ := hr.shape
  obtain ⟨u0, u1, u2, u3, rfl⟩ := hr'.agg
  obtain ⟨k', n', x', a', c', rfl, rfl, rfl, rfl⟩ := hr'.shape
  obtain ⟨bx, hbx⟩ : ∃ bx, decide t.may = bx := ⟨_, rfl⟩
  obtain ⟨by', hby⟩ : ∃ by', decide t'.may = by' := ⟨_, rfl⟩
  have HM := hid (fun w1 hx => rmay_to hr bx hbx w1 hx)
  have HM' := hid (fun w1 hx => rmay_to hr' by' hby w1 hx)
  have HO := hid (fun w1 (hx : Ext w w1) => order_any d _ _ t t' K K' w1 d' (hr.later hx) (hr'.later hx))
  have HV := hid (show (bx = true → by' = true → cmpN t t' = T.cmp t t') ∧ (bx = true → by' = false → cmpN t t' = -1) ∧ (bx = false → by' = true → cmpN t t' = 1) ∧ (bx = false → by' = false → cmpN t t' = 0) by
    subst hbx; subst hby
    refine ⟨fun h1 h2 => ?_, fun h1 h2 => ?_, fun h1 h2 => ?_, fun h1 h2 => ?_⟩
    · rw [cmpN, if_pos (of_decide_eq_true h1), if_pos (of_decide_eq_true h2)]
    · rw [cmpN, if_pos (of_decide_eq_true h1), if_neg (of_decide_eq_false h2)]
    · rw [cmpN, if_neg (of_decide_eq_false h1), if_pos (of_decide_eq_true h2)]
    · rw [cmpN, if_neg (of_decide_eq_false h1), if_neg (of_decide_eq_false h2)])
  clear hr hr' hbx hby
  generalize (T.kids t).length = kt at *
  generalize (T.kids t').length = kt' at *
  have HSK := hid (show ∀ W', Ext ((w.alloc (.cells #[.int .i64 k, .int .i64 n, .string x, .slice a kt c] 27)).alloc (.cells #[.int .i64 k', .int .i64 n', .string x', .slice a' kt' c'] 27)) W' → W'.cell? ⟨w.heap.size, 0, none⟩ = some (.int .i64 k) ∧ W'.cell? ⟨w.heap.size, 1, none⟩ = some (.int .i64 n) ∧ W'.cell? ⟨w.heap.size, 2, none⟩ = some (.string x) ∧ W'.cell? ⟨w.heap.size, 3, none⟩ = some (.slice a kt c) ∧ W'.cell? ⟨w.heap.size + 1, 0, none⟩ = some (.int .i64 k') ∧ W'.cell? ⟨w.heap.size + 1, 1, none⟩ = some (.int .i64 n') ∧ W'.cell? ⟨w.heap.size + 1, 2, none⟩ = some (.string x') ∧ W'.cell? ⟨w.heap.size + 1, 3, none⟩ = some (.slice a' kt' c') from fun W' Y => by
    obtain ⟨p0, p1, p2, p3⟩ := four_of (Y.block (blkOld _ (blk0 w _)))
    obtain ⟨s0, s1, s2, s3⟩ := four_of (Y.block (blk1 w _ _))
    exact ⟨p0, p1, p2, p3, s0, s1, s2, s3⟩)
  have SK0 := HSK.out _ (Ext.refl _)
  go_enter Tryz.func21, Tryz.ntmps21
  go_upto_region 1 with fail
  go_cut [5, 6] from 7 to 10 (fun sa sb wx => sa = .bool bx ∧ sb = .bool by' ∧ Ext ((w.alloc (.cells #[.int .i64 k, .int .i64 n, .string x, .slice a kt c] 27)).alloc (.cells #[.int .i64 k', .int .i64 n', .string x', .slice a' kt' c'] 27)) wx)
  case first =>
    go_region_held3 (fun W' => W'.cell? ⟨w.heap.size, 0, none⟩ = some (.int .i64 k) ∧ W'.cell? ⟨w.heap.size, 1, none⟩ = some (.int .i64 n) ∧ W'.cell? ⟨w.heap.size, 2, none⟩ = some (.string x) ∧ W'.cell? ⟨w.heap.size, 3, none⟩ = some (.slice a kt c) ∧ W'.cell? ⟨w.heap.size + 1, 0, none⟩ = some (.int .i64 k') ∧ W'.cell? ⟨w.heap.size + 1, 1, none⟩ = some (.int .i64 n') ∧ W'.cell? ⟨w.heap.size + 1, 2, none⟩ = some (.string x') ∧ W'.cell? ⟨w.heap.size + 1, 3, none⟩ = some (.slice a' kt' c')) (first | exact SK2 | exact SK1 | exact SK0 | go_keep) (first | (go_at_call 16; (fail_if_success (have g1 := s1)); refine (HM.out _ ((Ext.alloc2 _ _ _).trans (Ext.refl _).drew)).mono ?_; rintro r v1 ⟨rfl, hv1⟩; have Y1 : Ext ((w.alloc (.cells #[.int .i64 k, .int .i64 n, .string x, .slice a kt c] 27)).alloc (.cells #[.int .i64 k', .int .i64 n', .string x', .slice a' kt' c'] 27)) v1 := Ext.trans (Ext.refl _).drew hv1; have s1 : True := trivial; have SK1 := HSK.out v1 Y1) | (go_at_call 16; have g1 := s1; refine (HM'.out _ ((Ext.alloc2 _ _ _).trans Y1)).mono ?_; rintro r v2 ⟨rfl, hv2⟩; have Y2 : Ext ((w.alloc (.cells #[.int .i64 k, .int .i64 n, .string x, .slice a kt c] 27)).alloc (.cells #[.int .i64 k', .int .i64 n', .string x', .slice a' kt' c'] 27)) v2 := Ext.trans Y1 hv2; have SK2 := HSK.out v2 Y2))
    all_goals
      go_wp2_with fail
      go_meet
      case rel => exact ⟨rfl, rfl, Y2⟩
  case rest =>
    obtain ⟨rfl, rfl, hx⟩ := hcut
    obtain ⟨q0, q1, q2, q3, q4, q5, q6, q7⟩ := HSK.out _ hx
    have HX := hid ((Ext.alloc2 w _ _).trans hx)
    have hl1 := lt_of_cell q0
    have hl2 := lt_of_cell q4
    clear hx SK0
    cases bx with
    | true =>
      cases by' with
      | true =>
        have HE := hid (HV.out.1 rfl rfl)
        go_wp2_with fail
        refine (HO.out _ HX.out).mono ?_
        rintro e w2 ⟨rfl, hx2⟩
        have HX2 := hid (HX.out.trans hx2)
        clear hx2 q0 q1 q2 q3 q4 q5 q6 q7
        go_wp2_with fail
        go_ret
        exact ⟨ret_int' HE.out.symm, HX2.out⟩
      | false =>
        have HE := hid (HV.out.2.1 rfl rfl)
        go_wp2_with fail
        go_ret
        exact ⟨ret_int' HE.out.symm, HX.out⟩
    | false =>
      cases by' with
      | true =>
        have HE := hid (HV.out.2.2.1 rfl rfl)
        go_wp2_with fail
        go_ret
        exact ⟨ret_int' HE.out.symm, HX.out⟩
      | false =>
        have HE := hid (HV.out.2.2.2 rfl rfl)
        go_wp2_with fail
        go_ret
        exact ⟨ret_int' HE.out.symm, HX.out⟩
set_option maxRecDepth 100000 in
set_option maxHeartbeats 4000000 in
theorem rsame_any {K K' : Nat → Prop} {d d' : Nat} {v v' : Value} {t t' : T} (w : World) (hr : Rd K w d v t) (hr' : Rd K' w d' v' t') : Calls Tryz.prog 20 #[v, v'] w fun e w' => e = .returned (.bool (sameN t t')) ∧ Ext w w' := by
  obtain ⟨u0, u1, u2, u3, rfl⟩ := hr.agg
  obtain ⟨k, n, x, a, c, rfl, rfl, rfl, rfl⟩ := hr.shape
  obtain ⟨u0, u1, u2, u3, rfl⟩ := hr'.agg
  obtain ⟨k', n', x', a', c', rfl, rfl, rfl, rfl⟩ := hr'.shape
  obtain ⟨bx, hbx⟩ : ∃ bx, decide t.may = bx := ⟨_, rfl⟩
  obtain ⟨by', hby⟩ : ∃ by', decide t'.may = by' := ⟨_, rfl⟩
  have HM := hid (fun w1 hx => rmay_to hr bx hbx w1 hx)
  have HM' := hid (fun w1 hx => rmay_to hr' by' hby w1 hx)
  have HO := hid (fun w1 (hx : Ext w w1) => order_any d _ _ t t' K K' w1 d' (hr.later hx) (hr'.later hx))
  have HE := hid (show sameN t t' = (bx && by' && decide (T.cmp t t' = 0)) by rw [sameN, hbx, hby])
  clear hr hr' hbx hby
  generalize (T.kids t).length = kt at *
  generalize (T.kids t').length = kt' at *
  generalize T.cmp t t' = cv at HO HE
  cases bx with
  | false =>
    go_enter Tryz.func20, Tryz.ntmps20
    go_wp2_with fail
    refine (HM.out _ (Ext.alloc2 _ _ _)).mono ?_
    rintro e w1 ⟨rfl, hx1⟩
    have HX1 := hid ((Ext.alloc2 w _ _).trans hx1)
    clear hx1
    go_wp2_with fail
    go_ret
    exact ⟨ret_bool (by rw [HE.out]; rfl), HX1.out⟩
  | true =>
    cases by' with
    | false =>
      go_enter Tryz.func20, Tryz.ntmps20
      go_wp2_with fail
      refine (HM.out _ (Ext.alloc2 _ _ _)).mono ?_
      rintro e w1 ⟨rfl, hx1⟩
      obtain ⟨s0, s1, s2, s3⟩ := four_of (hx1.block (blk1 w _ _))
      have HX1 := hid ((Ext.alloc2 w _ _).trans hx1)
      clear hx1
      go_wp2_with fail
      refine (HM'.out _ HX1.out).mono ?_
      rintro e w2 ⟨rfl, hx2⟩
      have HX2 := hid (HX1.out.trans hx2)
      clear hx2 s0 s1 s2 s3
      go_wp2_with fail
      go_ret
      exact ⟨ret_bool (by rw [HE.out]; rfl), HX2.out⟩
    | true =>
      by_cases hc : cv = 0
      · subst hc
        go_enter Tryz.func20, Tryz.ntmps20
        go_wp2_with fail
        refine (HM.out _ (Ext.alloc2 _ _ _)).mono ?_
        rintro e w1 ⟨rfl, hx1⟩
        have HB0 := hid (hx1.block (blkOld _ (blk0 w _)))
        have HB1 := hid (hx1.block (blk1 w _ _))
        obtain ⟨s0, s1, s2, s3⟩ := four_of HB1.out
        have HX1 := hid ((Ext.alloc2 w _ _).trans hx1)
        clear hx1
        go_wp2_with fail
        refine (HM'.out _ HX1.out).mono ?_
        rintro e w2 ⟨rfl, hx2⟩
        have HX2 := hid (HX1.out.trans hx2)
        clear s0 s1 s2 s3
        obtain ⟨s0, s1, s2, s3⟩ := four_of (hx2.block HB1.out)
        obtain ⟨p0, p1, p2, p3⟩ := four_of (hx2.block HB0.out)
        clear hx2
        go_wp2_with fail
        refine (HO.out _ HX2.out).mono ?_
        rintro e w3 ⟨rfl, hx3⟩
        have HX3 := hid (HX2.out.trans hx3)
        clear hx3 s0 s1 s2 s3 p0 p1 p2 p3
        go_wp2_with fail
        go_ret
        exact ⟨ret_bool (by rw [HE.out]; rfl), HX3.out⟩
      · have hcb : (cv == 0) = false := by simpa using hc
        go_enter Tryz.func20, Tryz.ntmps20
        go_wp2_with fail
        refine (HM.out _ (Ext.alloc2 _ _ _)).mono ?_
        rintro e w1 ⟨rfl, hx1⟩
        have HB0 := hid (hx1.block (blkOld _ (blk0 w _)))
        have HB1 := hid (hx1.block (blk1 w _ _))
        obtain ⟨s0, s1, s2, s3⟩ := four_of HB1.out
        have HX1 := hid ((Ext.alloc2 w _ _).trans hx1)
        clear hx1
        go_wp2_with fail
        refine (HM'.out _ HX1.out).mono ?_
        rintro e w2 ⟨rfl, hx2⟩
        have HX2 := hid (HX1.out.trans hx2)
        clear s0 s1 s2 s3
        obtain ⟨s0, s1, s2, s3⟩ := four_of (hx2.block HB1.out)
        obtain ⟨p0, p1, p2, p3⟩ := four_of (hx2.block HB0.out)
        clear hx2
        go_wp2_with fail
        refine (HO.out _ HX2.out).mono ?_
        rintro e w3 ⟨rfl, hx3⟩
        have HX3 := hid (HX2.out.trans hx3)
        clear hx3 s0 s1 s2 s3 p0 p1 p2 p3
        go_wp2_with fail
        go_ret
        exact ⟨ret_bool (by rw [HE.out, decide_eq_false hc]; rfl), HX3.out⟩
theorem eq_nil_nil (w : World) : (binOp .eql 32 .nilIface .nilIface).run Tryz.prog w = .ok (.bool true) w := by kernel_rfl
attribute [local go_sem] eq_nil_nil
set_option maxRecDepth 100000 in
theorem fits_err (e : Int) (he : e ≠ 0) (p : Value) (hp : ∃ k n x a l c, p = .agg #[.int .i64 k, .int .i64 n, .string x, .slice a l c]) (w : World) : Calls Tryz.prog 18 #[.nilIface, .int .i64 e, p, .int .i64 e] w fun r w' => r = .returned (.bool true) ∧ Ext w w' := by
  obtain ⟨k, n, x, a, l, c, rfl⟩ := hp
  have he1 : (e == 0) = false := by simpa using he
  go_enter Tryz.func18, Tryz.ntmps18
  go_wp2_with fail
  go_ret
  exact ⟨rfl, Ext.alloc _ _⟩
set_option maxRecDepth 100000 in
theorem fits_ok {K K' : Nat → Prop} {d d' : Nat} {v v' : Value} {t : T} (w : World) (hr : VRd K w d v t) (hr' : Rd K' w d' v' t) (hm : t.may) : Calls Tryz.prog 18 #[v, .int .i64 0, v', .int .i64 0] w fun r w' => r = .returned (.bool true) ∧ Ext w w' := by
  obtain ⟨τ, q, rfl⟩ := hr.iface
  obtain ⟨u0, u1, u2, u3, rfl⟩ := hr'.agg
  obtain ⟨k, n, x, a, c, rfl, rfl, rfl, rfl⟩ := hr'.shape
  have HI := hid (show ∀ W', Ext w W' → Calls Tryz.prog 34 #[.iface τ q, .agg #[.int .i64 k, .int .i64 n, .string x, .slice a t.kids.length c]] W' fun r w' => r = .returned (.bool true) ∧ Ext W' w' from fun W' hx => by
    have e := is_any W' (hr.later hx) (hr'.later hx) (Nat.le_trans (T.nodes_size _) (Nat.le_trans hm.2.1 (by decide))) (Nat.le_trans hm.2.2 (by decide))
    rw [(T.beq_eq _ _).2 rfl] at e
    exact e)
  clear hr hr'
  generalize (T.kids t).length = kt at *
  go_enter Tryz.func18, Tryz.ntmps18
  go_wp2_with fail
  refine (HI.out _ (Ext.alloc _ _)).mono ?_
  rintro e w1 ⟨rfl, hx1⟩
  have HX1 := hid ((Ext.alloc w _).trans hx1)
  clear hx1
  go_wp2_with fail
  go_ret
  exact ⟨rfl, HX1.out⟩
end Go.Proofs.YtbpbkihcfdnphaaGreatDoor
