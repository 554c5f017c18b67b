/-
  The walk of WorthBack: it tells yes, and only makes new blocks.
-/
import Derived.Test.YtbpbkihcfdnphaaDoorBegun
import Derived.Test.YtbpbkihcfdnphaaDoorIsF
import Derived.Test.YtbpbkihcfdnphaaDoorEnvF
import Derived.Test.YtbpbkihcfdnphaaDoorBackBad
namespace Go.Proofs.YtbpbkihcfdnphaaDoor
open Go.RowKit
instance (a b : T) : Decidable (a = b) := decidable_of_iff (T.beq a b = true) (T.beq_eq a b)
theorem textV_cases (t : T) : (t.may ∧ t.wr.length ≤ 1048576 ∧ textV t = .tuple #[.string ⟨t.wr.toArray⟩, .int .i64 0]) ∨ ∃ E : Int, (E = 1 ∨ E = 2) ∧ textV t = .tuple #[.string ⟨#[]⟩, .int .i64 E] := by
  unfold textV
  by_cases h1 : t.may
  · by_cases h2 : t.wr.length ≤ 1048576
    · exact .inl ⟨h1, h2, by rw [if_pos h1, if_pos h2]⟩
    · exact .inr ⟨2, .inr rfl, by rw [if_pos h1, if_neg h2]⟩
  · exact .inr ⟨1, .inl rfl, by rw [if_neg h1]⟩
theorem wr_inj {t u : T} (ht : t.may) (hu : u.may) (ft : t.fitI) (fu : u.fitI) (lt : t.wr.length ≤ 1048576) (h : t.wr = u.wr) : t = u := by
  have e1 := readR_text ht ft lt
  have e2 := readR_text hu fu (h ▸ lt)
  rw [h] at e1
  rw [e1] at e2
  injection e2
theorem sameN_eq {t u : T} (ht : t.may) (hu : u.may) : sameN t u = decide (t = u) := by
  unfold sameN
  rw [decide_eq_true ht, decide_eq_true hu, Bool.true_and, Bool.true_and]
  exact decide_eq_decide.2 (T.cmp_three.zero t u)
theorem read_back {s : ByteArray} {t : T} {a : Nat} (h : readR s (quoQ s) = .ok t a) : textV t = .tuple #[.string s, .int .i64 0] ∧ t.fitI ∧ t.nodes ≤ 70000 ∧ t.deep ≤ 70 := by
  obtain ⟨h1, h2, h3, h4⟩ := readR_ok h
  have e : s.data.toList.length = s.size := by rw [Array.length_toList]; rfl
  refine ⟨?_, h2, Nat.le_trans (T.nodes_size t) (Nat.le_trans h1.2.1 (by decide)), Nat.le_trans h1.2.2 (by decide)⟩
  unfold textV
  rw [if_pos h1, if_pos (by rw [h3]; omega), h3]
set_option maxRecDepth 100000 in
set_option maxHeartbeats 8000000 in
theorem back_walk {K1 K2 : Nat → Prop} {d1 d2 : Nat} {v1 v2 : Value} {t1 t2 : T} {s : ByteArray} (w : World) (h1 : Rd K1 w d1 v1 t1) (h2 : Rd K2 w d2 v2 t2) (hf1 : t1.fitI) (hf2 : t2.fitI) (hs : s.size ≤ 140737488351232) (hE : LaidE w) (hT : LaidT w) :
    Calls Tryd.prog 3 #[v1, v2, .string s] w fun e w' => e = .returned (.bool true) ∧ Ext w w' := by
  obtain ⟨u0, u1, u2, u3, rfl⟩ := h1.agg
  obtain ⟨k1, n1, x1, a1, c1, rfl, rfl, rfl, rfl⟩ := h1.shape
  obtain ⟨u0, u1, u2, u3, rfl⟩ := h2.agg
  obtain ⟨k2, n2, x2, a2, c2, rfl, rfl, rfl, rfl⟩ := h2.shape
  have H1 := hid h1
  generalize t1.kids.length = l1 at *
  have H2 := hid h2
  generalize t2.kids.length = l2 at *
  have HF1 := hid hf1
  have HF2 := hid hf2
  have HS := hid hs
  have HE := hid hE
  have HT := hid hT
  clear h1 h2 hf1 hf2 hs hE hT
  go_enter Tryd.func3, Tryd.ntmps3
  go_wp2_with fail
  refine (begun_any _).mono ?_
  rintro e V ⟨rfl, hx⟩
  have HV := hid ((Ext.alloc2 w _ _).trans hx)
  have B1 := hid (hx.block (blkOld _ (blk0 w _)))
  have B2 := hid (hx.block (blk1 w _ _))
  clear hx
  have HTT := hid (show ∀ W', Ext w W' → LaidT W' from fun W' h => HT.out.below h (by have := HE.out.size; omega))
  have HPS := hid (show ∀ W', Ext w W' → 0 < W'.heap.size from fun W' h => by have := HE.out.size; have := h.size; omega)
  have CT1 := hid (show ∀ W', Ext V W' → Calls Tryd.prog 9 #[.agg #[.int .i64 k1, .int .i64 n1, .string x1, .slice a1 l1 c1]] W' fun r w' => r = .returned (textV t1) ∧ Ext W' w' from fun W' h => text_gen W' (H1.out.later (HV.out.trans h)) HF1.out (HTT.out _ (HV.out.trans h)) (HPS.out _ (HV.out.trans h)))
  have CT2 := hid (show ∀ W', Ext V W' → Calls Tryd.prog 9 #[.agg #[.int .i64 k2, .int .i64 n2, .string x2, .slice a2 l2 c2]] W' fun r w' => r = .returned (textV t2) ∧ Ext W' w' from fun W' h => text_gen W' (H2.out.later (HV.out.trans h)) HF2.out (HTT.out _ (HV.out.trans h)) (HPS.out _ (HV.out.trans h)))
  have Y0 := hid (Ext.refl V)
  obtain ⟨m010, m011, m012, m013⟩ := four_of (Ext.block Y0.out B1.out); obtain ⟨m020, m021, m022, m023⟩ := four_of (Ext.block Y0.out B2.out)
  go_wp2_with fail
  refine (CT1.out V (Ext.refl V)).mono ?_
  rintro r y1 ⟨rfl, hy1⟩
  have Y1 := hid hy1
  clear hy1
  obtain ⟨m110, m111, m112, m113⟩ := four_of (Ext.block Y1.out B1.out); obtain ⟨m120, m121, m122, m123⟩ := four_of (Ext.block Y1.out B2.out)
  rcases textV_cases t1 with ⟨m1, L1, e1⟩ | ⟨E1, hE1, e1⟩
  · have M1 := hid m1
    have L1' := hid L1
    rw [e1]
    clear e1 m1 L1
    obtain ⟨S1, hS1⟩ : ∃ S1 : ByteArray, ⟨t1.wr.toArray⟩ = S1 := ⟨_, rfl⟩
    have HR1 := hid (show readR S1 (quoQ S1) = .ok t1 t1.wr.length from hS1 ▸ readR_text M1.out HF1.out L1'.out)
    have HS1 := hid (show S1.size ≤ 140737488351232 by rw [← hS1]; show t1.wr.toArray.size ≤ _; have := L1'.out; simp; omega)
    have HSE := hid hS1
    rw [hS1]
    clear hS1
    go_wp2_with fail
    refine (CT2.out y1 Y1.out).mono ?_
    rintro r y2 ⟨rfl, hy2⟩
    have Y2 := hid (Y1.out.trans hy2)
    have HX2 := hid (HV.out.trans Y2.out)
    clear hy2
    clear m110 m111 m112 m113 m120 m121 m122 m123
    obtain ⟨m210, m211, m212, m213⟩ := four_of (Ext.block Y2.out B1.out); obtain ⟨m220, m221, m222, m223⟩ := four_of (Ext.block Y2.out B2.out)
    rcases textV_cases t2 with ⟨m2, L2, e2⟩ | ⟨E2, hE2, e2⟩
    · have M2 := hid m2
      rw [e2]
      clear e2 m2 L2
      obtain ⟨S2, hS2⟩ : ∃ S2 : ByteArray, ⟨t2.wr.toArray⟩ = S2 := ⟨_, rfl⟩
      have HSE2 := hid hS2
      rw [hS2]
      clear hS2
      go_wp2_with fail
      refine (read_gen S1 y2 HS1.out (HE.out.keep (HX2.out.kp (fun _ => True)) trivial trivial)).mono ?_
      rintro e y3 ⟨hy3, hr⟩
      rw [HR1.out] at hr
      obtain ⟨u, bs, rfl, ho, _, _⟩ := hr
      obtain ⟨τ, p, rfl⟩ := ho.rd.iface
      have HO := hid ho
      have Y3 := hid (Y2.out.trans hy3)
      have HX3 := hid (HV.out.trans Y3.out)
      have HIS := hid (show Calls Tryd.prog 11 #[.iface τ p, .agg #[.int .i64 k1, .int .i64 n1, .string x1, .slice a1 l1 c1]] y3 fun r w' => r = .returned (.bool true) ∧ Ext y3 w' by
        have e := is_any y3 ho.rd (H1.out.later HX3.out) (Nat.le_trans (T.nodes_size _) (Nat.le_trans M1.out.2.1 (by decide))) (Nat.le_trans M1.out.2.2 (by decide))
        rw [(T.beq_eq _ _).2 rfl] at e
        exact e)
      clear hy3 ho
      clear m210 m211 m212 m213 m220 m221 m222 m223
      obtain ⟨m310, m311, m312, m313⟩ := four_of (Ext.block Y3.out B1.out); obtain ⟨m320, m321, m322, m323⟩ := four_of (Ext.block Y3.out B2.out)
      go_wp2_with fail
      refine HIS.out.mono ?_
      rintro e y4 ⟨rfl, hy4⟩
      have Y4 := hid (Y3.out.trans hy4)
      have HX4 := hid (HV.out.trans Y4.out)
      clear hy4
      clear m310 m311 m312 m313 m320 m321 m322 m323
      obtain ⟨m410, m411, m412, m413⟩ := four_of (Ext.block Y4.out B1.out); obtain ⟨m420, m421, m422, m423⟩ := four_of (Ext.block Y4.out B2.out)
      have CS := hid (show Calls Tryd.prog 12 #[.agg #[.int .i64 k1, .int .i64 n1, .string x1, .slice a1 l1 c1], .agg #[.int .i64 k2, .int .i64 n2, .string x2, .slice a2 l2 c2]] y4 fun r w' => r = .returned (.bool (decide (t1 = t2))) ∧ Ext y4 w' by
        have e := sameOf_any y4 (H1.out.later HX4.out) (H2.out.later HX4.out)
        rw [sameN_eq M1.out M2.out] at e
        exact e)
      by_cases heq : t1 = t2
      · have hSS : S2 = S1 := by rw [← HSE.out, ← HSE2.out, heq]
        rw [decide_eq_true heq] at CS
        subst hSS
        clear heq
        go_wp2_with fail
        refine CS.out.mono ?_
        rintro e y5 ⟨rfl, hy5⟩
        have HX5 := hid (HX4.out.trans hy5)
        clear hy5
        clear m410 m411 m412 m413 m420 m421 m422 m423
        go_wp2_with fail

        refine (read_gen s y5 HS.out (HE.out.keep (HX5.out.kp (fun _ => True)) trivial trivial)).mono ?_
        rintro e z1 ⟨hz1, hr⟩
        have HZ1 := hid (HX5.out.trans hz1)
        clear hz1
        have HBD := hid (readR_bad s)
        cases hq : readR s (quoQ s) with
        | bad c a =>
          rw [hq] at hr HBD
          obtain rfl := hr
          have hc0 : ¬ (c : Int) = 0 := by have := HBD.out.1; omega
          have hca : (a : Int) ≤ s.size := by have := HBD.out.2; omega
          have hc1 : ((c : Int) != 0) = true := by simp; omega
          have hss : (s.size : Int) ≤ 140737488355328 := by have := HS.out; omega
          clear hq
          go_wp2_with fail
          go_ret
          exact ⟨rfl, HZ1.out⟩
        | ok t a =>
          rw [hq] at hr
          obtain ⟨u, bs, rfl, ho, _, _⟩ := hr
          obtain ⟨τ, p, rfl⟩ := ho.rd.iface
          have HO := hid ho
          have HRB := hid (read_back hq)
          clear hq ho
          go_wp2_with fail
          refine (Plain_any z1 HO.out.rd HRB.out.2.2.1 HRB.out.2.2.2).mono ?_
          rintro e z2 ⟨hz2, q0, q1, q2, q3, rfl, hrd⟩
          obtain ⟨kk, nn, xx, aa, cc, rfl, rfl, rfl, rfl⟩ := hrd.shape
          have HRD := hid hrd
          generalize t.kids.length = lk at *
          have HZ2 := hid (HZ1.out.trans hz2)
          clear hz2 hrd
          go_wp2_with fail
          refine (text_gen (z2.alloc _) (HRD.out.later (Ext.alloc z2 _)) HRB.out.2.1 (HT.out.below (HZ2.out.trans (Ext.alloc z2 _)) (by have := HE.out.size; omega)) (by rw [blkS]; omega)).mono ?_
          rw [HRB.out.1]
          rintro e z3 ⟨rfl, hz3⟩
          have HZ3 := hid (HZ2.out.trans ((Ext.alloc z2 _).trans hz3))
          clear hz3
          go_wp2_with fail
          go_ret
          exact ⟨rfl, HZ3.out⟩
      · have hSN : ¬ S1 = S2 := fun q => heq (wr_inj M1.out M2.out HF1.out HF2.out L1'.out (by
          rw [← HSE.out, ← HSE2.out] at q
          have := congrArg (fun b : ByteArray => b.data.toList) q
          simpa using this))
        rw [decide_eq_false heq] at CS
        have hSB : (S1.toList == S2.toList) = false := by rw [beq_eq_false_iff_ne]; exact fun q => hSN (toList_inj q)
        clear heq
        go_wp2_with fail
        refine CS.out.mono ?_
        rintro e y5 ⟨rfl, hy5⟩
        have HX5 := hid (HX4.out.trans hy5)
        clear hy5
        clear m410 m411 m412 m413 m420 m421 m422 m423
        go_wp2_with fail

        refine (read_gen s y5 HS.out (HE.out.keep (HX5.out.kp (fun _ => True)) trivial trivial)).mono ?_
        rintro e z1 ⟨hz1, hr⟩
        have HZ1 := hid (HX5.out.trans hz1)
        clear hz1
        have HBD := hid (readR_bad s)
        cases hq : readR s (quoQ s) with
        | bad c a =>
          rw [hq] at hr HBD
          obtain rfl := hr
          have hc0 : ¬ (c : Int) = 0 := by have := HBD.out.1; omega
          have hca : (a : Int) ≤ s.size := by have := HBD.out.2; omega
          have hc1 : ((c : Int) != 0) = true := by simp; omega
          have hss : (s.size : Int) ≤ 140737488355328 := by have := HS.out; omega
          clear hq
          go_wp2_with fail
          go_ret
          exact ⟨rfl, HZ1.out⟩
        | ok t a =>
          rw [hq] at hr
          obtain ⟨u, bs, rfl, ho, _, _⟩ := hr
          obtain ⟨τ, p, rfl⟩ := ho.rd.iface
          have HO := hid ho
          have HRB := hid (read_back hq)
          clear hq ho
          go_wp2_with fail
          refine (Plain_any z1 HO.out.rd HRB.out.2.2.1 HRB.out.2.2.2).mono ?_
          rintro e z2 ⟨hz2, q0, q1, q2, q3, rfl, hrd⟩
          obtain ⟨kk, nn, xx, aa, cc, rfl, rfl, rfl, rfl⟩ := hrd.shape
          have HRD := hid hrd
          generalize t.kids.length = lk at *
          have HZ2 := hid (HZ1.out.trans hz2)
          clear hz2 hrd
          go_wp2_with fail
          refine (text_gen (z2.alloc _) (HRD.out.later (Ext.alloc z2 _)) HRB.out.2.1 (HT.out.below (HZ2.out.trans (Ext.alloc z2 _)) (by have := HE.out.size; omega)) (by rw [blkS]; omega)).mono ?_
          rw [HRB.out.1]
          rintro e z3 ⟨rfl, hz3⟩
          have HZ3 := hid (HZ2.out.trans ((Ext.alloc z2 _).trans hz3))
          clear hz3
          go_wp2_with fail
          go_ret
          exact ⟨rfl, HZ3.out⟩
    · rw [e2]
      have E20 : ¬ E2 = 0 := by omega
      have E21 : (E2 != 0) = true := by simp; omega
      have E22 : (E2 == 0) = false := by rw [beq_eq_false_iff_ne]; omega
      clear hE2 e2
      go_wp2_with fail
      refine (read_gen S1 y2 HS1.out (HE.out.keep (HX2.out.kp (fun _ => True)) trivial trivial)).mono ?_
      rintro e y3 ⟨hy3, hr⟩
      rw [HR1.out] at hr
      obtain ⟨u, bs, rfl, ho, _, _⟩ := hr
      obtain ⟨τ, p, rfl⟩ := ho.rd.iface
      have HO := hid ho
      have Y3 := hid (Y2.out.trans hy3)
      have HX3 := hid (HV.out.trans Y3.out)
      have HIS := hid (show Calls Tryd.prog 11 #[.iface τ p, .agg #[.int .i64 k1, .int .i64 n1, .string x1, .slice a1 l1 c1]] y3 fun r w' => r = .returned (.bool true) ∧ Ext y3 w' by
        have e := is_any y3 ho.rd (H1.out.later HX3.out) (Nat.le_trans (T.nodes_size _) (Nat.le_trans M1.out.2.1 (by decide))) (Nat.le_trans M1.out.2.2 (by decide))
        rw [(T.beq_eq _ _).2 rfl] at e
        exact e)
      clear hy3 ho
      clear m210 m211 m212 m213 m220 m221 m222 m223
      obtain ⟨m310, m311, m312, m313⟩ := four_of (Ext.block Y3.out B1.out); obtain ⟨m320, m321, m322, m323⟩ := four_of (Ext.block Y3.out B2.out)
      go_wp2_with fail
      refine HIS.out.mono ?_
      rintro e y4 ⟨rfl, hy4⟩
      have Y4 := hid (Y3.out.trans hy4)
      have HX4 := hid (HV.out.trans Y4.out)
      clear hy4
      clear m310 m311 m312 m313 m320 m321 m322 m323
      obtain ⟨m410, m411, m412, m413⟩ := four_of (Ext.block Y4.out B1.out); obtain ⟨m420, m421, m422, m423⟩ := four_of (Ext.block Y4.out B2.out)
      clear m410 m411 m412 m413 m420 m421 m422 m423
      go_wp2_with fail

      refine (read_gen s y4 HS.out (HE.out.keep (HX4.out.kp (fun _ => True)) trivial trivial)).mono ?_
      rintro e z1 ⟨hz1, hr⟩
      have HZ1 := hid (HX4.out.trans hz1)
      clear hz1
      have HBD := hid (readR_bad s)
      cases hq : readR s (quoQ s) with
      | bad c a =>
        rw [hq] at hr HBD
        obtain rfl := hr
        have hc0 : ¬ (c : Int) = 0 := by have := HBD.out.1; omega
        have hca : (a : Int) ≤ s.size := by have := HBD.out.2; omega
        have hc1 : ((c : Int) != 0) = true := by simp; omega
        have hss : (s.size : Int) ≤ 140737488355328 := by have := HS.out; omega
        clear hq
        go_wp2_with fail
        go_ret
        exact ⟨rfl, HZ1.out⟩
      | ok t a =>
        rw [hq] at hr
        obtain ⟨u, bs, rfl, ho, _, _⟩ := hr
        obtain ⟨τ, p, rfl⟩ := ho.rd.iface
        have HO := hid ho
        have HRB := hid (read_back hq)
        clear hq ho
        go_wp2_with fail
        refine (Plain_any z1 HO.out.rd HRB.out.2.2.1 HRB.out.2.2.2).mono ?_
        rintro e z2 ⟨hz2, q0, q1, q2, q3, rfl, hrd⟩
        obtain ⟨kk, nn, xx, aa, cc, rfl, rfl, rfl, rfl⟩ := hrd.shape
        have HRD := hid hrd
        generalize t.kids.length = lk at *
        have HZ2 := hid (HZ1.out.trans hz2)
        clear hz2 hrd
        go_wp2_with fail
        refine (text_gen (z2.alloc _) (HRD.out.later (Ext.alloc z2 _)) HRB.out.2.1 (HT.out.below (HZ2.out.trans (Ext.alloc z2 _)) (by have := HE.out.size; omega)) (by rw [blkS]; omega)).mono ?_
        rw [HRB.out.1]
        rintro e z3 ⟨rfl, hz3⟩
        have HZ3 := hid (HZ2.out.trans ((Ext.alloc z2 _).trans hz3))
        clear hz3
        go_wp2_with fail
        go_ret
        exact ⟨rfl, HZ3.out⟩
  · rw [e1]
    have E10 : ¬ E1 = 0 := by omega
    have E11 : (E1 != 0) = true := by simp; omega
    have E12 : (E1 == 0) = false := by rw [beq_eq_false_iff_ne]; omega
    clear hE1 e1
    go_wp2_with fail
    refine (CT2.out y1 Y1.out).mono ?_
    rintro r y2 ⟨rfl, hy2⟩
    have Y2 := hid (Y1.out.trans hy2)
    have HX2 := hid (HV.out.trans Y2.out)
    clear hy2
    clear m110 m111 m112 m113 m120 m121 m122 m123
    obtain ⟨m210, m211, m212, m213⟩ := four_of (Ext.block Y2.out B1.out); obtain ⟨m220, m221, m222, m223⟩ := four_of (Ext.block Y2.out B2.out)
    rcases textV_cases t2 with ⟨m2, L2, e2⟩ | ⟨E2, hE2, e2⟩
    · rw [e2]
      clear e2 m2 L2
      clear m210 m211 m212 m213 m220 m221 m222 m223
      go_wp2_with fail

      refine (read_gen s y2 HS.out (HE.out.keep (HX2.out.kp (fun _ => True)) trivial trivial)).mono ?_
      rintro e z1 ⟨hz1, hr⟩
      have HZ1 := hid (HX2.out.trans hz1)
      clear hz1
      have HBD := hid (readR_bad s)
      cases hq : readR s (quoQ s) with
      | bad c a =>
        rw [hq] at hr HBD
        obtain rfl := hr
        have hc0 : ¬ (c : Int) = 0 := by have := HBD.out.1; omega
        have hca : (a : Int) ≤ s.size := by have := HBD.out.2; omega
        have hc1 : ((c : Int) != 0) = true := by simp; omega
        have hss : (s.size : Int) ≤ 140737488355328 := by have := HS.out; omega
        clear hq
        go_wp2_with fail
        go_ret
        exact ⟨rfl, HZ1.out⟩
      | ok t a =>
        rw [hq] at hr
        obtain ⟨u, bs, rfl, ho, _, _⟩ := hr
        obtain ⟨τ, p, rfl⟩ := ho.rd.iface
        have HO := hid ho
        have HRB := hid (read_back hq)
        clear hq ho
        go_wp2_with fail
        refine (Plain_any z1 HO.out.rd HRB.out.2.2.1 HRB.out.2.2.2).mono ?_
        rintro e z2 ⟨hz2, q0, q1, q2, q3, rfl, hrd⟩
        obtain ⟨kk, nn, xx, aa, cc, rfl, rfl, rfl, rfl⟩ := hrd.shape
        have HRD := hid hrd
        generalize t.kids.length = lk at *
        have HZ2 := hid (HZ1.out.trans hz2)
        clear hz2 hrd
        go_wp2_with fail
        refine (text_gen (z2.alloc _) (HRD.out.later (Ext.alloc z2 _)) HRB.out.2.1 (HT.out.below (HZ2.out.trans (Ext.alloc z2 _)) (by have := HE.out.size; omega)) (by rw [blkS]; omega)).mono ?_
        rw [HRB.out.1]
        rintro e z3 ⟨rfl, hz3⟩
        have HZ3 := hid (HZ2.out.trans ((Ext.alloc z2 _).trans hz3))
        clear hz3
        go_wp2_with fail
        go_ret
        exact ⟨rfl, HZ3.out⟩
    · rw [e2]
      have E20 : ¬ E2 = 0 := by omega
      have E21 : (E2 != 0) = true := by simp; omega
      have E22 : (E2 == 0) = false := by rw [beq_eq_false_iff_ne]; omega
      clear hE2 e2
      clear m210 m211 m212 m213 m220 m221 m222 m223
      go_wp2_with fail

      refine (read_gen s y2 HS.out (HE.out.keep (HX2.out.kp (fun _ => True)) trivial trivial)).mono ?_
      rintro e z1 ⟨hz1, hr⟩
      have HZ1 := hid (HX2.out.trans hz1)
      clear hz1
      have HBD := hid (readR_bad s)
      cases hq : readR s (quoQ s) with
      | bad c a =>
        rw [hq] at hr HBD
        obtain rfl := hr
        have hc0 : ¬ (c : Int) = 0 := by have := HBD.out.1; omega
        have hca : (a : Int) ≤ s.size := by have := HBD.out.2; omega
        have hc1 : ((c : Int) != 0) = true := by simp; omega
        have hss : (s.size : Int) ≤ 140737488355328 := by have := HS.out; omega
        clear hq
        go_wp2_with fail
        go_ret
        exact ⟨rfl, HZ1.out⟩
      | ok t a =>
        rw [hq] at hr
        obtain ⟨u, bs, rfl, ho, _, _⟩ := hr
        obtain ⟨τ, p, rfl⟩ := ho.rd.iface
        have HO := hid ho
        have HRB := hid (read_back hq)
        clear hq ho
        go_wp2_with fail
        refine (Plain_any z1 HO.out.rd HRB.out.2.2.1 HRB.out.2.2.2).mono ?_
        rintro e z2 ⟨hz2, q0, q1, q2, q3, rfl, hrd⟩
        obtain ⟨kk, nn, xx, aa, cc, rfl, rfl, rfl, rfl⟩ := hrd.shape
        have HRD := hid hrd
        generalize t.kids.length = lk at *
        have HZ2 := hid (HZ1.out.trans hz2)
        clear hz2 hrd
        go_wp2_with fail
        refine (text_gen (z2.alloc _) (HRD.out.later (Ext.alloc z2 _)) HRB.out.2.1 (HT.out.below (HZ2.out.trans (Ext.alloc z2 _)) (by have := HE.out.size; omega)) (by rw [blkS]; omega)).mono ?_
        rw [HRB.out.1]
        rintro e z3 ⟨rfl, hz3⟩
        have HZ3 := hid (HZ2.out.trans ((Ext.alloc z2 _).trans hz3))
        clear hz3
        go_wp2_with fail
        go_ret
        exact ⟨rfl, HZ3.out⟩
end Go.Proofs.YtbpbkihcfdnphaaDoor
