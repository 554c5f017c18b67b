/-
  The walk of WorthOrder: it tells yes, and only makes new blocks.
-/
import Derived.Test.YtbpbkihcfdnphaaDoorBegun
namespace Go.Proofs.YtbpbkihcfdnphaaDoor
open Go.RowKit
theorem cmpN_turn (t u : T) : cmpN u t = - cmpN t u := by
  have := T.cmp_three.turn t u
  unfold cmpN
  repeat' split
  all_goals omega
theorem cmpN_cases (t u : T) : cmpN t u = -1 ∨ cmpN t u = 0 ∨ cmpN t u = 1 := by
  have := T.cmp_three.low t u
  have := T.cmp_three.high t u
  unfold cmpN
  repeat' split
  all_goals omega
theorem cmpN_zero (t u : T) : cmpN t u = 0 ↔ (sameN t u = true ∨ (¬ t.may ∧ ¬ u.may)) := by
  unfold cmpN sameN
  by_cases h1 : t.may
  · by_cases h2 : u.may
    · simp [h1, h2]
    · simp [h1, h2]
  · by_cases h2 : u.may
    · simp [h1, h2]
    · simp [h1, h2]
theorem cmpN_through (t u v : T) (h1 : cmpN t u ≤ 0) (h2 : cmpN u v ≤ 0) : cmpN t v ≤ 0 ∧ (cmpN t v = 0 ↔ cmpN t u = 0 ∧ cmpN u v = 0) := by
  have k1 := T.cmp_three.through t u v
  have z1 := T.cmp_three.zero t u
  have z2 := T.cmp_three.zero u v
  have z3 := T.cmp_three.zero t v
  have tn := T.cmp_three.turn u v
  have tn2 := T.cmp_three.turn t u
  unfold cmpN at *
  by_cases m1 : t.may
  · by_cases m2 : u.may
    · by_cases m3 : v.may
      · simp only [m1, m2, m3, if_true] at *
        refine ⟨k1 h1 h2, ⟨fun e => ?_, fun ⟨e1, e2⟩ => ?_⟩⟩
        · have e' := z3.1 e
          subst e'
          omega
        · rw [z1.1 e1]; exact e2
      · simp [m1, m2, m3]
    · by_cases m3 : v.may
      · simp [m2, m3] at h2
      · simp [m1, m2, m3]
  · by_cases m2 : u.may
    · simp [m1, m2] at h1
    · by_cases m3 : v.may
      · simp [m2, m3] at h2
      · simp [m1, m2, m3]
def OrdF (X Y Z : Int) : Prop := X ≤ 0 → Y ≤ 0 → Z ≤ 0 ∧ (Z = 0 ↔ X = 0 ∧ Y = 0)
def ZerF (X : Int) (t u : T) : Prop := X = 0 ↔ (sameN t u = true ∨ (¬ t.may ∧ ¬ u.may))
theorem ZerF.one {X : Int} {t u : T} (h : ZerF X t u) (h0 : X = 0) : sameN t u = true ∨ (¬ t.may ∧ ¬ u.may) := h.1 h0
theorem ZerF.two {X : Int} {t u : T} (h : ZerF X t u) (h0 : sameN t u = true ∨ (¬ t.may ∧ ¬ u.may)) : X = 0 := h.2 h0
set_option maxRecDepth 100000 in
set_option maxHeartbeats 8000000 in
theorem order_walk {K1 K2 K3 : Nat → Prop} {d1 d2 d3 : Nat} {v1 v2 v3 : Value} {t1 t2 t3 : T} (w : World) (h1 : Rd K1 w d1 v1 t1) (h2 : Rd K2 w d2 v2 t2) (h3 : Rd K3 w d3 v3 t3) :
    Calls Tryd.prog 4 #[v1, v2, v3] w fun e w' => e = .returned (.bool true) ∧ Ext w w' := by
  obtain ⟨u0, u1, u2, u3, rfl⟩ := h1.agg
  obtain ⟨k1, n1, x1, a1, c1, rfl, rfl, rfl, rfl⟩ := h1.shape
  obtain ⟨u0, u1, u2, u3, rfl⟩ := h2.agg
  obtain ⟨k2, n2, x2, a2, c2, rfl, rfl, rfl, rfl⟩ := h2.shape
  obtain ⟨u0, u1, u2, u3, rfl⟩ := h3.agg
  obtain ⟨k3, n3, x3, a3, c3, rfl, rfl, rfl, rfl⟩ := h3.shape
  have H1 := hid h1
  generalize t1.kids.length = l1 at *
  have H2 := hid h2
  generalize t2.kids.length = l2 at *
  have H3 := hid h3
  generalize t3.kids.length = l3 at *
  clear h1 h2 h3
  go_enter Tryd.func4, Tryd.ntmps4
  go_wp2_with fail
  refine (begun_any _).mono ?_
  rintro e V ⟨rfl, hx⟩
  have HV := hid ((Ext.alloc3 w _ _ _).trans hx)
  have B1 := hid (hx.block (blkOld _ (blkOld _ (blk0 w _))))
  have B2 := hid (hx.block (blkOld _ (blk1 w _ _)))
  have B3 := hid (hx.block (blk2 w _ _ _))
  clear hx
  obtain ⟨X, hX⟩ : ∃ X, cmpN t1 t2 = X := ⟨_, rfl⟩
  obtain ⟨Y, hY⟩ : ∃ Y, cmpN t2 t3 = Y := ⟨_, rfl⟩
  obtain ⟨Z, hZ⟩ : ∃ Z, cmpN t1 t3 = Z := ⟨_, rfl⟩
  have HX3 := hid (show X = -1 ∨ X = 0 ∨ X = 1 by rw [← hX]; exact cmpN_cases _ _)
  have HY3 := hid (show Y = -1 ∨ Y = 0 ∨ Y = 1 by rw [← hY]; exact cmpN_cases _ _)
  have HZ3 := hid (show Z = -1 ∨ Z = 0 ∨ Z = 1 by rw [← hZ]; exact cmpN_cases _ _)
  have HT := hid (show OrdF X Y Z by unfold OrdF; rw [← hX, ← hY, ← hZ]; exact cmpN_through _ _ _)
  have HE := hid (show ZerF X t1 t2 by unfold ZerF; rw [← hX]; exact cmpN_zero _ _)
  have C12 := hid (show ∀ W', Ext V W' → Calls Tryd.prog 14 #[.agg #[.int .i64 k1, .int .i64 n1, .string x1, .slice a1 l1 c1], .agg #[.int .i64 k2, .int .i64 n2, .string x2, .slice a2 l2 c2]] W' fun r w' => r = .returned (.int .i64 (X)) ∧ Ext W' w' from fun W' h => by
    have e := compareOf_any W' (H1.out.later (HV.out.trans h)) (H2.out.later (HV.out.trans h))
    rw [hX] at e
    exact e)
  have C23 := hid (show ∀ W', Ext V W' → Calls Tryd.prog 14 #[.agg #[.int .i64 k2, .int .i64 n2, .string x2, .slice a2 l2 c2], .agg #[.int .i64 k3, .int .i64 n3, .string x3, .slice a3 l3 c3]] W' fun r w' => r = .returned (.int .i64 (Y)) ∧ Ext W' w' from fun W' h => by
    have e := compareOf_any W' (H2.out.later (HV.out.trans h)) (H3.out.later (HV.out.trans h))
    rw [hY] at e
    exact e)
  have C13 := hid (show ∀ W', Ext V W' → Calls Tryd.prog 14 #[.agg #[.int .i64 k1, .int .i64 n1, .string x1, .slice a1 l1 c1], .agg #[.int .i64 k3, .int .i64 n3, .string x3, .slice a3 l3 c3]] W' fun r w' => r = .returned (.int .i64 (Z)) ∧ Ext W' w' from fun W' h => by
    have e := compareOf_any W' (H1.out.later (HV.out.trans h)) (H3.out.later (HV.out.trans h))
    rw [hZ] at e
    exact e)
  have C21 := hid (show ∀ W', Ext V W' → Calls Tryd.prog 14 #[.agg #[.int .i64 k2, .int .i64 n2, .string x2, .slice a2 l2 c2], .agg #[.int .i64 k1, .int .i64 n1, .string x1, .slice a1 l1 c1]] W' fun r w' => r = .returned (.int .i64 (-X)) ∧ Ext W' w' from fun W' h => by
    have e := compareOf_any W' (H2.out.later (HV.out.trans h)) (H1.out.later (HV.out.trans h))
    rw [cmpN_turn, hX] at e
    exact e)
  have CS := hid (show ∀ W', Ext V W' → Calls Tryd.prog 12 #[.agg #[.int .i64 k1, .int .i64 n1, .string x1, .slice a1 l1 c1], .agg #[.int .i64 k2, .int .i64 n2, .string x2, .slice a2 l2 c2]] W' fun r w' => r = .returned (.bool (sameN t1 t2)) ∧ Ext W' w' from fun W' h => sameOf_any W' (H1.out.later (HV.out.trans h)) (H2.out.later (HV.out.trans h)))
  have CM1 := hid (show ∀ W', Ext V W' → Calls Tryd.prog 15 #[.agg #[.int .i64 k1, .int .i64 n1, .string x1, .slice a1 l1 c1]] W' fun r w' => r = .returned (.bool (decide t1.may)) ∧ Ext W' w' from fun W' h => may_any W' (H1.out.later (HV.out.trans h)))
  have CM2 := hid (show ∀ W', Ext V W' → Calls Tryd.prog 15 #[.agg #[.int .i64 k2, .int .i64 n2, .string x2, .slice a2 l2 c2]] W' fun r w' => r = .returned (.bool (decide t2.may)) ∧ Ext W' w' from fun W' h => may_any W' (H2.out.later (HV.out.trans h)))
  clear hX hY hZ
  obtain ⟨m010, m011, m012, m013⟩ := four_of (Ext.block (Ext.refl V) B1.out); obtain ⟨m020, m021, m022, m023⟩ := four_of (Ext.block (Ext.refl V) B2.out); obtain ⟨m030, m031, m032, m033⟩ := four_of (Ext.block (Ext.refl V) B3.out)
  go_wp2_with fail
  go_region_held3 (fun W' => W'.cell? ⟨w.heap.size, 0, none⟩ = some (.int .i64 k1) ∧ W'.cell? ⟨w.heap.size, 1, none⟩ = some (.int .i64 n1) ∧ W'.cell? ⟨w.heap.size, 2, none⟩ = some (.string x1) ∧ W'.cell? ⟨w.heap.size, 3, none⟩ = some (.slice a1 l1 c1) ∧ W'.cell? ⟨w.heap.size + 1, 0, none⟩ = some (.int .i64 k2) ∧ W'.cell? ⟨w.heap.size + 1, 1, none⟩ = some (.int .i64 n2) ∧ W'.cell? ⟨w.heap.size + 1, 2, none⟩ = some (.string x2) ∧ W'.cell? ⟨w.heap.size + 1, 3, none⟩ = some (.slice a2 l2 c2) ∧ W'.cell? ⟨w.heap.size + 1 + 1, 0, none⟩ = some (.int .i64 k3) ∧ W'.cell? ⟨w.heap.size + 1 + 1, 1, none⟩ = some (.int .i64 n3) ∧ W'.cell? ⟨w.heap.size + 1 + 1, 2, none⟩ = some (.string x3) ∧ W'.cell? ⟨w.heap.size + 1 + 1, 3, none⟩ = some (.slice a3 l3 c3)) (first | exact ⟨m310, m311, m312, m313, m320, m321, m322, m323, m330, m331, m332, m333⟩ | exact ⟨m210, m211, m212, m213, m220, m221, m222, m223, m230, m231, m232, m233⟩ | exact ⟨m110, m111, m112, m113, m120, m121, m122, m123, m130, m131, m132, m133⟩ | exact ⟨m010, m011, m012, m013, m020, m021, m022, m023, m030, m031, m032, m033⟩ | go_keep) (first | (go_at_call 14; (fail_if_success (have g1 := s1)); refine (C12.out _ (Ext.drew (Ext.refl V))).mono ?_; rintro r v1 ⟨rfl, hv1⟩; have Y1 : Ext V v1 := Ext.trans (Ext.drew (Ext.refl V)) hv1; have s1 : True := trivial; obtain ⟨m110, m111, m112, m113⟩ := four_of (Ext.block Y1 B1.out); obtain ⟨m120, m121, m122, m123⟩ := four_of (Ext.block Y1 B2.out); obtain ⟨m130, m131, m132, m133⟩ := four_of (Ext.block Y1 B3.out)) | (go_at_call 14; have g1 := s1; (fail_if_success (have g2 := s2)); refine (C23.out _ Y1).mono ?_; rintro r v2 ⟨rfl, hv2⟩; have Y2 : Ext V v2 := Ext.trans Y1 hv2; have s2 : True := trivial; obtain ⟨m210, m211, m212, m213⟩ := four_of (Ext.block Y2 B1.out); obtain ⟨m220, m221, m222, m223⟩ := four_of (Ext.block Y2 B2.out); obtain ⟨m230, m231, m232, m233⟩ := four_of (Ext.block Y2 B3.out)) | (go_at_call 14; have g1 := s1; have g2 := s2; (fail_if_success (have g3 := s3)); refine (C13.out _ Y2).mono ?_; rintro r v3 ⟨rfl, hv3⟩; have Y3 : Ext V v3 := Ext.trans Y2 hv3; have s3 : True := trivial; obtain ⟨m310, m311, m312, m313⟩ := four_of (Ext.block Y3 B1.out); obtain ⟨m320, m321, m322, m323⟩ := four_of (Ext.block Y3 B2.out); obtain ⟨m330, m331, m332, m333⟩ := four_of (Ext.block Y3 B3.out)))
  clear m010 m011 m012 m013 m020 m021 m022 m023 m030 m031 m032 m033 m110 m111 m112 m113 m120 m121 m122 m123 m130 m131 m132 m133 m210 m211 m212 m213 m220 m221 m222 m223 m230 m231 m232 m233
  clear s1 s2 s3 hv1 hv2 hv3
  rcases HX3.out with rfl | rfl | rfl
  · go_wp2_with fail
    refine (C21.out v3 Y3).mono ?_
    rintro r v4 ⟨rfl, hv4⟩
    have Y4 := Ext.trans Y3 hv4
    clear m310 m311 m312 m313 m320 m321 m322 m323 m330 m331 m332 m333 hv4
    obtain ⟨m410, m411, m412, m413⟩ := four_of (Ext.block Y4 B1.out); obtain ⟨m420, m421, m422, m423⟩ := four_of (Ext.block Y4 B2.out); obtain ⟨m430, m431, m432, m433⟩ := four_of (Ext.block Y4 B3.out)
    have hs' : sameN t1 t2 = false := by
      cases hq : sameN t1 t2 with
      | false => rfl
      | true => exact absurd (ZerF.two HE.out (.inl hq)) (by decide)
    rw [hs'] at CS
    by_cases m1 : t1.may
    · rw [decide_eq_true m1] at CM1
      clear hs' m1 HE
      go_wp2_with fail
      refine (CS.out v4 Y4).mono ?_
      rintro r v5 ⟨rfl, hv5⟩
      have Y5 := Ext.trans Y4 hv5
      clear m410 m411 m412 m413 m420 m421 m422 m423 m430 m431 m432 m433 hv5
      obtain ⟨m510, m511, m512, m513⟩ := four_of (Ext.block Y5 B1.out); obtain ⟨m520, m521, m522, m523⟩ := four_of (Ext.block Y5 B2.out); obtain ⟨m530, m531, m532, m533⟩ := four_of (Ext.block Y5 B3.out)
      go_wp2_with fail
      refine (CM1.out v5 Y5).mono ?_
      rintro r v6 ⟨rfl, hv6⟩
      have Y6 := Ext.trans Y5 hv6
      clear m510 m511 m512 m513 m520 m521 m522 m523 m530 m531 m532 m533 hv6
      obtain ⟨m610, m611, m612, m613⟩ := four_of (Ext.block Y6 B1.out); obtain ⟨m620, m621, m622, m623⟩ := four_of (Ext.block Y6 B2.out); obtain ⟨m630, m631, m632, m633⟩ := four_of (Ext.block Y6 B3.out)
      rcases HY3.out with rfl | rfl | rfl
      all_goals
        rcases HZ3.out with rfl | rfl | rfl
        all_goals first
          | (exfalso; have t := HT.out; unfold OrdF at t; omega)
          | (go_wp2_with fail
             go_ret
             exact ⟨rfl, HV.out.trans Y6⟩)
    · have m2 : t2.may := by
        by_cases m2 : t2.may
        · exact m2
        · exact absurd (ZerF.two HE.out (.inr ⟨m1, m2⟩)) (by decide)
      rw [decide_eq_false m1] at CM1
      rw [decide_eq_true m2] at CM2
      clear hs' m1 m2 HE
      go_wp2_with fail
      refine (CS.out v4 Y4).mono ?_
      rintro r v5 ⟨rfl, hv5⟩
      have Y5 := Ext.trans Y4 hv5
      clear m410 m411 m412 m413 m420 m421 m422 m423 m430 m431 m432 m433 hv5
      obtain ⟨m510, m511, m512, m513⟩ := four_of (Ext.block Y5 B1.out); obtain ⟨m520, m521, m522, m523⟩ := four_of (Ext.block Y5 B2.out); obtain ⟨m530, m531, m532, m533⟩ := four_of (Ext.block Y5 B3.out)
      go_wp2_with fail
      refine (CM1.out v5 Y5).mono ?_
      rintro r v6 ⟨rfl, hv6⟩
      have Y6 := Ext.trans Y5 hv6
      clear m510 m511 m512 m513 m520 m521 m522 m523 m530 m531 m532 m533 hv6
      obtain ⟨m610, m611, m612, m613⟩ := four_of (Ext.block Y6 B1.out); obtain ⟨m620, m621, m622, m623⟩ := four_of (Ext.block Y6 B2.out); obtain ⟨m630, m631, m632, m633⟩ := four_of (Ext.block Y6 B3.out)
      go_wp2_with fail
      refine (CM2.out v6 Y6).mono ?_
      rintro r v7 ⟨rfl, hv7⟩
      have Y7 := Ext.trans Y6 hv7
      clear m610 m611 m612 m613 m620 m621 m622 m623 m630 m631 m632 m633 hv7
      obtain ⟨m710, m711, m712, m713⟩ := four_of (Ext.block Y7 B1.out); obtain ⟨m720, m721, m722, m723⟩ := four_of (Ext.block Y7 B2.out); obtain ⟨m730, m731, m732, m733⟩ := four_of (Ext.block Y7 B3.out)
      rcases HY3.out with rfl | rfl | rfl
      all_goals
        rcases HZ3.out with rfl | rfl | rfl
        all_goals first
          | (exfalso; have t := HT.out; unfold OrdF at t; omega)
          | (go_wp2_with fail
             go_ret
             exact ⟨rfl, HV.out.trans Y7⟩)
  · go_wp2_with fail
    refine (C21.out v3 Y3).mono ?_
    rintro r v4 ⟨rfl, hv4⟩
    have Y4 := Ext.trans Y3 hv4
    clear m310 m311 m312 m313 m320 m321 m322 m323 m330 m331 m332 m333 hv4
    obtain ⟨m410, m411, m412, m413⟩ := four_of (Ext.block Y4 B1.out); obtain ⟨m420, m421, m422, m423⟩ := four_of (Ext.block Y4 B2.out); obtain ⟨m430, m431, m432, m433⟩ := four_of (Ext.block Y4 B3.out)
    by_cases hs : sameN t1 t2 = true
    · rw [hs] at CS
      go_wp2_with fail
      refine (CS.out v4 Y4).mono ?_
      rintro r v5 ⟨rfl, hv5⟩
      have Y5 := Ext.trans Y4 hv5
      clear m410 m411 m412 m413 m420 m421 m422 m423 m430 m431 m432 m433 hv5
      obtain ⟨m510, m511, m512, m513⟩ := four_of (Ext.block Y5 B1.out); obtain ⟨m520, m521, m522, m523⟩ := four_of (Ext.block Y5 B2.out); obtain ⟨m530, m531, m532, m533⟩ := four_of (Ext.block Y5 B3.out)
      rcases HY3.out with rfl | rfl | rfl
      all_goals
        rcases HZ3.out with rfl | rfl | rfl
        all_goals first
          | (exfalso; have t := HT.out; unfold OrdF at t; omega)
          | (go_wp2_with fail
             go_ret
             exact ⟨rfl, HV.out.trans Y5⟩)
    · have hm := (ZerF.one HE.out rfl).resolve_left hs
      have hs' : sameN t1 t2 = false := by simpa using hs
      rw [hs'] at CS
      rw [decide_eq_false hm.1] at CM1
      rw [decide_eq_false hm.2] at CM2
      clear hs hm hs' HE
      go_wp2_with fail
      refine (CS.out v4 Y4).mono ?_
      rintro r v5 ⟨rfl, hv5⟩
      have Y5 := Ext.trans Y4 hv5
      clear m410 m411 m412 m413 m420 m421 m422 m423 m430 m431 m432 m433 hv5
      obtain ⟨m510, m511, m512, m513⟩ := four_of (Ext.block Y5 B1.out); obtain ⟨m520, m521, m522, m523⟩ := four_of (Ext.block Y5 B2.out); obtain ⟨m530, m531, m532, m533⟩ := four_of (Ext.block Y5 B3.out)
      go_wp2_with fail
      refine (CM1.out v5 Y5).mono ?_
      rintro r v6 ⟨rfl, hv6⟩
      have Y6 := Ext.trans Y5 hv6
      clear m510 m511 m512 m513 m520 m521 m522 m523 m530 m531 m532 m533 hv6
      obtain ⟨m610, m611, m612, m613⟩ := four_of (Ext.block Y6 B1.out); obtain ⟨m620, m621, m622, m623⟩ := four_of (Ext.block Y6 B2.out); obtain ⟨m630, m631, m632, m633⟩ := four_of (Ext.block Y6 B3.out)
      go_wp2_with fail
      refine (CM2.out v6 Y6).mono ?_
      rintro r v7 ⟨rfl, hv7⟩
      have Y7 := Ext.trans Y6 hv7
      clear m610 m611 m612 m613 m620 m621 m622 m623 m630 m631 m632 m633 hv7
      obtain ⟨m710, m711, m712, m713⟩ := four_of (Ext.block Y7 B1.out); obtain ⟨m720, m721, m722, m723⟩ := four_of (Ext.block Y7 B2.out); obtain ⟨m730, m731, m732, m733⟩ := four_of (Ext.block Y7 B3.out)
      rcases HY3.out with rfl | rfl | rfl
      all_goals
        rcases HZ3.out with rfl | rfl | rfl
        all_goals first
          | (exfalso; have t := HT.out; unfold OrdF at t; omega)
          | (go_wp2_with fail
             go_ret
             exact ⟨rfl, HV.out.trans Y7⟩)
  · go_wp2_with fail
    refine (C21.out v3 Y3).mono ?_
    rintro r v4 ⟨rfl, hv4⟩
    have Y4 := Ext.trans Y3 hv4
    clear m310 m311 m312 m313 m320 m321 m322 m323 m330 m331 m332 m333 hv4
    obtain ⟨m410, m411, m412, m413⟩ := four_of (Ext.block Y4 B1.out); obtain ⟨m420, m421, m422, m423⟩ := four_of (Ext.block Y4 B2.out); obtain ⟨m430, m431, m432, m433⟩ := four_of (Ext.block Y4 B3.out)
    have hs' : sameN t1 t2 = false := by
      cases hq : sameN t1 t2 with
      | false => rfl
      | true => exact absurd (ZerF.two HE.out (.inl hq)) (by decide)
    rw [hs'] at CS
    by_cases m1 : t1.may
    · rw [decide_eq_true m1] at CM1
      clear hs' m1 HE
      go_wp2_with fail
      refine (CS.out v4 Y4).mono ?_
      rintro r v5 ⟨rfl, hv5⟩
      have Y5 := Ext.trans Y4 hv5
      clear m410 m411 m412 m413 m420 m421 m422 m423 m430 m431 m432 m433 hv5
      obtain ⟨m510, m511, m512, m513⟩ := four_of (Ext.block Y5 B1.out); obtain ⟨m520, m521, m522, m523⟩ := four_of (Ext.block Y5 B2.out); obtain ⟨m530, m531, m532, m533⟩ := four_of (Ext.block Y5 B3.out)
      go_wp2_with fail
      refine (CM1.out v5 Y5).mono ?_
      rintro r v6 ⟨rfl, hv6⟩
      have Y6 := Ext.trans Y5 hv6
      clear m510 m511 m512 m513 m520 m521 m522 m523 m530 m531 m532 m533 hv6
      obtain ⟨m610, m611, m612, m613⟩ := four_of (Ext.block Y6 B1.out); obtain ⟨m620, m621, m622, m623⟩ := four_of (Ext.block Y6 B2.out); obtain ⟨m630, m631, m632, m633⟩ := four_of (Ext.block Y6 B3.out)
      go_wp2_with fail
      go_ret
      exact ⟨rfl, HV.out.trans Y6⟩
    · have m2 : t2.may := by
        by_cases m2 : t2.may
        · exact m2
        · exact absurd (ZerF.two HE.out (.inr ⟨m1, m2⟩)) (by decide)
      rw [decide_eq_false m1] at CM1
      rw [decide_eq_true m2] at CM2
      clear hs' m1 m2 HE
      go_wp2_with fail
      refine (CS.out v4 Y4).mono ?_
      rintro r v5 ⟨rfl, hv5⟩
      have Y5 := Ext.trans Y4 hv5
      clear m410 m411 m412 m413 m420 m421 m422 m423 m430 m431 m432 m433 hv5
      obtain ⟨m510, m511, m512, m513⟩ := four_of (Ext.block Y5 B1.out); obtain ⟨m520, m521, m522, m523⟩ := four_of (Ext.block Y5 B2.out); obtain ⟨m530, m531, m532, m533⟩ := four_of (Ext.block Y5 B3.out)
      go_wp2_with fail
      refine (CM1.out v5 Y5).mono ?_
      rintro r v6 ⟨rfl, hv6⟩
      have Y6 := Ext.trans Y5 hv6
      clear m510 m511 m512 m513 m520 m521 m522 m523 m530 m531 m532 m533 hv6
      obtain ⟨m610, m611, m612, m613⟩ := four_of (Ext.block Y6 B1.out); obtain ⟨m620, m621, m622, m623⟩ := four_of (Ext.block Y6 B2.out); obtain ⟨m630, m631, m632, m633⟩ := four_of (Ext.block Y6 B3.out)
      go_wp2_with fail
      refine (CM2.out v6 Y6).mono ?_
      rintro r v7 ⟨rfl, hv7⟩
      have Y7 := Ext.trans Y6 hv7
      clear m610 m611 m612 m613 m620 m621 m622 m623 m630 m631 m632 m633 hv7
      obtain ⟨m710, m711, m712, m713⟩ := four_of (Ext.block Y7 B1.out); obtain ⟨m720, m721, m722, m723⟩ := four_of (Ext.block Y7 B2.out); obtain ⟨m730, m731, m732, m733⟩ := four_of (Ext.block Y7 B3.out)
      go_wp2_with fail
      go_ret
      exact ⟨rfl, HV.out.trans Y7⟩
end Go.Proofs.YtbpbkihcfdnphaaDoor
