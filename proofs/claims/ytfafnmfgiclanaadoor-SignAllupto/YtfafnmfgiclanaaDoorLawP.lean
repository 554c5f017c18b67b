/-
  espalierlaw3.plays by a contract: every call is as the document says, and what is handed in stays as it is.
-/
import Derived.Test.YtfafnmfgiclanaaDoorLawN
import Derived.Test.YtfafnmfgiclanaaDoorOrdW
import Derived.Test.YtfafnmfgiclanaaDoorBack
namespace Go.Proofs.YtfafnmfgiclanaaDoor
open Go.RowKit Go.Shelf

set_option maxRecDepth 100000 in
set_option maxHeartbeats 20000000 in
theorem plays_true (kd : Int) (S f1 : ByteArray) (a1 : Option Addr) (c1 : Nat) (xs : List Int) (f2 : ByteArray) (a2 : Option Addr) (c2 : Nat) (ys : List Int) (w : World) (hG : Laid w) (hb : S.size ≤ 1099511627776) (hb1 : xs.length * 8 ≤ 140737488351232) (hb2 : ys.length * 8 ≤ 140737488351232)
    (h1 : Ints w (.slice a1 xs.length c1) xs) (h2 : Ints w (.slice a2 ys.length c2) ys) :
    Calls Tryd.prog 8 #[.agg #[.int .i64 kd, .string S, .string f1, .slice a1 xs.length c1, .string f2, .slice a2 ys.length c2]] w fun r w' => r = .returned (.bool true) ∧ Ext w w' := by
  have HG := hid hG
  have H1 := hid h1
  have H2 := hid h2
  clear hG h1 h2
  go_enter Tryd.func8, Tryd.ntmps8
  go_upto_region 1 with fail
  obtain ⟨V, hV⟩ : ∃ V, w.alloc (.cells #[.int .i64 kd, .string S, .string f1, .slice a1 xs.length c1, .string f2, .slice a2 ys.length c2] 29) = V := ⟨_, rfl⟩
  have HXV := hid (show Ext w V from hV ▸ Ext.alloc _ _)
  have HBV := hid (show V.heap[w.heap.size]? = some (.cells #[.int .i64 kd, .string S, .string f1, .slice a1 xs.length c1, .string f2, .slice a2 ys.length c2] 29) from hV ▸ blk0 w _)
  have k2 := cell_of (i := 2) HBV.out rfl
  have k3 := cell_of (i := 3) HBV.out rfl
  simp only [List.getElem_toArray, List.getElem_cons_zero, List.getElem_cons_succ] at k2 k3
  have hl1 : w.heap.size < V.heap.size := lt_of_cell k2
  try rw [hV]
  clear hV
  go_cut [3] from 21 (fun s3 wx => ∃ pb a9 c9, s3 = .pointer (some ⟨pb, 0, none⟩) ∧ wx.heap[pb]? = some (.cells #[.string f1, .slice a9 xs.length c9] 27) ∧ Ints wx (.slice a9 xs.length c9) xs ∧ Ext V wx)
  case first =>
    go_region_held3 (fun w' => w'.cell? ⟨w.heap.size, 2, none⟩ = some (.string f1) ∧ w'.cell? ⟨w.heap.size, 3, none⟩ = some (.slice a1 xs.length c1)) (first | exact ⟨r0, r1⟩ | exact ⟨keep_set2 Z1 hl1 (by have := Below.size Z1; omega) _ _ k2, keep_set2 Z1 hl1 (by have := Below.size Z1; omega) _ _ k3⟩ | exact ⟨(Below.cell (Ext.more Z1 _) hl1).trans k2, (Below.cell (Ext.more Z1 _) hl1).trans k3⟩ | exact ⟨k2, k3⟩ | go_keep) (first
      | (refine step_append_ints _ (by rfl) _ (by rfl) (by rfl) a1 xs.length c1 xs (by rfl) (by omega) ((H1.out.later HXV.out).later (by repeat (first | with_reducible exact Ext.refl _ | with_reducible refine Ext.drew ?_ | with_reducible refine Ext.more ?_ _))) ?_; intro a9 c9 w1 ho1 hx1; have Z1 : Ext V w1 := Ext.trans (by repeat (first | with_reducible exact Ext.refl _ | with_reducible refine Ext.drew ?_ | with_reducible refine Ext.more ?_ _)) hx1; have r0 := (Below.cell Z1 hl1 (p := ⟨w.heap.size, 2, none⟩)).trans k2; have r1 := (Below.cell Z1 hl1 (p := ⟨w.heap.size, 3, none⟩)).trans k3; (try have bC : w1.heap[V.heap.size]? = some (.cells #[.string ⟨#[]⟩, .slice none 0 0] 27) := hx1.block (blk0 V _)); (try have bC0 := cell_of (i := 0) bC rfl); (try have bC1 := cell_of (i := 1) bC rfl); (try have bC2 := frozen_of (i := 0) bC); (try have bC3 := frozen_of (i := 1) bC)))
    all_goals
      go_wp2_with fail
      go_meet
      case rel =>
        first
          | exact ⟨w1.heap.size, a9, c9, rfl, blk0 _ _, (Ints.own rfl ho1).later (Ext.alloc _ _), Z1.more _⟩
          | exact ⟨_, a9, c9, rfl, set2_blk bC _ _, ints_set2 ho1 rfl bC _ _, ext_set2 Z1 (by have := Below.size Z1; omega) _ _⟩
  case rest =>
    obtain ⟨pb, a9, c9, rfl, hpw, hip, hxw⟩ := hcut
    obtain ⟨W, rfl⟩ : ∃ W, W = wc := ⟨wc, rfl⟩
    have HPW := hid hpw
    have HIP := hid hip
    have HXW := hid hxw
    have o0 : W.cell? ⟨w.heap.size, 0, none⟩ = some (.int .i64 kd) := cell_of (HXW.out.block HBV.out) rfl
    clear hpw hip hxw k2 k3
    by_cases hk1 : kd = 1 ∨ kd = 2 ∨ kd = 3 ∨ kd = 4 ∨ kd = 5
    · have HN := hid (fun W' => names_true kd S f1 a1 xs.length c1 f2 a2 ys.length c2 W' hb)
      have P0 := Ext.block (Ext.refl W) HPW.out; have p0 := cell_of (i := 0) P0 rfl; have p1 := cell_of (i := 1) P0 rfl; have O0 := Ext.block (HXW.out.trans (Ext.refl W)) HBV.out; have o1 := cell_of (i := 1) O0 rfl; have o2 := cell_of (i := 2) O0 rfl; have o3 := cell_of (i := 3) O0 rfl; have o4 := cell_of (i := 4) O0 rfl; have o5 := cell_of (i := 5) O0 rfl; simp only [List.getElem_toArray, List.getElem_cons_zero, List.getElem_cons_succ] at p0 p1 o1 o2 o3 o4 o5; have hlp := lt_of_cell p0; have hlo := lt_of_cell o1; clear P0 O0
      rcases hk1 with rfl | rfl | rfl | rfl | rfl
      all_goals
        go_wp2_with fail
        refine (HN.out _).mono ?_
        rintro r w1 ⟨rfl, hx1⟩
        have X1 := hid (HXV.out.trans (HXW.out.trans hx1))
        clear hx1 p0 p1 o1 o2 o3 o4 o5 hlp hlo
        go_wp2
        go_ret
        exact ⟨rfl, X1.out⟩
    by_cases hk6 : kd = 6
    · subst hk6
      obtain ⟨o, ho⟩ : ∃ o, placeB f1.data.toList xs = o := ⟨_, rfl⟩
      have C1 : Hid (∀ W', Ext W W' → Calls Tryd.prog 10 #[.agg #[.string f1, .slice a9 xs.length c9]] W' fun r w' => r = .returned (.bool o) ∧ Ext W' w') := fun W' h => by rw [← ho]; exact place_any f1 a9 c9 xs W' (by omega) (HIP.out.later h)
      have C2 : Hid (∀ W', Ext W W' → Calls Tryd.prog 22 #[.agg #[.string f1, .slice a1 xs.length c1]] W' fun r w' => r = .returned (.bool o) ∧ Ext W' w') := fun W' h => by rw [← ho]; exact place_ref f1 a1 c1 xs W' (by omega) (H1.out.later (HXV.out.trans (HXW.out.trans h)))
      clear ho hk1
      cases o
      all_goals
        have P0 := Ext.block (Ext.refl W) HPW.out
        have p0 := cell_of (i := 0) P0 rfl
        have p1 := cell_of (i := 1) P0 rfl
        have O0 := Ext.block (HXW.out.trans (Ext.refl W)) HBV.out
        have o1 := cell_of (i := 1) O0 rfl
        have o2 := cell_of (i := 2) O0 rfl
        have o3 := cell_of (i := 3) O0 rfl
        have o4 := cell_of (i := 4) O0 rfl
        have o5 := cell_of (i := 5) O0 rfl
        simp only [List.getElem_toArray, List.getElem_cons_zero, List.getElem_cons_succ] at p0 p1 o1 o2 o3 o4 o5
        have hlp := lt_of_cell p0
        have hlo := lt_of_cell o1
        clear P0 O0
        go_wp2_with fail
        go_region_held3 (fun w' => w'.cell? ⟨pb, 0, none⟩ = some (.string f1) ∧ w'.cell? ⟨pb, 1, none⟩ = some (.slice a9 xs.length c9) ∧ w'.cell? ⟨w.heap.size, 2, none⟩ = some (.string f1) ∧ w'.cell? ⟨w.heap.size, 3, none⟩ = some (.slice a1 xs.length c1) ∧ w'.cell? ⟨w.heap.size, 4, none⟩ = some (.string f2) ∧ w'.cell? ⟨w.heap.size, 5, none⟩ = some (.slice a2 ys.length c2)) (first | exact ⟨m20, m21, m22, m23, m24, m25⟩ | exact ⟨m10, m11, m12, m13, m14, m15⟩ | exact ⟨p0, p1, o2, o3, o4, o5⟩ | go_keep) (first | (go_at_call 10; (fail_if_success (have g1 := s1)); refine (C1.out _ (Ext.drew (Ext.refl W))).mono ?_; rintro r v1 ⟨rfl, hv1⟩; have Y1 : Ext W v1 := Ext.trans (Ext.drew (Ext.refl W)) hv1; have s1 : True := trivial; have Pn := Ext.block Y1 HPW.out; have On := Ext.block (HXW.out.trans Y1) HBV.out; have m10 := cell_of (i := 0) Pn rfl; have m11 := cell_of (i := 1) Pn rfl; have m12 := cell_of (i := 2) On rfl; have m13 := cell_of (i := 3) On rfl; have m14 := cell_of (i := 4) On rfl; have m15 := cell_of (i := 5) On rfl; simp only [List.getElem_toArray, List.getElem_cons_zero, List.getElem_cons_succ] at m10 m11 m12 m13 m14 m15; clear Pn On) | (go_at_call 22; have g1 := s1; (fail_if_success (have g2 := s2)); refine (C2.out _ Y1).mono ?_; rintro r v2 ⟨rfl, hv2⟩; have Y2 : Ext W v2 := Ext.trans Y1 hv2; have s2 : True := trivial; have Pn := Ext.block Y2 HPW.out; have On := Ext.block (HXW.out.trans Y2) HBV.out; have m20 := cell_of (i := 0) Pn rfl; have m21 := cell_of (i := 1) Pn rfl; have m22 := cell_of (i := 2) On rfl; have m23 := cell_of (i := 3) On rfl; have m24 := cell_of (i := 4) On rfl; have m25 := cell_of (i := 5) On rfl; simp only [List.getElem_toArray, List.getElem_cons_zero, List.getElem_cons_succ] at m20 m21 m22 m23 m24 m25; clear Pn On))
        all_goals
          clear p0 p1 o1 o2 o3 o4 o5 hlp hlo
          have P0 := Ext.block Y2 HPW.out
          have p0 := cell_of (i := 0) P0 rfl
          have p1 := cell_of (i := 1) P0 rfl
          have O0 := Ext.block (HXW.out.trans Y2) HBV.out
          have o1 := cell_of (i := 1) O0 rfl
          have o2 := cell_of (i := 2) O0 rfl
          have o3 := cell_of (i := 3) O0 rfl
          have o4 := cell_of (i := 4) O0 rfl
          have o5 := cell_of (i := 5) O0 rfl
          simp only [List.getElem_toArray, List.getElem_cons_zero, List.getElem_cons_succ] at p0 p1 o1 o2 o3 o4 o5
          have hlp := lt_of_cell p0
          have hlo := lt_of_cell o1
          clear P0 O0
          go_wp2_with fail
          refine (eqPlace_any f1 f1 a9 a1 c9 c1 xs xs _ (by omega) (HIP.out.later Y2) (H1.out.later (HXV.out.trans (HXW.out.trans Y2)))).mono ?_
          rw [show eqP (f1.data.toList, xs) (f1.data.toList, xs) = true from decide_eq_true rfl]
          rintro r we ⟨rfl, hxe⟩
          have XE := hid (HXV.out.trans (HXW.out.trans (Ext.trans Y2 hxe)))
          clear hxe p0 p1 o1 o2 o3 o4 o5 hlp hlo
          go_wp2
          go_ret
          exact ⟨rfl, XE.out⟩
    by_cases hk7 : kd = 7
    · subst hk7
      clear hk1 hk6
      by_cases hp : pathB xs = true
      · have HP := hid hp
        obtain ⟨T, hT⟩ : ∃ T : ByteArray, (⟨(pathText (nats xs)).toArray⟩ : ByteArray) = T := ⟨_, rfl⟩
        have C1 : Hid (∀ W', Ext W W' → Calls Tryd.prog 23 #[.slice a9 xs.length c9] W' fun r w' => r = .returned (.tuple #[.string T, .int .i64 0]) ∧ Ext W' w') := fun W' h => by rw [← hT]; exact pathText_any a9 c9 xs W' (HIP.out.later h) (HG.out.later (HXV.out.trans (HXW.out.trans h))) HP.out
        have C2 : Hid (∀ W', Ext W W' → Calls Tryd.prog 24 #[.slice a1 xs.length c1] W' fun r w' => r = .returned (.tuple #[.string T, .int .i64 0]) ∧ Ext W' w') := fun W' h => by rw [← hT]; exact pathText_ref a1 c1 xs W' (H1.out.later (HXV.out.trans (HXW.out.trans h))) HP.out
        clear hp hT
        have P0 := Ext.block (Ext.refl W) HPW.out
        have p0 := cell_of (i := 0) P0 rfl
        have p1 := cell_of (i := 1) P0 rfl
        have O0 := Ext.block (HXW.out.trans (Ext.refl W)) HBV.out
        have o1 := cell_of (i := 1) O0 rfl
        have o2 := cell_of (i := 2) O0 rfl
        have o3 := cell_of (i := 3) O0 rfl
        have o4 := cell_of (i := 4) O0 rfl
        have o5 := cell_of (i := 5) O0 rfl
        simp only [List.getElem_toArray, List.getElem_cons_zero, List.getElem_cons_succ] at p0 p1 o1 o2 o3 o4 o5
        have hlp := lt_of_cell p0
        have hlo := lt_of_cell o1
        clear P0 O0
        go_wp2_with fail
        refine (C1.out _ (Ext.refl W)).mono ?_
        rintro r w1 ⟨rfl, hx1⟩
        have X1 := hid (Ext.trans (Ext.refl W) hx1)
        clear hx1
        clear p0 p1 o1 o2 o3 o4 o5 hlp hlo
        have P0 := Ext.block X1.out HPW.out
        have p0 := cell_of (i := 0) P0 rfl
        have p1 := cell_of (i := 1) P0 rfl
        have O0 := Ext.block (HXW.out.trans X1.out) HBV.out
        have o1 := cell_of (i := 1) O0 rfl
        have o2 := cell_of (i := 2) O0 rfl
        have o3 := cell_of (i := 3) O0 rfl
        have o4 := cell_of (i := 4) O0 rfl
        have o5 := cell_of (i := 5) O0 rfl
        simp only [List.getElem_toArray, List.getElem_cons_zero, List.getElem_cons_succ] at p0 p1 o1 o2 o3 o4 o5
        have hlp := lt_of_cell p0
        have hlo := lt_of_cell o1
        clear P0 O0
        go_wp2_with fail
        refine (C2.out _ X1.out).mono ?_
        rintro r w2 ⟨rfl, hx2⟩
        have X2 := hid (Ext.trans X1.out hx2)
        clear hx2
        clear p0 p1 o1 o2 o3 o4 o5 hlp hlo
        have P0 := Ext.block X2.out HPW.out
        have p0 := cell_of (i := 0) P0 rfl
        have p1 := cell_of (i := 1) P0 rfl
        have O0 := Ext.block (HXW.out.trans X2.out) HBV.out
        have o1 := cell_of (i := 1) O0 rfl
        have o2 := cell_of (i := 2) O0 rfl
        have o3 := cell_of (i := 3) O0 rfl
        have o4 := cell_of (i := 4) O0 rfl
        have o5 := cell_of (i := 5) O0 rfl
        simp only [List.getElem_toArray, List.getElem_cons_zero, List.getElem_cons_succ] at p0 p1 o1 o2 o3 o4 o5
        have hlp := lt_of_cell p0
        have hlo := lt_of_cell o1
        clear P0 O0
        go_wp2_with fail
        refine (eqPlace_any f1 f1 a9 a1 c9 c1 xs xs _ (by omega) (HIP.out.later X2.out) (H1.out.later (HXV.out.trans (HXW.out.trans X2.out)))).mono ?_
        rw [show eqP (f1.data.toList, xs) (f1.data.toList, xs) = true from decide_eq_true rfl]
        rintro r we ⟨rfl, hxe⟩
        have XE := hid (HXV.out.trans (HXW.out.trans (Ext.trans X2.out hxe)))
        clear hxe p0 p1 o1 o2 o3 o4 o5 hlp hlo
        go_wp2
        go_ret
        exact ⟨rfl, XE.out⟩
      · have HP := hid (show pathB xs = false by simpa using hp)
        have C1 : Hid (∀ W', Ext W W' → Calls Tryd.prog 23 #[.slice a9 xs.length c9] W' fun r w' => r = .returned (.tuple #[.string ⟨#[]⟩, .int .i64 1]) ∧ Ext W' w') := fun W' h => pathText_bad a9 c9 xs W' (by omega) (HIP.out.later h) HP.out
        have C2 : Hid (∀ W', Ext W W' → Calls Tryd.prog 24 #[.slice a1 xs.length c1] W' fun r w' => r = .returned (.tuple #[.string ⟨#[]⟩, .int .i64 1]) ∧ Ext W' w') := fun W' h => pathText_ref_bad a1 c1 xs W' (by omega) (H1.out.later (HXV.out.trans (HXW.out.trans h))) HP.out
        clear hp
        have P0 := Ext.block (Ext.refl W) HPW.out
        have p0 := cell_of (i := 0) P0 rfl
        have p1 := cell_of (i := 1) P0 rfl
        have O0 := Ext.block (HXW.out.trans (Ext.refl W)) HBV.out
        have o1 := cell_of (i := 1) O0 rfl
        have o2 := cell_of (i := 2) O0 rfl
        have o3 := cell_of (i := 3) O0 rfl
        have o4 := cell_of (i := 4) O0 rfl
        have o5 := cell_of (i := 5) O0 rfl
        simp only [List.getElem_toArray, List.getElem_cons_zero, List.getElem_cons_succ] at p0 p1 o1 o2 o3 o4 o5
        have hlp := lt_of_cell p0
        have hlo := lt_of_cell o1
        clear P0 O0
        go_wp2_with fail
        refine (C1.out _ (Ext.refl W)).mono ?_
        rintro r w1 ⟨rfl, hx1⟩
        have X1 := hid (Ext.trans (Ext.refl W) hx1)
        clear hx1
        clear p0 p1 o1 o2 o3 o4 o5 hlp hlo
        have P0 := Ext.block X1.out HPW.out
        have p0 := cell_of (i := 0) P0 rfl
        have p1 := cell_of (i := 1) P0 rfl
        have O0 := Ext.block (HXW.out.trans X1.out) HBV.out
        have o1 := cell_of (i := 1) O0 rfl
        have o2 := cell_of (i := 2) O0 rfl
        have o3 := cell_of (i := 3) O0 rfl
        have o4 := cell_of (i := 4) O0 rfl
        have o5 := cell_of (i := 5) O0 rfl
        simp only [List.getElem_toArray, List.getElem_cons_zero, List.getElem_cons_succ] at p0 p1 o1 o2 o3 o4 o5
        have hlp := lt_of_cell p0
        have hlo := lt_of_cell o1
        clear P0 O0
        go_wp2_with fail
        refine (C2.out _ X1.out).mono ?_
        rintro r w2 ⟨rfl, hx2⟩
        have X2 := hid (Ext.trans X1.out hx2)
        clear hx2
        clear p0 p1 o1 o2 o3 o4 o5 hlp hlo
        have P0 := Ext.block X2.out HPW.out
        have p0 := cell_of (i := 0) P0 rfl
        have p1 := cell_of (i := 1) P0 rfl
        have O0 := Ext.block (HXW.out.trans X2.out) HBV.out
        have o1 := cell_of (i := 1) O0 rfl
        have o2 := cell_of (i := 2) O0 rfl
        have o3 := cell_of (i := 3) O0 rfl
        have o4 := cell_of (i := 4) O0 rfl
        have o5 := cell_of (i := 5) O0 rfl
        simp only [List.getElem_toArray, List.getElem_cons_zero, List.getElem_cons_succ] at p0 p1 o1 o2 o3 o4 o5
        have hlp := lt_of_cell p0
        have hlo := lt_of_cell o1
        clear P0 O0
        go_wp2_with fail
        refine (eqPlace_any f1 f1 a9 a1 c9 c1 xs xs _ (by omega) (HIP.out.later X2.out) (H1.out.later (HXV.out.trans (HXW.out.trans X2.out)))).mono ?_
        rw [show eqP (f1.data.toList, xs) (f1.data.toList, xs) = true from decide_eq_true rfl]
        rintro r we ⟨rfl, hxe⟩
        have XE := hid (HXV.out.trans (HXW.out.trans (Ext.trans X2.out hxe)))
        clear hxe p0 p1 o1 o2 o3 o4 o5 hlp hlo
        go_wp2
        go_ret
        exact ⟨rfl, XE.out⟩
    by_cases hk9 : kd = 9
    · subst hk9
      clear hk1 hk6 hk7
      by_cases hp : placeB f1.data.toList xs = true
      · have HP := hid hp
        obtain ⟨T, hT⟩ : ∃ T : ByteArray, (⟨(placeText f1.data.toList (nats xs)).toArray⟩ : ByteArray) = T := ⟨_, rfl⟩
        have C1 : Hid (∀ W', Ext W W' → Calls Tryd.prog 9 #[.agg #[.string f1, .slice a9 xs.length c9]] W' fun r w' => r = .returned (.tuple #[.string T, .int .i64 0]) ∧ Ext W' w') := fun W' h => by rw [← hT]; exact placeText_good f1 a9 c9 xs W' (HIP.out.later h) (HG.out.later (HXV.out.trans (HXW.out.trans h))) HP.out
        have C2 : Hid (∀ W', Ext W W' → Calls Tryd.prog 27 #[.agg #[.string f1, .slice a1 xs.length c1]] W' fun r w' => r = .returned (.tuple #[.string T, .int .i64 0]) ∧ Ext W' w') := fun W' h => by rw [← hT]; exact placeText_ref f1 a1 c1 xs W' (H1.out.later (HXV.out.trans (HXW.out.trans h))) HP.out
        clear hp hT
        have P0 := Ext.block (Ext.refl W) HPW.out
        have p0 := cell_of (i := 0) P0 rfl
        have p1 := cell_of (i := 1) P0 rfl
        have O0 := Ext.block (HXW.out.trans (Ext.refl W)) HBV.out
        have o1 := cell_of (i := 1) O0 rfl
        have o2 := cell_of (i := 2) O0 rfl
        have o3 := cell_of (i := 3) O0 rfl
        have o4 := cell_of (i := 4) O0 rfl
        have o5 := cell_of (i := 5) O0 rfl
        simp only [List.getElem_toArray, List.getElem_cons_zero, List.getElem_cons_succ] at p0 p1 o1 o2 o3 o4 o5
        have hlp := lt_of_cell p0
        have hlo := lt_of_cell o1
        clear P0 O0
        go_wp2_with fail
        refine (C1.out _ (Ext.refl W)).mono ?_
        rintro r w1 ⟨rfl, hx1⟩
        have X1 := hid (Ext.trans (Ext.refl W) hx1)
        clear hx1
        clear p0 p1 o1 o2 o3 o4 o5 hlp hlo
        have P0 := Ext.block X1.out HPW.out
        have p0 := cell_of (i := 0) P0 rfl
        have p1 := cell_of (i := 1) P0 rfl
        have O0 := Ext.block (HXW.out.trans X1.out) HBV.out
        have o1 := cell_of (i := 1) O0 rfl
        have o2 := cell_of (i := 2) O0 rfl
        have o3 := cell_of (i := 3) O0 rfl
        have o4 := cell_of (i := 4) O0 rfl
        have o5 := cell_of (i := 5) O0 rfl
        simp only [List.getElem_toArray, List.getElem_cons_zero, List.getElem_cons_succ] at p0 p1 o1 o2 o3 o4 o5
        have hlp := lt_of_cell p0
        have hlo := lt_of_cell o1
        clear P0 O0
        go_wp2_with fail
        refine (C2.out _ X1.out).mono ?_
        rintro r w2 ⟨rfl, hx2⟩
        have X2 := hid (Ext.trans X1.out hx2)
        clear hx2
        clear p0 p1 o1 o2 o3 o4 o5 hlp hlo
        have P0 := Ext.block X2.out HPW.out
        have p0 := cell_of (i := 0) P0 rfl
        have p1 := cell_of (i := 1) P0 rfl
        have O0 := Ext.block (HXW.out.trans X2.out) HBV.out
        have o1 := cell_of (i := 1) O0 rfl
        have o2 := cell_of (i := 2) O0 rfl
        have o3 := cell_of (i := 3) O0 rfl
        have o4 := cell_of (i := 4) O0 rfl
        have o5 := cell_of (i := 5) O0 rfl
        simp only [List.getElem_toArray, List.getElem_cons_zero, List.getElem_cons_succ] at p0 p1 o1 o2 o3 o4 o5
        have hlp := lt_of_cell p0
        have hlo := lt_of_cell o1
        clear P0 O0
        go_wp2_with fail
        refine (eqPlace_any f1 f1 a9 a1 c9 c1 xs xs _ (by omega) (HIP.out.later X2.out) (H1.out.later (HXV.out.trans (HXW.out.trans X2.out)))).mono ?_
        rw [show eqP (f1.data.toList, xs) (f1.data.toList, xs) = true from decide_eq_true rfl]
        rintro r we ⟨rfl, hxe⟩
        have XE := hid (HXV.out.trans (HXW.out.trans (Ext.trans X2.out hxe)))
        clear hxe p0 p1 o1 o2 o3 o4 o5 hlp hlo
        go_wp2
        go_ret
        exact ⟨rfl, XE.out⟩
      · have HP := hid (show placeB f1.data.toList xs = false by simpa using hp)
        have C1 : Hid (∀ W', Ext W W' → Calls Tryd.prog 9 #[.agg #[.string f1, .slice a9 xs.length c9]] W' fun r w' => r = .returned (.tuple #[.string ⟨#[]⟩, .int .i64 1]) ∧ Ext W' w') := fun W' h => placeText_bad f1 a9 c9 xs W' (by omega) (HIP.out.later h) HP.out
        have C2 : Hid (∀ W', Ext W W' → Calls Tryd.prog 27 #[.agg #[.string f1, .slice a1 xs.length c1]] W' fun r w' => r = .returned (.tuple #[.string ⟨#[]⟩, .int .i64 1]) ∧ Ext W' w') := fun W' h => placeText_ref_bad f1 a1 c1 xs W' (by omega) (H1.out.later (HXV.out.trans (HXW.out.trans h))) HP.out
        clear hp
        have P0 := Ext.block (Ext.refl W) HPW.out
        have p0 := cell_of (i := 0) P0 rfl
        have p1 := cell_of (i := 1) P0 rfl
        have O0 := Ext.block (HXW.out.trans (Ext.refl W)) HBV.out
        have o1 := cell_of (i := 1) O0 rfl
        have o2 := cell_of (i := 2) O0 rfl
        have o3 := cell_of (i := 3) O0 rfl
        have o4 := cell_of (i := 4) O0 rfl
        have o5 := cell_of (i := 5) O0 rfl
        simp only [List.getElem_toArray, List.getElem_cons_zero, List.getElem_cons_succ] at p0 p1 o1 o2 o3 o4 o5
        have hlp := lt_of_cell p0
        have hlo := lt_of_cell o1
        clear P0 O0
        go_wp2_with fail
        refine (C1.out _ (Ext.refl W)).mono ?_
        rintro r w1 ⟨rfl, hx1⟩
        have X1 := hid (Ext.trans (Ext.refl W) hx1)
        clear hx1
        clear p0 p1 o1 o2 o3 o4 o5 hlp hlo
        have P0 := Ext.block X1.out HPW.out
        have p0 := cell_of (i := 0) P0 rfl
        have p1 := cell_of (i := 1) P0 rfl
        have O0 := Ext.block (HXW.out.trans X1.out) HBV.out
        have o1 := cell_of (i := 1) O0 rfl
        have o2 := cell_of (i := 2) O0 rfl
        have o3 := cell_of (i := 3) O0 rfl
        have o4 := cell_of (i := 4) O0 rfl
        have o5 := cell_of (i := 5) O0 rfl
        simp only [List.getElem_toArray, List.getElem_cons_zero, List.getElem_cons_succ] at p0 p1 o1 o2 o3 o4 o5
        have hlp := lt_of_cell p0
        have hlo := lt_of_cell o1
        clear P0 O0
        go_wp2_with fail
        refine (C2.out _ X1.out).mono ?_
        rintro r w2 ⟨rfl, hx2⟩
        have X2 := hid (Ext.trans X1.out hx2)
        clear hx2
        clear p0 p1 o1 o2 o3 o4 o5 hlp hlo
        have P0 := Ext.block X2.out HPW.out
        have p0 := cell_of (i := 0) P0 rfl
        have p1 := cell_of (i := 1) P0 rfl
        have O0 := Ext.block (HXW.out.trans X2.out) HBV.out
        have o1 := cell_of (i := 1) O0 rfl
        have o2 := cell_of (i := 2) O0 rfl
        have o3 := cell_of (i := 3) O0 rfl
        have o4 := cell_of (i := 4) O0 rfl
        have o5 := cell_of (i := 5) O0 rfl
        simp only [List.getElem_toArray, List.getElem_cons_zero, List.getElem_cons_succ] at p0 p1 o1 o2 o3 o4 o5
        have hlp := lt_of_cell p0
        have hlo := lt_of_cell o1
        clear P0 O0
        go_wp2_with fail
        refine (eqPlace_any f1 f1 a9 a1 c9 c1 xs xs _ (by omega) (HIP.out.later X2.out) (H1.out.later (HXV.out.trans (HXW.out.trans X2.out)))).mono ?_
        rw [show eqP (f1.data.toList, xs) (f1.data.toList, xs) = true from decide_eq_true rfl]
        rintro r we ⟨rfl, hxe⟩
        have XE := hid (HXV.out.trans (HXW.out.trans (Ext.trans X2.out hxe)))
        clear hxe p0 p1 o1 o2 o3 o4 o5 hlp hlo
        go_wp2
        go_ret
        exact ⟨rfl, XE.out⟩
    by_cases hk11 : kd = 11
    · subst hk11
      clear hk1 hk6 hk7 hk9
      obtain ⟨o, ho⟩ : ∃ o, cmpP (f1.data.toList, xs) (f2.data.toList, ys) = o := ⟨_, rfl⟩
      have C1 : Hid (∀ W', Ext W W' → Calls Tryd.prog 13 #[.agg #[.string f1, .slice a9 xs.length c9], .agg #[.string f2, .slice a2 ys.length c2]] W' fun r w' => r = .returned (.int .i64 o) ∧ Ext W' w') := fun W' h => by rw [← ho]; exact signCompare f1 f2 a9 a2 c9 c2 xs ys W' (by omega) (by omega) (HIP.out.later h) (H2.out.later (HXV.out.trans (HXW.out.trans h)))
      have C2 : Hid (∀ W', Ext W W' → Calls Tryd.prog 29 #[.agg #[.string f1, .slice a1 xs.length c1], .agg #[.string f2, .slice a2 ys.length c2]] W' fun r w' => r = .returned (.int .i64 o) ∧ Ext W' w') := fun W' h => by rw [← ho]; exact compare_ref f1 f2 a1 a2 c1 c2 xs ys W' (by omega) (by omega) (H1.out.later (HXV.out.trans (HXW.out.trans h))) (H2.out.later (HXV.out.trans (HXW.out.trans h)))
      clear ho
      have P0 := Ext.block (Ext.refl W) HPW.out
      have p0 := cell_of (i := 0) P0 rfl
      have p1 := cell_of (i := 1) P0 rfl
      have O0 := Ext.block (HXW.out.trans (Ext.refl W)) HBV.out
      have o1 := cell_of (i := 1) O0 rfl
      have o2 := cell_of (i := 2) O0 rfl
      have o3 := cell_of (i := 3) O0 rfl
      have o4 := cell_of (i := 4) O0 rfl
      have o5 := cell_of (i := 5) O0 rfl
      simp only [List.getElem_toArray, List.getElem_cons_zero, List.getElem_cons_succ] at p0 p1 o1 o2 o3 o4 o5
      have hlp := lt_of_cell p0
      have hlo := lt_of_cell o1
      clear P0 O0
      go_wp2_with fail
      go_region_held3 (fun w' => w'.cell? ⟨pb, 0, none⟩ = some (.string f1) ∧ w'.cell? ⟨pb, 1, none⟩ = some (.slice a9 xs.length c9) ∧ w'.cell? ⟨w.heap.size, 2, none⟩ = some (.string f1) ∧ w'.cell? ⟨w.heap.size, 3, none⟩ = some (.slice a1 xs.length c1) ∧ w'.cell? ⟨w.heap.size, 4, none⟩ = some (.string f2) ∧ w'.cell? ⟨w.heap.size, 5, none⟩ = some (.slice a2 ys.length c2)) (first | exact ⟨m20, m21, m22, m23, m24, m25⟩ | exact ⟨m10, m11, m12, m13, m14, m15⟩ | exact ⟨p0, p1, o2, o3, o4, o5⟩ | go_keep) (first | (go_at_call 13; (fail_if_success (have g1 := s1)); refine (C1.out _ (Ext.drew (Ext.refl W))).mono ?_; rintro r v1 ⟨rfl, hv1⟩; have Y1 : Ext W v1 := Ext.trans (Ext.drew (Ext.refl W)) hv1; have s1 : True := trivial; have Pn := Ext.block Y1 HPW.out; have On := Ext.block (HXW.out.trans Y1) HBV.out; have m10 := cell_of (i := 0) Pn rfl; have m11 := cell_of (i := 1) Pn rfl; have m12 := cell_of (i := 2) On rfl; have m13 := cell_of (i := 3) On rfl; have m14 := cell_of (i := 4) On rfl; have m15 := cell_of (i := 5) On rfl; simp only [List.getElem_toArray, List.getElem_cons_zero, List.getElem_cons_succ] at m10 m11 m12 m13 m14 m15; clear Pn On) | (go_at_call 29; have g1 := s1; (fail_if_success (have g2 := s2)); refine (C2.out _ Y1).mono ?_; rintro r v2 ⟨rfl, hv2⟩; have Y2 : Ext W v2 := Ext.trans Y1 hv2; have s2 : True := trivial; have Pn := Ext.block Y2 HPW.out; have On := Ext.block (HXW.out.trans Y2) HBV.out; have m20 := cell_of (i := 0) Pn rfl; have m21 := cell_of (i := 1) Pn rfl; have m22 := cell_of (i := 2) On rfl; have m23 := cell_of (i := 3) On rfl; have m24 := cell_of (i := 4) On rfl; have m25 := cell_of (i := 5) On rfl; simp only [List.getElem_toArray, List.getElem_cons_zero, List.getElem_cons_succ] at m20 m21 m22 m23 m24 m25; clear Pn On))
      all_goals
        clear p0 p1 o1 o2 o3 o4 o5 hlp hlo
        have P0 := Ext.block Y2 HPW.out
        have p0 := cell_of (i := 0) P0 rfl
        have p1 := cell_of (i := 1) P0 rfl
        have O0 := Ext.block (HXW.out.trans Y2) HBV.out
        have o1 := cell_of (i := 1) O0 rfl
        have o2 := cell_of (i := 2) O0 rfl
        have o3 := cell_of (i := 3) O0 rfl
        have o4 := cell_of (i := 4) O0 rfl
        have o5 := cell_of (i := 5) O0 rfl
        simp only [List.getElem_toArray, List.getElem_cons_zero, List.getElem_cons_succ] at p0 p1 o1 o2 o3 o4 o5
        have hlp := lt_of_cell p0
        have hlo := lt_of_cell o1
        clear P0 O0
        go_wp2_with fail
        refine (eqPlace_any f1 f1 a9 a1 c9 c1 xs xs _ (by omega) (HIP.out.later Y2) (H1.out.later (HXV.out.trans (HXW.out.trans Y2)))).mono ?_
        rw [show eqP (f1.data.toList, xs) (f1.data.toList, xs) = true from decide_eq_true rfl]
        rintro r we ⟨rfl, hxe⟩
        have XE := hid (HXV.out.trans (HXW.out.trans (Ext.trans Y2 hxe)))
        clear hxe p0 p1 o1 o2 o3 o4 o5 hlp hlo
        go_wp2
        go_ret
        exact ⟨rfl, XE.out⟩
    by_cases hk8 : kd = 8
    · subst hk8
      clear hk1 hk6 hk7 hk9 hk11
      have P0 := Ext.block (Ext.refl W) HPW.out
      have p0 := cell_of (i := 0) P0 rfl
      have p1 := cell_of (i := 1) P0 rfl
      have O0 := Ext.block (HXW.out.trans (Ext.refl W)) HBV.out
      have o1 := cell_of (i := 1) O0 rfl
      have o2 := cell_of (i := 2) O0 rfl
      have o3 := cell_of (i := 3) O0 rfl
      have o4 := cell_of (i := 4) O0 rfl
      have o5 := cell_of (i := 5) O0 rfl
      simp only [List.getElem_toArray, List.getElem_cons_zero, List.getElem_cons_succ] at p0 p1 o1 o2 o3 o4 o5
      have hlp := lt_of_cell p0
      have hlo := lt_of_cell o1
      clear P0 O0
      go_wp2_with fail
      refine (readPath_any S _ (by omega)).mono ?_
      rintro r w1 ⟨ht1, hx1⟩
      have X1 := hid hx1
      clear hx1
      clear p0 p1 o1 o2 o3 o4 o5 hlp hlo
      have P0 := Ext.block X1.out HPW.out
      have p0 := cell_of (i := 0) P0 rfl
      have p1 := cell_of (i := 1) P0 rfl
      have O0 := Ext.block (HXW.out.trans X1.out) HBV.out
      have o1 := cell_of (i := 1) O0 rfl
      have o2 := cell_of (i := 2) O0 rfl
      have o3 := cell_of (i := 3) O0 rfl
      have o4 := cell_of (i := 4) O0 rfl
      have o5 := cell_of (i := 5) O0 rfl
      simp only [List.getElem_toArray, List.getElem_cons_zero, List.getElem_cons_succ] at p0 p1 o1 o2 o3 o4 o5
      have hlp := lt_of_cell p0
      have hlo := lt_of_cell o1
      clear P0 O0
      rcases ht1 with ⟨q, v, rfl, hq, ho⟩ | ⟨rfl, hno⟩
      · obtain ⟨b1, d1, rfl⟩ := ownsRow_slice ho
        have HO1 := hid (show Ints w1 (.slice b1 q.length d1) (ints q) from Ints.own (ints_len q).symm (by rw [← numCells_ints]; exact ho))
        have HQ := hid hq
        clear hq ho
        go_wp2_with fail
        refine (readPath_ref S _ (by omega)).mono ?_
        rintro r w2 ⟨ht2, hx2⟩
        have X2 := hid (X1.out.trans hx2)
        have HO3 := hid (HO1.out.later hx2)
        clear hx2
        clear p0 p1 o1 o2 o3 o4 o5 hlp hlo
        rcases ht2 with ⟨q2, v, rfl, hq2, ho⟩ | ⟨rfl, hno⟩
        · obtain rfl := PathOf.one HQ.out hq2
          obtain ⟨b2, d2, rfl⟩ := ownsRow_slice ho
          have HO2 := hid (show Ints w2 (.slice b2 q.length d2) (ints q) from Ints.own (ints_len q).symm (by rw [← numCells_ints]; exact ho))
          have hql : q.length ≤ 63 := ((pathB_ints q).1 HQ.out.1).1
          have HIS := hid (show ∀ W', Ext w2 W' → Calls Tryd.prog 26 #[.slice b1 q.length d1, .slice b2 q.length d2] W' fun r w' => r = .returned (.bool true) ∧ Ext W' w' from fun W' h => by
            have := ints_same b1 b2 d1 d2 (ints q) W' (by rw [ints_len]; omega) (by rw [ints_len]; exact HO3.out.later h) (by rw [ints_len]; exact HO2.out.later h)
            rw [ints_len] at this
            exact this)
          clear hq2 ho
          go_wp2_with fail
          refine (HIS.out _ (Ext.refl _)).mono ?_
          rintro r w3 ⟨rfl, hx3⟩
          have X3 := hid (X2.out.trans hx3)
          clear hx3
          have P0 := Ext.block X3.out HPW.out
          have p0 := cell_of (i := 0) P0 rfl
          have p1 := cell_of (i := 1) P0 rfl
          have O0 := Ext.block (HXW.out.trans X3.out) HBV.out
          have o1 := cell_of (i := 1) O0 rfl
          have o2 := cell_of (i := 2) O0 rfl
          have o3 := cell_of (i := 3) O0 rfl
          have o4 := cell_of (i := 4) O0 rfl
          have o5 := cell_of (i := 5) O0 rfl
          simp only [List.getElem_toArray, List.getElem_cons_zero, List.getElem_cons_succ] at p0 p1 o1 o2 o3 o4 o5
          have hlp := lt_of_cell p0
          have hlo := lt_of_cell o1
          clear P0 O0
          go_wp2_with fail
          refine (eqPlace_any f1 f1 a9 a1 c9 c1 xs xs _ (by omega) (HIP.out.later X3.out) (H1.out.later (HXV.out.trans (HXW.out.trans X3.out)))).mono ?_
          rw [show eqP (f1.data.toList, xs) (f1.data.toList, xs) = true from decide_eq_true rfl]
          rintro r we ⟨rfl, hxe⟩
          have XE := hid (HXV.out.trans (HXW.out.trans (Ext.trans X3.out hxe)))
          clear hxe p0 p1 o1 o2 o3 o4 o5 hlp hlo
          go_wp2
          go_ret
          exact ⟨rfl, XE.out⟩
        · exact absurd HQ.out (hno q)
      · go_wp2_with fail
        refine (readPath_ref S _ (by omega)).mono ?_
        rintro r w2 ⟨ht2, hx2⟩
        have X2 := hid (X1.out.trans hx2)
        clear hx2
        clear p0 p1 o1 o2 o3 o4 o5 hlp hlo
        rcases ht2 with ⟨q2, v, rfl, hq2, ho⟩ | ⟨rfl, _⟩
        · exact absurd hq2 (hno q2)
        · clear hno
          go_wp2_with fail
          refine (ints_same none none 0 0 [] _ (by simp) (Ints.nil _ _ _) (Ints.nil _ _ _)).mono ?_
          rintro r w3 ⟨rfl, hx3⟩
          have X3 := hid (X2.out.trans hx3)
          clear hx3
          have P0 := Ext.block X3.out HPW.out
          have p0 := cell_of (i := 0) P0 rfl
          have p1 := cell_of (i := 1) P0 rfl
          have O0 := Ext.block (HXW.out.trans X3.out) HBV.out
          have o1 := cell_of (i := 1) O0 rfl
          have o2 := cell_of (i := 2) O0 rfl
          have o3 := cell_of (i := 3) O0 rfl
          have o4 := cell_of (i := 4) O0 rfl
          have o5 := cell_of (i := 5) O0 rfl
          simp only [List.getElem_toArray, List.getElem_cons_zero, List.getElem_cons_succ] at p0 p1 o1 o2 o3 o4 o5
          have hlp := lt_of_cell p0
          have hlo := lt_of_cell o1
          clear P0 O0
          go_wp2_with fail
          refine (eqPlace_any f1 f1 a9 a1 c9 c1 xs xs _ (by omega) (HIP.out.later X3.out) (H1.out.later (HXV.out.trans (HXW.out.trans X3.out)))).mono ?_
          rw [show eqP (f1.data.toList, xs) (f1.data.toList, xs) = true from decide_eq_true rfl]
          rintro r we ⟨rfl, hxe⟩
          have XE := hid (HXV.out.trans (HXW.out.trans (Ext.trans X3.out hxe)))
          clear hxe p0 p1 o1 o2 o3 o4 o5 hlp hlo
          go_wp2
          go_ret
          exact ⟨rfl, XE.out⟩
    by_cases hk10 : kd = 10
    · subst hk10
      clear hk1 hk6 hk7 hk9 hk11 hk8
      have P0 := Ext.block (Ext.refl W) HPW.out
      have p0 := cell_of (i := 0) P0 rfl
      have p1 := cell_of (i := 1) P0 rfl
      have O0 := Ext.block (HXW.out.trans (Ext.refl W)) HBV.out
      have o1 := cell_of (i := 1) O0 rfl
      have o2 := cell_of (i := 2) O0 rfl
      have o3 := cell_of (i := 3) O0 rfl
      have o4 := cell_of (i := 4) O0 rfl
      have o5 := cell_of (i := 5) O0 rfl
      simp only [List.getElem_toArray, List.getElem_cons_zero, List.getElem_cons_succ] at p0 p1 o1 o2 o3 o4 o5
      have hlp := lt_of_cell p0
      have hlo := lt_of_cell o1
      clear P0 O0
      go_wp2_with fail
      refine (readPlace_any S _ (by omega)).mono ?_
      rintro r w1 ⟨ht1, hx1⟩
      have X1 := hid hx1
      clear hx1
      clear p0 p1 o1 o2 o3 o4 o5 hlp hlo
      rcases ht1 with ⟨g, q, v, rfl, hq, ho⟩ | ⟨rfl, hno⟩
      · obtain ⟨b1, d1, rfl⟩ := ownsRow_slice ho
        have HO1 := hid (show Ints w1 (.slice b1 q.length d1) (ints q) from Ints.own (ints_len q).symm (by rw [← numCells_ints]; exact ho))
        have HQ := hid hq
        clear hq ho
        obtain ⟨G, hG0⟩ : ∃ G : ByteArray, (⟨g.toArray⟩ : ByteArray) = G := ⟨_, rfl⟩
        have HGL := hid hG0
        rw [hG0]
        clear hG0
        have P0 := Ext.block (X1.out.more (.cells #[.string G, .slice b1 q.length d1] 27)) HPW.out
        have p0 := cell_of (i := 0) P0 rfl
        have p1 := cell_of (i := 1) P0 rfl
        have O0 := Ext.block (HXW.out.trans (X1.out.more (.cells #[.string G, .slice b1 q.length d1] 27))) HBV.out
        have o1 := cell_of (i := 1) O0 rfl
        have o2 := cell_of (i := 2) O0 rfl
        have o3 := cell_of (i := 3) O0 rfl
        have o4 := cell_of (i := 4) O0 rfl
        have o5 := cell_of (i := 5) O0 rfl
        simp only [List.getElem_toArray, List.getElem_cons_zero, List.getElem_cons_succ] at p0 p1 o1 o2 o3 o4 o5
        have hlp := lt_of_cell p0
        have hlo := lt_of_cell o1
        clear P0 O0
        go_wp2_with fail
        refine (readPlace_ref S _ (by omega)).mono ?_
        rintro r w2 ⟨ht2, hx2⟩
        have X2 := hid ((X1.out.more (.cells #[.string G, .slice b1 q.length d1] 27)).trans hx2)
        have HO3 := hid (HO1.out.later ((Ext.alloc w1 (.cells #[.string G, .slice b1 q.length d1] 27)).trans hx2))
        have BA := hx2.block (blk0 w1 _)
        have q0 := cell_of (i := 0) BA rfl
        have q1 := cell_of (i := 1) BA rfl
        simp only [List.getElem_toArray, List.getElem_cons_zero, List.getElem_cons_succ] at q0 q1
        have hlq := lt_of_cell q0
        clear hx2 BA
        clear p0 p1 o1 o2 o3 o4 o5 hlp hlo
        rcases ht2 with ⟨g2, q2, v, rfl, hq2, ho⟩ | ⟨rfl, hno⟩
        · obtain ⟨rfl, rfl⟩ := PlaceOf.one HQ.out hq2
          obtain ⟨b2, d2, rfl⟩ := ownsRow_slice ho
          have HO2 := hid (show Ints w2 (.slice b2 q.length d2) (ints q) from Ints.own (ints_len q).symm (by rw [← numCells_ints]; exact ho))
          have hql : q.length ≤ 63 := ((pathB_ints q).1 (placeB_path HQ.out.1)).1
          rw [HGL.out]
          have HIS := hid (show ∀ W', Ext w2 W' → Calls Tryd.prog 12 #[.agg #[.string G, .slice b1 q.length d1], .agg #[.string G, .slice b2 q.length d2]] W' fun r w' => r = .returned (.bool true) ∧ Ext W' w' from fun W' h => by
            have := eqPlace_any G G b1 b2 d1 d2 (ints q) (ints q) W' (by rw [ints_len]; omega) (by rw [ints_len]; exact HO3.out.later h) (by rw [ints_len]; exact HO2.out.later h)
            rw [ints_len, show eqP (G.data.toList, ints q) (G.data.toList, ints q) = true from decide_eq_true rfl] at this
            exact this)
          clear hq2 ho
          go_wp2_with fail
          refine (HIS.out _ (Ext.alloc _ _)).mono ?_
          rintro r w3 ⟨rfl, hx3⟩
          have X3 := hid ((X2.out.more _).trans hx3)
          clear hx3 q0 q1 hlq
          have P0 := Ext.block X3.out HPW.out
          have p0 := cell_of (i := 0) P0 rfl
          have p1 := cell_of (i := 1) P0 rfl
          have O0 := Ext.block (HXW.out.trans X3.out) HBV.out
          have o1 := cell_of (i := 1) O0 rfl
          have o2 := cell_of (i := 2) O0 rfl
          have o3 := cell_of (i := 3) O0 rfl
          have o4 := cell_of (i := 4) O0 rfl
          have o5 := cell_of (i := 5) O0 rfl
          simp only [List.getElem_toArray, List.getElem_cons_zero, List.getElem_cons_succ] at p0 p1 o1 o2 o3 o4 o5
          have hlp := lt_of_cell p0
          have hlo := lt_of_cell o1
          clear P0 O0
          go_wp2_with fail
          refine (eqPlace_any f1 f1 a9 a1 c9 c1 xs xs _ (by omega) (HIP.out.later X3.out) (H1.out.later (HXV.out.trans (HXW.out.trans X3.out)))).mono ?_
          rw [show eqP (f1.data.toList, xs) (f1.data.toList, xs) = true from decide_eq_true rfl]
          rintro r we ⟨rfl, hxe⟩
          have XE := hid (HXV.out.trans (HXW.out.trans (Ext.trans X3.out hxe)))
          clear hxe p0 p1 o1 o2 o3 o4 o5 hlp hlo
          go_wp2
          go_ret
          exact ⟨rfl, XE.out⟩
        · exact absurd HQ.out (hno g q)
      · obtain ⟨G, hG0⟩ : ∃ G : ByteArray, (⟨#[]⟩ : ByteArray) = G := ⟨_, rfl⟩
        have P0 := Ext.block (X1.out.more (.cells #[.string ⟨#[]⟩, .slice none 0 0] 27)) HPW.out
        have p0 := cell_of (i := 0) P0 rfl
        have p1 := cell_of (i := 1) P0 rfl
        have O0 := Ext.block (HXW.out.trans (X1.out.more (.cells #[.string ⟨#[]⟩, .slice none 0 0] 27))) HBV.out
        have o1 := cell_of (i := 1) O0 rfl
        have o2 := cell_of (i := 2) O0 rfl
        have o3 := cell_of (i := 3) O0 rfl
        have o4 := cell_of (i := 4) O0 rfl
        have o5 := cell_of (i := 5) O0 rfl
        simp only [List.getElem_toArray, List.getElem_cons_zero, List.getElem_cons_succ] at p0 p1 o1 o2 o3 o4 o5
        have hlp := lt_of_cell p0
        have hlo := lt_of_cell o1
        clear P0 O0
        clear hG0
        go_wp2_with fail
        refine (readPlace_ref S _ (by omega)).mono ?_
        rintro r w2 ⟨ht2, hx2⟩
        have X2 := hid ((X1.out.more (.cells #[.string ⟨#[]⟩, .slice none 0 0] 27)).trans hx2)
        have BA := hx2.block (blk0 w1 _)
        have q0 := cell_of (i := 0) BA rfl
        have q1 := cell_of (i := 1) BA rfl
        simp only [List.getElem_toArray, List.getElem_cons_zero, List.getElem_cons_succ] at q0 q1
        have hlq := lt_of_cell q0
        clear hx2 BA
        clear p0 p1 o1 o2 o3 o4 o5 hlp hlo
        rcases ht2 with ⟨g2, q2, v, rfl, hq2, ho⟩ | ⟨rfl, _⟩
        · exact absurd hq2 (hno g2 q2)
        · clear hno
          go_wp2_with fail
          refine (eqPlace_any ⟨#[]⟩ ⟨#[]⟩ none none 0 0 [] [] _ (by simp) (Ints.nil _ _ _) (Ints.nil _ _ _)).mono ?_
          rw [show eqP ((ByteArray.mk #[]).data.toList, []) ((ByteArray.mk #[]).data.toList, []) = true from decide_eq_true rfl]
          rintro r w3 ⟨rfl, hx3⟩
          have X3 := hid ((X2.out.more _).trans hx3)
          clear hx3 q0 q1 hlq
          have P0 := Ext.block X3.out HPW.out
          have p0 := cell_of (i := 0) P0 rfl
          have p1 := cell_of (i := 1) P0 rfl
          have O0 := Ext.block (HXW.out.trans X3.out) HBV.out
          have o1 := cell_of (i := 1) O0 rfl
          have o2 := cell_of (i := 2) O0 rfl
          have o3 := cell_of (i := 3) O0 rfl
          have o4 := cell_of (i := 4) O0 rfl
          have o5 := cell_of (i := 5) O0 rfl
          simp only [List.getElem_toArray, List.getElem_cons_zero, List.getElem_cons_succ] at p0 p1 o1 o2 o3 o4 o5
          have hlp := lt_of_cell p0
          have hlo := lt_of_cell o1
          clear P0 O0
          go_wp2_with fail
          refine (eqPlace_any f1 f1 a9 a1 c9 c1 xs xs _ (by omega) (HIP.out.later X3.out) (H1.out.later (HXV.out.trans (HXW.out.trans X3.out)))).mono ?_
          rw [show eqP (f1.data.toList, xs) (f1.data.toList, xs) = true from decide_eq_true rfl]
          rintro r we ⟨rfl, hxe⟩
          have XE := hid (HXV.out.trans (HXW.out.trans (Ext.trans X3.out hxe)))
          clear hxe p0 p1 o1 o2 o3 o4 o5 hlp hlo
          go_wp2
          go_ret
          exact ⟨rfl, XE.out⟩
    have e1 : (kd == 1) = false := by rw [beq_eq_false_iff_ne]; exact fun h => hk1 (.inl h)
    have e2 : (kd == 2) = false := by rw [beq_eq_false_iff_ne]; exact fun h => hk1 (.inr (.inl h))
    have e3 : (kd == 3) = false := by rw [beq_eq_false_iff_ne]; exact fun h => hk1 (.inr (.inr (.inl h)))
    have e4 : (kd == 4) = false := by rw [beq_eq_false_iff_ne]; exact fun h => hk1 (.inr (.inr (.inr (.inl h))))
    have e5 : (kd == 5) = false := by rw [beq_eq_false_iff_ne]; exact fun h => hk1 (.inr (.inr (.inr (.inr h))))
    have e6 : (kd == 6) = false := by simpa using hk6
    have e7 : (kd == 7) = false := by simpa using hk7
    have e8 : (kd == 8) = false := by simpa using hk8
    have e9 : (kd == 9) = false := by simpa using hk9
    have e10 : (kd == 10) = false := by simpa using hk10
    have e11 : (kd == 11) = false := by simpa using hk11
    clear hk1 hk6 hk7 hk8 hk9 hk10 hk11
    have P0 := Ext.block (Ext.refl W) HPW.out
    have p0 := cell_of (i := 0) P0 rfl
    have p1 := cell_of (i := 1) P0 rfl
    have O0 := Ext.block (HXW.out.trans (Ext.refl W)) HBV.out
    have o1 := cell_of (i := 1) O0 rfl
    have o2 := cell_of (i := 2) O0 rfl
    have o3 := cell_of (i := 3) O0 rfl
    have o4 := cell_of (i := 4) O0 rfl
    have o5 := cell_of (i := 5) O0 rfl
    simp only [List.getElem_toArray, List.getElem_cons_zero, List.getElem_cons_succ] at p0 p1 o1 o2 o3 o4 o5
    have hlp := lt_of_cell p0
    have hlo := lt_of_cell o1
    clear P0 O0
    go_wp2_with fail
    refine (eqPlace_any f1 f1 a9 a1 c9 c1 xs xs _ (by omega) (HIP.out.later (Ext.refl W)) (H1.out.later (HXV.out.trans (HXW.out.trans (Ext.refl W))))).mono ?_
    rw [show eqP (f1.data.toList, xs) (f1.data.toList, xs) = true from decide_eq_true rfl]
    rintro r we ⟨rfl, hxe⟩
    have XE := hid (HXV.out.trans (HXW.out.trans (Ext.trans (Ext.refl W) hxe)))
    clear hxe p0 p1 o1 o2 o3 o4 o5 hlp hlo
    go_wp2
    go_ret
    exact ⟨rfl, XE.out⟩


end Go.Proofs.YtfafnmfgiclanaaDoor
