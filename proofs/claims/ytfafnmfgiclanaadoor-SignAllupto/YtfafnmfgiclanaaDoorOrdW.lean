/-
  The walk of espalierlaw3.SignOrder: it returns true, in whatever memory in which the table of tens is laid.
-/
import Derived.Test.YtfafnmfgiclanaaDoorBegun
import Derived.Test.YtfafnmfgiclanaaDoorOrdAid
import Derived.WalkMore
namespace Go.Proofs.YtfafnmfgiclanaaDoor
open Go.RowKit Go.Shelf
theorem cmpP_cases (a b : List UInt8 × List Int) : cmpP a b = -1 ∨ cmpP a b = 0 ∨ cmpP a b = 1 := by
  have h1 := cmpP_three.low a b
  have h2 := cmpP_three.high a b
  omega
theorem set_blk' {w : World} {b i : Nat} {cs : Array Value} {t : TypeId} (h : w.heap[b]? = some (.cells cs t)) (v : Value) : (w.setCell ⟨b, i, none⟩ v).heap[b]? = some (.cells (cs.setIfInBounds i v) t) := by
  simp only [World.setCell]
  rw [Array.getElem?_modify, if_pos rfl, h]
  simp
theorem set2_blk {w : World} {b : Nat} {x0 x1 : Value} {t : TypeId} (h : w.heap[b]? = some (.cells #[x0, x1] t)) (v0 v1 : Value) : ((w.setCell ⟨b, 0, none⟩ v0).setCell ⟨b, 1, none⟩ v1).heap[b]? = some (.cells #[v0, v1] t) :=
  (set_blk' (i := 1) (set_blk' (i := 0) h v0) v1).trans (by simp)
theorem snoc_row {w : World} {base : Nat} {a : Option Addr} {c : Nat} {xs : List Int} {k : Int} (h : w.ownsRow base 3 1 (.slice a (xs ++ [k]).length c) (xs ++ [k]).length ((xs ++ [k]).map (Value.int .i64))) : w.ownsRow base 3 1 (.slice a (xs.length + 1) c) (xs.length + 1) ((xs ++ [k]).map (Value.int .i64)) := by
  have e : (xs ++ [k]).length = xs.length + 1 := by simp
  rw [e] at h
  exact h
theorem ints_set2 {w : World} {base pb : Nat} {v x0 x1 : Value} {n : Nat} {xs : List Int} (ho : w.ownsRow base 3 1 v n (xs.map (Value.int .i64))) (hn : n = xs.length) (h : w.heap[pb]? = some (.cells #[x0, x1] 27)) (v0 v1 : Value) : Ints ((w.setCell ⟨pb, 0, none⟩ v0).setCell ⟨pb, 1, none⟩ v1) v xs := by
  refine Ints.own (base := base) hn ⟨ho.1, ?_⟩
  rcases ho.2 with h' | ⟨g, cap, cur, h1, h2, h3, h4⟩
  · exact .inl h'
  · have hne : ¬ g = pb := fun e => by
      subst e
      have := h3.symm.trans h
      injection this with this
      injection this with _ e _
      cases e
    exact .inr ⟨g, cap, cur, h1, h2, (Below.heap_setCell _ ⟨pb, 1, none⟩ v1 g hne).trans ((Below.heap_setCell _ ⟨pb, 0, none⟩ v0 g hne).trans h3), h4⟩
theorem ext_set2 {M w2 : World} {pb : Nat} (Z : Ext M w2) (hp : M.heap.size ≤ pb) (v0 v1 : Value) : Ext M ((w2.setCell ⟨pb, 0, none⟩ v0).setCell ⟨pb, 1, none⟩ v1) :=
  Below.setCell (Below.setCell Z (show M.heap.size ≤ (Addr.mk pb 0 none).block from hp) v0) (show M.heap.size ≤ (Addr.mk pb 1 none).block from hp) v1
theorem keep_set2 {M w2 : World} {b pb i : Nat} {v : Value} (Z : Ext M w2) (hb : b < M.heap.size) (hp : M.heap.size ≤ pb) (v0 v1 : Value) (h : M.cell? ⟨b, i, none⟩ = some v) : ((w2.setCell ⟨pb, 0, none⟩ v0).setCell ⟨pb, 1, none⟩ v1).cell? ⟨b, i, none⟩ = some v :=
  (Below.cell (Below.setCell (Below.setCell Z (show M.heap.size ≤ (Addr.mk pb 0 none).block from hp) v0) (show M.heap.size ≤ (Addr.mk pb 1 none).block from hp) v1) (show (Addr.mk b i none).block < M.heap.size from hb)).trans h

set_option maxRecDepth 100000 in
set_option maxHeartbeats 4000000 in
theorem order_true (f1 f2 f3 : ByteArray) (a1 a2 a3 : Option Addr) (c1 c2 c3 : Nat) (xs ys zs : List Int) (k : Int) (w : World) (hG : Laid w) (hb1 : xs.length * 8 ≤ 140737488351232) (hb2 : ys.length * 8 ≤ 140737488351232) (hb3 : zs.length * 8 ≤ 140737488351232) (h1 : Ints w (.slice a1 xs.length c1) xs) (h2 : Ints w (.slice a2 ys.length c2) ys) (h3 : Ints w (.slice a3 zs.length c3) zs) :
    Calls Tryd.prog 5 #[.agg #[.string f1, .slice a1 xs.length c1], .agg #[.string f2, .slice a2 ys.length c2], .agg #[.string f3, .slice a3 zs.length c3], .int .i64 k] w fun r w' => r = .returned (.bool true) ∧ Ext w w' := by
  have HG := hid hG
  have H1 := hid h1
  have H2 := hid h2
  have H3 := hid h3
  clear hG h1 h2 h3
  go_enter Tryd.func5, Tryd.ntmps5
  go_wp2_with fail
  refine (begun_true _ (HG.out.later (Ext.alloc3 _ _ _ _))).mono ?_
  rintro r V ⟨rfl, hx⟩
  have HV := hid ((Ext.alloc3 w _ _ _).trans hx)
  have B1 := hid (hx.block (blkOld _ (blkOld _ (blk0 w _))))
  have B2 := hid (hx.block (blkOld _ (blk1 w _ _)))
  have B3 := hid (hx.block (blk2 w _ _ _))
  clear hx
  have k01a := cell_of (i := 0) ((Ext.refl V).block B1.out) rfl; have k01b := cell_of (i := 1) ((Ext.refl V).block B1.out) rfl; have k02a := cell_of (i := 0) ((Ext.refl V).block B2.out) rfl; have k02b := cell_of (i := 1) ((Ext.refl V).block B2.out) rfl; have k03a := cell_of (i := 0) ((Ext.refl V).block B3.out) rfl; have k03b := cell_of (i := 1) ((Ext.refl V).block B3.out) rfl; simp only [List.getElem_toArray, List.getElem_cons_zero, List.getElem_cons_succ] at k01a k01b k02a k02b k03a k03b
  obtain ⟨X, hX⟩ : ∃ X, cmpP (f1.data.toList, xs) (f2.data.toList, ys) = X := ⟨_, rfl⟩
  obtain ⟨Y, hY⟩ : ∃ Y, cmpP (f2.data.toList, ys) (f3.data.toList, zs) = Y := ⟨_, rfl⟩
  obtain ⟨Z, hZ⟩ : ∃ Z, cmpP (f1.data.toList, xs) (f3.data.toList, zs) = Z := ⟨_, rfl⟩
  have HX3 := hid (show X = -1 ∨ X = 0 ∨ X = 1 by rw [← hX]; exact cmpP_cases _ _)
  have HY3 := hid (show Y = -1 ∨ Y = 0 ∨ Y = 1 by rw [← hY]; exact cmpP_cases _ _)
  have HZ3 := hid (show Z = -1 ∨ Z = 0 ∨ Z = 1 by rw [← hZ]; exact cmpP_cases _ _)
  have HT := hid (show X ≤ 0 → Y ≤ 0 → Z ≤ 0 by rw [← hX, ← hY, ← hZ]; exact cmpP_three.through _ _ _)
  have HZZ := hid (show X ≤ 0 → Y ≤ 0 → Z = 0 → X = 0 ∧ Y = 0 by
    intro p q r
    rw [← hZ, cmpP_three.zero] at r
    have r1 : f1.data.toList = f3.data.toList := (Prod.mk.inj r).1
    have r2 : xs = zs := (Prod.mk.inj r).2
    have t := cmpP_three.turn (f2.data.toList, ys) (f3.data.toList, zs)
    rw [hY, ← r1, ← r2, hX] at t
    omega)
  have C12 : Hid (∀ W', Ext V W' → Calls Tryd.prog 13 #[.agg #[.string f1, .slice a1 xs.length c1], .agg #[.string f2, .slice a2 ys.length c2]] W' fun r w' => r = .returned (.int .i64 X) ∧ Ext W' w') := fun W' h => by
    rw [← hX]; exact signCompare f1 f2 a1 a2 c1 c2 xs ys W' (by omega) (by omega) (H1.out.later (HV.out.trans h)) (H2.out.later (HV.out.trans h))
  have C23 : Hid (∀ W', Ext V W' → Calls Tryd.prog 13 #[.agg #[.string f2, .slice a2 ys.length c2], .agg #[.string f3, .slice a3 zs.length c3]] W' fun r w' => r = .returned (.int .i64 Y) ∧ Ext W' w') := fun W' h => by
    rw [← hY]; exact signCompare f2 f3 a2 a3 c2 c3 ys zs W' (by omega) (by omega) (H2.out.later (HV.out.trans h)) (H3.out.later (HV.out.trans h))
  have C13 : Hid (∀ W', Ext V W' → Calls Tryd.prog 13 #[.agg #[.string f1, .slice a1 xs.length c1], .agg #[.string f3, .slice a3 zs.length c3]] W' fun r w' => r = .returned (.int .i64 Z) ∧ Ext W' w') := fun W' h => by
    rw [← hZ]; exact signCompare f1 f3 a1 a3 c1 c3 xs zs W' (by omega) (by omega) (H1.out.later (HV.out.trans h)) (H3.out.later (HV.out.trans h))
  have C21 : Hid (∀ W', Ext V W' → Calls Tryd.prog 13 #[.agg #[.string f2, .slice a2 ys.length c2], .agg #[.string f1, .slice a1 xs.length c1]] W' fun r w' => r = .returned (.int .i64 (-X)) ∧ Ext W' w') := fun W' h => by
    rw [← hX, ← cmpP_three.turn]; exact signCompare f2 f1 a2 a1 c2 c1 ys xs W' (by omega) (by omega) (H2.out.later (HV.out.trans h)) (H1.out.later (HV.out.trans h))
  have E12 : Hid (∀ W', Ext V W' → Calls Tryd.prog 12 #[.agg #[.string f1, .slice a1 xs.length c1], .agg #[.string f2, .slice a2 ys.length c2]] W' fun r w' => r = .returned (.bool (X == 0)) ∧ Ext W' w') := fun W' h => by
    have e : eqP (f1.data.toList, xs) (f2.data.toList, ys) = (X == 0) := by
      rw [← hX, Bool.eq_iff_iff]
      unfold eqP
      rw [decide_eq_true_iff, beq_iff_eq, cmpP_three.zero]
    rw [← e]; exact eqPlace_any f1 f2 a1 a2 c1 c2 xs ys W' (by omega) (H1.out.later (HV.out.trans h)) (H2.out.later (HV.out.trans h))
  clear hX hY hZ
  go_upto_region 3 with fail
  go_cut [9, 10, 11] from 13 (fun s9 s10 s11 wx => s9 = .int .i64 X ∧ s10 = .int .i64 Y ∧ s11 = .int .i64 Z ∧ Ext V wx)
  case first =>
    go_region_held3 (fun w' => w'.cell? ⟨w.heap.size, 0, none⟩ = some (.string f1) ∧ w'.cell? ⟨w.heap.size, 1, none⟩ = some (.slice a1 xs.length c1) ∧ w'.cell? ⟨w.heap.size + 1, 0, none⟩ = some (.string f2) ∧ w'.cell? ⟨w.heap.size + 1, 1, none⟩ = some (.slice a2 ys.length c2) ∧ w'.cell? ⟨w.heap.size + 1 + 1, 0, none⟩ = some (.string f3) ∧ w'.cell? ⟨w.heap.size + 1 + 1, 1, none⟩ = some (.slice a3 zs.length c3)) (first | exact ⟨k31a, k31b, k32a, k32b, k33a, k33b⟩ | exact ⟨k21a, k21b, k22a, k22b, k23a, k23b⟩ | exact ⟨k11a, k11b, k12a, k12b, k13a, k13b⟩ | exact ⟨k01a, k01b, k02a, k02b, k03a, k03b⟩ | go_keep) (first | (go_at_call 13; (fail_if_success (have g1 := s1)); refine (C12.out _ (Ext.drew (Ext.refl V))).mono ?_; rintro r v1 ⟨rfl, hv1⟩; have Y1 : Ext V v1 := Ext.trans ((Ext.drew (Ext.refl V))) hv1; have s1 : True := trivial; have k11a := cell_of (i := 0) (Y1.block B1.out) rfl; have k11b := cell_of (i := 1) (Y1.block B1.out) rfl; have k12a := cell_of (i := 0) (Y1.block B2.out) rfl; have k12b := cell_of (i := 1) (Y1.block B2.out) rfl; have k13a := cell_of (i := 0) (Y1.block B3.out) rfl; have k13b := cell_of (i := 1) (Y1.block B3.out) rfl; simp only [List.getElem_toArray, List.getElem_cons_zero, List.getElem_cons_succ] at k11a k11b k12a k12b k13a k13b) | (go_at_call 13; have g1 := s1; (fail_if_success (have g2 := s2)); refine (C23.out _ Y1).mono ?_; rintro r v2 ⟨rfl, hv2⟩; have Y2 : Ext V v2 := Ext.trans (Y1) hv2; have s2 : True := trivial; have k21a := cell_of (i := 0) (Y2.block B1.out) rfl; have k21b := cell_of (i := 1) (Y2.block B1.out) rfl; have k22a := cell_of (i := 0) (Y2.block B2.out) rfl; have k22b := cell_of (i := 1) (Y2.block B2.out) rfl; have k23a := cell_of (i := 0) (Y2.block B3.out) rfl; have k23b := cell_of (i := 1) (Y2.block B3.out) rfl; simp only [List.getElem_toArray, List.getElem_cons_zero, List.getElem_cons_succ] at k21a k21b k22a k22b k23a k23b) | (go_at_call 13; have g1 := s1; have g2 := s2; (fail_if_success (have g3 := s3)); refine (C13.out _ Y2).mono ?_; rintro r v3 ⟨rfl, hv3⟩; have Y3 : Ext V v3 := Ext.trans (Y2) hv3; have s3 : True := trivial; have k31a := cell_of (i := 0) (Y3.block B1.out) rfl; have k31b := cell_of (i := 1) (Y3.block B1.out) rfl; have k32a := cell_of (i := 0) (Y3.block B2.out) rfl; have k32b := cell_of (i := 1) (Y3.block B2.out) rfl; have k33a := cell_of (i := 0) (Y3.block B3.out) rfl; have k33b := cell_of (i := 1) (Y3.block B3.out) rfl; simp only [List.getElem_toArray, List.getElem_cons_zero, List.getElem_cons_succ] at k31a k31b k32a k32b k33a k33b))
    all_goals
      go_wp2_with fail
      go_meet
      case rel => exact ⟨rfl, rfl, rfl, Y3⟩
  case rest =>
    obtain ⟨rfl, rfl, rfl, hxc⟩ := hcut
    obtain ⟨W1, rfl⟩ : ∃ W1, W1 = wc := ⟨wc, rfl⟩
    have X1 := hid hxc
    clear hxc k01a k01b k02a k02b k03a k03b
    have k11a := cell_of (i := 0) (X1.out.block B1.out) rfl; have k11b := cell_of (i := 1) (X1.out.block B1.out) rfl; have k12a := cell_of (i := 0) (X1.out.block B2.out) rfl; have k12b := cell_of (i := 1) (X1.out.block B2.out) rfl; have k13a := cell_of (i := 0) (X1.out.block B3.out) rfl; have k13b := cell_of (i := 1) (X1.out.block B3.out) rfl; simp only [List.getElem_toArray, List.getElem_cons_zero, List.getElem_cons_succ] at k11a k11b k12a k12b k13a k13b
    go_upto_region 4 with fail
    go_cut [45] from 13 (fun s45 wx => s45 = .bool false ∧ Ext V wx)
    case first =>
      rcases HX3.out with hX | hX | hX
      all_goals
        subst hX
        go_wp2_with fail
        refine (C21.out _ X1.out).mono ?_
        rintro r W2 ⟨rfl, hx2⟩
        have X2 := hid (X1.out.trans hx2)
        clear hx2 k11a k11b k12a k12b k13a k13b
        have k21a := cell_of (i := 0) (X2.out.block B1.out) rfl; have k21b := cell_of (i := 1) (X2.out.block B1.out) rfl; have k22a := cell_of (i := 0) (X2.out.block B2.out) rfl; have k22b := cell_of (i := 1) (X2.out.block B2.out) rfl; have k23a := cell_of (i := 0) (X2.out.block B3.out) rfl; have k23b := cell_of (i := 1) (X2.out.block B3.out) rfl; simp only [List.getElem_toArray, List.getElem_cons_zero, List.getElem_cons_succ] at k21a k21b k22a k22b k23a k23b
        go_wp2_with fail
        refine (E12.out _ X2.out).mono ?_
        rintro r W3 ⟨rfl, hx3⟩
        have X3 := hid (X2.out.trans hx3)
        clear hx3
        go_wp2_with fail
        go_meet
        case rel => exact ⟨rfl, X3.out⟩
    case rest =>
      obtain ⟨rfl, hxc⟩ := hcut
      obtain ⟨W2, rfl⟩ : ∃ W2, W2 = wc := ⟨wc, rfl⟩
      have X2 := hid hxc
      clear hxc k11a k11b k12a k12b k13a k13b
      go_upto_region 6 with fail
      go_cut [67] from 13 (fun s67 wx => s67 = .bool false ∧ wx = W2)
      case first =>
        rcases HX3.out with hX | hX | hX
        all_goals
          rcases HY3.out with hY | hY | hY
          all_goals
            rcases HZ3.out with hZ | hZ | hZ
            all_goals
              subst hX; subst hY; subst hZ
              first
                | (exfalso; have t := HT.out; have u := HZZ.out; omega)
                | (go_wp2_with fail
                   go_meet
                   case rel => exact ⟨rfl, rfl⟩)
      case rest =>
        obtain ⟨rfl, rfl⟩ := hcut
        obtain ⟨M, rfl⟩ : ∃ M, M = wc := ⟨wc, rfl⟩
        have k31a := cell_of (i := 0) (X2.out.block B1.out) rfl; have k31b := cell_of (i := 1) (X2.out.block B1.out) rfl; have k32a := cell_of (i := 0) (X2.out.block B2.out) rfl; have k32b := cell_of (i := 1) (X2.out.block B2.out) rfl; have k33a := cell_of (i := 0) (X2.out.block B3.out) rfl; have k33b := cell_of (i := 1) (X2.out.block B3.out) rfl; simp only [List.getElem_toArray, List.getElem_cons_zero, List.getElem_cons_succ] at k31a k31b k32a k32b k33a k33b
        have hl1 : w.heap.size < M.heap.size := lt_of_cell k31a
        have HI8 := hid (H1.out.later (HV.out.trans X2.out))
        go_upto_region 8 with fail
        go_cut [12] from 13 (fun s12 wx => ∃ pb a' c', s12 = .pointer (some ⟨pb, 0, none⟩) ∧ wx.heap[pb]? = some (.cells #[.string f1, .slice a' (xs.length + 1) c'] 27) ∧ Ints wx (.slice a' (xs.length + 1) c') (xs ++ [k]) ∧ Ext M wx)
        case first =>
          go_region_held3 (fun w' => w'.cell? ⟨w.heap.size, 0, none⟩ = some (.string f1) ∧ w'.cell? ⟨w.heap.size, 1, none⟩ = some (.slice a1 xs.length c1)) (first | exact ⟨t0, t1⟩ | exact ⟨keep_set2 Z2 hl1 (by have := Below.size Z1; have := Below.size Z2; omega) _ _ k31a, keep_set2 Z2 hl1 (by have := Below.size Z1; have := Below.size Z2; omega) _ _ k31b⟩ | exact ⟨(Below.cell (Ext.more Z2 _) hl1).trans k31a, (Below.cell (Ext.more Z2 _) hl1).trans k31b⟩ | exact ⟨r0, r1⟩ | exact ⟨k31a, k31b⟩ | go_keep) (first
            | (refine step_append_ints _ (by rfl) _ (by rfl) (by rfl) a1 xs.length c1 xs (by rfl) (by omega) (HI8.out.later (by repeat (first | with_reducible exact Ext.refl _ | with_reducible refine Ext.drew ?_ | with_reducible refine Ext.more ?_ _))) ?_; intro a' c' w1 ho1 hx1; have Z1 : Ext M w1 := Ext.trans (by repeat (first | with_reducible exact Ext.refl _ | with_reducible refine Ext.drew ?_ | with_reducible refine Ext.more ?_ _)) hx1; have r0 := (Below.cell Z1 hl1 (p := ⟨w.heap.size, 0, none⟩)).trans k31a; have r1 := (Below.cell Z1 hl1 (p := ⟨w.heap.size, 1, none⟩)).trans k31b; have ho1' := row_mono ho1 (Below.size (show Ext M _ from (by repeat (first | with_reducible exact Ext.refl _ | with_reducible refine Ext.drew ?_ | with_reducible refine Ext.more ?_ _)))); (try have bB : w1.heap[M.heap.size]? = some (.cells #[.int .i64 k] 3) := hx1.block (blk0 M _)); (try have bB : w1.heap[M.heap.size]? = some (.cells #[.int .i64 k] 3) := hx1.block (blkOld _ (blk0 M _))); (try have bB : w1.heap[M.heap.size + 1]? = some (.cells #[.int .i64 k] 3) := hx1.block (blk1 M _ _)); (try have bC : w1.heap[M.heap.size]? = some (.cells #[.string ⟨#[]⟩, .slice none 0 0] 27) := hx1.block (blk0 M _)); (try have bC : w1.heap[M.heap.size]? = some (.cells #[.string ⟨#[]⟩, .slice none 0 0] 27) := hx1.block (blkOld _ (blk0 M _))); (try have bC : w1.heap[M.heap.size + 1]? = some (.cells #[.string ⟨#[]⟩, .slice none 0 0] 27) := hx1.block (blk1 M _ _)); (try have bC0 := cell_of (i := 0) bC rfl); (try have bC1 := cell_of (i := 1) bC rfl); (try have bC2 := frozen_of (i := 0) bC); (try have bC3 := frozen_of (i := 1) bC))
            | (refine step_append_snoc _ (by rfl) _ _ (by rfl) (by rfl) M.heap.size a' xs.length c' xs _ k (by rfl) (by rfl) rfl (by omega) (Below.size (show Ext M _ from (by repeat (first | with_reducible exact Z1 | with_reducible refine Ext.drew ?_ | with_reducible refine Ext.more ?_ _)))) (row_ext ho1' (by repeat (first | with_reducible exact Ext.refl _ | with_reducible refine Ext.drew ?_ | with_reducible refine Ext.more ?_ _))) (by first | exact cell_of bB rfl | exact cell_of (blkOld _ bB) rfl | exact cell_of (blk0 w1 _) rfl | exact cell_of (blkOld _ (blk0 w1 _)) rfl | exact cell_of (blk1 w1 _ _) rfl) ?_; intro a9 c9 w2 ho2 hg2; have ho3 := snoc_row ho2; have Z2 : Ext M w2 := Below.grown (show Ext M _ from (by repeat (first | with_reducible exact Z1 | with_reducible refine Ext.drew ?_ | with_reducible refine Ext.more ?_ _))) hg2 (Below.size (show Ext M _ from (by repeat (first | with_reducible exact Z1 | with_reducible refine Ext.drew ?_ | with_reducible refine Ext.more ?_ _)))) (fun j hj => (ho1'.lt j hj).1); have t0 := (Below.cell Z2 hl1 (p := ⟨w.heap.size, 0, none⟩)).trans k31a; have t1 := (Below.cell Z2 hl1 (p := ⟨w.heap.size, 1, none⟩)).trans k31b; (try have dC : w2.heap[M.heap.size]? = some (.cells #[.string ⟨#[]⟩, .slice none 0 0] 27) := (hg2.block _ (lt_of_block (bC)) (fun e => by have := (ho1.lt _ e.symm).1; simp at this; omega)).trans (bC)); (try have dC : w2.heap[M.heap.size + 1]? = some (.cells #[.string ⟨#[]⟩, .slice none 0 0] 27) := (hg2.block _ (lt_of_block (bC)) (fun e => by have := (ho1.lt _ e.symm).1; simp at this; omega)).trans (bC)); (try have dC : w2.heap[M.heap.size]? = some (.cells #[.string ⟨#[]⟩, .slice none 0 0] 27) := (hg2.block _ (lt_of_block (blkOld _ bC)) (fun e => by have := (ho1.lt _ e.symm).1; simp at this; omega)).trans (blkOld _ bC)); (try have dC : w2.heap[w1.heap.size]? = some (.cells #[.string ⟨#[]⟩, .slice none 0 0] 27) := (hg2.block _ (lt_of_block (blk0 w1 _)) (fun e => by have := (ho1'.lt _ e.symm).2; omega)).trans (blk0 w1 _)); (try have dC : w2.heap[w1.heap.size]? = some (.cells #[.string ⟨#[]⟩, .slice none 0 0] 27) := (hg2.block _ (lt_of_block (blkOld _ (blk0 w1 _))) (fun e => by have := (ho1'.lt _ e.symm).2; omega)).trans (blkOld _ (blk0 w1 _))); (try have dC : w2.heap[w1.heap.size + 1]? = some (.cells #[.string ⟨#[]⟩, .slice none 0 0] 27) := (hg2.block _ (lt_of_block (blk1 w1 _ _)) (fun e => by have := (ho1'.lt _ e.symm).2; omega)).trans (blk1 w1 _ _)); (try have dC0 := cell_of (i := 0) dC rfl); (try have dC1 := cell_of (i := 1) dC rfl); (try have dC2 := frozen_of (i := 0) dC); (try have dC3 := frozen_of (i := 1) dC)))
          all_goals
            go_wp2_with fail
            go_meet
            case rel =>
              first
                | exact ⟨w2.heap.size, a9, c9, rfl, blk0 _ _, (Ints.own (by simp) ho3).later (Ext.alloc _ _), Z2.more _⟩
                | exact ⟨_, a9, c9, rfl, set2_blk dC _ _, ints_set2 ho3 (by simp) dC _ _, ext_set2 Z2 (by have := Below.size Z1; omega) _ _⟩
        case rest =>
          obtain ⟨pb, a', c', rfl, hpb, hIn, hxc⟩ := hcut
          obtain ⟨W9, rfl⟩ : ∃ W9, W9 = wc := ⟨wc, rfl⟩
          have X9 := hid (X2.out.trans hxc)
          have HC9 := hid (show Calls Tryd.prog 13 #[.agg #[.string f1, .slice a1 xs.length c1], .agg #[.string f1, .slice a' (xs.length + 1) c']] W9 fun r w' => r = .returned (.int .i64 (-1)) ∧ Ext W9 w' by
            have hlen : (xs ++ [k]).length = xs.length + 1 := by simp
            have h := signCompare f1 f1 a1 a' c1 c' xs (xs ++ [k]) W9 (by omega) (by rw [hlen]; omega) (H1.out.later (HV.out.trans X9.out)) (by rw [hlen]; exact hIn)
            rw [hlen, cmpP_snoc] at h
            exact h)
          clear k31a k31b k32a k32b k33a k33b
          have k91a := cell_of (i := 0) (X9.out.block B1.out) rfl; have k91b := cell_of (i := 1) (X9.out.block B1.out) rfl; have k92a := cell_of (i := 0) (X9.out.block B2.out) rfl; have k92b := cell_of (i := 1) (X9.out.block B2.out) rfl; have k93a := cell_of (i := 0) (X9.out.block B3.out) rfl; have k93b := cell_of (i := 1) (X9.out.block B3.out) rfl; simp only [List.getElem_toArray, List.getElem_cons_zero, List.getElem_cons_succ] at k91a k91b k92a k92b k93a k93b
          have p0 := cell_of (i := 0) hpb rfl
          have p1 := cell_of (i := 1) hpb rfl
          simp only [List.getElem_toArray, List.getElem_cons_zero, List.getElem_cons_succ] at p0 p1
          clear hpb hIn hxc
          go_wp2_with fail
          refine HC9.out.mono ?_
          rintro r w10 ⟨rfl, hx10⟩
          have X10 := hid (HV.out.trans (X9.out.trans hx10))
          clear hx10
          go_wp2
          go_ret
          exact ⟨rfl, X10.out⟩


end Go.Proofs.YtfafnmfgiclanaaDoor
