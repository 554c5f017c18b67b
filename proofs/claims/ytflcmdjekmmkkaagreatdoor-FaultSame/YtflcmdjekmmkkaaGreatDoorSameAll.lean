/-
  The walk of espalierlaw1.FaultSame: it returns true, in whatever memory in which errors.errorType is laid.
-/
import Derived.Test.YtflcmdjekmmkkaaGreatDoorMadeErr
import Derived.Test.YtflcmdjekmmkkaaGreatDoorBegun
import Derived.Deep.RegionHeld3
import Derived.Deep.Cut
import Derived.Deep.CutRange
import Derived.Deep.CutBlock
import Derived.LoopTactic
namespace Go.Proofs.YtflcmdjekmmkkaaGreatDoor
open Go.RowKit Go.Shelf
attribute [local go_sem] isNCoded isNLocated isNRaised isNLacking isNUnw isNAsI isNUnws isNNoted isGCoded isGLocated isGRaised isGLacking isGUnw isGAsI isGUnws isGNoted isCCoded isCLocated isCRaised isCLacking isCUnw isCAsI isCUnws isCNoted isLCoded isLLocated isLRaised isLLacking isLUnw isLAsI isLUnws isLNoted isRCoded isRLocated isRRaised isRLacking isRUnw isRAsI isRUnws isRNoted isKCoded isKLocated isKRaised isKLacking isKUnw isKAsI isKUnws isKNoted isHCoded isHLocated isHRaised isHLacking isHUnw isHAsI isHUnws isHNoted toCodedCoded toCodedLocated toCodedRaised toCodedLacking toCodedNoted toLocatedCoded toLocatedLocated toLocatedRaised toLocatedLacking toLocatedNoted toRaisedCoded toRaisedLocated toRaisedRaised toRaisedLacking toRaisedNoted toLackingCoded toLackingLocated toLackingRaised toLackingLacking toLackingNoted toNotedCoded toNotedLocated toNotedRaised toNotedLacking toNotedNoted mNUnwrap mNError mCCode mCError mLCode mLWhere mLError mRCode mRWhere mRSaid mRError mKCode mKWhere mKLacks mKError mGUnwrap mGError mHAs mHUnwrap

theorem err_form {w : World} {e : Value} {od : Option TD} (h : Err w e od) : (e = .nilIface ∧ od.isSome = false) ∨ ∃ t v, e = .iface t v ∧ od.isSome = true := by
  rcases h with ⟨rfl, rfl⟩ | ⟨d, tb, b, k, es, ns, rfl, h2, rfl, h4, h5, h6, h7⟩
  · exact .inl ⟨rfl, rfl⟩
  · obtain ⟨t0, b0, he0⟩ := h5.form 0 (Nat.zero_le _)
    exact .inr ⟨_, _, he0, rfl⟩
theorem strs_cell {w W : World} {oa : Option Addr} {oc : Nat} {ss : List ByteArray} (h : Strs w (.slice oa ss.length oc) ss) (hx : Ext w W) (j : Nat) (hj : j < ss.length) : ∃ g off s, oa = some ⟨g, off, none⟩ ∧ W.cell? ⟨g, off + j, none⟩ = some (.string s) := by
  rcases h with ⟨_, h0⟩ | ⟨g, off, cap, hv, hc⟩
  · rw [h0] at hj; exact absurd hj (Nat.not_lt_zero _)
  · injection hv with e1 e2 e3
    have hs := hc j _ (List.getElem?_eq_getElem hj)
    exact ⟨g, off, _, e1, (Below.cell hx (lt_of_cell hs)).trans hs⟩
theorem strs_len {w : World} {oa : Option Addr} {on oc : Nat} {ss : List ByteArray} (h : Strs w (.slice oa on oc) ss) : on = ss.length := by
  rcases h with ⟨hv, rfl⟩ | ⟨g, off, cap, hv, _⟩
  · injection hv with e1 e2 e3
  · injection hv with e1 e2 e3
set_option maxRecDepth 100000 in
set_option maxHeartbeats 20000000 in
theorem same_true (kd1 co1 : Int) (fu1 : ByteArray) (a1 : Option Addr) (n1 c1 : Nat) (sa1 ki1 ab1 : ByteArray) (na1 : Option Addr) (nn1 nc1 : Nat) (xs1 : List Int) (kd2 co2 : Int) (fu2 : ByteArray) (a2 : Option Addr) (n2 c2 : Nat) (sa2 ki2 ab2 : ByteArray) (na2 : Option Addr) (nn2 nc2 : Nat) (xs2 : List Int) (oa1 : Option Addr) (on1 oc1 : Nat) (ss1 : List ByteArray) (oa2 : Option Addr) (on2 oc2 : Nat) (ss2 : List ByteArray) (w : World) (hG : Laid w) (hb1 : xs1.length * 8 ≤ 140737488355328) (hb2 : xs2.length * 8 ≤ 140737488355328) (hs1 : ss1.length ≤ 140737488355328) (hs2 : ss2.length ≤ 140737488355328) (hI1 : Ints w (.slice a1 n1 c1) xs1) (hI2 : Ints w (.slice a2 n2 c2) xs2) (hS1 : Strs w (.slice oa1 on1 oc1) ss1) (hS2 : Strs w (.slice oa2 on2 oc2) ss2) :
    Calls Tryz.prog 5 #[.agg #[.int .i64 kd1, .int .i64 co1, .string fu1, .slice a1 n1 c1, .string sa1, .string ki1, .string ab1, .slice na1 nn1 nc1], .agg #[.int .i64 kd2, .int .i64 co2, .string fu2, .slice a2 n2 c2, .string sa2, .string ki2, .string ab2, .slice na2 nn2 nc2], .slice oa1 on1 oc1, .slice oa2 on2 oc2] w fun r w' => r = .returned (.bool true) ∧ Ext w w' := by
  obtain rfl := strs_len hS1
  obtain rfl := strs_len hS2
  have HI1 : Hid (Ints w (.slice a1 n1 c1) xs1) := hI1
  have HI2 : Hid (Ints w (.slice a2 n2 c2) xs2) := hI2
  have HS1 : Hid (Strs w (.slice oa1 ss1.length oc1) ss1) := hS1
  have HS2 : Hid (Strs w (.slice oa2 ss2.length oc2) ss2) := hS2
  have HG : Hid (Laid w) := hG
  clear hI1 hI2 hS1 hS2 hG
  have hbn1 : (ss1.length : Int) ≤ 140737488355328 := by omega
  have hbn2 : (ss2.length : Int) ≤ 140737488355328 := by omega
  go_enter Tryz.func5, Tryz.ntmps5
  go_wp2_with fail
  refine (begun_true _ (HG.out.later (Ext.alloc2 _ _ _))).mono ?_
  rintro r w1 ⟨rfl, hx1⟩
  have X1 : Hid (Ext w w1) := (Ext.alloc2 w _ _).trans hx1
  have hO1 : w1.heap[w.heap.size]? = some (.cells #[.int .i64 kd1, .int .i64 co1, .string fu1, .slice a1 n1 c1, .string sa1, .string ki1, .string ab1, .slice na1 nn1 nc1] 36) := hx1.block (blkOld _ (blk0 w _))
  have hO2 : w1.heap[w.heap.size + 1]? = some (.cells #[.int .i64 kd2, .int .i64 co2, .string fu2, .slice a2 n2 c2, .string sa2, .string ki2, .string ab2, .slice na2 nn2 nc2] 36) := hx1.block (blk1 w _ _)
  have HO2 : Hid (w1.heap[w.heap.size + 1]? = some (.cells #[.int .i64 kd2, .int .i64 co2, .string fu2, .slice a2 n2 c2, .string sa2, .string ki2, .string ab2, .slice na2 nn2 nc2] 36)) := hO2

  have o0 := cell_of (i := 0) hO1 rfl
  have o1 := cell_of (i := 1) hO1 rfl
  have o2 := cell_of (i := 2) hO1 rfl
  have o3 := cell_of (i := 3) hO1 rfl
  have o4 := cell_of (i := 4) hO1 rfl
  have o5 := cell_of (i := 5) hO1 rfl
  have o6 := cell_of (i := 6) hO1 rfl
  have o7 := cell_of (i := 7) hO1 rfl
  simp only [List.getElem_toArray, List.getElem_cons_zero, List.getElem_cons_succ] at o0 o1 o2 o3 o4 o5 o6 o7
  clear hx1 hO1 hO2
  go_wp2_with fail
  refine (make_any kd1 co1 fu1 a1 n1 c1 sa1 ki1 ab1 na1 nn1 nc1 xs1 _ hb1 (HI1.out.later X1.out)).mono ?_
  rintro r w2 ⟨e1, t1, rfl, hM1, hx2⟩
  have X2 : Hid (Ext w w2) := X1.out.trans hx2
  obtain ⟨o1d, no1, co1', lo1, fu1', x1, y1, z1, ra1, sa1', la1, ki1', ab1', ys1, rfl, hE1, hF1, hY1, hyb1⟩ := made_err hM1 (HI1.out.later X2.out) hb1
  have HE1 : Hid (Err w2 e1 o1d) := hE1
  have HF1 : Hid (Fits o1d no1 co1' lo1 fu1' ra1 sa1' la1 ki1' ab1' ys1) := hF1
  have HY1 : Hid (Ints w2 (.slice x1 y1 z1) ys1) := hY1
  have hO2 := hx2.block HO2.out
  clear o0 o1 o2 o3 o4 o5 o6 o7 hM1 hE1 hF1 hY1 hx2

  have o0 := cell_of (i := 0) hO2 rfl
  have o1 := cell_of (i := 1) hO2 rfl
  have o2 := cell_of (i := 2) hO2 rfl
  have o3 := cell_of (i := 3) hO2 rfl
  have o4 := cell_of (i := 4) hO2 rfl
  have o5 := cell_of (i := 5) hO2 rfl
  have o6 := cell_of (i := 6) hO2 rfl
  have o7 := cell_of (i := 7) hO2 rfl
  simp only [List.getElem_toArray, List.getElem_cons_zero, List.getElem_cons_succ] at o0 o1 o2 o3 o4 o5 o6 o7
  have hl2 : w.heap.size + 1 < w2.heap.size := lt_of_block hO2
  clear hO2
  go_wp2_with fail
  refine (make_any kd2 co2 fu2 a2 n2 c2 sa2 ki2 ab2 na2 nn2 nc2 xs2 _ hb2 (HI2.out.later (X2.out.more _))).mono ?_
  rintro r w3 ⟨e2, t2, rfl, hM2, hx3⟩
  have X3 : Hid (Ext w w3) := (X2.out.more _).trans hx3
  obtain ⟨o2d, no2, co2', lo2, fu2', x2, y2, z2, ra2, sa2', la2, ki2', ab2', ys2, rfl, hE2, hF2, hY2, hyb2⟩ := made_err hM2 (HI2.out.later X3.out) hb2
  have HE2 : Hid (Err w3 e2 o2d) := hE2
  have HF2 : Hid (Fits o2d no2 co2' lo2 fu2' ra2 sa2' la2 ki2' ab2' ys2) := hF2
  have HY2 : Hid (Ints w3 (.slice x2 y2 z2) ys2) := hY2
  have HT1 : Hid (w3.heap[w2.heap.size]? = some (.cells #[.bool no1, .int .i64 co1', .bool lo1, .string fu1', .slice x1 y1 z1, .bool ra1, .string sa1', .bool la1, .string ki1', .string ab1'] 31)) := hx3.block (blk0 w2 _)
  have HX23 : Hid (Ext w2 w3) := (Ext.alloc _ _).trans hx3
  have hl3 : w2.heap.size < w3.heap.size := lt_of_block HT1.out
  clear o0 o1 o2 o3 o4 o5 o6 o7 hM2 hE2 hF2 hY2 hx3

  go_upto_block 0 with fail
  go_cut [9] from 18 (fun s9 wx => Err wx s9 o1d ∧ Ext (w3.alloc (.cells #[.bool no2, .int .i64 co2', .bool lo2, .string fu2', .slice x2 y2 z2, .bool ra2, .string sa2', .bool la2, .string ki2', .string ab2'] 31)) wx)
  case first =>
    go_wp2_with fail
    go_loopw [9, 13] (fun e i wr => ∃ j : Nat, j ≤ 70 ∧ i = .int .i64 j ∧ Err wr e o1d ∧ Ext (w3.alloc (.cells #[.bool no2, .int .i64 co2', .bool lo2, .string fu2', .slice x2 y2 z2, .bool ra2, .string sa2', .bool la2, .string ki2', .string ab2'] 31)) wr) (fun _ i _ => 70 - (intOf i).toNat)
    case atStart => exact ⟨0, by omega, rfl, HE1.out.later (HX23.out.more _), Ext.refl _⟩
    case round =>
      obtain ⟨j, hj, rfl, hE, hx⟩ := hrel
      have HX : Hid (Ext (w3.alloc (.cells #[.bool no2, .int .i64 co2', .bool lo2, .string fu2', .slice x2 y2 z2, .bool ra2, .string sa2', .bool la2, .string ki2', .string ab2'] 31)) wr) := hx
      have HEr : Hid (Err wr _ o1d) := hE
      clear hE hx
      by_cases hlt : j < ss1.length
      · have hlt' : (j : Int) < ss1.length := by omega
        by_cases h70 : j < 70
        · have h70' : (j : Int) < 70 := by omega
          obtain ⟨g, off, s, hoa, hs⟩ := strs_cell HS1.out ((X3.out.more _).trans HX.out) j hlt
          subst hoa
          go_wp2_with (go_at_call 13; refine (wrap_err s _ o1d _ (HG.out.later ((X3.out.more _).trans HX.out)) HEr.out).mono ?_; rintro r w9 ⟨e', rfl, hE', hx9⟩)
          have HR : Hid (∃ j' : Nat, j' ≤ 70 ∧ Value.int .i64 ((j : Int) + 1) = .int .i64 j' ∧ Err w9 e' o1d ∧ Ext (w3.alloc (.cells #[.bool no2, .int .i64 co2', .bool lo2, .string fu2', .slice x2 y2 z2, .bool ra2, .string sa2', .bool la2, .string ki2', .string ab2'] 31)) w9) := ⟨j + 1, h70, by go_num, hE', HX.out.trans hx9⟩
          clear hE' hx9
          go_roundw
          case rel => first | exact HR.out | ((repeat apply Exists.intro); exact ⟨HR.out, rfl⟩)
          case measure => simp [intOf]; omega
        · have hd1 : decide ((j : Int) < 70) = false := by simp; omega
          have hd2 : decide ((j : Int) < ss1.length) = true := by simp; omega
          go_wp2_with fail
          go_meet
          case rel => exact ⟨HEr.out, HX.out⟩
      · have hd2 : decide ((j : Int) < ss1.length) = false := by simp; omega
        go_wp2_with fail
        go_meet
        case rel => exact ⟨HEr.out, HX.out⟩
  case rest =>
    obtain ⟨hEa, hxa⟩ := hcut
    obtain ⟨W4, rfl⟩ : ∃ W4, W4 = wc := ⟨wc, rfl⟩
    have HEa : Hid (Err W4 u9 o1d) := hEa
    have HXa : Hid (Ext (w3.alloc (.cells #[.bool no2, .int .i64 co2', .bool lo2, .string fu2', .slice x2 y2 z2, .bool ra2, .string sa2', .bool la2, .string ki2', .string ab2'] 31)) W4) := hxa
    clear hEa hxa
    go_upto_block 2 with fail
    go_cut [11] from 18 (fun s11 wx => Err wx s11 o2d ∧ Ext W4 wx)
    case first =>
      go_wp2_with fail
      go_loopw [11, 14] (fun e i wr => ∃ j : Nat, j ≤ 70 ∧ i = .int .i64 j ∧ Err wr e o2d ∧ Ext W4 wr) (fun _ i _ => 70 - (intOf i).toNat)
      case atStart => exact ⟨0, by omega, rfl, HE2.out.later ((Ext.alloc w3 _).trans HXa.out), Ext.refl _⟩
      case round =>
        obtain ⟨j, hj, rfl, hE, hx⟩ := hrel
        have HX : Hid (Ext W4 wr) := hx
        have HEr : Hid (Err wr _ o2d) := hE
        clear hE hx
        by_cases hlt : j < ss2.length
        · have hlt' : (j : Int) < ss2.length := by omega
          by_cases h70 : j < 70
          · have h70' : (j : Int) < 70 := by omega
            obtain ⟨g, off, s, hoa, hs⟩ := strs_cell HS2.out (((X3.out.more _).trans HXa.out).trans HX.out) j hlt
            subst hoa
            go_wp2_with (go_at_call 13; refine (wrap_err s _ o2d _ (HG.out.later (((X3.out.more _).trans HXa.out).trans HX.out)) HEr.out).mono ?_; rintro r w9 ⟨e', rfl, hE', hx9⟩)
            have HR : Hid (∃ j' : Nat, j' ≤ 70 ∧ Value.int .i64 ((j : Int) + 1) = .int .i64 j' ∧ Err w9 e' o2d ∧ Ext W4 w9) := ⟨j + 1, h70, by go_num, hE', HX.out.trans hx9⟩
            clear hE' hx9
            go_roundw
            case rel => first | exact HR.out | ((repeat apply Exists.intro); exact ⟨HR.out, rfl⟩)
            case measure => simp [intOf]; omega
          · have hd1 : decide ((j : Int) < 70) = false := by simp; omega
            have hd2 : decide ((j : Int) < ss2.length) = true := by simp; omega
            go_wp2_with fail
            go_meet
            case rel => exact ⟨HEr.out, HX.out⟩
        · have hd2 : decide ((j : Int) < ss2.length) = false := by simp; omega
          go_wp2_with fail
          go_meet
          case rel => exact ⟨HEr.out, HX.out⟩
    case rest =>
      obtain ⟨hEb, hxb⟩ := hcut
      have HEb : Hid (Err wc u11 o2d) := hEb
      have HXb : Hid (Ext w3 wc) := (Ext.alloc w3 _).trans (HXa.out.trans hxb)
      have HEc : Hid (Err wc u9 o1d) := HEa.out.later hxb
      have b1 := HXb.out.block HT1.out
      have b2 := (HXa.out.trans hxb).block (blk0 w3 _)

      have p0 := cell_of (i := 0) b1 rfl
      have q0 := cell_of (i := 0) b2 rfl
      have p1 := cell_of (i := 1) b1 rfl
      have q1 := cell_of (i := 1) b2 rfl
      have p2 := cell_of (i := 2) b1 rfl
      have q2 := cell_of (i := 2) b2 rfl
      have p3 := cell_of (i := 3) b1 rfl
      have q3 := cell_of (i := 3) b2 rfl
      have p4 := cell_of (i := 4) b1 rfl
      have q4 := cell_of (i := 4) b2 rfl
      have p5 := cell_of (i := 5) b1 rfl
      have q5 := cell_of (i := 5) b2 rfl
      have p6 := cell_of (i := 6) b1 rfl
      have q6 := cell_of (i := 6) b2 rfl
      have p7 := cell_of (i := 7) b1 rfl
      have q7 := cell_of (i := 7) b2 rfl
      have p8 := cell_of (i := 8) b1 rfl
      have q8 := cell_of (i := 8) b2 rfl
      have p9 := cell_of (i := 9) b1 rfl
      have q9 := cell_of (i := 9) b2 rfl
      simp only [List.getElem_toArray, List.getElem_cons_zero, List.getElem_cons_succ] at p0 q0 p1 q1 p2 q2 p3 q3 p4 q4 p5 q5 p6 q6 p7 q7 p8 q8 p9 q9
      have HX5 : Hid (Ext w wc) := X3.out.trans HXb.out
      obtain ⟨S, hS⟩ : ∃ S, sameB o1d o2d = S := ⟨_, rfl⟩
      have HRS : Hid (Calls Tryz.prog 11 #[.agg #[.bool no1, .int .i64 co1', .bool lo1, .string fu1', .slice x1 y1 z1, .bool ra1, .string sa1', .bool la1, .string ki1', .string ab1'], .agg #[.bool no2, .int .i64 co2', .bool lo2, .string fu2', .slice x2 y2 z2, .bool ra2, .string sa2', .bool la2, .string ki2', .string ab2']] wc fun r w' => r = .returned (.bool S) ∧ Ext wc w') := by
        have h := refSame_any no1 co1' lo1 fu1' x1 y1 z1 ra1 sa1' la1 ki1' ab1' no2 co2' lo2 fu2' x2 y2 z2 ra2 sa2' la2 ki2' ab2' ys1 ys2 wc hyb1 ((HY1.out.later HX23.out).later HXb.out) (HY2.out.later HXb.out)
        rw [fits_same o1d o2d _ _ _ _ _ _ _ _ _ _ _ _ _ _ _ _ _ _ _ _ HF1.out HF2.out, hS] at h
        exact h
      clear b1 b2 hEb hxb
      go_wp2_with fail
      refine HRS.out.mono ?_
      rintro r w6 ⟨rfl, hx6⟩
      have HX6 : Hid (Ext wc w6) := hx6
      clear hx6 p0 q0 p1 q1 p2 q2 p3 q3 p4 q4 p5 q5 p6 q6 p7 q7 p8 q8 p9 q9 HRS
      go_wp2_with fail
      obtain ⟨V, hV⟩ : ∃ V, (w6.alloc (.cells #[.string ⟨#[120]⟩, .nilIface] 46)).alloc (.cells #[.string ⟨#[120]⟩, .nilIface] 46) = V := ⟨_, rfl⟩
      have HXV : Hid (Ext wc V) := hV ▸ (HX6.out.trans (Ext.alloc2 _ _ _))
      have HC1 : Hid (V.heap[w6.heap.size]? = some (.cells #[.string ⟨#[120]⟩, .nilIface] 46)) := hV ▸ blkOld _ (blk0 w6 _)
      have HC2 : Hid (V.heap[w6.heap.size + 1]? = some (.cells #[.string ⟨#[120]⟩, .nilIface] 46)) := hV ▸ blk1 w6 _ _
      rw [hV]
      have k0a := cell_of (i := 0) HC1.out rfl
      have k0b := cell_of (i := 1) HC1.out rfl
      have k0c := cell_of (i := 0) HC2.out rfl
      have k0d := cell_of (i := 1) HC2.out rfl
      simp only [List.getElem_toArray, List.getElem_cons_zero, List.getElem_cons_succ] at k0a k0b k0c k0d
      clear hV
      have C1 : Hid (∀ W', Ext V W' → Calls Tryz.prog 19 #[u9, u11] W' fun r w' => r = .returned (.bool S) ∧ Ext W' w') := fun W' h => by
        have h' := same_err u9 u11 o1d o2d W' (HEc.out.later (HXV.out.trans h)) (HEb.out.later (HXV.out.trans h))
        rw [hS] at h'
        exact h'
      have C2 : Hid (∀ W', Ext V W' → Calls Tryz.prog 19 #[u11, u9] W' fun r w' => r = .returned (.bool S) ∧ Ext W' w') := fun W' h => by
        have h' := same_err u11 u9 o2d o1d W' (HEb.out.later (HXV.out.trans h)) (HEc.out.later (HXV.out.trans h))
        rw [sameB_symm, hS] at h'
        exact h'
      have C3 : Hid (∀ W', Ext V W' → Calls Tryz.prog 19 #[u9, u9] W' fun r w' => r = .returned (.bool true) ∧ Ext W' w') := fun W' h => by
        have h' := same_err u9 u9 o1d o1d W' (HEc.out.later (HXV.out.trans h)) (HEc.out.later (HXV.out.trans h))
        rw [sameB_self] at h'
        exact h'
      have C4 : Hid (∀ W', Ext V W' → Calls Tryz.prog 19 #[.iface 46 (.agg #[.string ⟨#[120]⟩, .nilIface]), .iface 46 (.agg #[.string ⟨#[120]⟩, .nilIface])] W' fun r w' => r = .returned (.bool false) ∧ Ext W' w') := fun W' h => same_bare _ _ W'
      have C5 : Hid (∀ W', Ext V W' → Calls Tryz.prog 19 #[.iface 46 (.agg #[.string ⟨#[120]⟩, .nilIface]), .nilIface] W' fun r w' => r = .returned (.bool false) ∧ Ext W' w') := fun W' h => (same_none _ _ W').mono (by rintro r w' ⟨rfl, rfl⟩; exact ⟨rfl, Ext.refl _⟩)
      obtain ⟨N, hN⟩ : ∃ N, o1d.isSome = N := ⟨_, rfl⟩
      have C6 : Hid (∀ W', Ext V W' → Calls Tryz.prog 19 #[.iface 46 (.agg #[.string ⟨#[102, 97, 114]⟩, u9]), u9] W' fun r w' => r = .returned (.bool N) ∧ Ext W' w') := fun W' h => by
        have h' := same_far ⟨#[102, 97, 114]⟩ u9 o1d W' (HEc.out.later (HXV.out.trans h))
        rw [hN] at h'
        exact h'
      clear hS
      rcases err_form HEc.out with ⟨hu9, hn⟩ | ⟨t9, v9, hu9, hn⟩
      all_goals
        have hN' := hN.symm.trans hn
        clear hN hn
        subst hu9
        subst hN'
        go_region_held3 (fun w' => w'.cell? ⟨w6.heap.size, 0, none⟩ = some (.string ⟨#[120]⟩) ∧ w'.cell? ⟨w6.heap.size, 1, none⟩ = some .nilIface ∧ w'.cell? ⟨w6.heap.size + 1, 0, none⟩ = some (.string ⟨#[120]⟩) ∧ w'.cell? ⟨w6.heap.size + 1, 1, none⟩ = some .nilIface) (first | exact ⟨k6a, k6b, k6c, k6d⟩ | exact ⟨k5a, k5b, k5c, k5d⟩ | exact ⟨k4a, k4b, k4c, k4d⟩ | exact ⟨k3a, k3b, k3c, k3d⟩ | exact ⟨k2a, k2b, k2c, k2d⟩ | exact ⟨k1a, k1b, k1c, k1d⟩ | exact ⟨k0a, k0b, k0c, k0d⟩ | go_keep) (first | (go_at_call 19; (fail_if_success (have g1 := s1)); refine (C1.out _ (Ext.drew (Ext.refl V))).mono ?_; rintro r v1 ⟨rfl, hv1⟩; have Y1 : Ext V v1 := Ext.trans ((Ext.drew (Ext.refl V))) hv1; have s1 : True := trivial; have k1a := cell_of (i := 0) (Y1.block HC1.out) rfl; have k1b := cell_of (i := 1) (Y1.block HC1.out) rfl; have k1c := cell_of (i := 0) (Y1.block HC2.out) rfl; have k1d := cell_of (i := 1) (Y1.block HC2.out) rfl; simp only [List.getElem_toArray, List.getElem_cons_zero, List.getElem_cons_succ] at k1a k1b k1c k1d) | (go_at_call 19; have g1 := s1; (fail_if_success (have g2 := s2)); refine (C2.out _ Y1).mono ?_; rintro r v2 ⟨rfl, hv2⟩; have Y2 : Ext V v2 := Ext.trans (Y1) hv2; have s2 : True := trivial; have k2a := cell_of (i := 0) (Y2.block HC1.out) rfl; have k2b := cell_of (i := 1) (Y2.block HC1.out) rfl; have k2c := cell_of (i := 0) (Y2.block HC2.out) rfl; have k2d := cell_of (i := 1) (Y2.block HC2.out) rfl; simp only [List.getElem_toArray, List.getElem_cons_zero, List.getElem_cons_succ] at k2a k2b k2c k2d) | (go_at_call 19; have g1 := s1; have g2 := s2; (fail_if_success (have g3 := s3)); refine (C3.out _ Y2).mono ?_; rintro r v3 ⟨rfl, hv3⟩; have Y3 : Ext V v3 := Ext.trans (Y2) hv3; have s3 : True := trivial; have k3a := cell_of (i := 0) (Y3.block HC1.out) rfl; have k3b := cell_of (i := 1) (Y3.block HC1.out) rfl; have k3c := cell_of (i := 0) (Y3.block HC2.out) rfl; have k3d := cell_of (i := 1) (Y3.block HC2.out) rfl; simp only [List.getElem_toArray, List.getElem_cons_zero, List.getElem_cons_succ] at k3a k3b k3c k3d) | (go_at_call 19; have g1 := s1; have g2 := s2; have g3 := s3; (fail_if_success (have g4 := s4)); refine (C4.out _ Y3).mono ?_; rintro r v4 ⟨rfl, hv4⟩; have Y4 : Ext V v4 := Ext.trans (Y3) hv4; have s4 : True := trivial; have k4a := cell_of (i := 0) (Y4.block HC1.out) rfl; have k4b := cell_of (i := 1) (Y4.block HC1.out) rfl; have k4c := cell_of (i := 0) (Y4.block HC2.out) rfl; have k4d := cell_of (i := 1) (Y4.block HC2.out) rfl; simp only [List.getElem_toArray, List.getElem_cons_zero, List.getElem_cons_succ] at k4a k4b k4c k4d) | (go_at_call 19; have g1 := s1; have g2 := s2; have g3 := s3; have g4 := s4; (fail_if_success (have g5 := s5)); refine (C5.out _ Y4).mono ?_; rintro r v5 ⟨rfl, hv5⟩; have Y5 : Ext V v5 := Ext.trans (Y4) hv5; have s5 : True := trivial; have k5a := cell_of (i := 0) (Y5.block HC1.out) rfl; have k5b := cell_of (i := 1) (Y5.block HC1.out) rfl; have k5c := cell_of (i := 0) (Y5.block HC2.out) rfl; have k5d := cell_of (i := 1) (Y5.block HC2.out) rfl; simp only [List.getElem_toArray, List.getElem_cons_zero, List.getElem_cons_succ] at k5a k5b k5c k5d) | (go_at_call 19; have g1 := s1; have g2 := s2; have g3 := s3; have g4 := s4; have g5 := s5; (fail_if_success (have g6 := s6)); refine (C6.out _ Y5).mono ?_; rintro r v6 ⟨rfl, hv6⟩; have Y6 : Ext V v6 := Ext.trans (Y5) hv6; have s6 : True := trivial; have k6a := cell_of (i := 0) (Y6.block HC1.out) rfl; have k6b := cell_of (i := 1) (Y6.block HC1.out) rfl; have k6c := cell_of (i := 0) (Y6.block HC2.out) rfl; have k6d := cell_of (i := 1) (Y6.block HC2.out) rfl; simp only [List.getElem_toArray, List.getElem_cons_zero, List.getElem_cons_succ] at k6a k6b k6c k6d))
        all_goals
          have hXX : Ext w v6 := HX5.out.trans (HXV.out.trans Y6)
          go_wp2
          go_ret
          exact ⟨by first | rfl | simp [Act.put], hXX⟩


end Go.Proofs.YtflcmdjekmmkkaaGreatDoor
