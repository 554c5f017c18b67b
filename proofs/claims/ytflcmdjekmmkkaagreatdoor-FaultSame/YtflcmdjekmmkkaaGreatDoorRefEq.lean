/-
  espalierref1.EqPlace: the same place, or not; espalierref1.Same of two that tell the same.
-/
import Derived.Test.YtflcmdjekmmkkaaGreatDoorRef
namespace Go.Proofs.YtflcmdjekmmkkaaGreatDoor
open Go.RowKit
attribute [local go_sem] isNCoded isNLocated isNRaised isNLacking isNUnw isNAsI isNUnws isNNoted isGCoded isGLocated isGRaised isGLacking isGUnw isGAsI isGUnws isGNoted isCCoded isCLocated isCRaised isCLacking isCUnw isCAsI isCUnws isCNoted isLCoded isLLocated isLRaised isLLacking isLUnw isLAsI isLUnws isLNoted isRCoded isRLocated isRRaised isRLacking isRUnw isRAsI isRUnws isRNoted isKCoded isKLocated isKRaised isKLacking isKUnw isKAsI isKUnws isKNoted isHCoded isHLocated isHRaised isHLacking isHUnw isHAsI isHUnws isHNoted toCodedCoded toCodedLocated toCodedRaised toCodedLacking toCodedNoted toLocatedCoded toLocatedLocated toLocatedRaised toLocatedLacking toLocatedNoted toRaisedCoded toRaisedLocated toRaisedRaised toRaisedLacking toRaisedNoted toLackingCoded toLackingLocated toLackingRaised toLackingLacking toLackingNoted toNotedCoded toNotedLocated toNotedRaised toNotedLacking toNotedNoted mNUnwrap mNError mCCode mCError mLCode mLWhere mLError mRCode mRWhere mRSaid mRError mKCode mKWhere mKLacks mKError mGUnwrap mGError mHAs mHUnwrap
theorem toList_ne {a b : ByteArray} (h : a ≠ b) : ¬ a.toList = b.toList := fun e => h (by
  rw [ByteArray.toList_eq, ByteArray.toList_eq] at e
  cases a; cases b; simp at e; rw [e])

set_option maxRecDepth 100000 in
set_option maxHeartbeats 2000000 in
theorem eqPlace_some (f1 : ByteArray) (g1 o1 c1 g2 o2 c2 : Nat) (xs ys : List Int) (w : World) (hl : xs.length = ys.length) (hb : xs.length * 8 ≤ 140737488355328)
    (h1 : ∀ (j : Nat) (u : Int), xs[j]? = some u → w.cell? ⟨g1, o1 + j, none⟩ = some (.int .i64 u)) (h2 : ∀ (j : Nat) (u : Int), ys[j]? = some u → w.cell? ⟨g2, o2 + j, none⟩ = some (.int .i64 u)) :
    Calls Tryz.prog 17 #[.agg #[.string f1, .slice (some ⟨g1, o1, none⟩) xs.length c1], .agg #[.string f1, .slice (some ⟨g2, o2, none⟩) xs.length c2]] w fun r w' => r = .returned (.bool (decide (xs = ys))) ∧ Ext w w' := by
  have H1 : Hid (∀ (j : Nat) (u : Int), xs[j]? = some u → w.cell? ⟨g1, o1 + j, none⟩ = some (.int .i64 u)) := h1
  have H2 : Hid (∀ (j : Nat) (u : Int), ys[j]? = some u → w.cell? ⟨g2, o2 + j, none⟩ = some (.int .i64 u)) := h2
  have HL : Hid (xs.length = ys.length) := hl
  clear h1 h2 hl
  have hbn : (xs.length : Int) ≤ 17592186044416 := by omega
  have hnn : ((xs.length : Int) != (xs.length : Int)) = false := by simp
  go_enter Tryz.func17, Tryz.ntmps17
  go_wp2
  go_loopw [5] (fun i wr => ∃ k : Nat, k ≤ xs.length ∧ i = .int .i64 k ∧ (∀ j, j < k → xs[j]? = ys[j]?) ∧ Ext ((w.alloc (.cells #[.string f1, .slice (some ⟨g1, o1, none⟩) xs.length c1] 29)).alloc (.cells #[.string f1, .slice (some ⟨g2, o2, none⟩) xs.length c2] 29)) wr) (fun i _ => xs.length - (intOf i).toNat)
  case atStart => exact ⟨0, Nat.zero_le _, rfl, fun j h => absurd h (Nat.not_lt_zero _), Ext.refl _⟩
  case round =>
    obtain ⟨k, hk, rfl, hall, hx⟩ := hrel
    have HALL : Hid (∀ j, j < k → xs[j]? = ys[j]?) := hall
    have HX : Hid (Ext ((w.alloc (.cells #[.string f1, .slice (some ⟨g1, o1, none⟩) xs.length c1] 29)).alloc (.cells #[.string f1, .slice (some ⟨g2, o2, none⟩) xs.length c2] 29)) wr) := hx
    have p1 : wr.cell? ⟨w.heap.size, 1, none⟩ = some (.slice (some ⟨g1, o1, none⟩) xs.length c1) := cell_of (hx.block (blkOld _ (blk0 _ _))) rfl
    have p2 : wr.cell? ⟨w.heap.size + 1, 1, none⟩ = some (.slice (some ⟨g2, o2, none⟩) xs.length c2) := cell_of (hx.block (blk1 _ _ _)) rfl
    clear hall hx
    by_cases hlt : k < xs.length
    · have hlty : k < ys.length := by rw [← HL.out]; exact hlt
      obtain ⟨x, hxk⟩ : ∃ x, xs[k]? = some x := ⟨_, List.getElem?_eq_getElem hlt⟩
      obtain ⟨y, hyk⟩ : ∃ y, ys[k]? = some y := ⟨_, List.getElem?_eq_getElem hlty⟩
      have e1 := H1.out k x hxk
      have e2 := H2.out k y hyk
      have HXw : Ext w wr := (Ext.alloc2 w (.cells #[.string f1, .slice (some ⟨g1, o1, none⟩) xs.length c1] 29) (.cells #[.string f1, .slice (some ⟨g2, o2, none⟩) xs.length c2] 29)).trans HX.out
      have cx : wr.cell? ⟨g1, o1 + k, none⟩ = some (.int .i64 x) := (Below.cell HXw (lt_of_cell e1)).trans e1
      have cy : wr.cell? ⟨g2, o2 + k, none⟩ = some (.int .i64 y) := (Below.cell HXw (lt_of_cell e2)).trans e2
      have HXK : Hid (xs[k]? = some x) := hxk
      have HYK : Hid (ys[k]? = some y) := hyk
      have hlt' : (k : Int) < xs.length := by omega
      clear e1 e2 hxk hyk HXw
      by_cases hxy : x = y
      · have hq : (x != y) = false := by simp [hxy]
        have HXY : Hid (x = y) := hxy
        clear hxy
        go_wp2
        go_quiet (fail)
        go_wp2
        have hrelw : ∃ k' : Nat, k' ≤ xs.length ∧ Value.int .i64 ((k : Int) + 1) = .int .i64 k' ∧ (∀ j, j < k' → xs[j]? = ys[j]?) ∧ Ext ((w.alloc (.cells #[.string f1, .slice (some ⟨g1, o1, none⟩) xs.length c1] 29)).alloc (.cells #[.string f1, .slice (some ⟨g2, o2, none⟩) xs.length c2] 29)) (wr.drewN nq) := ⟨k + 1, hlt, by go_num, fun j hj => by
          rcases Nat.lt_or_eq_of_le (Nat.le_of_lt_succ hj) with h | h
          · exact HALL.out j h
          · rw [h, HXK.out, HYK.out, HXY.out], HX.out.trans (by exact below_drewN (Below.refl _ _) _)⟩
        go_roundw
        case rel => first | exact hrelw | ((repeat apply Exists.intro); exact ⟨hrelw, rfl⟩)
        case measure => simp [intOf]; omega
      · have hq : (x != y) = true := by simp [hxy]
        have HXY : Hid (¬ x = y) := hxy
        clear hxy
        go_wp2
        go_quiet (fail)
        go_wp2
        go_ret
        refine ⟨?_, (Ext.alloc2 w (.cells #[.string f1, .slice (some ⟨g1, o1, none⟩) xs.length c1] 29) (.cells #[.string f1, .slice (some ⟨g2, o2, none⟩) xs.length c2] 29)).trans (HX.out.trans (by exact below_drewN (Below.refl _ _) _))⟩
        have hd : decide (xs = ys) = false := by
          rw [decide_eq_false_iff_not]
          intro e
          have := HXK.out
          rw [e, HYK.out] at this
          exact HXY.out (Option.some.inj this).symm
        rw [hd]; rfl
    · go_wp2
      go_ret
      refine ⟨?_, (Ext.alloc2 w (.cells #[.string f1, .slice (some ⟨g1, o1, none⟩) xs.length c1] 29) (.cells #[.string f1, .slice (some ⟨g2, o2, none⟩) xs.length c2] 29)).trans HX.out⟩
      have hd : decide (xs = ys) = true := by
        rw [decide_eq_true_iff]
        refine List.ext_getElem? (fun j => ?_)
        rcases Nat.lt_or_ge j k with h | h
        · exact HALL.out j h
        · have hl := HL.out
          rw [List.getElem?_eq_none (by omega), List.getElem?_eq_none (by omega)]
      rw [hd]; rfl
theorem ints_slice {w : World} {v : Value} {zs : List Int} (h : Ints w v zs) : ∃ a c, v = .slice a zs.length c := by
  rcases h with ⟨rfl, rfl⟩ | ⟨g, off, cap, rfl, _⟩
  · exact ⟨_, _, rfl⟩
  · exact ⟨_, _, rfl⟩
theorem eqPlace_any (f1 f2 : ByteArray) (v1 v2 : Value) (xs ys : List Int) (w : World) (hb : xs.length * 8 ≤ 140737488355328) (h1 : Ints w v1 xs) (h2 : Ints w v2 ys) :
    Calls Tryz.prog 17 #[.agg #[.string f1, v1], .agg #[.string f2, v2]] w fun r w' => r = .returned (.bool (decide (f1 = f2 ∧ xs = ys))) ∧ Ext w w' := by
  by_cases hf : f1 = f2
  · subst hf
    have hde : decide (f1 = f1 ∧ xs = ys) = decide (xs = ys) := by simp
    rw [hde]
    by_cases hl : xs.length = ys.length
    · rcases h1 with ⟨rfl, rfl⟩ | ⟨g1, o1, c1, rfl, hc1⟩
      · obtain rfl : ys = [] := List.eq_nil_of_length_eq_zero hl.symm
        obtain ⟨a, c, rfl⟩ := ints_slice h2
        exact eqPlace_none _ _ _ _ _ w
      · rcases h2 with ⟨rfl, rfl⟩ | ⟨g2, o2, c2, rfl, hc2⟩
        · obtain rfl : xs = [] := List.eq_nil_of_length_eq_zero hl
          exact eqPlace_none _ _ _ _ _ w
        · rw [← hl]
          exact eqPlace_some f1 g1 o1 c1 g2 o2 c2 xs ys w hl hb hc1 hc2
    · obtain ⟨a1, c1, rfl⟩ := ints_slice h1
      obtain ⟨a2, c2, rfl⟩ := ints_slice h2
      have hd : decide (xs = ys) = false := by
        rw [decide_eq_false_iff_not]
        intro e; exact hl (by rw [e])
      rw [hd]
      exact eqPlace_len f1 a1 a2 xs.length ys.length c1 c2 w (by rw [bne_iff_ne]; omega)
  · obtain ⟨a1, c1, rfl⟩ := ints_slice h1
    obtain ⟨a2, c2, rfl⟩ := ints_slice h2
    have hd : decide (f1 = f2 ∧ xs = ys) = false := by
      rw [decide_eq_false_iff_not]
      intro e; exact hf e.1
    rw [hd]
    exact eqPlace_fun f1 f2 a1 a2 _ _ c1 c2 w (toList_ne hf)
set_option maxRecDepth 100000 in
set_option maxHeartbeats 4000000 in
theorem refSame_eq (no : Bool) (co : Int) (lo : Bool) (fu : ByteArray) (a1 a2 : Option Addr) (n1 n2 c1 c2 : Nat) (ra : Bool) (sa : ByteArray) (la : Bool) (ki ab : ByteArray) (xs : List Int) (w : World) (hb : xs.length * 8 ≤ 140737488355328) (h1 : Ints w (.slice a1 n1 c1) xs) (h2 : Ints w (.slice a2 n2 c2) xs) :
    Calls Tryz.prog 11 #[toldV no co lo fu (.slice a1 n1 c1) ra sa la ki ab, toldV no co lo fu (.slice a2 n2 c2) ra sa la ki ab] w fun r w' => r = .returned (.bool true) ∧ Ext w w' := by
  have HE : Hid (∀ w1, Ext w w1 → Calls Tryz.prog 17 #[.agg #[.string fu, .slice a1 n1 c1], .agg #[.string fu, .slice a2 n2 c2]] w1 fun r w' => r = .returned (.bool true) ∧ Ext w1 w') := fun w1 hx => by
    have h := eqPlace_any fu fu _ _ xs xs w1 hb (h1.later hx) (h2.later hx)
    have hd : decide (fu = fu ∧ xs = xs) = true := by simp
    rw [hd] at h
    exact h
  clear h1 h2
  go_enter Tryz.func11, Tryz.ntmps11
  go_wp2_with fail
  refine (HE.out _ (Ext.alloc2 _ _ _)).mono ?_
  rintro r w1 ⟨rfl, hx⟩
  have b0 := hx.block (blkOld _ (blk0 w _))
  have b1 := hx.block (blk1 w _ _)
  have q5 := cell_of (i := 5) b0 rfl
  have p5 := cell_of (i := 5) b1 rfl
  have q6 := cell_of (i := 6) b0 rfl
  have p6 := cell_of (i := 6) b1 rfl
  have q7 := cell_of (i := 7) b0 rfl
  have p7 := cell_of (i := 7) b1 rfl
  have q8 := cell_of (i := 8) b0 rfl
  have p8 := cell_of (i := 8) b1 rfl
  have q9 := cell_of (i := 9) b0 rfl
  have p9 := cell_of (i := 9) b1 rfl
  simp only [List.getElem_toArray, List.getElem_cons_zero, List.getElem_cons_succ] at q5 p5 q6 p6 q7 p7 q8 p8 q9 p9
  have HX : Hid (Ext w w1) := (Ext.alloc2 _ _ _).trans hx
  clear b0 b1 hx
  go_wp2
  go_ret
  exact ⟨by simp, HX.out⟩


end Go.Proofs.YtflcmdjekmmkkaaGreatDoor
