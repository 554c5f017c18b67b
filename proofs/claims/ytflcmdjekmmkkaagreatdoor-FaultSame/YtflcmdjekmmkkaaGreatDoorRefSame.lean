/-
  espalierref1.Same, whatever is held against whatever.
-/
import Derived.Test.YtflcmdjekmmkkaaGreatDoorRefEq
namespace Go.Proofs.YtflcmdjekmmkkaaGreatDoor
open Go.RowKit
attribute [local go_sem] isNCoded isNLocated isNRaised isNLacking isNUnw isNAsI isNUnws isNNoted isGCoded isGLocated isGRaised isGLacking isGUnw isGAsI isGUnws isGNoted isCCoded isCLocated isCRaised isCLacking isCUnw isCAsI isCUnws isCNoted isLCoded isLLocated isLRaised isLLacking isLUnw isLAsI isLUnws isLNoted isRCoded isRLocated isRRaised isRLacking isRUnw isRAsI isRUnws isRNoted isKCoded isKLocated isKRaised isKLacking isKUnw isKAsI isKUnws isKNoted isHCoded isHLocated isHRaised isHLacking isHUnw isHAsI isHUnws isHNoted toCodedCoded toCodedLocated toCodedRaised toCodedLacking toCodedNoted toLocatedCoded toLocatedLocated toLocatedRaised toLocatedLacking toLocatedNoted toRaisedCoded toRaisedLocated toRaisedRaised toRaisedLacking toRaisedNoted toLackingCoded toLackingLocated toLackingRaised toLackingLacking toLackingNoted toNotedCoded toNotedLocated toNotedRaised toNotedLacking toNotedNoted mNUnwrap mNError mCCode mCError mLCode mLWhere mLError mRCode mRWhere mRSaid mRError mKCode mKWhere mKLacks mKError mGUnwrap mGError mHAs mHUnwrap
theorem toList_eq_iff (a b : ByteArray) : (a.toList = b.toList) ↔ a = b := by
  constructor
  · intro e
    rw [ByteArray.toList_eq, ByteArray.toList_eq] at e
    cases a; cases b; simp at e; rw [e]
  · intro e; rw [e]

set_option maxRecDepth 100000 in
set_option maxHeartbeats 1000000 in
theorem refSame_no (no1 no2 : Bool) (co1 co2 : Int) (lo1 lo2 : Bool) (fu1 fu2 : ByteArray) (a1 a2 : Option Addr) (n1 n2 c1 c2 : Nat) (ra1 ra2 : Bool) (sa1 sa2 : ByteArray) (la1 la2 : Bool) (ki1 ki2 : ByteArray) (ab1 ab2 : ByteArray) (w : World) (h : (no1 == no2) = false)  :
    Calls Tryz.prog 11 #[toldV no1 co1 lo1 fu1 (.slice a1 n1 c1) ra1 sa1 la1 ki1 ab1, toldV no2 co2 lo2 fu2 (.slice a2 n2 c2) ra2 sa2 la2 ki2 ab2] w fun r w' => r = .returned (.bool false) ∧ Ext w w' := by
  go_enter Tryz.func11, Tryz.ntmps11
  go_wp2
  go_ret
  exact ⟨by simp_all, Ext.alloc2 _ _ _⟩


set_option maxRecDepth 100000 in
set_option maxHeartbeats 1000000 in
theorem refSame_co (no : Bool) (co1 co2 : Int) (lo1 lo2 : Bool) (fu1 fu2 : ByteArray) (a1 a2 : Option Addr) (n1 n2 c1 c2 : Nat) (ra1 ra2 : Bool) (sa1 sa2 : ByteArray) (la1 la2 : Bool) (ki1 ki2 : ByteArray) (ab1 ab2 : ByteArray) (w : World) (h : (co1 == co2) = false)  :
    Calls Tryz.prog 11 #[toldV no co1 lo1 fu1 (.slice a1 n1 c1) ra1 sa1 la1 ki1 ab1, toldV no co2 lo2 fu2 (.slice a2 n2 c2) ra2 sa2 la2 ki2 ab2] w fun r w' => r = .returned (.bool false) ∧ Ext w w' := by
  go_enter Tryz.func11, Tryz.ntmps11
  go_wp2
  go_ret
  exact ⟨by simp_all, Ext.alloc2 _ _ _⟩


set_option maxRecDepth 100000 in
set_option maxHeartbeats 1000000 in
theorem refSame_lo (no : Bool) (co : Int) (lo1 lo2 : Bool) (fu1 fu2 : ByteArray) (a1 a2 : Option Addr) (n1 n2 c1 c2 : Nat) (ra1 ra2 : Bool) (sa1 sa2 : ByteArray) (la1 la2 : Bool) (ki1 ki2 : ByteArray) (ab1 ab2 : ByteArray) (w : World) (h : (lo1 == lo2) = false)  :
    Calls Tryz.prog 11 #[toldV no co lo1 fu1 (.slice a1 n1 c1) ra1 sa1 la1 ki1 ab1, toldV no co lo2 fu2 (.slice a2 n2 c2) ra2 sa2 la2 ki2 ab2] w fun r w' => r = .returned (.bool false) ∧ Ext w w' := by
  go_enter Tryz.func11, Tryz.ntmps11
  go_wp2
  go_ret
  exact ⟨by simp_all, Ext.alloc2 _ _ _⟩


set_option maxRecDepth 100000 in
set_option maxHeartbeats 1000000 in
theorem refSame_pl (no : Bool) (co : Int) (lo : Bool) (fu1 fu2 : ByteArray) (a1 a2 : Option Addr) (n1 n2 c1 c2 : Nat) (ra1 ra2 : Bool) (sa1 sa2 : ByteArray) (la1 la2 : Bool) (ki1 ki2 : ByteArray) (ab1 ab2 : ByteArray) (w : World)  (xs ys : List Int) (hb : xs.length * 8 ≤ 140737488355328) (h1 : Ints w (.slice a1 n1 c1) xs) (h2 : Ints w (.slice a2 n2 c2) ys) (hne : ¬ (fu1 = fu2 ∧ xs = ys)) :
    Calls Tryz.prog 11 #[toldV no co lo fu1 (.slice a1 n1 c1) ra1 sa1 la1 ki1 ab1, toldV no co lo fu2 (.slice a2 n2 c2) ra2 sa2 la2 ki2 ab2] w fun r w' => r = .returned (.bool false) ∧ Ext w w' := by
  have HE : Hid (∀ w1, Ext w w1 → Calls Tryz.prog 17 #[.agg #[.string fu1, .slice a1 n1 c1], .agg #[.string fu2, .slice a2 n2 c2]] w1 fun r w' => r = .returned (.bool false) ∧ Ext w1 w') := fun w1 hx => by
    have h' := eqPlace_any fu1 fu2 _ _ xs ys w1 hb (h1.later hx) (h2.later hx)
    have hd : decide (fu1 = fu2 ∧ xs = ys) = false := by simp only [decide_eq_false_iff_not]; exact hne
    rw [hd] at h'
    exact h'
  clear h1 h2
  go_enter Tryz.func11, Tryz.ntmps11
  go_wp2_with fail
  refine (HE.out _ (Ext.alloc2 _ _ _)).mono ?_
  rintro r w1 ⟨rfl, hx⟩
  have b0 := hx.block (blkOld _ (blk0 w _))
  have b1 := hx.block (blk1 w _ _)
  have q5 := cell_of (i := 5) b0 rfl
  have p5 := cell_of (i := 5) b1 rfl
  have q6 := cell_of (i := 6) b0 rfl
  have p6 := cell_of (i := 6) b1 rfl
  have q7 := cell_of (i := 7) b0 rfl
  have p7 := cell_of (i := 7) b1 rfl
  have q8 := cell_of (i := 8) b0 rfl
  have p8 := cell_of (i := 8) b1 rfl
  have q9 := cell_of (i := 9) b0 rfl
  have p9 := cell_of (i := 9) b1 rfl
  simp only [List.getElem_toArray, List.getElem_cons_zero, List.getElem_cons_succ] at q5 p5 q6 p6 q7 p7 q8 p8 q9 p9
  have HX : Hid (Ext w w1) := (Ext.alloc2 _ _ _).trans hx
  clear b0 b1 hx
  go_wp2
  go_ret
  exact ⟨by simp_all, HX.out⟩


set_option maxRecDepth 100000 in
set_option maxHeartbeats 1000000 in
theorem refSame_ra (no : Bool) (co : Int) (lo : Bool) (fu : ByteArray) (a1 a2 : Option Addr) (n1 n2 c1 c2 : Nat) (ra1 ra2 : Bool) (sa1 sa2 : ByteArray) (la1 la2 : Bool) (ki1 ki2 : ByteArray) (ab1 ab2 : ByteArray) (w : World) (h : (ra1 == ra2) = false) (xs : List Int) (hb : xs.length * 8 ≤ 140737488355328) (h1 : Ints w (.slice a1 n1 c1) xs) (h2 : Ints w (.slice a2 n2 c2) xs) :
    Calls Tryz.prog 11 #[toldV no co lo fu (.slice a1 n1 c1) ra1 sa1 la1 ki1 ab1, toldV no co lo fu (.slice a2 n2 c2) ra2 sa2 la2 ki2 ab2] w fun r w' => r = .returned (.bool false) ∧ Ext w w' := by
  have HE : Hid (∀ w1, Ext w w1 → Calls Tryz.prog 17 #[.agg #[.string fu, .slice a1 n1 c1], .agg #[.string fu, .slice a2 n2 c2]] w1 fun r w' => r = .returned (.bool true) ∧ Ext w1 w') := fun w1 hx => by
    have h' := eqPlace_any fu fu _ _ xs xs w1 hb (h1.later hx) (h2.later hx)
    have hd : decide (fu = fu ∧ xs = xs) = true := by simp
    rw [hd] at h'
    exact h'
  clear h1 h2
  go_enter Tryz.func11, Tryz.ntmps11
  go_wp2_with fail
  refine (HE.out _ (Ext.alloc2 _ _ _)).mono ?_
  rintro r w1 ⟨rfl, hx⟩
  have b0 := hx.block (blkOld _ (blk0 w _))
  have b1 := hx.block (blk1 w _ _)
  have q5 := cell_of (i := 5) b0 rfl
  have p5 := cell_of (i := 5) b1 rfl
  have q6 := cell_of (i := 6) b0 rfl
  have p6 := cell_of (i := 6) b1 rfl
  have q7 := cell_of (i := 7) b0 rfl
  have p7 := cell_of (i := 7) b1 rfl
  have q8 := cell_of (i := 8) b0 rfl
  have p8 := cell_of (i := 8) b1 rfl
  have q9 := cell_of (i := 9) b0 rfl
  have p9 := cell_of (i := 9) b1 rfl
  simp only [List.getElem_toArray, List.getElem_cons_zero, List.getElem_cons_succ] at q5 p5 q6 p6 q7 p7 q8 p8 q9 p9
  have HX : Hid (Ext w w1) := (Ext.alloc2 _ _ _).trans hx
  clear b0 b1 hx
  go_wp2
  go_ret
  exact ⟨by simp_all, HX.out⟩


set_option maxRecDepth 100000 in
set_option maxHeartbeats 1000000 in
theorem refSame_sa (no : Bool) (co : Int) (lo : Bool) (fu : ByteArray) (a1 a2 : Option Addr) (n1 n2 c1 c2 : Nat) (ra : Bool) (sa1 sa2 : ByteArray) (la1 la2 : Bool) (ki1 ki2 : ByteArray) (ab1 ab2 : ByteArray) (w : World) (h : ¬ sa1.toList = sa2.toList) (xs : List Int) (hb : xs.length * 8 ≤ 140737488355328) (h1 : Ints w (.slice a1 n1 c1) xs) (h2 : Ints w (.slice a2 n2 c2) xs) :
    Calls Tryz.prog 11 #[toldV no co lo fu (.slice a1 n1 c1) ra sa1 la1 ki1 ab1, toldV no co lo fu (.slice a2 n2 c2) ra sa2 la2 ki2 ab2] w fun r w' => r = .returned (.bool false) ∧ Ext w w' := by
  have HE : Hid (∀ w1, Ext w w1 → Calls Tryz.prog 17 #[.agg #[.string fu, .slice a1 n1 c1], .agg #[.string fu, .slice a2 n2 c2]] w1 fun r w' => r = .returned (.bool true) ∧ Ext w1 w') := fun w1 hx => by
    have h' := eqPlace_any fu fu _ _ xs xs w1 hb (h1.later hx) (h2.later hx)
    have hd : decide (fu = fu ∧ xs = xs) = true := by simp
    rw [hd] at h'
    exact h'
  clear h1 h2
  go_enter Tryz.func11, Tryz.ntmps11
  go_wp2_with fail
  refine (HE.out _ (Ext.alloc2 _ _ _)).mono ?_
  rintro r w1 ⟨rfl, hx⟩
  have b0 := hx.block (blkOld _ (blk0 w _))
  have b1 := hx.block (blk1 w _ _)
  have q5 := cell_of (i := 5) b0 rfl
  have p5 := cell_of (i := 5) b1 rfl
  have q6 := cell_of (i := 6) b0 rfl
  have p6 := cell_of (i := 6) b1 rfl
  have q7 := cell_of (i := 7) b0 rfl
  have p7 := cell_of (i := 7) b1 rfl
  have q8 := cell_of (i := 8) b0 rfl
  have p8 := cell_of (i := 8) b1 rfl
  have q9 := cell_of (i := 9) b0 rfl
  have p9 := cell_of (i := 9) b1 rfl
  simp only [List.getElem_toArray, List.getElem_cons_zero, List.getElem_cons_succ] at q5 p5 q6 p6 q7 p7 q8 p8 q9 p9
  have HX : Hid (Ext w w1) := (Ext.alloc2 _ _ _).trans hx
  clear b0 b1 hx
  go_wp2
  go_ret
  exact ⟨by simp_all, HX.out⟩


set_option maxRecDepth 100000 in
set_option maxHeartbeats 1000000 in
theorem refSame_la (no : Bool) (co : Int) (lo : Bool) (fu : ByteArray) (a1 a2 : Option Addr) (n1 n2 c1 c2 : Nat) (ra : Bool) (sa : ByteArray) (la1 la2 : Bool) (ki1 ki2 : ByteArray) (ab1 ab2 : ByteArray) (w : World) (h : (la1 == la2) = false) (xs : List Int) (hb : xs.length * 8 ≤ 140737488355328) (h1 : Ints w (.slice a1 n1 c1) xs) (h2 : Ints w (.slice a2 n2 c2) xs) :
    Calls Tryz.prog 11 #[toldV no co lo fu (.slice a1 n1 c1) ra sa la1 ki1 ab1, toldV no co lo fu (.slice a2 n2 c2) ra sa la2 ki2 ab2] w fun r w' => r = .returned (.bool false) ∧ Ext w w' := by
  have HE : Hid (∀ w1, Ext w w1 → Calls Tryz.prog 17 #[.agg #[.string fu, .slice a1 n1 c1], .agg #[.string fu, .slice a2 n2 c2]] w1 fun r w' => r = .returned (.bool true) ∧ Ext w1 w') := fun w1 hx => by
    have h' := eqPlace_any fu fu _ _ xs xs w1 hb (h1.later hx) (h2.later hx)
    have hd : decide (fu = fu ∧ xs = xs) = true := by simp
    rw [hd] at h'
    exact h'
  clear h1 h2
  go_enter Tryz.func11, Tryz.ntmps11
  go_wp2_with fail
  refine (HE.out _ (Ext.alloc2 _ _ _)).mono ?_
  rintro r w1 ⟨rfl, hx⟩
  have b0 := hx.block (blkOld _ (blk0 w _))
  have b1 := hx.block (blk1 w _ _)
  have q5 := cell_of (i := 5) b0 rfl
  have p5 := cell_of (i := 5) b1 rfl
  have q6 := cell_of (i := 6) b0 rfl
  have p6 := cell_of (i := 6) b1 rfl
  have q7 := cell_of (i := 7) b0 rfl
  have p7 := cell_of (i := 7) b1 rfl
  have q8 := cell_of (i := 8) b0 rfl
  have p8 := cell_of (i := 8) b1 rfl
  have q9 := cell_of (i := 9) b0 rfl
  have p9 := cell_of (i := 9) b1 rfl
  simp only [List.getElem_toArray, List.getElem_cons_zero, List.getElem_cons_succ] at q5 p5 q6 p6 q7 p7 q8 p8 q9 p9
  have HX : Hid (Ext w w1) := (Ext.alloc2 _ _ _).trans hx
  clear b0 b1 hx
  go_wp2
  go_ret
  exact ⟨by simp_all, HX.out⟩


set_option maxRecDepth 100000 in
set_option maxHeartbeats 1000000 in
theorem refSame_ki (no : Bool) (co : Int) (lo : Bool) (fu : ByteArray) (a1 a2 : Option Addr) (n1 n2 c1 c2 : Nat) (ra : Bool) (sa : ByteArray) (la : Bool) (ki1 ki2 : ByteArray) (ab1 ab2 : ByteArray) (w : World) (h : ¬ ki1.toList = ki2.toList) (xs : List Int) (hb : xs.length * 8 ≤ 140737488355328) (h1 : Ints w (.slice a1 n1 c1) xs) (h2 : Ints w (.slice a2 n2 c2) xs) :
    Calls Tryz.prog 11 #[toldV no co lo fu (.slice a1 n1 c1) ra sa la ki1 ab1, toldV no co lo fu (.slice a2 n2 c2) ra sa la ki2 ab2] w fun r w' => r = .returned (.bool false) ∧ Ext w w' := by
  have HE : Hid (∀ w1, Ext w w1 → Calls Tryz.prog 17 #[.agg #[.string fu, .slice a1 n1 c1], .agg #[.string fu, .slice a2 n2 c2]] w1 fun r w' => r = .returned (.bool true) ∧ Ext w1 w') := fun w1 hx => by
    have h' := eqPlace_any fu fu _ _ xs xs w1 hb (h1.later hx) (h2.later hx)
    have hd : decide (fu = fu ∧ xs = xs) = true := by simp
    rw [hd] at h'
    exact h'
  clear h1 h2
  go_enter Tryz.func11, Tryz.ntmps11
  go_wp2_with fail
  refine (HE.out _ (Ext.alloc2 _ _ _)).mono ?_
  rintro r w1 ⟨rfl, hx⟩
  have b0 := hx.block (blkOld _ (blk0 w _))
  have b1 := hx.block (blk1 w _ _)
  have q5 := cell_of (i := 5) b0 rfl
  have p5 := cell_of (i := 5) b1 rfl
  have q6 := cell_of (i := 6) b0 rfl
  have p6 := cell_of (i := 6) b1 rfl
  have q7 := cell_of (i := 7) b0 rfl
  have p7 := cell_of (i := 7) b1 rfl
  have q8 := cell_of (i := 8) b0 rfl
  have p8 := cell_of (i := 8) b1 rfl
  have q9 := cell_of (i := 9) b0 rfl
  have p9 := cell_of (i := 9) b1 rfl
  simp only [List.getElem_toArray, List.getElem_cons_zero, List.getElem_cons_succ] at q5 p5 q6 p6 q7 p7 q8 p8 q9 p9
  have HX : Hid (Ext w w1) := (Ext.alloc2 _ _ _).trans hx
  clear b0 b1 hx
  go_wp2
  go_ret
  exact ⟨by simp_all, HX.out⟩


set_option maxRecDepth 100000 in
set_option maxHeartbeats 1000000 in
theorem refSame_ab (no : Bool) (co : Int) (lo : Bool) (fu : ByteArray) (a1 a2 : Option Addr) (n1 n2 c1 c2 : Nat) (ra : Bool) (sa : ByteArray) (la : Bool) (ki : ByteArray) (ab1 ab2 : ByteArray) (w : World) (h : ¬ ab1.toList = ab2.toList) (xs : List Int) (hb : xs.length * 8 ≤ 140737488355328) (h1 : Ints w (.slice a1 n1 c1) xs) (h2 : Ints w (.slice a2 n2 c2) xs) :
    Calls Tryz.prog 11 #[toldV no co lo fu (.slice a1 n1 c1) ra sa la ki ab1, toldV no co lo fu (.slice a2 n2 c2) ra sa la ki ab2] w fun r w' => r = .returned (.bool false) ∧ Ext w w' := by
  have HE : Hid (∀ w1, Ext w w1 → Calls Tryz.prog 17 #[.agg #[.string fu, .slice a1 n1 c1], .agg #[.string fu, .slice a2 n2 c2]] w1 fun r w' => r = .returned (.bool true) ∧ Ext w1 w') := fun w1 hx => by
    have h' := eqPlace_any fu fu _ _ xs xs w1 hb (h1.later hx) (h2.later hx)
    have hd : decide (fu = fu ∧ xs = xs) = true := by simp
    rw [hd] at h'
    exact h'
  clear h1 h2
  go_enter Tryz.func11, Tryz.ntmps11
  go_wp2_with fail
  refine (HE.out _ (Ext.alloc2 _ _ _)).mono ?_
  rintro r w1 ⟨rfl, hx⟩
  have b0 := hx.block (blkOld _ (blk0 w _))
  have b1 := hx.block (blk1 w _ _)
  have q5 := cell_of (i := 5) b0 rfl
  have p5 := cell_of (i := 5) b1 rfl
  have q6 := cell_of (i := 6) b0 rfl
  have p6 := cell_of (i := 6) b1 rfl
  have q7 := cell_of (i := 7) b0 rfl
  have p7 := cell_of (i := 7) b1 rfl
  have q8 := cell_of (i := 8) b0 rfl
  have p8 := cell_of (i := 8) b1 rfl
  have q9 := cell_of (i := 9) b0 rfl
  have p9 := cell_of (i := 9) b1 rfl
  simp only [List.getElem_toArray, List.getElem_cons_zero, List.getElem_cons_succ] at q5 p5 q6 p6 q7 p7 q8 p8 q9 p9
  have HX : Hid (Ext w w1) := (Ext.alloc2 _ _ _).trans hx
  clear b0 b1 hx
  go_wp2
  go_ret
  exact ⟨by simp_all, HX.out⟩


theorem refSame_any (no1 : Bool) (co1 : Int) (lo1 : Bool) (fu1 : ByteArray) (a1 : Option Addr) (n1 c1 : Nat) (ra1 : Bool) (sa1 : ByteArray) (la1 : Bool) (ki1 ab1 : ByteArray) (no2 : Bool) (co2 : Int) (lo2 : Bool) (fu2 : ByteArray) (a2 : Option Addr) (n2 c2 : Nat) (ra2 : Bool) (sa2 : ByteArray) (la2 : Bool) (ki2 ab2 : ByteArray) (xs ys : List Int) (w : World) (hb : xs.length * 8 ≤ 140737488355328) (h1 : Ints w (.slice a1 n1 c1) xs) (h2 : Ints w (.slice a2 n2 c2) ys) :
    Calls Tryz.prog 11 #[toldV no1 co1 lo1 fu1 (.slice a1 n1 c1) ra1 sa1 la1 ki1 ab1, toldV no2 co2 lo2 fu2 (.slice a2 n2 c2) ra2 sa2 la2 ki2 ab2] w fun r w' => r = .returned (.bool (decide (no1 = no2 ∧ co1 = co2 ∧ lo1 = lo2 ∧ (fu1 = fu2 ∧ xs = ys) ∧ ra1 = ra2 ∧ sa1 = sa2 ∧ la1 = la2 ∧ ki1 = ki2 ∧ ab1 = ab2))) ∧ Ext w w' := by
  by_cases hno : no1 = no2
  · subst hno
    by_cases hco : co1 = co2
    · subst hco
      by_cases hlo : lo1 = lo2
      · subst hlo
        by_cases hpl : (fu1 = fu2 ∧ xs = ys)
        · obtain ⟨rfl, rfl⟩ := hpl
          by_cases hra : ra1 = ra2
          · subst hra
            by_cases hsa : sa1 = sa2
            · subst hsa
              by_cases hla : la1 = la2
              · subst hla
                by_cases hki : ki1 = ki2
                · subst hki
                  by_cases hab : ab1 = ab2
                  · subst hab
                    have hd : decide (no1 = no1 ∧ co1 = co1 ∧ lo1 = lo1 ∧ (fu1 = fu1 ∧ xs = xs) ∧ ra1 = ra1 ∧ sa1 = sa1 ∧ la1 = la1 ∧ ki1 = ki1 ∧ ab1 = ab1) = true := by simp
                    rw [hd]
                    exact refSame_eq no1 co1 lo1 fu1 a1 a2 n1 n2 c1 c2 ra1 sa1 la1 ki1 ab1 xs w hb h1 h2
                  · have hd : decide (no1 = no1 ∧ co1 = co1 ∧ lo1 = lo1 ∧ (fu1 = fu1 ∧ xs = xs) ∧ ra1 = ra1 ∧ sa1 = sa1 ∧ la1 = la1 ∧ ki1 = ki1 ∧ ab1 = ab2) = false := by
                      rw [decide_eq_false_iff_not]
                      intro e
                      exact hab e.2.2.2.2.2.2.2.2
                    rw [hd]
                    exact refSame_ab no1 co1 lo1 fu1 a1 a2 n1 n2 c1 c2 ra1 sa1 la1 ki1 ab1 ab2 w (toList_ne hab) xs hb h1 h2
                · have hd : decide (no1 = no1 ∧ co1 = co1 ∧ lo1 = lo1 ∧ (fu1 = fu1 ∧ xs = xs) ∧ ra1 = ra1 ∧ sa1 = sa1 ∧ la1 = la1 ∧ ki1 = ki2 ∧ ab1 = ab2) = false := by
                    rw [decide_eq_false_iff_not]
                    intro e
                    exact hki e.2.2.2.2.2.2.2.1
                  rw [hd]
                  exact refSame_ki no1 co1 lo1 fu1 a1 a2 n1 n2 c1 c2 ra1 sa1 la1 ki1 ki2 ab1 ab2 w (toList_ne hki) xs hb h1 h2
              · have hd : decide (no1 = no1 ∧ co1 = co1 ∧ lo1 = lo1 ∧ (fu1 = fu1 ∧ xs = xs) ∧ ra1 = ra1 ∧ sa1 = sa1 ∧ la1 = la2 ∧ ki1 = ki2 ∧ ab1 = ab2) = false := by
                  rw [decide_eq_false_iff_not]
                  intro e
                  exact hla e.2.2.2.2.2.2.1
                rw [hd]
                exact refSame_la no1 co1 lo1 fu1 a1 a2 n1 n2 c1 c2 ra1 sa1 la1 la2 ki1 ki2 ab1 ab2 w (by simp [hla]) xs hb h1 h2
            · have hd : decide (no1 = no1 ∧ co1 = co1 ∧ lo1 = lo1 ∧ (fu1 = fu1 ∧ xs = xs) ∧ ra1 = ra1 ∧ sa1 = sa2 ∧ la1 = la2 ∧ ki1 = ki2 ∧ ab1 = ab2) = false := by
                rw [decide_eq_false_iff_not]
                intro e
                exact hsa e.2.2.2.2.2.1
              rw [hd]
              exact refSame_sa no1 co1 lo1 fu1 a1 a2 n1 n2 c1 c2 ra1 sa1 sa2 la1 la2 ki1 ki2 ab1 ab2 w (toList_ne hsa) xs hb h1 h2
          · have hd : decide (no1 = no1 ∧ co1 = co1 ∧ lo1 = lo1 ∧ (fu1 = fu1 ∧ xs = xs) ∧ ra1 = ra2 ∧ sa1 = sa2 ∧ la1 = la2 ∧ ki1 = ki2 ∧ ab1 = ab2) = false := by
              rw [decide_eq_false_iff_not]
              intro e
              exact hra e.2.2.2.2.1
            rw [hd]
            exact refSame_ra no1 co1 lo1 fu1 a1 a2 n1 n2 c1 c2 ra1 ra2 sa1 sa2 la1 la2 ki1 ki2 ab1 ab2 w (by simp [hra]) xs hb h1 h2
        · have hd : decide (no1 = no1 ∧ co1 = co1 ∧ lo1 = lo1 ∧ (fu1 = fu2 ∧ xs = ys) ∧ ra1 = ra2 ∧ sa1 = sa2 ∧ la1 = la2 ∧ ki1 = ki2 ∧ ab1 = ab2) = false := by
            rw [decide_eq_false_iff_not]
            intro e
            exact hpl e.2.2.2.1
          rw [hd]
          exact refSame_pl no1 co1 lo1 fu1 fu2 a1 a2 n1 n2 c1 c2 ra1 ra2 sa1 sa2 la1 la2 ki1 ki2 ab1 ab2 w xs ys hb h1 h2 hpl
      · have hd : decide (no1 = no1 ∧ co1 = co1 ∧ lo1 = lo2 ∧ (fu1 = fu2 ∧ xs = ys) ∧ ra1 = ra2 ∧ sa1 = sa2 ∧ la1 = la2 ∧ ki1 = ki2 ∧ ab1 = ab2) = false := by
          rw [decide_eq_false_iff_not]
          intro e
          exact hlo e.2.2.1
        rw [hd]
        exact refSame_lo no1 co1 lo1 lo2 fu1 fu2 a1 a2 n1 n2 c1 c2 ra1 ra2 sa1 sa2 la1 la2 ki1 ki2 ab1 ab2 w (by simp [hlo])
    · have hd : decide (no1 = no1 ∧ co1 = co2 ∧ lo1 = lo2 ∧ (fu1 = fu2 ∧ xs = ys) ∧ ra1 = ra2 ∧ sa1 = sa2 ∧ la1 = la2 ∧ ki1 = ki2 ∧ ab1 = ab2) = false := by
        rw [decide_eq_false_iff_not]
        intro e
        exact hco e.2.1
      rw [hd]
      exact refSame_co no1 co1 co2 lo1 lo2 fu1 fu2 a1 a2 n1 n2 c1 c2 ra1 ra2 sa1 sa2 la1 la2 ki1 ki2 ab1 ab2 w (by simp [hco])
  · have hd : decide (no1 = no2 ∧ co1 = co2 ∧ lo1 = lo2 ∧ (fu1 = fu2 ∧ xs = ys) ∧ ra1 = ra2 ∧ sa1 = sa2 ∧ la1 = la2 ∧ ki1 = ki2 ∧ ab1 = ab2) = false := by
      rw [decide_eq_false_iff_not]
      intro e
      exact hno e.1
    rw [hd]
    exact refSame_no no1 no2 co1 co2 lo1 lo2 fu1 fu2 a1 a2 n1 n2 c1 c2 ra1 ra2 sa1 sa2 la1 la2 ki1 ki2 ab1 ab2 w (by simp [hno])

end Go.Proofs.YtflcmdjekmmkkaaGreatDoor
