/-
  (told).same, whatever is held against whatever.
-/
import Derived.Test.YtflcmdjekmmkkabDoorSame
namespace Go.Proofs.YtflcmdjekmmkkabDoor
open Go.RowKit
attribute [local go_sem] isNCoded isNLocated isNRaised isNLacking isNUnw isNAsI isNUnws isNNoted isGCoded isGLocated isGRaised isGLacking isGUnw isGAsI isGUnws isGNoted isCCoded isCLocated isCRaised isCLacking isCUnw isCAsI isCUnws isCNoted isLCoded isLLocated isLRaised isLLacking isLUnw isLAsI isLUnws isLNoted isRCoded isRLocated isRRaised isRLacking isRUnw isRAsI isRUnws isRNoted isHCoded isHLocated isHRaised isHLacking isHUnw isHAsI isHUnws isHNoted isOCoded isOLocated isORaised isOLacking isOUnw isOAsI isOUnws isONoted toCodedCoded toCodedLocated toCodedRaised toCodedLacking toCodedNoted toLocatedCoded toLocatedLocated toLocatedRaised toLocatedLacking toLocatedNoted toRaisedCoded toRaisedLocated toRaisedRaised toRaisedLacking toRaisedNoted toLackingCoded toLackingLocated toLackingRaised toLackingLacking toLackingNoted toNotedCoded toNotedLocated toNotedRaised toNotedLacking toNotedNoted mNUnwrap mNError mCCode mCError mLCode mLWhere mLError mRCode mRWhere mRSaid mRError mOUnwrap mGUnwrap mGError mHAs mHUnwrap
theorem toList_inj {a b : ByteArray} (e : a.toList = b.toList) : a = b := by
  rw [ByteArray.toList_eq, ByteArray.toList_eq] at e
  cases a; cases b; simp at e; rw [e]
/-- All that an error tells, as a value of package fault. -/
abbrev faultV (co : Int) (lo ra la : Bool) (fu sa ki ab : ByteArray) (pv : Value) : Value :=
  .agg #[.int .i64 co, .bool lo, .bool ra, .bool la, .string fu, .string sa, .string ki, .string ab, pv]

set_option maxRecDepth 100000 in
set_option maxHeartbeats 2000000 in
theorem same_words (co : Int) (lo ra la : Bool) (fu sa ki ab : ByteArray) (a1 a2 : Option Addr) (n1 n2 c1 c2 : Nat) (xs ys : List Int) (w : World) (hb : xs.length * 8 ≤ 140737488355328) (h1 : Ints w (.slice a1 n1 c1) xs) (h2 : Ints w (.slice a2 n2 c2) ys) :
    Calls Tryd.prog 20 #[faultV co lo ra la fu sa ki ab (.slice a1 n1 c1), faultV co lo ra la fu sa ki ab (.slice a2 n2 c2)] w fun r w' => r = .returned (.bool (decide (xs = ys))) ∧ Ext w w' := by
  have hs1 : Tryd.prog.stoodInHeld 75 = false := by kernel_rfl
  have hs2 : Tryd.prog.eqGuardType Tryd.prog.depth 75 = false := by kernel_rfl
  have hE : Hid (∀ w1, Ext w w1 → Calls Tryd.prog 35 #[.slice a1 n1 c1, .slice a2 n2 c2] w1 fun r w' => r = .returned (.bool (decide (xs = ys))) ∧ Ext w1 w') := fun w1 hx => equal_any _ _ xs ys w1 hb (h1.later hx) (h2.later hx)
  clear h1 h2
  go_enter Tryd.func20, Tryd.ntmps20
  go_wp2_with (go_at_call 35; refine (hE.out _ (Ext.alloc2 _ _ _)).mono ?_; rintro r w1 ⟨rfl, hx⟩)
  go_ret
  exact ⟨rfl, (Ext.alloc2 _ _ _).trans hx⟩
set_option maxRecDepth 100000 in
set_option maxHeartbeats 2000000 in
theorem same_other (co1 co2 : Int) (lo1 ra1 la1 lo2 ra2 la2 : Bool) (fu1 sa1 ki1 ab1 fu2 sa2 ki2 ab2 : ByteArray) (a1 a2 : Option Addr) (n1 n2 c1 c2 : Nat) (w : World)
    (h : ¬ (co1 = co2 ∧ lo1 = lo2 ∧ ra1 = ra2 ∧ la1 = la2 ∧ fu1 = fu2 ∧ sa1 = sa2 ∧ ki1 = ki2 ∧ ab1 = ab2)) :
    Calls Tryd.prog 20 #[faultV co1 lo1 ra1 la1 fu1 sa1 ki1 ab1 (.slice a1 n1 c1), faultV co2 lo2 ra2 la2 fu2 sa2 ki2 ab2 (.slice a2 n2 c2)] w fun r w' => r = .returned (.bool false) ∧ Ext w w' := by
  have hs1 : Tryd.prog.stoodInHeld 75 = false := by kernel_rfl
  have hs2 : Tryd.prog.eqGuardType Tryd.prog.depth 75 = false := by kernel_rfl
  go_enter Tryd.func20, Tryd.ntmps20
  go_wp2_with fail
  all_goals first
    | (go_ret; exact ⟨rfl, Ext.alloc2 _ _ _⟩)
    | (exfalso; exact h ⟨by assumption, by assumption, by assumption, by assumption, toList_inj (by assumption), toList_inj (by assumption), toList_inj (by assumption), toList_inj (by assumption)⟩)
theorem same_any (co1 co2 : Int) (lo1 ra1 la1 lo2 ra2 la2 : Bool) (fu1 sa1 ki1 ab1 fu2 sa2 ki2 ab2 : ByteArray) (a1 a2 : Option Addr) (n1 n2 c1 c2 : Nat) (xs ys : List Int) (w : World) (hb : xs.length * 8 ≤ 140737488355328) (h1 : Ints w (.slice a1 n1 c1) xs) (h2 : Ints w (.slice a2 n2 c2) ys) :
    Calls Tryd.prog 20 #[faultV co1 lo1 ra1 la1 fu1 sa1 ki1 ab1 (.slice a1 n1 c1), faultV co2 lo2 ra2 la2 fu2 sa2 ki2 ab2 (.slice a2 n2 c2)] w fun r w' => r = .returned (.bool (decide ((co1 = co2 ∧ lo1 = lo2 ∧ ra1 = ra2 ∧ la1 = la2 ∧ fu1 = fu2 ∧ sa1 = sa2 ∧ ki1 = ki2 ∧ ab1 = ab2) ∧ xs = ys))) ∧ Ext w w' := by
  by_cases h : co1 = co2 ∧ lo1 = lo2 ∧ ra1 = ra2 ∧ la1 = la2 ∧ fu1 = fu2 ∧ sa1 = sa2 ∧ ki1 = ki2 ∧ ab1 = ab2
  · obtain ⟨rfl, rfl, rfl, rfl, rfl, rfl, rfl, rfl⟩ := h
    have hd : decide ((co1 = co1 ∧ lo1 = lo1 ∧ ra1 = ra1 ∧ la1 = la1 ∧ fu1 = fu1 ∧ sa1 = sa1 ∧ ki1 = ki1 ∧ ab1 = ab1) ∧ xs = ys) = decide (xs = ys) := by simp
    rw [hd]
    exact same_words co1 lo1 ra1 la1 fu1 sa1 ki1 ab1 a1 a2 n1 n2 c1 c2 xs ys w hb h1 h2
  · have hd : decide ((co1 = co2 ∧ lo1 = lo2 ∧ ra1 = ra2 ∧ la1 = la2 ∧ fu1 = fu2 ∧ sa1 = sa2 ∧ ki1 = ki2 ∧ ab1 = ab2) ∧ xs = ys) = false := by
      rw [decide_eq_false_iff_not]
      intro e
      exact h e.1
    rw [hd]
    exact same_other co1 co2 lo1 ra1 la1 lo2 ra2 la2 fu1 sa1 ki1 ab1 fu2 sa2 ki2 ab2 a1 a2 n1 n2 c1 c2 w h


end Go.Proofs.YtflcmdjekmmkkabDoor
