/-
  What the document says of an error, as package espalierref1 tells it: New, At, Raise, Lack; the same place, the same words.
-/
import Derived.Test.YtflcmdjekmmkkaaGreatDoorMade
import Derived.LoopTactic
import Derived.Deep.QuietTactic
import Derived.BigQuiet
namespace Go.Proofs.YtflcmdjekmmkkaaGreatDoor
open Go.RowKit
attribute [local go_sem] isNCoded isNLocated isNRaised isNLacking isNUnw isNAsI isNUnws isNNoted isGCoded isGLocated isGRaised isGLacking isGUnw isGAsI isGUnws isGNoted isCCoded isCLocated isCRaised isCLacking isCUnw isCAsI isCUnws isCNoted isLCoded isLLocated isLRaised isLLacking isLUnw isLAsI isLUnws isLNoted isRCoded isRLocated isRRaised isRLacking isRUnw isRAsI isRUnws isRNoted isKCoded isKLocated isKRaised isKLacking isKUnw isKAsI isKUnws isKNoted isHCoded isHLocated isHRaised isHLacking isHUnw isHAsI isHUnws isHNoted toCodedCoded toCodedLocated toCodedRaised toCodedLacking toCodedNoted toLocatedCoded toLocatedLocated toLocatedRaised toLocatedLacking toLocatedNoted toRaisedCoded toRaisedLocated toRaisedRaised toRaisedLacking toRaisedNoted toLackingCoded toLackingLocated toLackingRaised toLackingLacking toLackingNoted toNotedCoded toNotedLocated toNotedRaised toNotedLacking toNotedNoted mNUnwrap mNError mCCode mCError mLCode mLWhere mLError mRCode mRWhere mRSaid mRError mKCode mKWhere mKLacks mKError mGUnwrap mGError mHAs mHUnwrap
/-- What an error tells, as a value. -/
abbrev toldV (no : Bool) (co : Int) (lo : Bool) (fu : ByteArray) (pv : Value) (ra : Bool) (sa : ByteArray) (la : Bool) (ki ab : ByteArray) : Value :=
  .agg #[.bool no, .int .i64 co, .bool lo, .string fu, pv, .bool ra, .string sa, .bool la, .string ki, .string ab]

theorem refNew_ok (w : World) : Calls Tryz.prog 26 #[.int .i64 0] w fun r w' => r = .returned (toldV true 0 false ⟨#[]⟩ (.slice none 0 0) false ⟨#[]⟩ false ⟨#[]⟩ ⟨#[]⟩) ∧ Ext w w' := by
  go_enter Tryz.func26, Tryz.ntmps26
  go_wp2
  refine bodyPost_ret (v := toldV true 0 false ⟨#[]⟩ (.slice none 0 0) false ⟨#[]⟩ false ⟨#[]⟩ ⟨#[]⟩) (by simp [results, Tryz.results26, go_sem]) rfl ⟨rfl, ?_⟩
  repeat (refine Ext.set0 ?_ _ _)
  exact Ext.alloc _ _
theorem refNew_any (co : Int) (w : World) (h : (co == 0) = false) : Calls Tryz.prog 26 #[.int .i64 co] w fun r w' => r = .returned (toldV false co false ⟨#[]⟩ (.slice none 0 0) false ⟨#[]⟩ false ⟨#[]⟩ ⟨#[]⟩) ∧ Ext w w' := by
  go_enter Tryz.func26, Tryz.ntmps26
  go_wp2
  refine bodyPost_ret (v := toldV false co false ⟨#[]⟩ (.slice none 0 0) false ⟨#[]⟩ false ⟨#[]⟩ ⟨#[]⟩) (by simp [results, Tryz.results26, go_sem]) rfl ⟨rfl, ?_⟩
  repeat (refine Ext.set0 ?_ _ _)
  exact Ext.alloc _ _
theorem refAt_ok (fu : ByteArray) (a : Option Addr) (n c : Nat) (w : World) : Calls Tryz.prog 27 #[.int .i64 0, .agg #[.string fu, .slice a n c]] w fun r w' => r = .returned (toldV true 0 false ⟨#[]⟩ (.slice none 0 0) false ⟨#[]⟩ false ⟨#[]⟩ ⟨#[]⟩) ∧ Ext w w' := by
  go_enter Tryz.func27, Tryz.ntmps27
  go_wp2
  refine bodyPost_ret (v := toldV true 0 false ⟨#[]⟩ (.slice none 0 0) false ⟨#[]⟩ false ⟨#[]⟩ ⟨#[]⟩) (by simp [results, Tryz.results27, go_sem]) rfl ⟨rfl, ?_⟩
  repeat (refine Ext.set1 ?_ _ _)
  exact Ext.alloc2 _ _ _
theorem refAt_any (co : Int) (fu : ByteArray) (a : Option Addr) (n c : Nat) (w : World) (h : (co == 0) = false) : Calls Tryz.prog 27 #[.int .i64 co, .agg #[.string fu, .slice a n c]] w fun r w' => r = .returned (toldV false co true fu (.slice a n c) false ⟨#[]⟩ false ⟨#[]⟩ ⟨#[]⟩) ∧ Ext w w' := by
  go_enter Tryz.func27, Tryz.ntmps27
  go_wp2
  refine bodyPost_ret (v := toldV false co true fu (.slice a n c) false ⟨#[]⟩ false ⟨#[]⟩ ⟨#[]⟩) (by simp [results, Tryz.results27, go_sem]) rfl ⟨rfl, ?_⟩
  repeat (refine Ext.set1 ?_ _ _)
  exact Ext.alloc2 _ _ _
theorem refRaise_any (fu sa : ByteArray) (a : Option Addr) (n c : Nat) (w : World) : Calls Tryz.prog 28 #[.agg #[.string fu, .slice a n c], .string sa] w fun r w' => r = .returned (toldV false 25 true fu (.slice a n c) true sa false ⟨#[]⟩ ⟨#[]⟩) ∧ Ext w w' := by
  go_enter Tryz.func28, Tryz.ntmps28
  go_wp2
  refine bodyPost_ret (v := toldV false 25 true fu (.slice a n c) true sa false ⟨#[]⟩ ⟨#[]⟩) (by simp [results, Tryz.results28, go_sem]) rfl ⟨rfl, ?_⟩
  repeat (refine Ext.set1 ?_ _ _)
  exact Ext.alloc2 _ _ _
theorem refLack_any (fu ki ab : ByteArray) (a : Option Addr) (n c : Nat) (w : World) : Calls Tryz.prog 30 #[.agg #[.string fu, .slice a n c], .string ki, .string ab] w fun r w' => r = .returned (toldV false 13 true fu (.slice a n c) false ⟨#[]⟩ true ki ab) ∧ Ext w w' := by
  go_enter Tryz.func30, Tryz.ntmps30
  go_wp2
  refine bodyPost_ret (v := toldV false 13 true fu (.slice a n c) false ⟨#[]⟩ true ki ab) (by simp [results, Tryz.results30, go_sem]) rfl ⟨rfl, ?_⟩
  repeat (refine Ext.set1 ?_ _ _)
  exact Ext.alloc2 _ _ _
theorem eqPlace_fun (f1 f2 : ByteArray) (a1 a2 : Option Addr) (n1 n2 c1 c2 : Nat) (w : World) (h : ¬ f1.toList = f2.toList) :
    Calls Tryz.prog 17 #[.agg #[.string f1, .slice a1 n1 c1], .agg #[.string f2, .slice a2 n2 c2]] w fun r w' => r = .returned (.bool false) ∧ Ext w w' := by
  go_enter Tryz.func17, Tryz.ntmps17
  go_wp2
  go_ret
  exact ⟨rfl, Ext.alloc2 _ _ _⟩
theorem eqPlace_len (f1 : ByteArray) (a1 a2 : Option Addr) (n1 n2 c1 c2 : Nat) (w : World) (h : ((n1 : Int) != (n2 : Int)) = true) :
    Calls Tryz.prog 17 #[.agg #[.string f1, .slice a1 n1 c1], .agg #[.string f1, .slice a2 n2 c2]] w fun r w' => r = .returned (.bool false) ∧ Ext w w' := by
  go_enter Tryz.func17, Tryz.ntmps17
  go_wp2
  go_ret
  exact ⟨rfl, Ext.alloc2 _ _ _⟩
theorem eqPlace_none (f1 : ByteArray) (a1 a2 : Option Addr) (c1 c2 : Nat) (w : World) :
    Calls Tryz.prog 17 #[.agg #[.string f1, .slice a1 0 c1], .agg #[.string f1, .slice a2 0 c2]] w fun r w' => r = .returned (.bool true) ∧ Ext w w' := by
  go_enter Tryz.func17, Tryz.ntmps17
  go_wp2
  refine wp_loop_rounds 1 ?_
  rw [rounds_succ]
  go_wp2
  go_ret
  exact ⟨rfl, Ext.alloc2 _ _ _⟩


end Go.Proofs.YtflcmdjekmmkkaaGreatDoor
