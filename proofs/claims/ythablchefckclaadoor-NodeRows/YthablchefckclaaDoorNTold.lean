/-
  What an error that has a number alone tells (espalierlaw1.Told), what the document says of it, and that both are the same (espalierlaw6.Is); by contracts.
-/
import Derived.Test.YthablchefckclaaDoorNFacts
import Derived.LoopTactic
import Derived.Deep.QuietTactic
import Derived.BigQuiet
namespace Go.Proofs.YthablchefckclaaDoor.Fa
open Go.RowKit
attribute [local go_sem] isLitLiteral isLitStrict isLitWrapped isLitOrigin isLitFramed isOrgLiteral isOrgStrict isOrgWrapped isOrgOrigin isOrgFramed isCodCoded isCodLocated isCodRaised isCodLacking isLacCoded isLacLocated isLacRaised isLacLacking isFraLiteral isFraStrict isFraWrapped isFraOrigin isFraFramed isVarLiteral isVarStrict isVarWrapped isVarOrigin isVarFramed mCodCode mLacCode mLacWhere mLacLacks mLitWorth mLitKind mLitNum mLitText mLitLen mLitKid mFraFrames mFraKind mFraNum mFraText mFraLen mFraKid mOrgFrom
/-- What an error tells, as a value. -/
abbrev toldV (no : Bool) (co : Int) (lo : Bool) (fu : ByteArray) (pv : Value) (ra : Bool) (sa : ByteArray) (la : Bool) (ki ab : ByteArray) : Value :=
  .agg #[.bool no, .int .i64 co, .bool lo, .string fu, pv, .bool ra, .string sa, .bool la, .string ki, .string ab]
theorem code_of (b : Nat) (co : Int) (w : World) (h : w.cell? ⟨b, 0, none⟩ = some (.int .i64 co)) :
    Calls Tryd.prog 107 #[.pointer (some ⟨b, 0, none⟩)] w fun r w' => r = .returned (.int .i64 co) ∧ w' = w := by
  go_enter Tryd.func107, Tryd.ntmps107
  go_wp2
  go_ret
  exact ⟨rfl, rfl⟩

theorem refNew_any (co : Int) (w : World) (h : (co == 0) = false) : Calls Tryd.prog 42 #[.int .i64 co] w fun r w' => r = .returned (toldV false co false ⟨#[]⟩ (.slice none 0 0) false ⟨#[]⟩ false ⟨#[]⟩ ⟨#[]⟩) ∧ Ext w w' := by
  go_enter Tryd.func42, Tryd.ntmps42
  go_wp2
  refine bodyPost_ret (v := toldV false co false ⟨#[]⟩ (.slice none 0 0) false ⟨#[]⟩ false ⟨#[]⟩ ⟨#[]⟩) (by simp [results, Tryd.results42, go_sem]) rfl ⟨rfl, ?_⟩
  repeat (refine Ext.set0 ?_ _ _)
  exact Ext.alloc _ _
theorem eqPlace_none (f1 : ByteArray) (a1 a2 : Option Addr) (c1 c2 : Nat) (w : World) :
    Calls Tryd.prog 54 #[.agg #[.string f1, .slice a1 0 c1], .agg #[.string f1, .slice a2 0 c2]] w fun r w' => r = .returned (.bool true) ∧ Ext w w' := by
  go_enter Tryd.func54, Tryd.ntmps54
  go_wp2
  refine wp_loop_rounds 1 ?_
  rw [rounds_succ]
  go_wp2
  go_ret
  exact ⟨rfl, Ext.alloc2 _ _ _⟩
set_option maxRecDepth 100000 in
set_option maxHeartbeats 4000000 in
theorem refSame_none (co : Int) (w : World) : Calls Tryd.prog 40 #[toldV false co false ⟨#[]⟩ (.slice none 0 0) false ⟨#[]⟩ false ⟨#[]⟩ ⟨#[]⟩, toldV false co false ⟨#[]⟩ (.slice none 0 0) false ⟨#[]⟩ false ⟨#[]⟩ ⟨#[]⟩] w fun r w' => r = .returned (.bool true) ∧ Ext w w' := by
  go_enter Tryd.func40, Tryd.ntmps40
  go_wp2_with fail
  refine (eqPlace_none ⟨#[]⟩ none none 0 0 _).mono ?_
  rintro r w1 ⟨rfl, hx⟩
  have b0 := hx.block (blkOld _ (blk0 w _))
  have b1 := hx.block (blk1 w _ _)
  have q5 := cell_of (i := 5) b0 rfl
  have p5 := cell_of (i := 5) b1 rfl
  have q6 := cell_of (i := 6) b0 rfl
  have p6 := cell_of (i := 6) b1 rfl
  have q7 := cell_of (i := 7) b0 rfl
  have p7 := cell_of (i := 7) b1 rfl
  have q8 := cell_of (i := 8) b0 rfl
  have p8 := cell_of (i := 8) b1 rfl
  have q9 := cell_of (i := 9) b0 rfl
  have p9 := cell_of (i := 9) b1 rfl
  simp only [List.getElem_toArray, List.getElem_cons_zero, List.getElem_cons_succ] at q5 p5 q6 p6 q7 p7 q8 p8 q9 p9
  have HX : Hid (Ext w w1) := (Ext.alloc2 _ _ _).trans hx
  clear b0 b1 hx
  go_wp2
  go_ret
  exact ⟨by simp, HX.out⟩
set_option maxRecDepth 100000 in
set_option maxHeartbeats 2000000 in
theorem told_C (b : Nat) (co : Int) (w : World) (h : CodedAt w b co) :
    Calls Tryd.prog 41 #[.iface 131 (.pointer (some ⟨b, 0, none⟩))] w fun r w' => r = .returned (toldV false co false ⟨#[]⟩ (.slice none 0 0) false ⟨#[]⟩ false ⟨#[]⟩ ⟨#[]⟩) ∧ Ext w w' := by
  have c0 : w.cell? ⟨b, 0, none⟩ = some (.int .i64 co) := cell_of h rfl
  have hlt := lt_of_block h
  clear h
  go_enter Tryd.func41, Tryd.ntmps41
  go_wp2_with fail
  refine (code_of b co _ ?hc).mono ?_
  case hc => exact (Below.cell (Ext.alloc2 _ _ _) hlt).trans c0
  rintro r w1 ⟨rfl, hw⟩
  obtain rfl := hw.symm
  go_wp2
  refine bodyPost_ret (v := toldV false co false ⟨#[]⟩ (.slice none 0 0) false ⟨#[]⟩ false ⟨#[]⟩ ⟨#[]⟩) (by simp [results, Tryd.results41, go_sem]) rfl ⟨rfl, ?_⟩
  repeat (first | refine Ext.set0 ?_ _ _ | refine Ext.set1 ?_ _ _)
  exact Ext.alloc2 _ _ _
set_option maxRecDepth 100000 in
theorem is_coded (b : Nat) (co : Int) (w : World) (h : CodedAt w b co) (hc : (co == 0) = false) : Calls Tryd.prog 15 #[.iface 131 (.pointer (some ⟨b, 0, none⟩)), .int .i64 co] w fun r w' => r = .returned (.bool true) ∧ Ext w w' := by
  have HC : Hid (CodedAt w b co) := h
  clear h
  go_enter Tryd.func15, Tryd.ntmps15
  go_wp2_with fail
  go_at_call 41
  refine (told_C b co w HC.out).mono ?_
  rintro r w1 ⟨rfl, hx1⟩
  go_wp2_with fail
  go_at_call 42
  refine (refNew_any co w1 hc).mono ?_
  rintro r w2 ⟨rfl, hx2⟩
  go_wp2_with fail
  go_at_call 40
  refine (refSame_none co w2).mono ?_
  rintro r w3 ⟨rfl, hx3⟩
  go_wp2_with fail
  go_ret
  exact ⟨rfl, hx1.trans (hx2.trans hx3)⟩


end Go.Proofs.YthablchefckclaaDoor.Fa
