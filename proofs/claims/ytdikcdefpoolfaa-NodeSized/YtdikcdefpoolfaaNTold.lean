/-
  What an error that has a number alone tells (espalierlaw1.Told), what the document says of it, and that both are the same (espalierlaw6.Is); by contracts.
-/
import Derived.Test.YtdikcdefpoolfaaNFacts
import Derived.LoopTactic
import Derived.Deep.QuietTactic
import Derived.BigQuiet
namespace Go.Proofs.Ytdikcdefpoolfaa.Fa
open Go.RowKit
attribute [local go_sem] isLitLiteral isLitStrict isLitWrapped isLitOrigin isLitFramed isOrgLiteral isOrgStrict isOrgWrapped isOrgOrigin isOrgFramed isCodCoded isCodLocated isCodRaised isCodLacking isLacCoded isLacLocated isLacRaised isLacLacking isFraLiteral isFraStrict isFraWrapped isFraOrigin isFraFramed isVarLiteral isVarStrict isVarWrapped isVarOrigin isVarFramed mCodCode mLacCode mLacWhere mLacLacks mLitWorth mLitKind mLitNum mLitText mLitLen mLitKid mFraFrames mFraKind mFraNum mFraText mFraLen mFraKid mOrgFrom
/-- What an error tells, as a value. -/
abbrev toldV (no : Bool) (co : Int) (lo : Bool) (fu : ByteArray) (pv : Value) (ra : Bool) (sa : ByteArray) (la : Bool) (ki ab : ByteArray) : Value :=
  .agg #[.bool no, .int .i64 co, .bool lo, .string fu, pv, .bool ra, .string sa, .bool la, .string ki, .string ab]
theorem code_of (b : Nat) (co : Int) (w : World) (h : w.cell? ⟨b, 0, none⟩ = some (.int .i64 co)) :
    Calls Try.prog 91 #[.pointer (some ⟨b, 0, none⟩)] w fun r w' => r = .returned (.int .i64 co) ∧ w' = w := by
  go_enter Try.func91, Try.ntmps91
  go_wp2
  go_ret
  exact ⟨rfl, rfl⟩

theorem refNew_any (co : Int) (w : World) (h : (co == 0) = false) : Calls Try.prog 21 #[.int .i64 co] w fun r w' => r = .returned (toldV false co false ⟨#[]⟩ (.slice none 0 0) false ⟨#[]⟩ false ⟨#[]⟩ ⟨#[]⟩) ∧ Ext w w' := by
  go_enter Try.func21, Try.ntmps21
  go_wp2
  refine bodyPost_ret (v := toldV false co false ⟨#[]⟩ (.slice none 0 0) false ⟨#[]⟩ false ⟨#[]⟩ ⟨#[]⟩) (by simp [results, Try.results21, go_sem]) rfl ⟨rfl, ?_⟩
  repeat (refine Ext.set0 ?_ _ _)
  exact Ext.alloc _ _
theorem eqPlace_none (f1 : ByteArray) (a1 a2 : Option Addr) (c1 c2 : Nat) (w : World) :
    Calls Try.prog 34 #[.agg #[.string f1, .slice a1 0 c1], .agg #[.string f1, .slice a2 0 c2]] w fun r w' => r = .returned (.bool true) ∧ Ext w w' := by
  go_enter Try.func34, Try.ntmps34
  go_wp2
  refine wp_loop_rounds 1 ?_
  rw [rounds_succ]
  go_wp2
  go_ret
  exact ⟨rfl, Ext.alloc2 _ _ _⟩
set_option maxRecDepth 100000 in
set_option maxHeartbeats 4000000 in
theorem refSame_none (co : Int) (w : World) : Calls Try.prog 19 #[toldV false co false ⟨#[]⟩ (.slice none 0 0) false ⟨#[]⟩ false ⟨#[]⟩ ⟨#[]⟩, toldV false co false ⟨#[]⟩ (.slice none 0 0) false ⟨#[]⟩ false ⟨#[]⟩ ⟨#[]⟩] w fun r w' => r = .returned (.bool true) ∧ Ext w w' := by
  go_enter Try.func19, Try.ntmps19
  go_wp2_with fail
  refine (eqPlace_none ⟨#[]⟩ none none 0 0 _).mono ?_
  rintro r w1 ⟨rfl, hx⟩
  have b0 := hx.block (blkOld _ (blk0 w _))
  have b1 := hx.block (blk1 w _ _)
  have q5 := cell_of (i := 5) b0 rfl
  have p5 := cell_of (i := 5) b1 rfl
  have q6 := cell_of (i := 6) b0 rfl
  have p6 := cell_of (i := 6) b1 rfl
  have q7 := cell_of (i := 7) b0 rfl
  have p7 := cell_of (i := 7) b1 rfl
  have q8 := cell_of (i := 8) b0 rfl
  have p8 := cell_of (i := 8) b1 rfl
  have q9 := cell_of (i := 9) b0 rfl
  have p9 := cell_of (i := 9) b1 rfl
  simp only [List.getElem_toArray, List.getElem_cons_zero, List.getElem_cons_succ] at q5 p5 q6 p6 q7 p7 q8 p8 q9 p9
  have HX : Hid (Ext w w1) := (Ext.alloc2 _ _ _).trans hx
  clear b0 b1 hx
  go_wp2
  go_ret
  exact ⟨by simp, HX.out⟩
set_option maxRecDepth 100000 in
set_option maxHeartbeats 2000000 in
theorem told_C (b : Nat) (co : Int) (w : World) (h : CodedAt w b co) :
    Calls Try.prog 20 #[.iface 116 (.pointer (some ⟨b, 0, none⟩))] w fun r w' => r = .returned (toldV false co false ⟨#[]⟩ (.slice none 0 0) false ⟨#[]⟩ false ⟨#[]⟩ ⟨#[]⟩) ∧ Ext w w' := by
  have c0 : w.cell? ⟨b, 0, none⟩ = some (.int .i64 co) := cell_of h rfl
  have hlt := lt_of_block h
  clear h
  go_enter Try.func20, Try.ntmps20
  go_wp2_with fail
  refine (code_of b co _ ?hc).mono ?_
  case hc => exact (Below.cell (Ext.alloc2 _ _ _) hlt).trans c0
  rintro r w1 ⟨rfl, hw⟩
  obtain rfl := hw.symm
  go_wp2
  refine bodyPost_ret (v := toldV false co false ⟨#[]⟩ (.slice none 0 0) false ⟨#[]⟩ false ⟨#[]⟩ ⟨#[]⟩) (by simp [results, Try.results20, go_sem]) rfl ⟨rfl, ?_⟩
  repeat (first | refine Ext.set0 ?_ _ _ | refine Ext.set1 ?_ _ _)
  exact Ext.alloc2 _ _ _
set_option maxRecDepth 100000 in
theorem is_coded (b : Nat) (co : Int) (w : World) (h : CodedAt w b co) (hc : (co == 0) = false) : Calls Try.prog 6 #[.iface 116 (.pointer (some ⟨b, 0, none⟩)), .int .i64 co] w fun r w' => r = .returned (.bool true) ∧ Ext w w' := by
  have HC : Hid (CodedAt w b co) := h
  clear h
  go_enter Try.func6, Try.ntmps6
  go_wp2_with fail
  go_at_call 20
  refine (told_C b co w HC.out).mono ?_
  rintro r w1 ⟨rfl, hx1⟩
  go_wp2_with fail
  go_at_call 21
  refine (refNew_any co w1 hc).mono ?_
  rintro r w2 ⟨rfl, hx2⟩
  go_wp2_with fail
  go_at_call 19
  refine (refSame_none co w2).mono ?_
  rintro r w3 ⟨rfl, hx3⟩
  go_wp2_with fail
  go_ret
  exact ⟨rfl, hx1.trans (hx2.trans hx3)⟩


end Go.Proofs.Ytdikcdefpoolfaa.Fa
