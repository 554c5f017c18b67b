/-
  Package node at handles that hold no node; by contracts.
-/
import Derived.Test.YtdikcdefpoolfaaNMakeI
namespace Go.Proofs.Ytdikcdefpoolfaa
open Go.RowKit
attribute [local go_sem] isLitLiteral isLitStrict isLitWrapped isLitOrigin isLitFramed isOrgLiteral isOrgStrict isOrgWrapped isOrgOrigin isOrgFramed isCodCoded isCodLocated isCodRaised isCodLacking isLacCoded isLacLocated isLacRaised isLacLacking isFraLiteral isFraStrict isFraWrapped isFraOrigin isFraFramed isVarLiteral isVarStrict isVarWrapped isVarOrigin isVarFramed mCodCode mLacCode mLacWhere mLacLacks mLitWorth mLitKind mLitNum mLitText mLitLen mLitKid mFraFrames mFraKind mFraNum mFraText mFraLen mFraKid mOrgFrom
/-- A handle that holds no node. -/
def VoidH (w : World) (hv : Value) : Prop := hv = .pointer none ∨ ∃ b, hv = .pointer (some ⟨b, 0, none⟩) ∧ HandAt w b .nilIface .nilIface
theorem VoidH.later {w w' : World} {hv : Value} (h : VoidH w hv) (hx : Ext w w') : VoidH w' hv := h.imp id fun ⟨b, h1, h2⟩ => ⟨b, h1, hx.block h2⟩
theorem node_void {hv : Value} (w : World) (h : VoidH w hv) : Calls Try.prog 7 #[hv] w fun e w' => e = .returned .nilIface ∧ w' = w := by
  rcases h with rfl | ⟨b, rfl, h⟩
  · exact node_nil w
  · exact node_at b _ _ w h
/-- The error of a number. -/
abbrev ErrV (b : Nat) : Value := .iface 116 (.pointer (some ⟨b, 0, none⟩))
/-- What is answered: nothing, and the error. -/
def NoR (w : World) (e : Ending) (w' : World) : Prop := ∃ b, e = .returned (.tuple #[.pointer none, ErrV b]) ∧ Fa.CodedAt w' b 1 ∧ Ext w w'
set_option maxRecDepth 100000 in
theorem wrap_void (fu : ByteArray) (a : Option Addr) (n c : Nat) {hv : Value} (w : World) (h : VoidH w hv) : Calls Try.prog 10 #[hv, .agg #[.string fu, .slice a n c]] w (NoR w) := by
  have HN := hid (fun w1 (hx : Ext w w1) => node_void w1 (h.later hx))
  clear h
  go_enter Try.func10, Try.ntmps10
  go_wp2_with fail
  go_at_call 7
  refine (HN.out _ (by first | exact Ext.refl _ | exact Ext.alloc _ _)).mono ?_
  rintro e w1 ⟨rfl, hw1⟩
  have X1 := hid (show Ext w w1 from hw1 ▸ (by first | exact Ext.refl _ | exact Ext.alloc _ _))
  clear hw1
  go_wp2_with fail
  go_at_call 14
  refine (Fa.new_any 1 w1 rfl).mono ?_
  rintro e w2 ⟨rfl, hc, hx⟩
  go_wp2_with fail
  go_ret2
  exact ⟨_, rfl, hc, X1.out.trans hx⟩
set_option maxRecDepth 100000 in
theorem must_void {hv : Value} (nm : ByteArray) (w : World) (h : VoidH w hv) : Calls Try.prog 11 #[hv, .string nm] w fun e w' => ∃ b, e = .returned (ErrV b) ∧ Fa.CodedAt w' b 1 ∧ Ext w w' := by
  have HN := hid (node_void w h)
  clear h
  go_enter Try.func11, Try.ntmps11
  go_wp2_with fail
  go_at_call 7
  refine HN.out.mono ?_
  rintro e w1 ⟨rfl, rfl⟩
  go_wp2_with fail
  go_at_call 14
  refine (Fa.new_any 1 w1 rfl).mono ?_
  rintro e w2 ⟨rfl, hc, hx⟩
  go_wp2_with fail
  go_ret
  exact ⟨_, rfl, hc, hx⟩
set_option maxRecDepth 100000 in
theorem abil_void {hv : Value} (w : World) (h : VoidH w hv) : Calls Try.prog 12 #[hv] w fun e w' => e = .returned (.slice none 0 0) ∧ Ext w w' := by
  have HN := hid (node_void w h)
  clear h
  go_enter Try.func12, Try.ntmps12
  go_wp2_with fail
  go_at_call 7
  refine HN.out.mono ?_
  rintro e w1 ⟨rfl, rfl⟩
  go_wp2_with fail
  go_ret
  exact ⟨rfl, Ext.refl _⟩
set_option maxRecDepth 100000 in
theorem plain_void {hv : Value} (w : World) (h : VoidH w hv) : Calls Try.prog 9 #[hv] w fun e w' => ∃ b, e = .returned (.tuple #[.agg #[.string ⟨#[]⟩, .int .i64 0, .string ⟨#[]⟩, .slice none 0 0], ErrV b]) ∧ Fa.CodedAt w' b 1 ∧ Ext w w' := by
  have HN := hid (fun w1 (hx : Ext w w1) => node_void w1 (h.later hx))
  clear h
  obtain ⟨M, hM⟩ : ∃ M, w.alloc (.cells #[.string ⟨#[]⟩, .int .i64 0, .string ⟨#[]⟩, .slice none 0 0] 30) = M := ⟨_, rfl⟩
  have XM := hid (show Ext w M from hM ▸ Ext.alloc _ _)
  have HM0 := hid (show M.heap[w.heap.size]? = some (.cells #[.string ⟨#[]⟩, .int .i64 0, .string ⟨#[]⟩, .slice none 0 0] 30) from hM ▸ blk0 _ _)
  go_enter Try.func9, Try.ntmps9
  go_wp2_with fail
  clear hM
  go_at_call 7
  refine (HN.out M XM.out).mono ?_
  rintro e w1 ⟨rfl, rfl⟩
  go_wp2_with fail
  go_at_call 14
  refine (Fa.new_any 1 w1 rfl).mono ?_
  rintro e w2 ⟨rfl, hc, hx⟩
  have HC := hid hc
  have HZ := hid (hx.block HM0.out)
  have X2 := hid (XM.out.trans hx)
  have HLT := hid (lt_of_block HM0.out)
  clear hc hx
  obtain ⟨r0, r1, r2, r3⟩ := four_of HZ.out
  obtain ⟨f0, f1, f2, f3⟩ : w2.frozen? ⟨w.heap.size, 0, none⟩ = false ∧ w2.frozen? ⟨w.heap.size, 1, none⟩ = false ∧ w2.frozen? ⟨w.heap.size, 2, none⟩ = false ∧ w2.frozen? ⟨w.heap.size, 3, none⟩ = false := ⟨frozen_of HZ.out, frozen_of HZ.out, frozen_of HZ.out, frozen_of HZ.out⟩
  go_wp2_with fail
  obtain ⟨z0, z1, z2, z3⟩ := four_of (four_set0 (u0 := .string ⟨#[]⟩) (u1 := .int .i64 0) (u2 := .string ⟨#[]⟩) (u3 := .slice none 0 0) HZ.out)
  refine bodyPost_ret (v := .tuple #[.agg #[.string ⟨#[]⟩, .int .i64 0, .string ⟨#[]⟩, .slice none 0 0], ErrV w1.heap.size]) (by simp [results, Try.results9, go_sem, z0, z1, z2, z3]) rfl ?_
  have hk := Kp.set4 w2 w.heap.size 0 (.string ⟨#[]⟩) (.int .i64 0) (.string ⟨#[]⟩) (.slice none 0 0)
  exact ⟨_, rfl, hk.block' HC.out (by have := HLT.out; show w1.heap.size ≠ w.heap.size; omega), Kp.extOf X2.out hk (Nat.le_refl _)⟩
set_option maxRecDepth 100000 in
set_option maxHeartbeats 2000000 in
theorem make_void {hv : Value} (gs : Nat) (w : World) (h : VoidH w hv) (hg : w.cell? ⟨gs, 0, none⟩ = some hv) : Calls Try.prog 5 #[.agg #[.string nFrame, .int .i64 0, .string ⟨#[]⟩, .slice none 0 0], .slice (some ⟨gs, 0, none⟩) 1 1] w (NoR w) := by
  have HN := hid (fun w1 (hx : Ext w w1) => node_void w1 (h.later hx))
  have HG := hid (show ∀ W', Ext w W' → W'.cell? ⟨gs, 0, none⟩ = some hv from fun W' X => (X.kp (fun _ => True)).cell hg trivial)
  clear h hg
  obtain ⟨M, hM⟩ : ∃ M, w.alloc (.cells #[.string nFrame, .int .i64 0, .string ⟨#[]⟩, .slice none 0 0] 30) = M := ⟨_, rfl⟩
  have XM := hid (show Ext w M from hM ▸ Ext.alloc _ _)
  have HM0 := hid (show M.heap[w.heap.size]? = some (.cells #[.string nFrame, .int .i64 0, .string ⟨#[]⟩, .slice none 0 0] 30) from hM ▸ blk0 _ _)
  obtain ⟨t0, t1, t2, t3⟩ := four_of HM0.out
  have HKF := hid find_frame
  generalize hnn : nFrame = nn at *
  clear hnn
  go_enter Try.func5, Try.ntmps5
  go_wp2_with fail
  clear hM
  go_at_call 13
  refine (kindOf_any nn M).mono ?_
  rintro e w1 ⟨hx1, hk⟩
  rw [HKF.out] at hk
  obtain ⟨g, hg, hO, rfl⟩ := hk
  unfold kdV mkK
  obtain ⟨V, hV⟩ : ∃ V, w1.alloc (.cells #[.string (nmK 6), .int .i64 (minK 6), .int .i64 (maxK 6), .bool (numK 6), .int .i64 (textK 6), .string (hasK 6), .func (.func (fnK 6)) #[] (if capK 6 = true then #[Value.pointer (some ⟨g, 0, none⟩)] else #[])] 71) = V := ⟨_, rfl⟩
  have XV := hid (show Ext w V from hV ▸ XM.out.trans (hx1.trans (Ext.alloc _ _)))
  generalize nmK 6 = a0 at *
  generalize minK 6 = a1 at *
  generalize maxK 6 = a2 at *
  generalize numK 6 = a3 at *
  generalize textK 6 = a4 at *
  generalize hasK 6 = a5 at *
  generalize fnK 6 = a6 at *
  generalize (if capK 6 = true then #[Value.pointer (some ⟨g, 0, none⟩)] else #[]) = a7 at *
  clear hx1 hO hg t0 t1 t2 t3
  have p0 := HG.out V XV.out
  go_wp2_with fail
  clear hV
  refine wp_loop_rounds 1 ?_
  rw [rounds_succ]
  go_wp2_with fail
  go_at_call 7
  refine (HN.out V XV.out).mono ?_
  rintro e w2 ⟨rfl, rfl⟩
  go_wp2_with fail
  go_at_call 14
  refine (Fa.new_any 1 w2 rfl).mono ?_
  rintro e w3 ⟨rfl, hc, hx⟩
  have X3 := hid (XV.out.trans hx)
  have HC := hid hc
  clear hx hc p0
  go_wp2_with fail
  go_ret2
  exact ⟨_, rfl, HC.out, X3.out⟩
end Go.Proofs.Ytdikcdefpoolfaa
