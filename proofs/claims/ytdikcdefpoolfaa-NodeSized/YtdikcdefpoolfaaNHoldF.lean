/-
  Hold of a frame; fits of a frame with so many kids; by contracts.
-/
import Derived.Test.YtdikcdefpoolfaaNFrame
namespace Go.Proofs.Ytdikcdefpoolfaa
open Go.RowKit
attribute [local go_sem] isLitLiteral isLitStrict isLitWrapped isLitOrigin isLitFramed isOrgLiteral isOrgStrict isOrgWrapped isOrgOrigin isOrgFramed isCodCoded isCodLocated isCodRaised isCodLacking isLacCoded isLacLocated isLacRaised isLacLacking isFraLiteral isFraStrict isFraWrapped isFraOrigin isFraFramed isVarLiteral isVarStrict isVarWrapped isVarOrigin isVarFramed mCodCode mLacCode mLacWhere mLacLacks mLitWorth mLitKind mLitNum mLitText mLitLen mLitKid mFraFrames mFraKind mFraNum mFraText mFraLen mFraKid mOrgFrom
theorem coreOf_fra (v : Value) (w : World) : Calls Try.prog 32 #[.iface 179 v] w fun e w' => e = .returned (.iface 179 v) ∧ w' = w := by
  go_enter Try.func32, Try.ntmps32
  go_wp2
  refine wp_loop_rounds 1 ?_
  rw [rounds_succ]
  go_wp2
  go_ret
  exact ⟨rfl, rfl⟩
theorem hold_fra (v : Value) (w : World) : Calls Try.prog 16 #[.iface 179 v] w fun e w' => e = .returned (.pointer (some ⟨w.heap.size, 0, none⟩)) ∧ HandAt w' w.heap.size (.iface 179 v) (.iface 179 v) ∧ Ext w w' := by
  go_enter Try.func16, Try.ntmps16
  go_wp2_with fail
  go_at_call 32
  refine (coreOf_fra v _).mono ?_
  rintro r w1 ⟨rfl, rfl⟩
  go_wp2_with fail
  go_ret
  exact ⟨rfl, blk0 _ _, Ext.alloc _ _⟩
set_option maxRecDepth 100000 in
set_option maxHeartbeats 2000000 in
theorem fits_frame (nj hj : ByteArray) (kv : Value) (k : ByteArray) (fv : Value) (m : Nat) (w : World) (hf : ∃ fn c d, fv = .func fn c d) (hm : m ≤ 100000) : Calls Try.prog 15 #[.agg #[.string nj, .int .i64 1, .int .i64 65, .bool false, .int .i64 0, .string hj, fv], .agg #[.string k, .int .i64 0, .string ⟨#[]⟩, kv], .int .i64 m] w fun e w' => e = .returned (.int .i64 (if 1 ≤ m ∧ m ≤ 65 then 0 else 11)) ∧ Ext w w' := by
  have HT := hid (fun w1 => takes_void nj hj 1 65 false fv w1 hf)
  obtain ⟨fn, c, d, rfl⟩ := hf
  obtain ⟨M, hM⟩ : ∃ M, (w.alloc (.cells #[.string nj, .int .i64 1, .int .i64 65, .bool false, .int .i64 0, .string hj, .func fn c d] 71)).alloc (.cells #[.string k, .int .i64 0, .string ⟨#[]⟩, kv] 30) = M := ⟨_, rfl⟩
  have XM := hid (show Ext w M from hM ▸ Ext.alloc2 _ _ _)
  have HM0 := hid (show M.heap[w.heap.size]? = some (.cells #[.string nj, .int .i64 1, .int .i64 65, .bool false, .int .i64 0, .string hj, .func fn c d] 71) from hM ▸ blkOld _ (blk0 _ _))
  have HM1 := hid (show M.heap[w.heap.size + 1]? = some (.cells #[.string k, .int .i64 0, .string ⟨#[]⟩, kv] 30) from hM ▸ blk1 _ _ _)
  obtain ⟨t0, t1, t2, t3⟩ := four_of HM1.out
  obtain ⟨r0, r1, r2, r3, r4, r5, r6⟩ := seven_of HM0.out
  by_cases h1 : 1 ≤ m
  · by_cases h2 : m ≤ 65
    · rw [if_pos ⟨h1, h2⟩]
      have q1 : ¬ ((m : Int) < 1) := by omega
      have q2 : ¬ ((65 : Int) < m) := by omega
      clear h1 h2
      go_enter Try.func15, Try.ntmps15
      go_wp2_with fail
      go_at_call 31
      refine (HT.out M).mono ?_
      rintro r w1 ⟨rfl, hx⟩
      have X1 := hid (XM.out.trans hx)
      clear hx
      go_wp2_with fail
      go_ret
      exact ⟨rfl, X1.out⟩
    · rw [if_neg (fun h => h2 h.2)]
      have q1 : ¬ ((m : Int) < 1) := by omega
      have q2 : (65 : Int) < m := by omega
      clear h1 h2
      go_enter Try.func15, Try.ntmps15
      go_wp2_with fail
      go_ret
      exact ⟨rfl, XM.out⟩
  · rw [if_neg (fun h => h1 h.1)]
    have q1 : (m : Int) < 1 := by omega
    clear h1
    go_enter Try.func15, Try.ntmps15
    go_wp2_with fail
    go_ret
    exact ⟨rfl, XM.out⟩
end Go.Proofs.Ytdikcdefpoolfaa
