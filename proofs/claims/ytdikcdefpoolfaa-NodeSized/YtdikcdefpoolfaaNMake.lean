/-
  A node of the kit base that is a number is made (node.Make), with all that this calls; by contracts.
-/
import Derived.Test.YtdikcdefpoolfaaNTold
import Derived.Test.YtdikcdefpoolfaaNKind
import Derived.Deep.RegionHeld3
import Derived.WalkMore
namespace Go.Proofs.Ytdikcdefpoolfaa
open Go.RowKit
attribute [local go_sem] isLitLiteral isLitStrict isLitWrapped isLitOrigin isLitFramed isOrgLiteral isOrgStrict isOrgWrapped isOrgOrigin isOrgFramed isCodCoded isCodLocated isCodRaised isCodLacking isLacCoded isLacLocated isLacRaised isLacLacking isFraLiteral isFraStrict isFraWrapped isFraOrigin isFraFramed isVarLiteral isVarStrict isVarWrapped isVarOrigin isVarFramed mCodCode mLacCode mLacWhere mLacLacks mLitWorth mLitKind mLitNum mLitText mLitLen mLitKid mFraFrames mFraKind mFraNum mFraText mFraLen mFraKid mOrgFrom
/-- A handle's block. -/
abbrev HandAt (w : World) (b : Nat) (n c : Value) : Prop := w.heap[b]? = some (.cells #[n, c] 88)
theorem node_nil (w : World) : Calls Try.prog 7 #[.pointer none] w fun e w' => e = .returned .nilIface ∧ w' = w := by
  go_enter Try.func7, Try.ntmps7
  go_wp2
  go_ret
  exact ⟨rfl, rfl⟩
theorem node_at (b : Nat) (n c : Value) (w : World) (h : HandAt w b n c) : Calls Try.prog 7 #[.pointer (some ⟨b, 0, none⟩)] w fun e w' => e = .returned n ∧ w' = w := by
  have c0 : w.cell? ⟨b, 0, none⟩ = some n := cell_of h rfl
  clear h
  go_enter Try.func7, Try.ntmps7
  go_wp2
  go_ret
  exact ⟨rfl, rfl⟩
theorem nodesOf_none (w : World) : Calls Try.prog 18 #[.slice none 0 0] w fun e w' => e = .returned (.slice none 0 0) ∧ w' = w := by
  go_enter Try.func18, Try.ntmps18
  go_wp2
  refine wp_loop_rounds 1 ?_
  rw [rounds_succ]
  go_wp2
  go_ret
  exact ⟨rfl, rfl⟩
theorem cloneN_nil (w : World) : Calls Try.prog 33 #[.slice none 0 0] w fun e w' => e = .returned (.slice none 0 0) ∧ w' = w := by
  have hq : ∀ w : World, (binOp .eql 77 (.slice none 0 0) (.slice none 0 0)).run Try.prog w = .ok (.bool true) w := fun _ => by kernel_rfl
  go_enter Try.func33, Try.ntmps33
  go_wp2
  go_ret
  exact ⟨rfl, rfl⟩
theorem four_set0 {w : World} {b : Nat} {v0 v1 v2 v3 u0 u1 u2 u3 : Value} {t : TypeId} (h : w.heap[b]? = some (.cells #[v0, v1, v2, v3] t)) : ((((w.setCell ⟨b, 0, none⟩ u0).setCell ⟨b, 1, none⟩ u1).setCell ⟨b, 2, none⟩ u2).setCell ⟨b, 3, none⟩ u3).heap[b]? = some (.cells #[u0, u1, u2, u3] t) := (set_at (set_at (set_at (set_at h 0 u0) 1 u1) 2 u2) 3 u3).trans (by simp)
theorem four_of {w : World} {b : Nat} {v0 v1 v2 v3 : Value} {t : TypeId} (h : w.heap[b]? = some (.cells #[v0, v1, v2, v3] t)) : w.cell? ⟨b, 0, none⟩ = some v0 ∧ w.cell? ⟨b, 1, none⟩ = some v1 ∧ w.cell? ⟨b, 2, none⟩ = some v2 ∧ w.cell? ⟨b, 3, none⟩ = some v3 := ⟨cell_of h rfl, cell_of h rfl, cell_of h rfl, cell_of h rfl⟩
set_option maxRecDepth 100000 in
set_option maxHeartbeats 1000000 in
theorem new_none (k x : ByteArray) (n : Int) (kv : Value) (w : World) : Calls Try.prog 17 #[.agg #[.string k, .int .i64 n, .string x, kv], .slice none 0 0] w fun e w' => e = .returned (.agg #[.string k, .int .i64 n, .string x, .slice none 0 0]) ∧ Ext w w' := by
  obtain ⟨M, hM⟩ : ∃ M, (w.alloc (.cells #[.string k, .int .i64 n, .string x, kv] 30)).alloc (.cells #[.string ⟨#[]⟩, .int .i64 0, .string ⟨#[]⟩, .slice none 0 0] 79) = M := ⟨_, rfl⟩
  have XM := hid (show Ext w M from hM ▸ Ext.alloc2 _ _ _)
  have HM0 := hid (show M.heap[w.heap.size]? = some (.cells #[.string k, .int .i64 n, .string x, kv] 30) from hM ▸ blkOld _ (blk0 _ _))
  have HM1 := hid (show M.heap[w.heap.size + 1]? = some (.cells #[.string ⟨#[]⟩, .int .i64 0, .string ⟨#[]⟩, .slice none 0 0] 79) from hM ▸ blk1 _ _ _)
  obtain ⟨t0, t1, t2, t3⟩ := four_of HM0.out
  obtain ⟨r0, r1, r2, r3⟩ := four_of HM1.out
  obtain ⟨f0, f1, f2, f3⟩ : M.frozen? ⟨w.heap.size + 1, 0, none⟩ = false ∧ M.frozen? ⟨w.heap.size + 1, 1, none⟩ = false ∧ M.frozen? ⟨w.heap.size + 1, 2, none⟩ = false ∧ M.frozen? ⟨w.heap.size + 1, 3, none⟩ = false := ⟨frozen_of HM1.out, frozen_of HM1.out, frozen_of HM1.out, frozen_of HM1.out⟩
  go_enter Try.func17, Try.ntmps17
  go_wp2_with fail
  clear hM
  go_region_held3 (fun W' => W'.cell? ⟨w.heap.size, 0, none⟩ = some (.string k) ∧ W'.cell? ⟨w.heap.size, 1, none⟩ = some (.int .i64 n) ∧ W'.cell? ⟨w.heap.size, 2, none⟩ = some (.string x))
    (first | with_reducible exact ⟨t0, t1, t2⟩ | go_keep)
    (first | (go_at_call 33; refine (cloneN_nil _).mono ?_; rintro r w1 ⟨rfl, rfl⟩))
  all_goals
    go_wp2_with fail
    obtain ⟨z0, z1, z2, z3⟩ := four_of (four_set0 (u0 := .string k) (u1 := .int .i64 n) (u2 := .string x) (u3 := .slice none 0 0) HM1.out)
    refine bodyPost_ret (v := .agg #[.string k, .int .i64 n, .string x, .slice none 0 0]) (by simp [results, Try.results17, go_sem, z0, z1, z2, z3]) rfl ?_
    exact ⟨rfl, (Kp.extOf XM.out (((((Kp.set M (w.heap.size + 1) 0 _ (fun h => h rfl)).trans (Kp.set _ (w.heap.size + 1) 1 _ (fun h => h rfl))).trans (Kp.set _ (w.heap.size + 1) 2 _ (fun h => h rfl))).trans (Kp.set _ (w.heap.size + 1) 3 _ (fun h => h rfl)))) (by omega)).drew⟩
theorem coreOf_lit (v : Value) (w : World) : Calls Try.prog 32 #[.iface 165 v] w fun e w' => e = .returned (.iface 165 v) ∧ w' = w := by
  go_enter Try.func32, Try.ntmps32
  go_wp2
  refine wp_loop_rounds 1 ?_
  rw [rounds_succ]
  go_wp2
  go_ret
  exact ⟨rfl, rfl⟩
theorem hold_lit (v : Value) (w : World) : Calls Try.prog 16 #[.iface 165 v] w fun e w' => e = .returned (.pointer (some ⟨w.heap.size, 0, none⟩)) ∧ HandAt w' w.heap.size (.iface 165 v) (.iface 165 v) ∧ Ext w w' := by
  go_enter Try.func16, Try.ntmps16
  go_wp2_with fail
  go_at_call 32
  refine (coreOf_lit v _).mono ?_
  rintro r w1 ⟨rfl, rfl⟩
  go_wp2_with fail
  go_ret
  exact ⟨rfl, blk0 _ _, Ext.alloc _ _⟩
theorem num_of (b : Nat) (n : Int) (w : World) (h : w.cell? ⟨b, 1, none⟩ = some (.int .i64 n)) : Calls Try.prog 59 #[.pointer (some ⟨b, 0, none⟩)] w fun e w' => e = .returned (.int .i64 n) ∧ w' = w := by
  go_enter Try.func59, Try.ntmps59
  go_wp2
  go_ret
  exact ⟨rfl, rfl⟩
/-- A literal's block. -/
abbrev LitAt (w : World) (b : Nat) (k : ByteArray) (n : Int) (x : ByteArray) (v : Value) : Prop := w.heap[b]? = some (.cells #[.string k, .int .i64 n, .string x, .slice none 0 0, v] 171)
theorem lit_of (k x : ByteArray) (n : Int) (vt : TypeId) (vv : Value) (w : World) : Calls Try.prog 54 #[.agg #[.string k, .int .i64 n, .string x, .slice none 0 0], .iface vt vv] w fun e w' => ∃ b, e = .returned (.iface 165 (.pointer (some ⟨b, 0, none⟩))) ∧ w.heap.size ≤ b ∧ LitAt w' b k n x (.iface vt vv) ∧ Ext w w' := by
  go_enter Try.func54, Try.ntmps54
  go_wp2_with fail
  go_ret
  exact ⟨_, rfl, Nat.le_succ _, blk1 _ _ _, Ext.alloc2 _ _ _⟩
theorem five_of {w : World} {b : Nat} {v0 v1 v2 v3 v4 : Value} {t : TypeId} (h : w.heap[b]? = some (.cells #[v0, v1, v2, v3, v4] t)) : w.cell? ⟨b, 0, none⟩ = some v0 ∧ w.cell? ⟨b, 1, none⟩ = some v1 ∧ w.cell? ⟨b, 2, none⟩ = some v2 ∧ w.cell? ⟨b, 3, none⟩ = some v3 ∧ w.cell? ⟨b, 4, none⟩ = some v4 := ⟨cell_of h rfl, cell_of h rfl, cell_of h rfl, cell_of h rfl, cell_of h rfl⟩
set_option maxRecDepth 100000 in
set_option maxHeartbeats 2000000 in
theorem mkInt_any (k x : ByteArray) (n : Int) (g : Nat) (w : World) (hg : OfAt w g) : Calls Try.prog 58 #[.agg #[.string k, .int .i64 n, .string x, .slice none 0 0], .pointer (some ⟨g, 0, none⟩)] w fun e w' => ∃ b, e = .returned (.iface 165 (.pointer (some ⟨b, 0, none⟩))) ∧ w.heap.size ≤ b ∧ LitAt w' b k n x (.iface 64 (.int .i64 n)) ∧ Ext w w' := by
  obtain ⟨M, hM⟩ : ∃ M, w.alloc (.cells #[.string k, .int .i64 n, .string x, .slice none 0 0] 79) = M := ⟨_, rfl⟩
  have XM := hid (show Ext w M from hM ▸ Ext.alloc _ _)
  have HM0 := hid (show M.heap[w.heap.size]? = some (.cells #[.string k, .int .i64 n, .string x, .slice none 0 0] 79) from hM ▸ blk0 _ _)
  have HG := hid hg
  clear hg
  have HSK := hid (show ∀ W', Ext M W' → (Ext M W' ∧ W'.cell? ⟨g, 0, none⟩ = some (.func (.func 54) #[] #[]) ∧ W'.cell? ⟨w.heap.size, 0, none⟩ = some (.string k) ∧ W'.cell? ⟨w.heap.size, 1, none⟩ = some (.int .i64 n) ∧ W'.cell? ⟨w.heap.size, 2, none⟩ = some (.string x) ∧ W'.cell? ⟨w.heap.size, 3, none⟩ = some (.slice none 0 0)) from fun W' X => by
    obtain ⟨s0, s1, s2, s3⟩ := four_of (X.block HM0.out)
    exact ⟨X, cell_of ((XM.out.trans X).block HG.out) rfl, s0, s1, s2, s3⟩)
  go_enter Try.func58, Try.ntmps58
  go_wp2_with fail
  clear hM
  go_region_held3 (fun W' => Ext M W' ∧ W'.cell? ⟨g, 0, none⟩ = some (.func (.func 54) #[] #[]) ∧ W'.cell? ⟨w.heap.size, 0, none⟩ = some (.string k) ∧ W'.cell? ⟨w.heap.size, 1, none⟩ = some (.int .i64 n) ∧ W'.cell? ⟨w.heap.size, 2, none⟩ = some (.string x) ∧ W'.cell? ⟨w.heap.size, 3, none⟩ = some (.slice none 0 0))
    (first | with_reducible exact HSK.out _ (Ext.refl _) | with_reducible exact HSK.out _ (Ext.refl _).drew | with_reducible exact HSK.out _ Z1 | go_keep)
    (first
      | (go_at_call 59; refine (num_of _ n _ (HSK.out _ (by repeat (first | with_reducible exact Ext.refl _ | with_reducible refine Ext.drew ?_))).2.2.2.1).mono ?_; rintro r w1 ⟨rfl, rfl⟩)
      | (go_at_call 54; refine (lit_of k x n _ _ _).mono ?_; rintro r w1 ⟨b, rfl, hb, hl, hx⟩; have Z1 : Ext M w1 := Ext.trans (by repeat (first | with_reducible exact Ext.refl _ | with_reducible refine Ext.drew ?_)) hx))
  all_goals
    go_wp2_with fail
    go_ret
    exact ⟨_, rfl, Nat.le_trans XM.out.size hb, hl, XM.out.trans Z1⟩
set_option maxRecDepth 100000 in
theorem takes_void (nj hj : ByteArray) (mj xj : Int) (bj : Bool) (fv : Value) (w : World) (hf : ∃ fn c d, fv = .func fn c d) : Calls Try.prog 31 #[.agg #[.string nj, .int .i64 mj, .int .i64 xj, .bool bj, .int .i64 0, .string hj, fv], .string ⟨#[]⟩] w fun e w' => e = .returned (.bool true) ∧ Ext w w' := by
  obtain ⟨fn, c, d, rfl⟩ := hf
  go_enter Try.func31, Try.ntmps31
  go_wp2_with fail
  go_ret
  exact ⟨rfl, Ext.alloc _ _⟩
set_option maxRecDepth 100000 in
set_option maxHeartbeats 1000000 in
theorem fits_num (nj hj : ByteArray) (n : Int) (kv : Value) (k : ByteArray) (fv : Value) (w : World) (hf : ∃ fn c d, fv = .func fn c d) : Calls Try.prog 15 #[.agg #[.string nj, .int .i64 0, .int .i64 0, .bool true, .int .i64 0, .string hj, fv], .agg #[.string k, .int .i64 n, .string ⟨#[]⟩, kv], .int .i64 0] w fun e w' => e = .returned (.int .i64 0) ∧ Ext w w' := by
  have HT := hid (fun w1 => takes_void nj hj 0 0 true fv w1 hf)
  obtain ⟨fn, c, d, rfl⟩ := hf
  obtain ⟨M, hM⟩ : ∃ M, (w.alloc (.cells #[.string nj, .int .i64 0, .int .i64 0, .bool true, .int .i64 0, .string hj, .func fn c d] 71)).alloc (.cells #[.string k, .int .i64 n, .string ⟨#[]⟩, kv] 30) = M := ⟨_, rfl⟩
  have XM := hid (show Ext w M from hM ▸ Ext.alloc2 _ _ _)
  have HM0 := hid (show M.heap[w.heap.size]? = some (.cells #[.string nj, .int .i64 0, .int .i64 0, .bool true, .int .i64 0, .string hj, .func fn c d] 71) from hM ▸ blkOld _ (blk0 _ _))
  have HM1 := hid (show M.heap[w.heap.size + 1]? = some (.cells #[.string k, .int .i64 n, .string ⟨#[]⟩, kv] 30) from hM ▸ blk1 _ _ _)
  obtain ⟨t0, t1, t2, t3⟩ := four_of HM1.out
  obtain ⟨r0, r1, r2, r3, r4, r5, r6⟩ := seven_of HM0.out
  by_cases hn : n = 0
  · subst hn
    go_enter Try.func15, Try.ntmps15
    go_wp2_with fail
    go_at_call 31
    refine (HT.out M).mono ?_
    rintro r w1 ⟨rfl, hx⟩
    have X1 := hid (XM.out.trans hx)
    clear hx
    go_wp2_with fail
    go_ret
    exact ⟨rfl, X1.out⟩
  · have hq : (n != 0) = true := by rw [bne_iff_ne]; exact hn
    have hq2 : (n == 0) = false := by rw [beq_eq_false_iff_ne]; exact hn
    clear hn
    go_enter Try.func15, Try.ntmps15
    go_wp2_with fail
    go_at_call 31
    refine (HT.out M).mono ?_
    rintro r w1 ⟨rfl, hx⟩
    have X1 := hid (XM.out.trans hx)
    clear hx
    go_wp2_with fail
    go_ret
    exact ⟨rfl, X1.out⟩
end Go.Proofs.Ytdikcdefpoolfaa
