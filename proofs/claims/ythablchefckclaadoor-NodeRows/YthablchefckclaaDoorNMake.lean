/-
  A node of the kit base that is a number is made (node.Make), with all that this calls; by contracts.
-/
import Derived.Test.YthablchefckclaaDoorNTold
import Derived.Test.YthablchefckclaaDoorNKind
import Derived.Deep.RegionHeld3
import Derived.WalkMore
namespace Go.Proofs.YthablchefckclaaDoor
open Go.RowKit
attribute [local go_sem] isLitLiteral isLitStrict isLitWrapped isLitOrigin isLitFramed isOrgLiteral isOrgStrict isOrgWrapped isOrgOrigin isOrgFramed isCodCoded isCodLocated isCodRaised isCodLacking isLacCoded isLacLocated isLacRaised isLacLacking isFraLiteral isFraStrict isFraWrapped isFraOrigin isFraFramed isVarLiteral isVarStrict isVarWrapped isVarOrigin isVarFramed mCodCode mLacCode mLacWhere mLacLacks mLitWorth mLitKind mLitNum mLitText mLitLen mLitKid mFraFrames mFraKind mFraNum mFraText mFraLen mFraKid mOrgFrom
/-- A handle's block. -/
abbrev HandAt (w : World) (b : Nat) (n c : Value) : Prop := w.heap[b]? = some (.cells #[n, c] 104)
theorem node_nil (w : World) : Calls Tryd.prog 12 #[.pointer none] w fun e w' => e = .returned .nilIface ∧ w' = w := by
  go_enter Tryd.func12, Tryd.ntmps12
  go_wp2
  go_ret
  exact ⟨rfl, rfl⟩
theorem node_at (b : Nat) (n c : Value) (w : World) (h : HandAt w b n c) : Calls Tryd.prog 12 #[.pointer (some ⟨b, 0, none⟩)] w fun e w' => e = .returned n ∧ w' = w := by
  have c0 : w.cell? ⟨b, 0, none⟩ = some n := cell_of h rfl
  clear h
  go_enter Tryd.func12, Tryd.ntmps12
  go_wp2
  go_ret
  exact ⟨rfl, rfl⟩
theorem nodesOf_none (w : World) : Calls Tryd.prog 33 #[.slice none 0 0] w fun e w' => e = .returned (.slice none 0 0) ∧ w' = w := by
  go_enter Tryd.func33, Tryd.ntmps33
  go_wp2
  refine wp_loop_rounds 1 ?_
  rw [rounds_succ]
  go_wp2
  go_ret
  exact ⟨rfl, rfl⟩
theorem cloneN_nil (w : World) : Calls Tryd.prog 48 #[.slice none 0 0] w fun e w' => e = .returned (.slice none 0 0) ∧ w' = w := by
  have hq : ∀ w : World, (binOp .eql 72 (.slice none 0 0) (.slice none 0 0)).run Tryd.prog w = .ok (.bool true) w := fun _ => by kernel_rfl
  go_enter Tryd.func48, Tryd.ntmps48
  go_wp2
  go_ret
  exact ⟨rfl, rfl⟩
theorem four_set0 {w : World} {b : Nat} {v0 v1 v2 v3 u0 u1 u2 u3 : Value} {t : TypeId} (h : w.heap[b]? = some (.cells #[v0, v1, v2, v3] t)) : ((((w.setCell ⟨b, 0, none⟩ u0).setCell ⟨b, 1, none⟩ u1).setCell ⟨b, 2, none⟩ u2).setCell ⟨b, 3, none⟩ u3).heap[b]? = some (.cells #[u0, u1, u2, u3] t) := (set_at (set_at (set_at (set_at h 0 u0) 1 u1) 2 u2) 3 u3).trans (by simp)
theorem four_of {w : World} {b : Nat} {v0 v1 v2 v3 : Value} {t : TypeId} (h : w.heap[b]? = some (.cells #[v0, v1, v2, v3] t)) : w.cell? ⟨b, 0, none⟩ = some v0 ∧ w.cell? ⟨b, 1, none⟩ = some v1 ∧ w.cell? ⟨b, 2, none⟩ = some v2 ∧ w.cell? ⟨b, 3, none⟩ = some v3 := ⟨cell_of h rfl, cell_of h rfl, cell_of h rfl, cell_of h rfl⟩
set_option maxRecDepth 100000 in
set_option maxHeartbeats 1000000 in
theorem new_none (k x : ByteArray) (n : Int) (kv : Value) (w : World) : Calls Tryd.prog 32 #[.agg #[.string k, .int .i64 n, .string x, kv], .slice none 0 0] w fun e w' => e = .returned (.agg #[.string k, .int .i64 n, .string x, .slice none 0 0]) ∧ Ext w w' := by
  obtain ⟨M, hM⟩ : ∃ M, (w.alloc (.cells #[.string k, .int .i64 n, .string x, kv] 43)).alloc (.cells #[.string ⟨#[]⟩, .int .i64 0, .string ⟨#[]⟩, .slice none 0 0] 74) = M := ⟨_, rfl⟩
  have XM := hid (show Ext w M from hM ▸ Ext.alloc2 _ _ _)
  have HM0 := hid (show M.heap[w.heap.size]? = some (.cells #[.string k, .int .i64 n, .string x, kv] 43) from hM ▸ blkOld _ (blk0 _ _))
  have HM1 := hid (show M.heap[w.heap.size + 1]? = some (.cells #[.string ⟨#[]⟩, .int .i64 0, .string ⟨#[]⟩, .slice none 0 0] 74) from hM ▸ blk1 _ _ _)
  obtain ⟨t0, t1, t2, t3⟩ := four_of HM0.out
  obtain ⟨r0, r1, r2, r3⟩ := four_of HM1.out
  obtain ⟨f0, f1, f2, f3⟩ : M.frozen? ⟨w.heap.size + 1, 0, none⟩ = false ∧ M.frozen? ⟨w.heap.size + 1, 1, none⟩ = false ∧ M.frozen? ⟨w.heap.size + 1, 2, none⟩ = false ∧ M.frozen? ⟨w.heap.size + 1, 3, none⟩ = false := ⟨frozen_of HM1.out, frozen_of HM1.out, frozen_of HM1.out, frozen_of HM1.out⟩
  go_enter Tryd.func32, Tryd.ntmps32
  go_wp2_with fail
  clear hM
  go_region_held3 (fun W' => W'.cell? ⟨w.heap.size, 0, none⟩ = some (.string k) ∧ W'.cell? ⟨w.heap.size, 1, none⟩ = some (.int .i64 n) ∧ W'.cell? ⟨w.heap.size, 2, none⟩ = some (.string x))
    (first | with_reducible exact ⟨t0, t1, t2⟩ | go_keep)
    (first | (go_at_call 48; refine (cloneN_nil _).mono ?_; rintro r w1 ⟨rfl, rfl⟩))
  all_goals
    go_wp2_with fail
    obtain ⟨z0, z1, z2, z3⟩ := four_of (four_set0 (u0 := .string k) (u1 := .int .i64 n) (u2 := .string x) (u3 := .slice none 0 0) HM1.out)
    refine bodyPost_ret (v := .agg #[.string k, .int .i64 n, .string x, .slice none 0 0]) (by simp [results, Tryd.results32, go_sem, z0, z1, z2, z3]) rfl ?_
    exact ⟨rfl, (Kp.extOf XM.out (((((Kp.set M (w.heap.size + 1) 0 _ (fun h => h rfl)).trans (Kp.set _ (w.heap.size + 1) 1 _ (fun h => h rfl))).trans (Kp.set _ (w.heap.size + 1) 2 _ (fun h => h rfl))).trans (Kp.set _ (w.heap.size + 1) 3 _ (fun h => h rfl)))) (by omega)).drew⟩
theorem coreOf_lit (v : Value) (w : World) : Calls Tryd.prog 47 #[.iface 75 v] w fun e w' => e = .returned (.iface 75 v) ∧ w' = w := by
  go_enter Tryd.func47, Tryd.ntmps47
  go_wp2
  refine wp_loop_rounds 1 ?_
  rw [rounds_succ]
  go_wp2
  go_ret
  exact ⟨rfl, rfl⟩
theorem hold_lit (v : Value) (w : World) : Calls Tryd.prog 31 #[.iface 75 v] w fun e w' => e = .returned (.pointer (some ⟨w.heap.size, 0, none⟩)) ∧ HandAt w' w.heap.size (.iface 75 v) (.iface 75 v) ∧ Ext w w' := by
  go_enter Tryd.func31, Tryd.ntmps31
  go_wp2_with fail
  go_at_call 47
  refine (coreOf_lit v _).mono ?_
  rintro r w1 ⟨rfl, rfl⟩
  go_wp2_with fail
  go_ret
  exact ⟨rfl, blk0 _ _, Ext.alloc _ _⟩
theorem num_of (b : Nat) (n : Int) (w : World) (h : w.cell? ⟨b, 1, none⟩ = some (.int .i64 n)) : Calls Tryd.prog 22 #[.pointer (some ⟨b, 0, none⟩)] w fun e w' => e = .returned (.int .i64 n) ∧ w' = w := by
  go_enter Tryd.func22, Tryd.ntmps22
  go_wp2
  go_ret
  exact ⟨rfl, rfl⟩
/-- A literal's block. -/
abbrev LitAt (w : World) (b : Nat) (k : ByteArray) (n : Int) (x : ByteArray) (v : Value) : Prop := w.heap[b]? = some (.cells #[.string k, .int .i64 n, .string x, .slice none 0 0, v] 81)
theorem lit_of (k x : ByteArray) (n : Int) (vt : TypeId) (vv : Value) (w : World) : Calls Tryd.prog 17 #[.agg #[.string k, .int .i64 n, .string x, .slice none 0 0], .iface vt vv] w fun e w' => ∃ b, e = .returned (.iface 75 (.pointer (some ⟨b, 0, none⟩))) ∧ w.heap.size ≤ b ∧ LitAt w' b k n x (.iface vt vv) ∧ Ext w w' := by
  go_enter Tryd.func17, Tryd.ntmps17
  go_wp2_with fail
  go_ret
  exact ⟨_, rfl, Nat.le_succ _, blk1 _ _ _, Ext.alloc2 _ _ _⟩
theorem five_of {w : World} {b : Nat} {v0 v1 v2 v3 v4 : Value} {t : TypeId} (h : w.heap[b]? = some (.cells #[v0, v1, v2, v3, v4] t)) : w.cell? ⟨b, 0, none⟩ = some v0 ∧ w.cell? ⟨b, 1, none⟩ = some v1 ∧ w.cell? ⟨b, 2, none⟩ = some v2 ∧ w.cell? ⟨b, 3, none⟩ = some v3 ∧ w.cell? ⟨b, 4, none⟩ = some v4 := ⟨cell_of h rfl, cell_of h rfl, cell_of h rfl, cell_of h rfl, cell_of h rfl⟩
set_option maxRecDepth 100000 in
set_option maxHeartbeats 2000000 in
theorem mkInt_any (k x : ByteArray) (n : Int) (g : Nat) (w : World) (hg : OfAt w g) : Calls Tryd.prog 21 #[.agg #[.string k, .int .i64 n, .string x, .slice none 0 0], .pointer (some ⟨g, 0, none⟩)] w fun e w' => ∃ b, e = .returned (.iface 75 (.pointer (some ⟨b, 0, none⟩))) ∧ w.heap.size ≤ b ∧ LitAt w' b k n x (.iface 66 (.int .i64 n)) ∧ Ext w w' := by
  obtain ⟨M, hM⟩ : ∃ M, w.alloc (.cells #[.string k, .int .i64 n, .string x, .slice none 0 0] 74) = M := ⟨_, rfl⟩
  have XM := hid (show Ext w M from hM ▸ Ext.alloc _ _)
  have HM0 := hid (show M.heap[w.heap.size]? = some (.cells #[.string k, .int .i64 n, .string x, .slice none 0 0] 74) from hM ▸ blk0 _ _)
  have HG := hid hg
  clear hg
  have HSK := hid (show ∀ W', Ext M W' → (Ext M W' ∧ W'.cell? ⟨g, 0, none⟩ = some (.func (.func 17) #[] #[]) ∧ W'.cell? ⟨w.heap.size, 0, none⟩ = some (.string k) ∧ W'.cell? ⟨w.heap.size, 1, none⟩ = some (.int .i64 n) ∧ W'.cell? ⟨w.heap.size, 2, none⟩ = some (.string x) ∧ W'.cell? ⟨w.heap.size, 3, none⟩ = some (.slice none 0 0)) from fun W' X => by
    obtain ⟨s0, s1, s2, s3⟩ := four_of (X.block HM0.out)
    exact ⟨X, cell_of ((XM.out.trans X).block HG.out) rfl, s0, s1, s2, s3⟩)
  go_enter Tryd.func21, Tryd.ntmps21
  go_wp2_with fail
  clear hM
  go_region_held3 (fun W' => Ext M W' ∧ W'.cell? ⟨g, 0, none⟩ = some (.func (.func 17) #[] #[]) ∧ W'.cell? ⟨w.heap.size, 0, none⟩ = some (.string k) ∧ W'.cell? ⟨w.heap.size, 1, none⟩ = some (.int .i64 n) ∧ W'.cell? ⟨w.heap.size, 2, none⟩ = some (.string x) ∧ W'.cell? ⟨w.heap.size, 3, none⟩ = some (.slice none 0 0))
    (first | with_reducible exact HSK.out _ (Ext.refl _) | with_reducible exact HSK.out _ (Ext.refl _).drew | with_reducible exact HSK.out _ Z1 | go_keep)
    (first
      | (go_at_call 22; refine (num_of _ n _ (HSK.out _ (by repeat (first | with_reducible exact Ext.refl _ | with_reducible refine Ext.drew ?_))).2.2.2.1).mono ?_; rintro r w1 ⟨rfl, rfl⟩)
      | (go_at_call 17; refine (lit_of k x n _ _ _).mono ?_; rintro r w1 ⟨b, rfl, hb, hl, hx⟩; have Z1 : Ext M w1 := Ext.trans (by repeat (first | with_reducible exact Ext.refl _ | with_reducible refine Ext.drew ?_)) hx))
  all_goals
    go_wp2_with fail
    go_ret
    exact ⟨_, rfl, Nat.le_trans XM.out.size hb, hl, XM.out.trans Z1⟩
set_option maxRecDepth 100000 in
theorem takes_void (nj hj : ByteArray) (mj xj : Int) (bj : Bool) (fv : Value) (w : World) (hf : ∃ fn c d, fv = .func fn c d) : Calls Tryd.prog 46 #[.agg #[.string nj, .int .i64 mj, .int .i64 xj, .bool bj, .int .i64 0, .string hj, fv], .string ⟨#[]⟩] w fun e w' => e = .returned (.bool true) ∧ Ext w w' := by
  obtain ⟨fn, c, d, rfl⟩ := hf
  go_enter Tryd.func46, Tryd.ntmps46
  go_wp2_with fail
  go_ret
  exact ⟨rfl, Ext.alloc _ _⟩
set_option maxRecDepth 100000 in
set_option maxHeartbeats 1000000 in
theorem fits_num (nj hj : ByteArray) (n : Int) (kv : Value) (k : ByteArray) (fv : Value) (w : World) (hf : ∃ fn c d, fv = .func fn c d) : Calls Tryd.prog 30 #[.agg #[.string nj, .int .i64 0, .int .i64 0, .bool true, .int .i64 0, .string hj, fv], .agg #[.string k, .int .i64 n, .string ⟨#[]⟩, kv], .int .i64 0] w fun e w' => e = .returned (.int .i64 0) ∧ Ext w w' := by
  have HT := hid (fun w1 => takes_void nj hj 0 0 true fv w1 hf)
  obtain ⟨fn, c, d, rfl⟩ := hf
  obtain ⟨M, hM⟩ : ∃ M, (w.alloc (.cells #[.string nj, .int .i64 0, .int .i64 0, .bool true, .int .i64 0, .string hj, .func fn c d] 33)).alloc (.cells #[.string k, .int .i64 n, .string ⟨#[]⟩, kv] 43) = M := ⟨_, rfl⟩
  have XM := hid (show Ext w M from hM ▸ Ext.alloc2 _ _ _)
  have HM0 := hid (show M.heap[w.heap.size]? = some (.cells #[.string nj, .int .i64 0, .int .i64 0, .bool true, .int .i64 0, .string hj, .func fn c d] 33) from hM ▸ blkOld _ (blk0 _ _))
  have HM1 := hid (show M.heap[w.heap.size + 1]? = some (.cells #[.string k, .int .i64 n, .string ⟨#[]⟩, kv] 43) from hM ▸ blk1 _ _ _)
  obtain ⟨t0, t1, t2, t3⟩ := four_of HM1.out
  obtain ⟨r0, r1, r2, r3, r4, r5, r6⟩ := seven_of HM0.out
  by_cases hn : n = 0
  · subst hn
    go_enter Tryd.func30, Tryd.ntmps30
    go_wp2_with fail
    go_at_call 46
    refine (HT.out M).mono ?_
    rintro r w1 ⟨rfl, hx⟩
    have X1 := hid (XM.out.trans hx)
    clear hx
    go_wp2_with fail
    go_ret
    exact ⟨rfl, X1.out⟩
  · have hq : (n != 0) = true := by rw [bne_iff_ne]; exact hn
    have hq2 : (n == 0) = false := by rw [beq_eq_false_iff_ne]; exact hn
    clear hn
    go_enter Tryd.func30, Tryd.ntmps30
    go_wp2_with fail
    go_at_call 46
    refine (HT.out M).mono ?_
    rintro r w1 ⟨rfl, hx⟩
    have X1 := hid (XM.out.trans hx)
    clear hx
    go_wp2_with fail
    go_ret
    exact ⟨rfl, X1.out⟩
end Go.Proofs.YthablchefckclaaDoor
