/-
  node.Make of the unit; by contracts.
-/
import Derived.Test.YtdikcdefpoolfaaNMakeI
namespace Go.Proofs.Ytdikcdefpoolfaa
open Go.RowKit
attribute [local go_sem] isLitLiteral isLitStrict isLitWrapped isLitOrigin isLitFramed isOrgLiteral isOrgStrict isOrgWrapped isOrgOrigin isOrgFramed isCodCoded isCodLocated isCodRaised isCodLacking isLacCoded isLacLocated isLacRaised isLacLacking isFraLiteral isFraStrict isFraWrapped isFraOrigin isFraFramed isVarLiteral isVarStrict isVarWrapped isVarOrigin isVarFramed mCodCode mLacCode mLacWhere mLacLacks mLitWorth mLitKind mLitNum mLitText mLitLen mLitKid mFraFrames mFraKind mFraNum mFraText mFraLen mFraKid mOrgFrom
def nUnit : ByteArray := ⟨#[98, 97, 115, 101, 46, 117, 110, 105, 116]⟩
theorem find_unit : kdFind nUnit = some 0 := by decide
set_option maxRecDepth 100000 in
theorem mkUnit_any (k x : ByteArray) (n : Int) (g : Nat) (w : World) (hg : OfAt w g) : Calls Try.prog 55 #[.agg #[.string k, .int .i64 n, .string x, .slice none 0 0], .pointer (some ⟨g, 0, none⟩)] w fun e w' => ∃ b, e = .returned (.iface 165 (.pointer (some ⟨b, 0, none⟩))) ∧ w.heap.size ≤ b ∧ LitAt w' b k n x (.iface 173 (.agg #[])) ∧ Ext w w' := by
  have hgc : (w.alloc (.cells #[.string k, .int .i64 n, .string x, .slice none 0 0] 79)).cell? ⟨g, 0, none⟩ = some (.func (.func 54) #[] #[]) := cell_of (blkOld _ hg) rfl
  have hgw : w.cell? ⟨g, 0, none⟩ = some (.func (.func 54) #[] #[]) := cell_of hg rfl
  have hgl : g < w.heap.size := lt_of_block hg
  go_enter Try.func55, Try.ntmps55
  go_wp2_with fail
  go_at_call 54
  refine (lit_of k x n _ _ _).mono ?_
  rintro r w1 ⟨b, rfl, hb, hl, hx⟩
  go_wp2_with fail
  go_ret
  exact ⟨_, rfl, Nat.le_trans (Ext.alloc w _).size hb, hl, (Ext.alloc w _).trans hx⟩
set_option maxRecDepth 100000 in
set_option maxHeartbeats 2000000 in
theorem fits_none (nj hj : ByteArray) (kv : Value) (k : ByteArray) (fv : Value) (w : World) (hf : ∃ fn c d, fv = .func fn c d) : Calls Try.prog 15 #[.agg #[.string nj, .int .i64 0, .int .i64 0, .bool false, .int .i64 0, .string hj, fv], .agg #[.string k, .int .i64 0, .string ⟨#[]⟩, kv], .int .i64 0] w fun e w' => e = .returned (.int .i64 0) ∧ Ext w w' := by
  have HT := hid (fun w1 => takes_void nj hj 0 0 false fv w1 hf)
  obtain ⟨fn, c, d, rfl⟩ := hf
  obtain ⟨M, hM⟩ : ∃ M, (w.alloc (.cells #[.string nj, .int .i64 0, .int .i64 0, .bool false, .int .i64 0, .string hj, .func fn c d] 71)).alloc (.cells #[.string k, .int .i64 0, .string ⟨#[]⟩, kv] 30) = M := ⟨_, rfl⟩
  have XM := hid (show Ext w M from hM ▸ Ext.alloc2 _ _ _)
  have HM0 := hid (show M.heap[w.heap.size]? = some (.cells #[.string nj, .int .i64 0, .int .i64 0, .bool false, .int .i64 0, .string hj, .func fn c d] 71) from hM ▸ blkOld _ (blk0 _ _))
  have HM1 := hid (show M.heap[w.heap.size + 1]? = some (.cells #[.string k, .int .i64 0, .string ⟨#[]⟩, kv] 30) from hM ▸ blk1 _ _ _)
  obtain ⟨t0, t1, t2, t3⟩ := four_of HM1.out
  obtain ⟨r0, r1, r2, r3, r4, r5, r6⟩ := seven_of HM0.out
  go_enter Try.func15, Try.ntmps15
  go_wp2_with fail
  go_at_call 31
  refine (HT.out M).mono ?_
  rintro r w1 ⟨rfl, hx⟩
  have X1 := hid (XM.out.trans hx)
  clear hx
  go_wp2_with fail
  go_ret
  exact ⟨rfl, X1.out⟩
set_option maxRecDepth 100000 in
set_option maxHeartbeats 4000000 in
theorem make_unit (w : World) : Calls Try.prog 5 #[.agg #[.string nUnit, .int .i64 0, .string ⟨#[]⟩, .slice none 0 0], .slice none 0 0] w fun e w' => ∃ b h, e = .returned (.tuple #[.pointer (some ⟨h, 0, none⟩), .nilIface]) ∧ w.heap.size ≤ b ∧ w.heap.size ≤ h ∧ HandAt w' h (.iface 165 (.pointer (some ⟨b, 0, none⟩))) (.iface 165 (.pointer (some ⟨b, 0, none⟩))) ∧ LitAt w' b nUnit 0 ⟨#[]⟩ (.iface 173 (.agg #[])) ∧ Ext w w' := by
  obtain ⟨M, hM⟩ : ∃ M, w.alloc (.cells #[.string nUnit, .int .i64 0, .string ⟨#[]⟩, .slice none 0 0] 30) = M := ⟨_, rfl⟩
  have XM := hid (show Ext w M from hM ▸ Ext.alloc _ _)
  have HM0 := hid (show M.heap[w.heap.size]? = some (.cells #[.string nUnit, .int .i64 0, .string ⟨#[]⟩, .slice none 0 0] 30) from hM ▸ blk0 _ _)
  obtain ⟨t0, t1, t2, t3⟩ := four_of HM0.out
  have HKF := hid find_unit
  generalize hnn : nUnit = nn at *
  have HNN := hid hnn
  clear hnn
  go_enter Try.func5, Try.ntmps5
  go_wp2_with fail
  clear hM
  go_at_call 13
  refine (kindOf_any nn M).mono ?_
  rintro e w1 ⟨hx1, hk⟩
  rw [HKF.out] at hk
  obtain ⟨g, hg, hO, rfl⟩ := hk
  rw [show kdV g 0 = .agg #[.string nUnit, .int .i64 0, .int .i64 0, .bool false, .int .i64 0, .string hLit, .func (.func 55) #[] #[.pointer (some ⟨g, 0, none⟩)]] from rfl]
  rw [HNN.out]
  generalize hhl : hLit = hl at *
  clear hhl
  obtain ⟨V, hV⟩ : ∃ V, w1.alloc (.cells #[.string nn, .int .i64 0, .int .i64 0, .bool false, .int .i64 0, .string hl, .func (.func 55) #[] #[.pointer (some ⟨g, 0, none⟩)]] 71) = V := ⟨_, rfl⟩
  have X1 := hid (show Ext M V from hV ▸ hx1.trans (Ext.alloc _ _))
  have HOV := hid (show OfAt V g from hV ▸ blkOld _ hO)
  have HKB := hid (show V.heap[w1.heap.size]? = some (.cells #[.string nn, .int .i64 0, .int .i64 0, .bool false, .int .i64 0, .string hl, .func (.func 55) #[] #[.pointer (some ⟨g, 0, none⟩)]] 71) from hV ▸ blk0 _ _)
  obtain ⟨r0, r1, r2, r3, r4, r5, r6⟩ := seven_of HKB.out
  have HTB := hid (X1.out.block HM0.out)
  clear t0 t1 t2 t3 hx1 hO hg
  obtain ⟨t0, t1, t2, t3⟩ := four_of HTB.out
  go_wp2_with fail
  clear hV
  refine wp_loop_rounds 1 ?_
  rw [rounds_succ]
  go_wp2_with fail
  go_at_call 15
  refine (fits_none nn hl (.slice none 0 0) nn _ V ⟨_, _, _, rfl⟩).mono ?_
  rintro e w2 ⟨rfl, hx2⟩
  have X2 := hid (X1.out.trans hx2)
  have HK2 := hid (hx2.block HKB.out)
  have HT2 := hid (hx2.block HTB.out)
  have HO2 := hid (hx2.block HOV.out)
  clear hx2 r0 r1 r2 r3 r4 r5 r6 t0 t1 t2 t3
  have HSK := hid (show ∀ W', Ext w2 W' → (Ext w2 W' ∧ W'.cell? ⟨w1.heap.size, 6, none⟩ = some (.func (.func 55) #[] #[.pointer (some ⟨g, 0, none⟩)]) ∧ W'.cell? ⟨w.heap.size, 0, none⟩ = some (.string nn) ∧ W'.cell? ⟨w.heap.size, 1, none⟩ = some (.int .i64 0) ∧ W'.cell? ⟨w.heap.size, 2, none⟩ = some (.string ⟨#[]⟩) ∧ W'.cell? ⟨w.heap.size, 3, none⟩ = some (.slice none 0 0)) from fun W' X => by
    obtain ⟨s0, s1, s2, s3⟩ := four_of (X.block HT2.out)
    exact ⟨X, cell_of (X.block HK2.out) rfl, s0, s1, s2, s3⟩)
  go_wp2_with fail
  go_region_held3 (fun W' => Ext w2 W' ∧ W'.cell? ⟨w1.heap.size, 6, none⟩ = some (.func (.func 55) #[] #[.pointer (some ⟨g, 0, none⟩)]) ∧ W'.cell? ⟨w.heap.size, 0, none⟩ = some (.string nn) ∧ W'.cell? ⟨w.heap.size, 1, none⟩ = some (.int .i64 0) ∧ W'.cell? ⟨w.heap.size, 2, none⟩ = some (.string ⟨#[]⟩) ∧ W'.cell? ⟨w.heap.size, 3, none⟩ = some (.slice none 0 0))
    (first | with_reducible exact HSK.out _ (Ext.refl _) | with_reducible exact HSK.out _ (Ext.refl _).drew | with_reducible exact HSK.out _ Z3 | with_reducible exact HSK.out _ Z2 | with_reducible exact HSK.out _ Z1 | go_keep)
    (first
      | (go_at_call 18; refine (nodesOf_none _).mono ?_; rintro r u1 ⟨rfl, rfl⟩)
      | (go_at_call 17; refine (new_none nn ⟨#[]⟩ 0 _ _).mono ?_; rintro r u1 ⟨rfl, hy⟩; have Z1 : Ext w2 u1 := Ext.trans (by repeat (first | with_reducible exact Ext.refl _ | with_reducible refine Ext.drew ?_)) hy)
      | (go_at_call 55; refine (mkUnit_any nn ⟨#[]⟩ 0 g _ ((Ext.trans (by repeat (first | with_reducible exact Z1 | with_reducible refine Ext.drew ?_)) (Ext.refl _)).block HO2.out)).mono ?_; rintro r u2 ⟨b, rfl, hb, hl2, hy⟩; have Z2 : Ext w2 u2 := Ext.trans (by repeat (first | with_reducible exact Z1 | with_reducible refine Ext.drew ?_)) hy; have ZB : w2.heap.size ≤ b := Nat.le_trans Z1.size hb)
      | (go_at_call 16; refine (hold_lit _ _).mono ?_; rintro r u3 ⟨rfl, hh, hy⟩; have Z3 : Ext w2 u3 := Ext.trans (by repeat (first | with_reducible exact Z2 | with_reducible refine Ext.drew ?_)) hy; have ZH := hy.block hl2))
  all_goals
    go_wp2_with fail
    go_ret2
    exact ⟨_, _, rfl, Nat.le_trans (XM.out.trans X2.out).size ZB, Nat.le_trans (XM.out.trans X2.out).size Z2.size, hh, ZH, XM.out.trans (X2.out.trans Z3)⟩
end Go.Proofs.Ytdikcdefpoolfaa
