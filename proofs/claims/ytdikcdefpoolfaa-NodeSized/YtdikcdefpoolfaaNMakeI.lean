/-
  node.Make of a number; of a frame around a handle that holds no node; by contracts.
-/
import Derived.Test.YtdikcdefpoolfaaNMake
namespace Go.Proofs.Ytdikcdefpoolfaa
open Go.RowKit
attribute [local go_sem] isLitLiteral isLitStrict isLitWrapped isLitOrigin isLitFramed isOrgLiteral isOrgStrict isOrgWrapped isOrgOrigin isOrgFramed isCodCoded isCodLocated isCodRaised isCodLacking isLacCoded isLacLocated isLacRaised isLacLacking isFraLiteral isFraStrict isFraWrapped isFraOrigin isFraFramed isVarLiteral isVarStrict isVarWrapped isVarOrigin isVarFramed mCodCode mLacCode mLacWhere mLacLacks mLitWorth mLitKind mLitNum mLitText mLitLen mLitKid mFraFrames mFraKind mFraNum mFraText mFraLen mFraKid mOrgFrom
def nInt : ByteArray := ⟨#[98, 97, 115, 101, 46, 105, 110, 116]⟩
def nFrame : ByteArray := ⟨#[98, 97, 115, 101, 46, 102, 114, 97, 109, 101]⟩
def hLit : ByteArray := ⟨#[76, 105, 116, 101, 114, 97, 108, 32, 80, 117, 114, 101, 32, 84, 111, 116, 97, 108, 32, 83, 111, 114, 116, 101, 100]⟩
theorem find_int : kdFind nInt = some 3 := by decide
theorem find_frame : kdFind nFrame = some 6 := by decide
set_option maxRecDepth 100000 in
set_option maxHeartbeats 4000000 in
theorem make_int (n : Int) (w : World) : Calls Try.prog 5 #[.agg #[.string nInt, .int .i64 n, .string ⟨#[]⟩, .slice none 0 0], .slice none 0 0] w fun e w' => ∃ b h, e = .returned (.tuple #[.pointer (some ⟨h, 0, none⟩), .nilIface]) ∧ w.heap.size ≤ b ∧ w.heap.size ≤ h ∧ HandAt w' h (.iface 165 (.pointer (some ⟨b, 0, none⟩))) (.iface 165 (.pointer (some ⟨b, 0, none⟩))) ∧ LitAt w' b nInt n ⟨#[]⟩ (.iface 64 (.int .i64 n)) ∧ Ext w w' := by
  obtain ⟨M, hM⟩ : ∃ M, w.alloc (.cells #[.string nInt, .int .i64 n, .string ⟨#[]⟩, .slice none 0 0] 30) = M := ⟨_, rfl⟩
  have XM := hid (show Ext w M from hM ▸ Ext.alloc _ _)
  have HM0 := hid (show M.heap[w.heap.size]? = some (.cells #[.string nInt, .int .i64 n, .string ⟨#[]⟩, .slice none 0 0] 30) from hM ▸ blk0 _ _)
  obtain ⟨t0, t1, t2, t3⟩ := four_of HM0.out
  have HKF := hid find_int
  generalize hnn : nInt = nn at *
  have HNN := hid hnn
  clear hnn
  go_enter Try.func5, Try.ntmps5
  go_wp2_with fail
  clear hM
  go_at_call 13
  refine (kindOf_any nn M).mono ?_
  rintro e w1 ⟨hx1, hk⟩
  rw [HKF.out] at hk
  obtain ⟨g, hg, hO, rfl⟩ := hk
  rw [show kdV g 3 = .agg #[.string nInt, .int .i64 0, .int .i64 0, .bool true, .int .i64 0, .string hLit, .func (.func 58) #[] #[.pointer (some ⟨g, 0, none⟩)]] from rfl]
  rw [HNN.out]
  generalize hhl : hLit = hl at *
  clear hhl
  obtain ⟨V, hV⟩ : ∃ V, w1.alloc (.cells #[.string nn, .int .i64 0, .int .i64 0, .bool true, .int .i64 0, .string hl, .func (.func 58) #[] #[.pointer (some ⟨g, 0, none⟩)]] 71) = V := ⟨_, rfl⟩
  have X1 := hid (show Ext M V from hV ▸ hx1.trans (Ext.alloc _ _))
  have HOV := hid (show OfAt V g from hV ▸ blkOld _ hO)
  have HKB := hid (show V.heap[w1.heap.size]? = some (.cells #[.string nn, .int .i64 0, .int .i64 0, .bool true, .int .i64 0, .string hl, .func (.func 58) #[] #[.pointer (some ⟨g, 0, none⟩)]] 71) from hV ▸ blk0 _ _)
  obtain ⟨r0, r1, r2, r3, r4, r5, r6⟩ := seven_of HKB.out
  have HTB := hid (X1.out.block HM0.out)
  clear t0 t1 t2 t3 hx1 hO hg
  obtain ⟨t0, t1, t2, t3⟩ := four_of HTB.out
  go_wp2_with fail
  clear hV
  refine wp_loop_rounds 1 ?_
  rw [rounds_succ]
  go_wp2_with fail
  go_at_call 15
  refine (fits_num nn hl n (.slice none 0 0) nn _ V ⟨_, _, _, rfl⟩).mono ?_
  rintro e w2 ⟨rfl, hx2⟩
  have X2 := hid (X1.out.trans hx2)
  have HK2 := hid (hx2.block HKB.out)
  have HT2 := hid (hx2.block HTB.out)
  have HO2 := hid (hx2.block HOV.out)
  clear hx2 r0 r1 r2 r3 r4 r5 r6 t0 t1 t2 t3
  have HSK := hid (show ∀ W', Ext w2 W' → (Ext w2 W' ∧ W'.cell? ⟨w1.heap.size, 6, none⟩ = some (.func (.func 58) #[] #[.pointer (some ⟨g, 0, none⟩)]) ∧ W'.cell? ⟨w.heap.size, 0, none⟩ = some (.string nn) ∧ W'.cell? ⟨w.heap.size, 1, none⟩ = some (.int .i64 n) ∧ W'.cell? ⟨w.heap.size, 2, none⟩ = some (.string ⟨#[]⟩) ∧ W'.cell? ⟨w.heap.size, 3, none⟩ = some (.slice none 0 0)) from fun W' X => by
    obtain ⟨s0, s1, s2, s3⟩ := four_of (X.block HT2.out)
    exact ⟨X, cell_of (X.block HK2.out) rfl, s0, s1, s2, s3⟩)
  go_wp2_with fail
  go_region_held3 (fun W' => Ext w2 W' ∧ W'.cell? ⟨w1.heap.size, 6, none⟩ = some (.func (.func 58) #[] #[.pointer (some ⟨g, 0, none⟩)]) ∧ W'.cell? ⟨w.heap.size, 0, none⟩ = some (.string nn) ∧ W'.cell? ⟨w.heap.size, 1, none⟩ = some (.int .i64 n) ∧ W'.cell? ⟨w.heap.size, 2, none⟩ = some (.string ⟨#[]⟩) ∧ W'.cell? ⟨w.heap.size, 3, none⟩ = some (.slice none 0 0))
    (first | with_reducible exact HSK.out _ (Ext.refl _) | with_reducible exact HSK.out _ (Ext.refl _).drew | with_reducible exact HSK.out _ Z3 | with_reducible exact HSK.out _ Z2 | with_reducible exact HSK.out _ Z1 | go_keep)
    (first
      | (go_at_call 18; refine (nodesOf_none _).mono ?_; rintro r u1 ⟨rfl, rfl⟩)
      | (go_at_call 17; refine (new_none nn ⟨#[]⟩ n _ _).mono ?_; rintro r u1 ⟨rfl, hy⟩; have Z1 : Ext w2 u1 := Ext.trans (by repeat (first | with_reducible exact Ext.refl _ | with_reducible refine Ext.drew ?_)) hy)
      | (go_at_call 58; refine (mkInt_any nn ⟨#[]⟩ n g _ ((Ext.trans (by repeat (first | with_reducible exact Z1 | with_reducible refine Ext.drew ?_)) (Ext.refl _)).block HO2.out)).mono ?_; rintro r u2 ⟨b, rfl, hb, hl2, hy⟩; have Z2 : Ext w2 u2 := Ext.trans (by repeat (first | with_reducible exact Z1 | with_reducible refine Ext.drew ?_)) hy; have ZB : w2.heap.size ≤ b := Nat.le_trans Z1.size hb)
      | (go_at_call 16; refine (hold_lit _ _).mono ?_; rintro r u3 ⟨rfl, hh, hy⟩; have Z3 : Ext w2 u3 := Ext.trans (by repeat (first | with_reducible exact Z2 | with_reducible refine Ext.drew ?_)) hy; have ZH := hy.block hl2))
  all_goals
    go_wp2_with fail
    go_ret2
    exact ⟨_, _, rfl, Nat.le_trans (XM.out.trans X2.out).size ZB, Nat.le_trans (XM.out.trans X2.out).size Z2.size, hh, ZH, XM.out.trans (X2.out.trans Z3)⟩
end Go.Proofs.Ytdikcdefpoolfaa
