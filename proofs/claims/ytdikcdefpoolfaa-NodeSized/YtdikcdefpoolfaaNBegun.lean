/-
  What every statement of stage 6 asks ahead (espalierlaw6.begun): it answers true; by a contract.
-/
import Derived.Test.YtdikcdefpoolfaaNAbilF
namespace Go.Proofs.Ytdikcdefpoolfaa
open Go.RowKit
attribute [local go_sem] isLitLiteral isLitStrict isLitWrapped isLitOrigin isLitFramed isOrgLiteral isOrgStrict isOrgWrapped isOrgOrigin isOrgFramed isCodCoded isCodLocated isCodRaised isCodLacking isLacCoded isLacLocated isLacRaised isLacLacking isFraLiteral isFraStrict isFraWrapped isFraOrigin isFraFramed isVarLiteral isVarStrict isVarWrapped isVarOrigin isVarFramed mCodCode mLacCode mLacWhere mLacLacks mLitWorth mLitKind mLitNum mLitText mLitLen mLitKid mFraFrames mFraKind mFraNum mFraText mFraLen mFraKid mOrgFrom
theorem worth_of (b : Nat) (v : Value) (w : World) (h : w.cell? ⟨b, 4, none⟩ = some v) : Calls Try.prog 102 #[.pointer (some ⟨b, 0, none⟩)] w fun e w' => e = .returned v ∧ w' = w := by
  go_enter Try.func102, Try.ntmps102
  go_wp2
  go_ret
  exact ⟨rfl, rfl⟩
theorem row_len {w : World} {base : Nat} {e : TypeId} {a : Option Addr} {n c m : Nat} {xs : List Value} (h : w.ownsRow base e 1 (.slice a n c) m xs) : n = m := by
  rcases h.2 with ⟨e1, h0⟩ | ⟨g, cap, cur, e1, _⟩
  · injection e1 with q1 q2 q3; omega
  · injection e1 with q1 q2 q3
set_option maxRecDepth 100000 in
set_option maxHeartbeats 8000000 in
theorem begun_any (w : World) : Calls Try.prog 4 #[] w fun e w' => e = .returned (.bool true) ∧ Ext w w' := by
  have hii : ∀ w : World, (binOp .eql 62 (.iface 64 (.int .i64 5)) (.iface 64 (.int .i64 5))).run Try.prog w = .ok (.bool true) w := fun _ => by kernel_rfl
  go_enter Try.func4, Try.ntmps4
  go_wp2_with fail
  go_at_call 5
  refine (make_int 5 w).mono ?_
  rintro e w1 ⟨b, h, rfl, hb, hhs, hh, hl, hx1⟩
  have HL1 := hid hl
  have HH1 := hid hh
  have X1 := hid hx1
  clear hb hhs hh hl hx1
  go_wp2_with fail
  go_at_call 7
  refine (node_at h _ _ w1 HH1.out).mono ?_
  rintro e w0 ⟨rfl, hw0⟩
  rw [hw0]
  clear hw0 w0
  go_wp2_with fail
  go_at_call 7
  refine (node_at h _ _ w1 HH1.out).mono ?_
  rintro e w0 ⟨rfl, hw0⟩
  rw [hw0]
  clear hw0 w0
  obtain ⟨V1, hV1⟩ : ∃ V, w1.alloc (.cells #[.int .i64 1] 3) = V := ⟨_, rfl⟩
  have Y1 := hid (show Ext w1 V1 from hV1 ▸ Ext.alloc _ _)
  have HP1 := hid (show V1.cell? ⟨w1.heap.size, 0, none⟩ = some (.int .i64 1) from cell_of (show V1.heap[w1.heap.size]? = some (.cells #[.int .i64 1] 3) from hV1 ▸ blk0 _ _) rfl)
  go_wp2_with fail
  clear hV1
  go_at_call 10
  refine (wrap_ok h 165 165 _ _ bF (some ⟨w1.heap.size, 0, none⟩) 1 1 [1] V1 (Y1.out.block HH1.out) (by decide) (.inr ⟨w1.heap.size, 0, 1, rfl, fun j u hu => by
    match j, hu with
    | 0, hu => simp at hu; subst hu; exact HP1.out⟩) (fun w2 hx2 => place_one w1.heap.size 1 w2 ((hx2.kp (fun _ => True)).cell HP1.out trivial))).mono ?_
  rintro e w2 ⟨h2, ob, pv, rfl, hh2, hob, hha, hor, hown, hx2⟩
  obtain ⟨a1, n1, c1, rfl⟩ := Fa.ownsRow_slice hown
  have X2 := hid (Y1.out.trans hx2)
  have HH2 := hid hha
  have HO2 := hid hor
  have HI2 := hid (Fa.Ints.own (xs := [1]) hown)
  clear hh2 hob hha hor hown hx2
  go_wp2_with fail
  go_at_call 11
  refine (must_lazy h2 ob b _ _ nInt ⟨#[]⟩ bF 5 a1 n1 c1 [1] w2 HH2.out HO2.out (X2.out.block HL1.out) (by decide) HI2.out).mono ?_
  rintro e w3 ⟨kb, pv3, rfl, hkb, hla, hown3, hx3⟩
  obtain ⟨a3, n3, c3, rfl⟩ := Fa.ownsRow_slice hown3
  have X3 := hid (X2.out.trans hx3)
  have HK3 := hid (show w3.heap[kb]? = _ from hla)
  have HI3 := hid (Fa.Ints.own (xs := [1]) hown3)
  clear hkb hla hown3 hx3
  go_wp2_with fail
  go_at_call 94
  refine (Fa.lacks_drew kb nInt (nmA 2) w3 (cell_of HK3.out rfl) (cell_of HK3.out rfl)).mono ?_
  rintro e w4 ⟨rfl, hw4⟩
  have X4 := hid (show Ext w3 w4 from hw4 ▸ (Ext.refl _).drew)
  clear hw4
  obtain ⟨V4, hV4⟩ : ∃ V, w4.alloc (.cells #[.pointer none] 23) = V := ⟨_, rfl⟩
  have Y4 := hid (show Ext w4 V4 from hV4 ▸ Ext.alloc _ _)
  have HP4 := hid (show V4.cell? ⟨w4.heap.size, 0, none⟩ = some (.pointer none) from cell_of (show V4.heap[w4.heap.size]? = some (.cells #[.pointer none] 23) from hV4 ▸ blk0 _ _) rfl)
  go_wp2_with fail
  clear hV4
  go_at_call 5
  refine (make_void w4.heap.size V4 (.inl rfl) HP4.out).mono ?_
  rintro e w5 ⟨eb, rfl, hec, hx5⟩
  have X5 := hid (X3.out.trans (X4.out.trans (Y4.out.trans hx5)))
  have X35 := hid (X4.out.trans (Y4.out.trans hx5))
  have HE5 := hid hec
  clear hec hx5
  go_wp2_with fail
  go_at_call 102
  refine (worth_of b _ w5 (cell_of (X5.out.block HL1.out) rfl)).mono ?_
  rintro e w0 ⟨rfl, hw0⟩
  rw [hw0]
  clear hw0 w0
  have hk1 : (nInt.toList == [98, 97, 115, 101, 46, 105, 110, 116]) = true := by rw [ByteArray.toList_eq]; rfl
  have hk2 : ((nmA 2).toList == [76, 97, 122, 121]) = true := by rw [ByteArray.toList_eq]; rfl
  have hk3 : (bF.toList == [102]) = true := by rw [ByteArray.toList_eq]; rfl
  generalize nInt = ni at *
  generalize nmA 2 = lz at *
  generalize bF = bf at *
  go_wp2_with fail
  go_at_call 91
  refine (Fa.code_of kb 13 w5 (cell_of (X35.out.block HK3.out) rfl)).mono ?_
  rintro e w0 ⟨rfl, hw0⟩
  rw [hw0]
  clear hw0 w0
  go_wp2_with fail
  go_at_call 95
  refine (Fa.where_of kb bf a3 n3 c3 [1] w5 (by decide) (cell_of (X35.out.block HK3.out) rfl) (cell_of (X35.out.block HK3.out) rfl) (HI3.out.later X35.out)).mono ?_
  rintro e w6 ⟨pv6, rfl, hown6, hx6⟩
  obtain ⟨a6, n6, c6, rfl⟩ := Fa.ownsRow_slice hown6
  have X6 := hid (X5.out.trans hx6)
  have X36 := hid (X35.out.trans hx6)
  have HE6 := hid (hx6.block HE5.out)
  clear hown6 hx6
  have hf0 : ∀ w : World, (Instr.field 54 (.agg #[.string bf, .slice a6 n6 c6]) 0).run Try.prog w = .ok (.string bf) w := fun _ => by kernel_rfl
  go_wp2_with fail
  go_at_call 95
  refine (Fa.where_of kb bf a3 n3 c3 [1] w6 (by decide) (cell_of (X36.out.block HK3.out) rfl) (cell_of (X36.out.block HK3.out) rfl) (HI3.out.later X36.out)).mono ?_
  rintro e w7 ⟨pv7, rfl, hown7, hx7⟩
  obtain ⟨a7, n7, c7, rfl⟩ := Fa.ownsRow_slice hown7
  have hn7 : n7 = 1 := row_len hown7
  subst hn7
  have X7 := hid (X6.out.trans hx7)
  have HE7 := hid (hx7.block HE6.out)
  clear hown7 hx7
  have hf1 : ∀ w : World, (Instr.field 54 (.agg #[.string bf, .slice a7 1 c7]) 1).run Try.prog w = .ok (.slice a7 1 c7) w := fun _ => by kernel_rfl
  go_wp2_with fail
  go_at_call 7
  refine (node_nil w7).mono ?_
  rintro e w0 ⟨rfl, hw0⟩
  rw [hw0]
  clear hw0 w0
  go_wp2_with fail
  go_at_call 6
  refine (Fa.is_coded eb 1 w7 HE7.out rfl).mono ?_
  rintro e w8 ⟨rfl, hx8⟩
  have X8 := hid (X7.out.trans hx8)
  clear hx8
  go_wp2_with fail
  go_at_call 12
  refine (abil_lit h _ _ w8 (X8.out.block HH1.out)).mono ?_
  rintro e w9 ⟨a9, c9, rfl, hx9⟩
  have X9 := hid (X1.out.trans (X8.out.trans hx9))
  clear hx9
  go_wp2_with fail
  go_ret
  exact ⟨rfl, X9.out⟩
end Go.Proofs.Ytdikcdefpoolfaa
