/-
  The walk of espalierlaw6.NodeNone: it returns true.
-/
import Derived.Test.YthablchefckclaaNBegun
namespace Go.Proofs.Ythablchefckclaa
open Go.RowKit
attribute [local go_sem] isLitLiteral isLitStrict isLitWrapped isLitOrigin isLitFramed isOrgLiteral isOrgStrict isOrgWrapped isOrgOrigin isOrgFramed isCodCoded isCodLocated isCodRaised isCodLacking isLacCoded isLacLocated isLacRaised isLacLacking isFraLiteral isFraStrict isFraWrapped isFraOrigin isFraFramed isVarLiteral isVarStrict isVarWrapped isVarOrigin isVarFramed mCodCode mLacCode mLacWhere mLacLacks mLitWorth mLitKind mLitNum mLitText mLitLen mLitKid mFraFrames mFraKind mFraNum mFraText mFraLen mFraKid mOrgFrom
set_option maxRecDepth 100000 in
theorem eqT_void (w : World) : Calls Try.prog 16 #[.agg #[.string ⟨#[]⟩, .int .i64 0, .string ⟨#[]⟩, .slice none 0 0], .agg #[.string ⟨#[]⟩, .int .i64 0, .string ⟨#[]⟩, .slice none 0 0]] w fun e w' => e = .returned (.bool true) ∧ Ext w w' := by
  go_enter Try.func16, Try.ntmps16
  go_wp2
  refine wp_loop_rounds 1 ?_
  rw [rounds_succ]
  go_wp2
  go_ret
  exact ⟨rfl, Ext.alloc2 _ _ _⟩
set_option maxRecDepth 100000 in
set_option maxHeartbeats 8000000 in
theorem none_true (w : World) : Calls Try.prog 4 #[] w fun e w' => e = .returned (.bool true) ∧ Ext w w' := by
  go_enter Try.func4, Try.ntmps4
  go_wp2_with fail
  go_at_call 5
  refine (begun_any w).mono ?_
  rintro e w1 ⟨rfl, hx1⟩
  have X1 := hid hx1
  clear hx1
  go_wp2_with fail
  generalize hV : (w1.alloc (.cells #[.nilIface, .nilIface] 46)).alloc (.cells #[.pointer none, .pointer (some ⟨w1.heap.size, 0, none⟩)] 23) = V
  have XV := hid (show Ext w V from hV ▸ X1.out.trans (Ext.alloc2 _ _ _))
  have HH := hid (show HandAt V w1.heap.size .nilIface .nilIface from hV ▸ blkOld _ (blk0 _ _))
  have HS := hid (show V.heap[w1.heap.size + 1]? = some (.cells #[.pointer none, .pointer (some ⟨w1.heap.size, 0, none⟩)] 23) from hV ▸ blk1 _ _ _)
  clear hV
  have HEL := hid (show ∀ j, j < 2 → ∃ hv, VoidH V hv ∧ V.cell? ⟨w1.heap.size + 1, j, none⟩ = some hv from fun j hj => by
    match j, hj with
    | 0, _ => exact ⟨_, .inl rfl, cell_of HS.out rfl⟩
    | 1, _ => exact ⟨_, .inr ⟨_, rfl, HH.out⟩, cell_of HS.out rfl⟩)
  go_loopw [2] (fun q2 wr => ∃ j : Nat, j ≤ 2 ∧ q2 = .int .i64 j ∧ Ext V wr) (fun q2 _ => 2 - (intOf q2).toNat)
  case atStart => exact ⟨0, Nat.zero_le _, rfl, Ext.refl _⟩
  case round =>
    obtain ⟨j, hj, rfl, hx⟩ := hrel
    have XR := hid hx
    clear hx
    by_cases hlt : j < 2
    · have hlt' : (j : Int) < 2 := by omega
      obtain ⟨hv, hvo, hce⟩ := HEL.out j hlt
      have HV := hid (fun W' (X : Ext wr W') => hvo.later (XR.out.trans X))
      have p0 : wr.cell? ⟨w1.heap.size + 1, j, none⟩ = some hv := (XR.out.kp (fun _ => True)).cell hce trivial
      clear hvo hce
      go_wp2_with fail
      clear p0
      go_at_call 11
      refine (wrap_void ⟨#[]⟩ none 0 0 wr (HV.out wr (Ext.refl _))).mono ?_
      rintro e u1 ⟨b1, rfl, hc1, hy1⟩
      have Y1 := hid hy1
      have C1 := hid (show ∀ W', Ext u1 W' → Fa.CodedAt W' b1 1 from fun W' X => X.block hc1)
      clear hc1 hy1
      go_wp2_with fail
      go_at_call 12
      refine (cover_void u1 (HV.out u1 Y1.out)).mono ?_
      rintro e u2 ⟨b2, rfl, hc2, hy2⟩
      have Y2 := hid (Y1.out.trans hy2)
      have D2 := hid hy2
      have C2 := hid (show ∀ W', Ext u2 W' → Fa.CodedAt W' b2 1 from fun W' X => X.block hc2)
      clear hc2 hy2
      go_wp2_with fail
      go_at_call 13
      refine (core_void u2 (HV.out u2 Y2.out)).mono ?_
      rintro e u3 ⟨b3, rfl, hc3, hy3⟩
      have Y3 := hid (Y2.out.trans hy3)
      have D3 := hid hy3
      have C3 := hid (show ∀ W', Ext u3 W' → Fa.CodedAt W' b3 1 from fun W' X => X.block hc3)
      clear hc3 hy3
      go_wp2_with fail
      go_at_call 10
      refine (plain_void u3 (HV.out u3 Y3.out)).mono ?_
      rintro e u4 ⟨b4, rfl, hc4, hy4⟩
      go_wp2_with fail
      generalize hV4 : u4.alloc (.cells #[.string ⟨#[]⟩, .int .i64 0, .string ⟨#[]⟩, .slice none 0 0] 30) = V4
      have D4 := hid (show Ext u3 V4 from hV4 ▸ hy4.trans (Ext.alloc _ _))
      have Y4 := hid (Y3.out.trans D4.out)
      have C4 := hid (show ∀ W', Ext V4 W' → Fa.CodedAt W' b4 1 from fun W' X => X.block ((hV4 ▸ Ext.alloc _ _ : Ext u4 V4).block hc4))
      have HT := hid (show ∀ W', Ext V4 W' → W'.heap[u4.heap.size]? = some (.cells #[.string ⟨#[]⟩, .int .i64 0, .string ⟨#[]⟩, .slice none 0 0] 30) from fun W' X => X.block (hV4 ▸ blk0 _ _))
      clear hc4 hy4 hV4
      go_at_call 14
      refine (must_void ⟨#[76, 105, 116, 101, 114, 97, 108]⟩ V4 (HV.out V4 Y4.out)).mono ?_
      rintro e u5 ⟨b5, rfl, hc5, hy5⟩
      have D5 := hid hy5
      have Y5 := hid (Y4.out.trans hy5)
      have C5 := hid (show ∀ W', Ext u5 W' → Fa.CodedAt W' b5 1 from fun W' X => X.block hc5)
      clear hc5 hy5
      go_wp2_with fail
      go_at_call 14
      refine (must_void ⟨#[110, 111, 110, 101]⟩ u5 (HV.out u5 Y5.out)).mono ?_
      rintro e u6 ⟨b6, rfl, hc6, hy6⟩
      have D6 := hid hy6
      have Y6 := hid (Y5.out.trans hy6)
      have C6 := hid (show ∀ W', Ext u6 W' → Fa.CodedAt W' b6 1 from fun W' X => X.block hc6)
      clear hc6 hy6
      obtain ⟨V6, hV6⟩ : ∃ V, u6.alloc (.cells #[hv] 23) = V := ⟨_, rfl⟩
      have E6 := hid (show Ext u6 V6 from hV6 ▸ Ext.alloc _ _)
      have HP6 := hid (show V6.cell? ⟨u6.heap.size, 0, none⟩ = some hv from cell_of (show V6.heap[u6.heap.size]? = some (.cells #[hv] 23) from hV6 ▸ blk0 _ _) rfl)
      rcases HV.out wr (Ext.refl _) with hvz | ⟨hvb, hvz, _⟩
      all_goals
        subst hvz
        go_wp2_with fail
        clear hV6
        go_at_call 6
        refine (make_void u6.heap.size V6 (HV.out V6 (Y6.out.trans E6.out)) HP6.out).mono ?_
        rintro e u7 ⟨b7, rfl, hc7, hy7⟩
        have D7 := hid (E6.out.trans hy7)
        have Y7 := hid (Y6.out.trans D7.out)
        have C7 := hid (show ∀ W', Ext u7 W' → Fa.CodedAt W' b7 1 from fun W' X => X.block hc7)
        clear hc7 hy7
        go_wp2_with fail
        go_at_call 8
        refine (node_void u7 (HV.out u7 Y7.out)).mono ?_
        rintro e u0 ⟨rfl, hu0⟩
        rw [hu0]
        clear hu0 u0
        go_wp2_with fail
        go_at_call 15
        refine (abil_void u7 (HV.out u7 Y7.out)).mono ?_
        rintro e u8 ⟨rfl, hy8⟩
        have D8 := hid (D7.out.trans hy8)
        have E8 := hid hy8
        obtain ⟨t0, t1, t2, t3⟩ := four_of (HT.out u8 (D5.out.trans (D6.out.trans D8.out)))
        clear hy8
        go_wp2_with fail
        go_at_call 16
        refine (eqT_void u8).mono ?_
        rintro e u9 ⟨rfl, hy9⟩
        have E9 := hid (E8.out.trans hy9)
        have D9 := hid (D7.out.trans E9.out)
        clear hy9 t0 t1 t2 t3
        go_wp2_with fail
        go_at_call 7
        refine (Fa.is_coded b1 1 u9 (C1.out _ (D2.out.trans (D3.out.trans (D4.out.trans (D5.out.trans (D6.out.trans D9.out)))))) rfl).mono ?_
        rintro e z1 ⟨rfl, hz1⟩
        have Z1 := hid (hz1)
        clear hz1
        go_wp2_with fail
        go_at_call 7
        refine (Fa.is_coded b2 1 z1 (C2.out _ ((D3.out.trans (D4.out.trans (D5.out.trans (D6.out.trans D9.out)))).trans Z1.out)) rfl).mono ?_
        rintro e z2 ⟨rfl, hz2⟩
        have Z2 := hid (Z1.out.trans hz2)
        clear hz2
        go_wp2_with fail
        go_at_call 7
        refine (Fa.is_coded b3 1 z2 (C3.out _ ((D4.out.trans (D5.out.trans (D6.out.trans D9.out))).trans Z2.out)) rfl).mono ?_
        rintro e z3 ⟨rfl, hz3⟩
        have Z3 := hid (Z2.out.trans hz3)
        clear hz3
        go_wp2_with fail
        go_at_call 7
        refine (Fa.is_coded b4 1 z3 (C4.out _ ((D5.out.trans (D6.out.trans D9.out)).trans Z3.out)) rfl).mono ?_
        rintro e z4 ⟨rfl, hz4⟩
        have Z4 := hid (Z3.out.trans hz4)
        clear hz4
        go_wp2_with fail
        go_at_call 7
        refine (Fa.is_coded b5 1 z4 (C5.out _ ((D6.out.trans D9.out).trans Z4.out)) rfl).mono ?_
        rintro e z5 ⟨rfl, hz5⟩
        have Z5 := hid (Z4.out.trans hz5)
        clear hz5
        go_wp2_with fail
        go_at_call 7
        refine (Fa.is_coded b6 1 z5 (C6.out _ (D9.out.trans Z5.out)) rfl).mono ?_
        rintro e z6 ⟨rfl, hz6⟩
        have Z6 := hid (Z5.out.trans hz6)
        clear hz6
        go_wp2_with fail
        go_at_call 7
        refine (Fa.is_coded b7 1 z6 (C7.out _ (E9.out.trans Z6.out)) rfl).mono ?_
        rintro e z7 ⟨rfl, hz7⟩
        have Z7 := hid (Z6.out.trans hz7)
        clear hz7
        go_wp2_with fail
        go_roundw
        case rel => exact ⟨j + 1, by omega, by go_num, XR.out.trans (Y7.out.trans (E9.out.trans Z7.out))⟩
        case measure => simp [intOf]; omega
    · have hje : j = 2 := by omega
      subst hje
      go_wp2_with fail
      go_ret
      exact ⟨rfl, XV.out.trans XR.out⟩
end Go.Proofs.Ythablchefckclaa
