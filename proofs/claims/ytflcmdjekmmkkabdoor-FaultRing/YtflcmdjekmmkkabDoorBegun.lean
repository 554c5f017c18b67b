/-
  begun: the calls that every statement asks ahead answer as the document fixes them: it returns true, in whatever memory in which errors.errorType is laid.
-/
import Derived.Test.YtflcmdjekmmkkabDoorSameL
import Derived.Test.YtflcmdjekmmkkabDoorText
namespace Go.Proofs.YtflcmdjekmmkkabDoor
open Go.RowKit Go.Shelf
attribute [local go_sem] isNCoded isNLocated isNRaised isNLacking isNUnw isNAsI isNUnws isNNoted isGCoded isGLocated isGRaised isGLacking isGUnw isGAsI isGUnws isGNoted isCCoded isCLocated isCRaised isCLacking isCUnw isCAsI isCUnws isCNoted isLCoded isLLocated isLRaised isLLacking isLUnw isLAsI isLUnws isLNoted isRCoded isRLocated isRRaised isRLacking isRUnw isRAsI isRUnws isRNoted isHCoded isHLocated isHRaised isHLacking isHUnw isHAsI isHUnws isHNoted isOCoded isOLocated isORaised isOLacking isOUnw isOAsI isOUnws isONoted toCodedCoded toCodedLocated toCodedRaised toCodedLacking toCodedNoted toLocatedCoded toLocatedLocated toLocatedRaised toLocatedLacking toLocatedNoted toRaisedCoded toRaisedLocated toRaisedRaised toRaisedLacking toRaisedNoted toLackingCoded toLackingLocated toLackingRaised toLackingLacking toLackingNoted toNotedCoded toNotedLocated toNotedRaised toNotedLacking toNotedNoted mNUnwrap mNError mCCode mCError mLCode mLWhere mLError mRCode mRWhere mRSaid mRError mOUnwrap mGUnwrap mGError mHAs mHUnwrap
theorem row_two {w : World} {base : Nat} {e : TypeId} {v x y : Value} (h : w.ownsRow base e 1 v 2 [x, y]) : ∃ g cap, v = .slice (some ⟨g, 0, none⟩) 2 cap ∧ w.cell? ⟨g, 0, none⟩ = some x ∧ w.cell? ⟨g, 1, none⟩ = some y := by
  rcases h.2 with ⟨_, h0⟩ | ⟨g, cap, cur, rfl, _, hb, h1, h2, h3, h4⟩
  · cases h0
  · refine ⟨g, cap, rfl, cell_of hb ?_, cell_of hb ?_⟩
    · have e0 : (cur.toList.take (2 * 1))[0]? = some x := by rw [h4]; rfl
      rw [List.getElem?_take_of_lt (by omega)] at e0
      simpa using e0
    · have e1 : (cur.toList.take (2 * 1))[1]? = some y := by rw [h4]; rfl
      rw [List.getElem?_take_of_lt (by omega)] at e1
      simpa using e1

set_option maxRecDepth 100000 in
set_option maxHeartbeats 8000000 in
theorem begun_true (w : World) (hG : Laid w) : Calls Tryd.prog 4 #[] w fun r w' => r = .returned (.bool true) ∧ Ext w w' := by
  have HG : Hid (Laid w) := hG
  clear hG
  go_enter Tryd.func4, Tryd.ntmps4
  go_wp2_with fail
  have hI : Ints (w.alloc (.cells #[.int .i64 0, .int .i64 1] 3)) (.slice (some ⟨w.heap.size, 0, none⟩) 2 2) [0, 1] := .inr ⟨w.heap.size, 0, 2, rfl, fun j u hu => by
    rcases j with _ | _ | j
    · simp at hu; subst hu; exact cell_of (blk0 _ _) rfl
    · simp at hu; subst hu; exact cell_of (blk0 _ _) rfl
    · simp at hu⟩
  refine (at_any 22 rfl _ _ _ _ [0, 1] _ (by decide) hI).mono ?_
  rintro r w1 ⟨b, pv, rfl, hbb, hL, ho, hx⟩
  obtain ⟨g, cap, rfl, hp0, hp1⟩ := row_two ho
  have HX1 : Hid (Ext w w1) := (Ext.alloc _ _).trans hx
  have HL : Hid (LocatedAt w1 b 22 ⟨#[102]⟩ (.slice (some ⟨g, 0, none⟩) 2 cap)) := hL
  have HP0 : Hid (w1.cell? ⟨g, 0, none⟩ = some (.int .i64 0)) := hp0
  have HP1 : Hid (w1.cell? ⟨g, 0 + 1, none⟩ = some (.int .i64 1)) := hp1
  have HI : Hid (Ints w1 (.slice (some ⟨g, 0, none⟩) 2 cap) [0, 1]) := Ints.own ho
  have hgl : g < w1.heap.size := lt_of_cell hp0
  clear hx ho hL hp0 hp1 hbb hI
  go_wp2_with fail
  refine (new_ok _).mono ?_
  rintro r w' ⟨rfl, hw'⟩
  obtain rfl := hw'.symm
  go_wp2_with fail
  refine (raise_any _ _ _ _ _ [] _ (by decide) (.inl ⟨rfl, rfl⟩)).mono ?_
  rintro r w2 ⟨b', pv', rfl, _, _, _, hx2⟩
  have HX2 : Hid (Ext w1 w2) := hx2
  clear hx2
  go_wp2_with fail
  refine (wrap_few _ _ _ 1 _ _ w2 (HG.out.later (HX1.out.trans HX2.out)) (chain_L b w2) rfl (by decide)).mono ?_
  rintro r w3 ⟨b1, rfl, _, hN1, hx3⟩
  have HX3 : Hid (Ext w1 w3) := HX2.out.trans hx3
  have HN1 : Hid (NotedAt w3 b1 (.iface 86 (.pointer (some ⟨b, 0, none⟩))) ⟨#[120]⟩) := hN1
  clear hx3 hN1
  have HC1 : Hid (Chain w3 2 (ahead (.iface 53 (.pointer (some ⟨b1, 0, none⟩))) (ahead (.iface 86 (.pointer (some ⟨b, 0, none⟩))) (fun _ => .nilIface))) (ahead (some ⟨#[120]⟩) (fun _ => Option.none))) := Chain.cons (chain_L b w3) HN1.out (by decide)
  go_wp2_with fail
  refine (wrap_few _ _ _ 2 _ _ w3 (HG.out.later (HX1.out.trans HX3.out)) HC1.out rfl (by decide)).mono ?_
  rintro r w4 ⟨b2, rfl, _, hN2, hx4⟩
  have HX4 : Hid (Ext w3 w4) := hx4
  have HN2 : Hid (NotedAt w4 b2 (.iface 53 (.pointer (some ⟨b1, 0, none⟩))) ⟨#[121]⟩) := hN2
  have HC2 : Hid (Chain w4 3 (ahead (.iface 53 (.pointer (some ⟨b2, 0, none⟩))) (ahead (.iface 53 (.pointer (some ⟨b1, 0, none⟩))) (ahead (.iface 86 (.pointer (some ⟨b, 0, none⟩))) (fun _ => .nilIface)))) (ahead (some ⟨#[121]⟩) (ahead (some ⟨#[120]⟩) (fun _ => Option.none)))) := Chain.cons (HC1.out.later hx4) hN2 (by decide)
  clear hx4 hN2
  go_wp2_with fail
  have hnt : notedTo (ahead (some ⟨#[121]⟩) (ahead (some ⟨#[120]⟩) (fun _ => Option.none))) 3 = [.string ⟨#[121]⟩, .string ⟨#[120]⟩] := rfl
  have hnn := notes_calls 3 _ _ w4 (HG.out.later (HX1.out.trans (HX3.out.trans HX4.out))) HC2.out
  rw [hnt] at hnn
  refine hnn.mono ?_
  clear hnn hnt
  rintro r w5 ⟨nv, rfl, ho5, hx5⟩
  obtain ⟨g5, cap5, rfl, hq0, hq1⟩ := row_two ho5
  have hg5 : g5 < w5.heap.size := lt_of_cell hq0
  have HQ0 : Hid (w5.cell? ⟨g5, 0, none⟩ = some (.string ⟨#[121]⟩)) := hq0
  have HQ1 : Hid (w5.cell? ⟨g5, 1, none⟩ = some (.string ⟨#[120]⟩)) := hq1
  have HX5 : Hid (Ext w4 w5) := hx5
  clear hx5 ho5 hq0 hq1
  have HLT : Hid (∀ w6, Ext w1 w6 → Calls Tryd.prog 77 #[.pointer (some ⟨b, 0, none⟩)] w6 fun r w' => r = .returned (.string ⟨#[101, 114, 114, 111, 114, 32, 50, 50, 32, 97, 116, 32, 102, 58, 48, 46, 49]⟩) ∧ Ext w6 w') := fun w6 h6 => located_text b g 0 cap w6 (h6.block HL.out) ((Below.cell h6 hgl).trans HP0.out) ((Below.cell h6 hgl).trans HP1.out)
  have HXT : Hid (∀ w6, Ext w3 w6 → Calls Tryd.prog 65 #[.pointer (some ⟨b1, 0, none⟩)] w6 fun r w' => r = .returned (.string ⟨#[120, 58, 32, 101, 114, 114, 111, 114, 32, 50, 50, 32, 97, 116, 32, 102, 58, 48, 46, 49]⟩) ∧ Ext w6 w') := fun w6 h6 => noted_text_L b1 b w6 (h6.block HN1.out) (fun w7 h7 => HLT.out w7 (HX3.out.trans (h6.trans h7)))
  have HYT : Hid (∀ w6, Ext w4 w6 → Calls Tryd.prog 65 #[.pointer (some ⟨b2, 0, none⟩)] w6 fun r w' => r = .returned (.string ⟨#[121, 58, 32, 120, 58, 32, 101, 114, 114, 111, 114, 32, 50, 50, 32, 97, 116, 32, 102, 58, 48, 46, 49]⟩) ∧ Ext w6 w') := fun w6 h6 => noted_text_N b2 b1 w6 (h6.block HN2.out) (fun w7 h7 => HXT.out w7 (HX4.out.trans (h6.trans h7)))
  go_wp2_with fail
  refine (HLT.out _ (HX3.out.trans (HX4.out.trans HX5.out))).mono ?_
  rintro r w6 ⟨rfl, hx6⟩
  have HX6 : Hid (Ext w5 w6) := hx6
  clear hx6
  go_wp2_with fail
  refine (HYT.out _ (HX5.out.trans HX6.out)).mono ?_
  rintro r w7 ⟨rfl, hx7⟩
  have HX7 : Hid (Ext w5 w7) := HX6.out.trans hx7
  have k0 : w7.cell? ⟨g5, 0, none⟩ = some (.string ⟨#[121]⟩) := (Below.cell HX7.out hg5).trans HQ0.out
  have k1 : w7.cell? ⟨g5, 1, none⟩ = some (.string ⟨#[120]⟩) := (Below.cell HX7.out hg5).trans HQ1.out
  clear hx7
  have HW7 : Hid (Ext w4 w7) := HX5.out.trans HX7.out
  have HA : Hid (∀ i, i < 2 → ∃ t v, (ahead (α := Value) (.iface 53 (.pointer (some ⟨b2, 0, none⟩))) (ahead (.iface 53 (.pointer (some ⟨b1, 0, none⟩))) (ahead (.iface 86 (.pointer (some ⟨b, 0, none⟩))) (fun _ => .nilIface)))) (i + 1) = .iface t v) := fun i hi => by
    rcases i with _ | _ | i
    · exact ⟨_, _, rfl⟩
    · exact ⟨_, _, rfl⟩
    · omega
  have HB : Hid (∀ i, i < 2 → ∃ v, Asks 47 ((ahead (α := Value) (.iface 53 (.pointer (some ⟨b2, 0, none⟩))) (ahead (.iface 53 (.pointer (some ⟨b1, 0, none⟩))) (ahead (.iface 86 (.pointer (some ⟨b, 0, none⟩))) (fun _ => .nilIface)))) i) v false) := fun i hi => by
    rcases i with _ | _ | i
    · exact ⟨_, fun w => isNCoded _ _ _⟩
    · exact ⟨_, fun w => isNCoded _ _ _⟩
    · omega
  go_wp2_with fail
  refine (code_L 53 (.pointer (some ⟨b2, 0, none⟩)) b 2 22 _ w7 (by decide) rfl rfl (cell_of ((HX3.out.trans (HX4.out.trans HW7.out)).block HL.out) rfl) HA.out HB.out (fun i hi => ((HC2.out.unw i (by omega) (by omega)).later HW7.out))).mono ?_
  rintro r w8 ⟨rfl, hx8⟩
  have HX8 : Hid (Ext w4 w8) := HW7.out.trans hx8
  clear hx8 k0 k1
  go_wp2_with fail
  refine (same_LL 53 (.pointer (some ⟨b2, 0, none⟩)) 86 (.pointer (some ⟨b, 0, none⟩)) 22 ⟨#[102]⟩ [0, 1] w8 (by decide)
    (tellsL_of 53 (.pointer (some ⟨b2, 0, none⟩)) 2 _ b 22 ⟨#[102]⟩ _ _ _ [0, 1] w8 (by decide) ((HX3.out.trans (HX4.out.trans HX8.out)).block HL.out) (HI.out.later (HX3.out.trans (HX4.out.trans HX8.out))) (by decide) rfl rfl HA.out HB.out (fun i hi => ((HC2.out.unw i (by omega) (by omega)).later HX8.out)))
    (tellsL_of 86 (.pointer (some ⟨b, 0, none⟩)) 0 (fun _ => .iface 86 (.pointer (some ⟨b, 0, none⟩))) b 22 ⟨#[102]⟩ _ _ _ [0, 1] w8 (by decide) ((HX3.out.trans (HX4.out.trans HX8.out)).block HL.out) (HI.out.later (HX3.out.trans (HX4.out.trans HX8.out))) (by decide) rfl rfl (fun i h => absurd h (Nat.not_lt_zero _)) (fun i h => absurd h (Nat.not_lt_zero _)) (fun i h => absurd h (Nat.not_lt_zero _)))).mono ?_
  rintro r w9 ⟨rfl, hx9⟩
  have HX9 : Hid (Ext w4 w9) := HX8.out.trans hx9
  clear hx9
  go_wp2_with fail
  refine (same_none _ _ _).mono ?_
  rintro r w' ⟨rfl, hw'⟩
  obtain rfl := hw'.symm
  go_wp2
  go_ret
  exact ⟨rfl, HX1.out.trans (HX3.out.trans (HX4.out.trans HX9.out))⟩


end Go.Proofs.YtflcmdjekmmkkabDoor
