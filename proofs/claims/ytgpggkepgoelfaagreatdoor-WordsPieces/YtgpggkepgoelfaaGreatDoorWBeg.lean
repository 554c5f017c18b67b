/-
  espalierlaw10.begun by a contract: it tells true.
-/
import Derived.Test.YtgpggkepgoelfaaGreatDoorWKit
import Derived.Test.YtgpggkepgoelfaaGreatDoorWLaw
namespace Go.Proofs.YtgpggkepgoelfaaGreatDoor
open Go.RowKit
theorem itoa_m5 : itoaS (-5) = ⟨#[45, 53]⟩ := by
  unfold itoaS Lib.itoa
  simp [Lib.decDigits]
theorem itoa_5 : itoaS 5 = ⟨#[53]⟩ := by
  unfold itoaS Lib.itoa
  simp [Lib.decDigits]
theorem num_05 : numV ⟨#[48, 53]⟩ = refV 24 := by
  have h : Lib.parseIntB 64 (⟨#[48, 53]⟩ : ByteArray).data.toList = .ok 5 := by kernel_rfl
  unfold numV numO
  rw [h]
  dsimp only
  rw [itoa_5, if_neg (by decide)]
theorem of_m5 : ofV (-5) = wroteV ⟨#[45, 53]⟩ := by unfold ofV; rw [itoa_m5]
set_option maxRecDepth 100000 in
set_option maxHeartbeats 4000000 in
theorem begunW_any (w : World) (hm : WAt w) (hl : Laid w) : Calls Tryz.prog 15 #[] w fun e w' => e = .returned (.bool true) ∧ Ext w w' := by
  have HW := hid hm
  have HL := hid hl
  have X0 := hid (Ext.refl w)
  clear hm hl
  go_enter Tryz.func15, Tryz.ntmps15
  go_wp2_with fail
  refine (wtextP ⟨#[97, 98, 99]⟩ _).mono ?_
  rintro e wk1 ⟨rfl, hx1⟩
  have X1 := hid (X0.out.trans hx1)
  clear hx1
  go_wp2_with fail
  refine (wnumP 1 _).mono ?_
  rintro e wk2 ⟨rfl, hx2⟩
  have X2 := hid (X1.out.trans hx2)
  clear hx2
  go_wp2_with fail
  refine (wnumP 2 _).mono ?_
  rintro e wk3 ⟨rfl, hx3⟩
  have X3 := hid (X2.out.trans hx3)
  clear hx3
  go_wp2_with fail
  refine (words1_ok ⟨#[119, 111, 114, 100, 115, 46, 99, 117, 116]⟩ _ _ _ ⟨#[98]⟩ _ (calls_eq (show cutV ⟨#[97, 98, 99]⟩ 1 2 = wroteV ⟨#[98]⟩ from by kernel_rfl) (ww_cut ⟨#[97, 98, 99]⟩ 1 2 (by decide) _ _ _ (HW.out.later (X3.out.trans (Ext.alloc _ _))) (wrow3 (blk0 _ _) (by decide) (by decide) (by decide))))).mono ?_
  rintro e wk4 ⟨rfl, hx4⟩
  have X4 := hid (X3.out.trans ((Ext.alloc _ _).trans hx4))
  clear hx4
  go_wp2_with fail
  refine (wtextP ⟨#[97, 98, 99]⟩ _).mono ?_
  rintro e wk5 ⟨rfl, hx5⟩
  have X5 := hid (X4.out.trans hx5)
  clear hx5
  go_wp2_with fail
  refine (wnumP 2 _).mono ?_
  rintro e wk6 ⟨rfl, hx6⟩
  have X6 := hid (X5.out.trans hx6)
  clear hx6
  go_wp2_with fail
  refine (wnumP 1 _).mono ?_
  rintro e wk7 ⟨rfl, hx7⟩
  have X7 := hid (X6.out.trans hx7)
  clear hx7
  go_wp2_with fail
  refine (words1_bad ⟨#[119, 111, 114, 100, 115, 46, 99, 117, 116]⟩ _ _ _ 23 (by decide) _ (calls_eq (show cutV ⟨#[97, 98, 99]⟩ 2 1 = refV 23 from by kernel_rfl) (ww_cut ⟨#[97, 98, 99]⟩ 2 1 (by decide) _ _ _ (HW.out.later (X7.out.trans (Ext.alloc _ _))) (wrow3 (blk0 _ _) (by decide) (by decide) (by decide))))).mono ?_
  rintro e wk8 ⟨rfl, hx8⟩
  have X8 := hid (X7.out.trans ((Ext.alloc _ _).trans hx8))
  clear hx8
  go_wp2_with fail
  refine (wtextP ⟨#[98, 97, 110, 97, 110, 97]⟩ _).mono ?_
  rintro e wk9 ⟨rfl, hx9⟩
  have X9 := hid (X8.out.trans hx9)
  clear hx9
  go_wp2_with fail
  refine (wtextP ⟨#[97, 110]⟩ _).mono ?_
  rintro e wk10 ⟨rfl, hx10⟩
  have X10 := hid (X9.out.trans hx10)
  clear hx10
  go_wp2_with fail
  refine (nums1_ok ⟨#[119, 111, 114, 100, 115, 46, 102, 105, 110, 100]⟩ _ _ _ 1 _ (calls_eq (show findV ⟨#[98, 97, 110, 97, 110, 97]⟩ ⟨#[97, 110]⟩ = cameV 1 from by kernel_rfl) (ww_find ⟨#[98, 97, 110, 97, 110, 97]⟩ ⟨#[97, 110]⟩ (by decide) (by decide) _ _ _ (HW.out.later (X10.out.trans (Ext.alloc _ _))) (wrow2 (blk0 _ _) (by decide) (by decide))))).mono ?_
  rintro e wk11 ⟨rfl, hx11⟩
  have X11 := hid (X10.out.trans ((Ext.alloc _ _).trans hx11))
  clear hx11
  go_wp2_with fail
  refine (wtextP ⟨#[97, 98]⟩ _).mono ?_
  rintro e wk12 ⟨rfl, hx12⟩
  have X12 := hid (X11.out.trans hx12)
  clear hx12
  go_wp2_with fail
  refine (wnumP 2 _).mono ?_
  rintro e wk13 ⟨rfl, hx13⟩
  have X13 := hid (X12.out.trans hx13)
  clear hx13
  go_wp2_with fail
  refine (words1_ok ⟨#[119, 111, 114, 100, 115, 46, 114, 101, 112]⟩ _ _ _ ⟨#[97, 98, 97, 98]⟩ _ (calls_eq (show repV ⟨#[97, 98]⟩ 2 = wroteV ⟨#[97, 98, 97, 98]⟩ from by kernel_rfl) (ww_rep ⟨#[97, 98]⟩ 2 (by decide) _ _ _ (HW.out.later (X13.out.trans (Ext.alloc _ _))) (wrow2 (blk0 _ _) (by decide) (by decide))))).mono ?_
  rintro e wk14 ⟨rfl, hx14⟩
  have X14 := hid (X13.out.trans ((Ext.alloc _ _).trans hx14))
  clear hx14
  go_wp2_with fail
  refine (wtextP ⟨#[48, 53]⟩ _).mono ?_
  rintro e wk15 ⟨rfl, hx15⟩
  have X15 := hid (X14.out.trans hx15)
  clear hx15
  go_wp2_with fail
  refine (nums1_bad ⟨#[119, 111, 114, 100, 115, 46, 110, 117, 109]⟩ _ _ _ 24 (by decide) _ (calls_eq (num_05) (ww_num ⟨#[48, 53]⟩ (by decide) _ _ _ (HW.out.later (X15.out.trans (Ext.alloc _ _))) (wrow1 (blk0 _ _) (by decide))))).mono ?_
  rintro e wk16 ⟨rfl, hx16⟩
  have X16 := hid (X15.out.trans ((Ext.alloc _ _).trans hx16))
  clear hx16
  go_wp2_with fail
  refine (wnumP (-5) _).mono ?_
  rintro e wk17 ⟨rfl, hx17⟩
  have X17 := hid (X16.out.trans hx17)
  clear hx17
  go_wp2_with fail
  refine (words1_ok ⟨#[119, 111, 114, 100, 115, 46, 111, 102]⟩ _ _ _ ⟨#[45, 53]⟩ _ (calls_eq (of_m5) (ww_of (-5) (by unfold inR; decide) _ _ _ (HW.out.later (X17.out.trans (Ext.alloc _ _))) (wrow1 (blk0 _ _) (by decide))))).mono ?_
  rintro e wk18 ⟨rfl, hx18⟩
  have X18 := hid (X17.out.trans ((Ext.alloc _ _).trans hx18))
  clear hx18
  go_wp2_with fail
  refine (wtextP ⟨#[97]⟩ _).mono ?_
  rintro e wk19 ⟨rfl, hx19⟩
  have X19 := hid (X18.out.trans hx19)
  clear hx19
  go_wp2_with fail
  refine (wnumP 1 _).mono ?_
  rintro e wk20 ⟨rfl, hx20⟩
  have X20 := hid (X19.out.trans hx20)
  clear hx20
  go_wp2_with fail
  refine (words1_bad ⟨#[119, 111, 114, 100, 115, 46, 106, 111, 105, 110]⟩ _ _ _ 20 (by decide) _ (ww_bad ⟨#[97]⟩ 1 (by decide) _ _ _ (HW.out.later (X20.out.trans (Ext.alloc _ _))) (wrow2 (blk0 _ _) (by decide) (by decide)))).mono ?_
  rintro e wk21 ⟨rfl, hx21⟩
  have X21 := hid (X20.out.trans ((Ext.alloc _ _).trans hx21))
  clear hx21
  go_wp2_with fail
  refine (wordsKit_any _ (HL.out.later X21.out)).mono ?_
  rintro e wz ⟨base, kb, mb, lv', bx, rfl, hkm, hb, hxz⟩
  have HNM := hid (name_any hkm)
  have XZ := hid (X21.out.trans hxz)
  clear hkm hb hxz
  unfold wordsB at HNM
  go_wp2_with fail
  refine HNM.out.mono ?_
  rintro e w0 ⟨rfl, rfl⟩
  go_wp2_with fail
  go_ret
  exact ⟨rfl, XZ.out⟩

end Go.Proofs.YtgpggkepgoelfaaGreatDoor
