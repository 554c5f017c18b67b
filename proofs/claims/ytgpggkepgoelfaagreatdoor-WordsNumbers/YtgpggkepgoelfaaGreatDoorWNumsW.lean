/-
  WordsNumbers tells true.
-/
import Derived.Test.YtgpggkepgoelfaaGreatDoorWBeg
import Derived.Test.YtgpggkepgoelfaaGreatDoorWNumM
namespace Go.Proofs.YtgpggkepgoelfaaGreatDoor
open Go.RowKit
theorem weq_truth (b : Bool) (w : World) : (binOp .eql 29 (.iface 52 (.bool b)) (.iface 52 (.bool b))).run Tryz.prog w = .ok (.bool true) w := by cases b <;> kernel_rfl
set_option maxRecDepth 100000 in
set_option maxHeartbeats 4000000 in
theorem wordsNumbers_true (n : Int) (s u : ByteArray) (hn0 : inR n) (hs0 : s.size ≤ 140737488351232) (hu0 : u.size ≤ 140737488351232) (w : World) (hm : WAt w) (hl : Laid w) : Calls Tryz.prog 7 #[.int .i64 n, .string s, .string u] w fun e w' => e = .returned (.bool true) ∧ Ext w w' := by
  have HW := hid hm
  have HB := hid (begunW_any w hm hl)
  have HN := hid hn0
  have HS := hid hs0
  have HU := hid hu0
  have hsz : (s.size : Int) ≤ 140737488351232 := by omega
  have huz : (u.size : Int) ≤ 140737488351232 := by omega
  clear hm hl hs0 hn0 hu0
  by_cases hls : 65535 < s.size
  · have hl1 : (65535 : Int) < s.size := by omega
    clear hls
    go_enter Tryz.func7, Tryz.ntmps7
    go_wp2_with fail
    refine HB.out.mono ?_
    rintro e w1 ⟨rfl, hx1⟩
    have X1 := hid hx1
    clear hx1
    go_wp2_with fail
    go_ret
    exact ⟨rfl, X1.out⟩
  by_cases hlu : 65535 < u.size
  · have hl0 : ¬ (65535 : Int) < s.size := by omega
    have hl1 : (65535 : Int) < u.size := by omega
    clear hls hlu
    go_enter Tryz.func7, Tryz.ntmps7
    go_wp2_with fail
    refine HB.out.mono ?_
    rintro e w1 ⟨rfl, hx1⟩
    have X1 := hid hx1
    clear hx1
    go_wp2_with fail
    go_ret
    exact ⟨rfl, X1.out⟩
  have HS5 := hid (show s.size ≤ 65535 by omega)
  have HU5 := hid (show u.size ≤ 65535 by omega)
  have hl0 : ¬ (65535 : Int) < s.size := by omega
  have hl1 : ¬ (65535 : Int) < u.size := by omega
  have HT5 := hid (itoaS_small n HN.out)
  have HE1 := hid (show ofV n = wroteV (itoaS n) from rfl)
  have HE2 := hid (numV_itoa HN.out)
  have HT := hid (show (itoaS n).size ≤ 140737488351232 from Nat.le_trans HT5.out (by decide))
  have hq := weq_truth (Op.bytesLess s.toList u.toList)
  have HE5 := hid (show lessV s u = toldV (Op.bytesLess s.toList u.toList) from rfl)
  clear hls hlu
  generalize itoaS n = t at *
  rcases ho : numO s with _ | m
  · have HE3 := hid (show numV s = refV 24 by unfold numV; rw [ho])
    clear ho
    go_enter Tryz.func7, Tryz.ntmps7
    go_wp2_with fail
    refine HB.out.mono ?_
    rintro e w1 ⟨rfl, hx1⟩
    have X0 := hid hx1
    clear hx1
    go_wp2_with fail
    refine (wnumP n _).mono ?_
    rintro e wk1 ⟨rfl, hx1⟩
    have X1 := hid (X0.out.trans hx1)
    clear hx1
    go_wp2_with fail
    refine (words1_ok ⟨#[119, 111, 114, 100, 115, 46, 111, 102]⟩ _ _ _ t _ (calls_eq (HE1.out) (ww_of n HN.out _ _ _ (HW.out.later (X1.out.trans (Ext.alloc _ _))) (wrow1 (blk0 _ _) (by decide))))).mono ?_
    rintro e wk2 ⟨rfl, hx2⟩
    have X2 := hid (X1.out.trans ((Ext.alloc _ _).trans hx2))
    clear hx2
    go_wp2_with fail
    refine (wtextP t _).mono ?_
    rintro e wk3 ⟨rfl, hx3⟩
    have X3 := hid (X2.out.trans hx3)
    clear hx3
    go_wp2_with fail
    refine (nums1_ok ⟨#[119, 111, 114, 100, 115, 46, 110, 117, 109]⟩ _ _ _ n _ (calls_eq (HE2.out) (ww_num t HT5.out _ _ _ (HW.out.later (X3.out.trans (Ext.alloc _ _))) (wrow1 (blk0 _ _) HT.out)))).mono ?_
    rintro e wk4 ⟨rfl, hx4⟩
    have X4 := hid (X3.out.trans ((Ext.alloc _ _).trans hx4))
    clear hx4
    go_wp2_with fail
    refine (wtextP s _).mono ?_
    rintro e wk5 ⟨rfl, hx5⟩
    have X5 := hid (X4.out.trans hx5)
    clear hx5
    go_wp2_with fail
    refine (nums1_bad ⟨#[119, 111, 114, 100, 115, 46, 110, 117, 109]⟩ _ _ _ 24 (by decide) _ (calls_eq (HE3.out) (ww_num s HS5.out _ _ _ (HW.out.later (X5.out.trans (Ext.alloc _ _))) (wrow1 (blk0 _ _) HS.out)))).mono ?_
    rintro e wk6 ⟨rfl, hx6⟩
    have X6 := hid (X5.out.trans ((Ext.alloc _ _).trans hx6))
    clear hx6
    go_wp2_with fail
    refine (wtextP s _).mono ?_
    rintro e wk7 ⟨rfl, hx7⟩
    have X7 := hid (X6.out.trans hx7)
    clear hx7
    go_wp2_with fail
    refine (wtextP u _).mono ?_
    rintro e wk8 ⟨rfl, hx8⟩
    have X8 := hid (X7.out.trans hx8)
    clear hx8
    go_wp2_with fail
    refine (calls_eq (HE5.out) (ww_less s u HS5.out HU5.out _ _ _ (HW.out.later (X8.out.trans (Ext.alloc _ _))) (wrow2 (blk0 _ _) HS.out HU.out))).mono ?_
    rintro e wk9 ⟨rfl, hx9⟩
    have X9 := hid (X8.out.trans ((Ext.alloc _ _).trans hx9))
    clear hx9
    unfold toldV
    go_wp2_with fail
    go_ret
    exact ⟨rfl, X9.out⟩
  · have HE3 := hid (show numV s = cameV m by unfold numV; rw [ho])
    obtain ⟨hms, hmr⟩ := numO_some ho
    have HMR := hid hmr
    have HE4 := hid (show ofV m = wroteV s by unfold ofV; rw [hms])
    clear ho hms hmr
    go_enter Tryz.func7, Tryz.ntmps7
    go_wp2_with fail
    refine HB.out.mono ?_
    rintro e w1 ⟨rfl, hx1⟩
    have X0 := hid hx1
    clear hx1
    go_wp2_with fail
    refine (wnumP n _).mono ?_
    rintro e wk1 ⟨rfl, hx1⟩
    have X1 := hid (X0.out.trans hx1)
    clear hx1
    go_wp2_with fail
    refine (words1_ok ⟨#[119, 111, 114, 100, 115, 46, 111, 102]⟩ _ _ _ t _ (calls_eq (HE1.out) (ww_of n HN.out _ _ _ (HW.out.later (X1.out.trans (Ext.alloc _ _))) (wrow1 (blk0 _ _) (by decide))))).mono ?_
    rintro e wk2 ⟨rfl, hx2⟩
    have X2 := hid (X1.out.trans ((Ext.alloc _ _).trans hx2))
    clear hx2
    go_wp2_with fail
    refine (wtextP t _).mono ?_
    rintro e wk3 ⟨rfl, hx3⟩
    have X3 := hid (X2.out.trans hx3)
    clear hx3
    go_wp2_with fail
    refine (nums1_ok ⟨#[119, 111, 114, 100, 115, 46, 110, 117, 109]⟩ _ _ _ n _ (calls_eq (HE2.out) (ww_num t HT5.out _ _ _ (HW.out.later (X3.out.trans (Ext.alloc _ _))) (wrow1 (blk0 _ _) HT.out)))).mono ?_
    rintro e wk4 ⟨rfl, hx4⟩
    have X4 := hid (X3.out.trans ((Ext.alloc _ _).trans hx4))
    clear hx4
    go_wp2_with fail
    refine (wtextP s _).mono ?_
    rintro e wk5 ⟨rfl, hx5⟩
    have X5 := hid (X4.out.trans hx5)
    clear hx5
    go_wp2_with fail
    refine (nums1_ok ⟨#[119, 111, 114, 100, 115, 46, 110, 117, 109]⟩ _ _ _ m _ (calls_eq (HE3.out) (ww_num s HS5.out _ _ _ (HW.out.later (X5.out.trans (Ext.alloc _ _))) (wrow1 (blk0 _ _) HS.out)))).mono ?_
    rintro e wk6 ⟨rfl, hx6⟩
    have X6 := hid (X5.out.trans ((Ext.alloc _ _).trans hx6))
    clear hx6
    go_wp2_with fail
    refine (wnumP m _).mono ?_
    rintro e wk7 ⟨rfl, hx7⟩
    have X7 := hid (X6.out.trans hx7)
    clear hx7
    go_wp2_with fail
    refine (words1_ok ⟨#[119, 111, 114, 100, 115, 46, 111, 102]⟩ _ _ _ s _ (calls_eq (HE4.out) (ww_of m HMR.out _ _ _ (HW.out.later (X7.out.trans (Ext.alloc _ _))) (wrow1 (blk0 _ _) (by decide))))).mono ?_
    rintro e wk8 ⟨rfl, hx8⟩
    have X8 := hid (X7.out.trans ((Ext.alloc _ _).trans hx8))
    clear hx8
    go_wp2_with fail
    refine (wtextP s _).mono ?_
    rintro e wk9 ⟨rfl, hx9⟩
    have X9 := hid (X8.out.trans hx9)
    clear hx9
    go_wp2_with fail
    refine (wtextP u _).mono ?_
    rintro e wk10 ⟨rfl, hx10⟩
    have X10 := hid (X9.out.trans hx10)
    clear hx10
    go_wp2_with fail
    refine (calls_eq (HE5.out) (ww_less s u HS5.out HU5.out _ _ _ (HW.out.later (X10.out.trans (Ext.alloc _ _))) (wrow2 (blk0 _ _) HS.out HU.out))).mono ?_
    rintro e wk11 ⟨rfl, hx11⟩
    have X11 := hid (X10.out.trans ((Ext.alloc _ _).trans hx11))
    clear hx11
    unfold toldV
    go_wp2_with fail
    go_ret
    exact ⟨rfl, X11.out⟩

end Go.Proofs.YtgpggkepgoelfaaGreatDoor
