/-
  WordsPieces tells true.
-/
import Derived.Test.YtgpggkepgoelfaaGreatDoorWBeg
import Derived.Test.YtgpggkepgoelfaaGreatDoorWPieM
namespace Go.Proofs.YtgpggkepgoelfaaGreatDoor
open Go.RowKit
theorem pie_big {n : Nat} (h : n ≤ 65535) : n ≤ 140737488351232 := Nat.le_trans h (by decide)
set_option maxRecDepth 100000 in
set_option maxHeartbeats 4000000 in
theorem pie_ll (s u : ByteArray) (n : Int) (hs0 : s.size ≤ 140737488351232) (hu0 : u.size ≤ 140737488351232) (hls : 65535 < s.size) (hlu : 65535 < u.size) (w : World) (hm : WAt w) (hl : Laid w) : Calls Tryz.prog 6 #[.string s, .string u, .int .i64 n] w fun e w' => e = .returned (.bool true) ∧ Ext w w' := by
  have HW := hid hm
  have HB := hid (begunW_any w hm hl)
  have HS := hid hs0
  have HU := hid hu0
  have hsz : (s.size : Int) ≤ 140737488351232 := by omega
  have huz : (u.size : Int) ≤ 140737488351232 := by omega
  have HLS := hid hls
  have HLU := hid hlu
  have hs1 : (65535 : Int) < s.size := by omega
  have hu1 : (65535 : Int) < u.size := by omega
  clear hm hl hs0 hu0 hls hlu
  go_enter Tryz.func6, Tryz.ntmps6
  go_wp2_with fail
  refine HB.out.mono ?_
  rintro e w1 ⟨rfl, hx1⟩
  have X0 := hid hx1
  clear hx1
  go_wp2_with fail
  refine (wtextP s _).mono ?_
  rintro e wk1 ⟨rfl, hx1⟩
  have X1 := hid (X0.out.trans hx1)
  clear hx1
  go_wp2_with fail
  refine (nums1_bad ⟨#[119, 111, 114, 100, 115, 46, 115, 105, 122, 101]⟩ _ _ _ 1 (by decide) _ (ww_size_long s HLS.out _ _ _ (HW.out.later (X1.out.trans (Ext.alloc _ _))) (wrow1 (blk0 _ _) HS.out))).mono ?_
  rintro e wk2 ⟨rfl, hx2⟩
  have X2 := hid (X1.out.trans ((Ext.alloc _ _).trans hx2))
  clear hx2
  go_wp2_with fail
  refine (wtextP u _).mono ?_
  rintro e wk3 ⟨rfl, hx3⟩
  have X3 := hid (X2.out.trans hx3)
  clear hx3
  go_wp2_with fail
  refine (nums1_bad ⟨#[119, 111, 114, 100, 115, 46, 115, 105, 122, 101]⟩ _ _ _ 1 (by decide) _ (ww_size_long u HLU.out _ _ _ (HW.out.later (X3.out.trans (Ext.alloc _ _))) (wrow1 (blk0 _ _) HU.out))).mono ?_
  rintro e wk4 ⟨rfl, hx4⟩
  have X4 := hid (X3.out.trans ((Ext.alloc _ _).trans hx4))
  clear hx4
  go_wp2_with fail
  go_ret
  exact ⟨rfl, X4.out⟩
set_option maxRecDepth 100000 in
set_option maxHeartbeats 4000000 in
theorem pie_ls (s u : ByteArray) (n : Int) (hs0 : s.size ≤ 140737488351232) (hu0 : u.size ≤ 140737488351232) (hls : 65535 < s.size) (hlu : u.size ≤ 65535) (w : World) (hm : WAt w) (hl : Laid w) : Calls Tryz.prog 6 #[.string s, .string u, .int .i64 n] w fun e w' => e = .returned (.bool true) ∧ Ext w w' := by
  have HW := hid hm
  have HB := hid (begunW_any w hm hl)
  have HS := hid hs0
  have HU := hid hu0
  have hsz : (s.size : Int) ≤ 140737488351232 := by omega
  have huz : (u.size : Int) ≤ 140737488351232 := by omega
  have HLS := hid hls
  have HLU := hid hlu
  have hs1 : (65535 : Int) < s.size := by omega
  have hu1 : ¬ (65535 : Int) < u.size := by omega
  clear hm hl hs0 hu0 hls hlu
  have hu2 : decide ((65535 : Int) < u.size) = false := decide_eq_false hu1
  go_enter Tryz.func6, Tryz.ntmps6
  go_wp2_with fail
  refine HB.out.mono ?_
  rintro e w1 ⟨rfl, hx1⟩
  have X0 := hid hx1
  clear hx1
  go_wp2_with fail
  refine (wtextP s _).mono ?_
  rintro e wk1 ⟨rfl, hx1⟩
  have X1 := hid (X0.out.trans hx1)
  clear hx1
  go_wp2_with fail
  refine (nums1_bad ⟨#[119, 111, 114, 100, 115, 46, 115, 105, 122, 101]⟩ _ _ _ 1 (by decide) _ (ww_size_long s HLS.out _ _ _ (HW.out.later (X1.out.trans (Ext.alloc _ _))) (wrow1 (blk0 _ _) HS.out))).mono ?_
  rintro e wk2 ⟨rfl, hx2⟩
  have X2 := hid (X1.out.trans ((Ext.alloc _ _).trans hx2))
  clear hx2
  go_wp2_with fail
  refine (wtextP u _).mono ?_
  rintro e wk3 ⟨rfl, hx3⟩
  have X3 := hid (X2.out.trans hx3)
  clear hx3
  go_wp2_with fail
  refine (nums1_ok ⟨#[119, 111, 114, 100, 115, 46, 115, 105, 122, 101]⟩ _ _ _ (u.size : Int) _ (calls_eq (show sizeV _ = cameV _ from rfl) (ww_size u HLU.out _ _ _ (HW.out.later (X3.out.trans (Ext.alloc _ _))) (wrow1 (blk0 _ _) HU.out)))).mono ?_
  rintro e wk4 ⟨rfl, hx4⟩
  have X4 := hid (X3.out.trans ((Ext.alloc _ _).trans hx4))
  clear hx4
  go_wp2_with fail
  go_ret
  exact ⟨rfl, X4.out⟩
set_option maxRecDepth 100000 in
set_option maxHeartbeats 4000000 in
theorem pie_sl (s u : ByteArray) (n : Int) (hs0 : s.size ≤ 140737488351232) (hu0 : u.size ≤ 140737488351232) (hls : s.size ≤ 65535) (hlu : 65535 < u.size) (w : World) (hm : WAt w) (hl : Laid w) : Calls Tryz.prog 6 #[.string s, .string u, .int .i64 n] w fun e w' => e = .returned (.bool true) ∧ Ext w w' := by
  have HW := hid hm
  have HB := hid (begunW_any w hm hl)
  have HS := hid hs0
  have HU := hid hu0
  have hsz : (s.size : Int) ≤ 140737488351232 := by omega
  have huz : (u.size : Int) ≤ 140737488351232 := by omega
  have HLS := hid hls
  have HLU := hid hlu
  have hs1 : ¬ (65535 : Int) < s.size := by omega
  have hu1 : (65535 : Int) < u.size := by omega
  clear hm hl hs0 hu0 hls hlu
  have hs2 : decide ((65535 : Int) < s.size) = false := decide_eq_false hs1
  go_enter Tryz.func6, Tryz.ntmps6
  go_wp2_with fail
  refine HB.out.mono ?_
  rintro e w1 ⟨rfl, hx1⟩
  have X0 := hid hx1
  clear hx1
  go_wp2_with fail
  refine (wtextP s _).mono ?_
  rintro e wk1 ⟨rfl, hx1⟩
  have X1 := hid (X0.out.trans hx1)
  clear hx1
  go_wp2_with fail
  refine (nums1_ok ⟨#[119, 111, 114, 100, 115, 46, 115, 105, 122, 101]⟩ _ _ _ (s.size : Int) _ (calls_eq (show sizeV _ = cameV _ from rfl) (ww_size s HLS.out _ _ _ (HW.out.later (X1.out.trans (Ext.alloc _ _))) (wrow1 (blk0 _ _) HS.out)))).mono ?_
  rintro e wk2 ⟨rfl, hx2⟩
  have X2 := hid (X1.out.trans ((Ext.alloc _ _).trans hx2))
  clear hx2
  go_wp2_with fail
  refine (wtextP u _).mono ?_
  rintro e wk3 ⟨rfl, hx3⟩
  have X3 := hid (X2.out.trans hx3)
  clear hx3
  go_wp2_with fail
  refine (nums1_bad ⟨#[119, 111, 114, 100, 115, 46, 115, 105, 122, 101]⟩ _ _ _ 1 (by decide) _ (ww_size_long u HLU.out _ _ _ (HW.out.later (X3.out.trans (Ext.alloc _ _))) (wrow1 (blk0 _ _) HU.out))).mono ?_
  rintro e wk4 ⟨rfl, hx4⟩
  have X4 := hid (X3.out.trans ((Ext.alloc _ _).trans hx4))
  clear hx4
  go_wp2_with fail
  go_ret
  exact ⟨rfl, X4.out⟩
set_option maxRecDepth 100000 in
set_option maxHeartbeats 4000000 in
theorem pie_neg_long (s u : ByteArray) (n : Int) (hs0 : s.size ≤ 65535) (hu0 : u.size ≤ 65535) (hn : n < 0) (hj : 65535 < s.size + u.size) (w : World) (hm : WAt w) (hl : Laid w) : Calls Tryz.prog 6 #[.string s, .string u, .int .i64 n] w fun e w' => e = .returned (.bool true) ∧ Ext w w' := by
  have HW := hid hm
  have HB := hid (begunW_any w hm hl)
  have HS := hid hs0
  have HU := hid hu0
  have hsz : (s.size : Int) ≤ 65535 := by omega
  have huz : (u.size : Int) ≤ 65535 := by omega
  have hs1 : ¬ (65535 : Int) < s.size := by omega
  have hu1 : ¬ (65535 : Int) < u.size := by omega
  clear hm hl
  have HC1 := hid (show cutV s 0 n = refV 23 from if_neg (by omega))
  have HC2 := hid (show cutV s n s.size = refV 23 from if_neg (by omega))
  have n1 : n < 0 := by omega
  clear hn
  have HJ := hid (show joinV s u = refV 2 from if_neg (by omega))
  have j1 : (65535 : Int) < (s.size : Int) + u.size := by omega
  clear hj
  clear hs0 hu0
  go_enter Tryz.func6, Tryz.ntmps6
  go_wp2_with fail
  refine HB.out.mono ?_
  rintro e w1 ⟨rfl, hx1⟩
  have X0 := hid hx1
  clear hx1
  go_wp2_with fail
  refine (wtextP s _).mono ?_
  rintro e wk1 ⟨rfl, hx1⟩
  have X1 := hid (X0.out.trans hx1)
  clear hx1
  go_wp2_with fail
  refine (nums1_ok ⟨#[119, 111, 114, 100, 115, 46, 115, 105, 122, 101]⟩ _ _ _ (s.size : Int) _ (calls_eq (show sizeV _ = cameV _ from rfl) (ww_size s HS.out _ _ _ (HW.out.later (X1.out.trans (Ext.alloc _ _))) (wrow1 (blk0 _ _) (pie_big HS.out))))).mono ?_
  rintro e wk2 ⟨rfl, hx2⟩
  have X2 := hid (X1.out.trans ((Ext.alloc _ _).trans hx2))
  clear hx2
  go_wp2_with fail
  refine (wtextP s _).mono ?_
  rintro e wk3 ⟨rfl, hx3⟩
  have X3 := hid (X2.out.trans hx3)
  clear hx3
  go_wp2_with fail
  refine (wnumP 0 _).mono ?_
  rintro e wk4 ⟨rfl, hx4⟩
  have X4 := hid (X3.out.trans hx4)
  clear hx4
  go_wp2_with fail
  refine (wnumP n _).mono ?_
  rintro e wk5 ⟨rfl, hx5⟩
  have X5 := hid (X4.out.trans hx5)
  clear hx5
  go_wp2_with fail
  refine (words1_bad ⟨#[119, 111, 114, 100, 115, 46, 99, 117, 116]⟩ _ _ _ 23 (by decide) _ (calls_eq (HC1.out) (ww_cut s 0 n HS.out _ _ _ (HW.out.later (X5.out.trans (Ext.alloc _ _))) (wrow3 (blk0 _ _) (pie_big HS.out) (by decide) (by decide))))).mono ?_
  rintro e wk6 ⟨rfl, hx6⟩
  have X6 := hid (X5.out.trans ((Ext.alloc _ _).trans hx6))
  clear hx6
  go_wp2_with fail
  refine (wtextP s _).mono ?_
  rintro e wk7 ⟨rfl, hx7⟩
  have X7 := hid (X6.out.trans hx7)
  clear hx7
  go_wp2_with fail
  refine (wnumP n _).mono ?_
  rintro e wk8 ⟨rfl, hx8⟩
  have X8 := hid (X7.out.trans hx8)
  clear hx8
  go_wp2_with fail
  refine (wnumP (s.size : Int) _).mono ?_
  rintro e wk9 ⟨rfl, hx9⟩
  have X9 := hid (X8.out.trans hx9)
  clear hx9
  go_wp2_with fail
  refine (words1_bad ⟨#[119, 111, 114, 100, 115, 46, 99, 117, 116]⟩ _ _ _ 23 (by decide) _ (calls_eq (HC2.out) (ww_cut s n (s.size : Int) HS.out _ _ _ (HW.out.later (X9.out.trans (Ext.alloc _ _))) (wrow3 (blk0 _ _) (pie_big HS.out) (by decide) (by decide))))).mono ?_
  rintro e wk10 ⟨rfl, hx10⟩
  have X10 := hid (X9.out.trans ((Ext.alloc _ _).trans hx10))
  clear hx10
  go_wp2_with fail
  refine (wtextP s _).mono ?_
  rintro e wk11 ⟨rfl, hx11⟩
  have X11 := hid (X10.out.trans hx11)
  clear hx11
  go_wp2_with fail
  refine (wtextP u _).mono ?_
  rintro e wk12 ⟨rfl, hx12⟩
  have X12 := hid (X11.out.trans hx12)
  clear hx12
  go_wp2_with fail
  refine (words1_bad ⟨#[119, 111, 114, 100, 115, 46, 106, 111, 105, 110]⟩ _ _ _ 2 (by decide) _ (calls_eq (HJ.out) (ww_join s u HS.out HU.out _ _ _ (HW.out.later (X12.out.trans (Ext.alloc _ _))) (wrow2 (blk0 _ _) (pie_big HS.out) (pie_big HU.out))))).mono ?_
  rintro e wk13 ⟨rfl, hx13⟩
  have X13 := hid (X12.out.trans ((Ext.alloc _ _).trans hx13))
  clear hx13
  go_wp2_with fail
  go_ret
  exact ⟨rfl, X13.out⟩
set_option maxRecDepth 100000 in
set_option maxHeartbeats 4000000 in
theorem pie_neg_full (s u : ByteArray) (n : Int) (hs0 : s.size ≤ 65535) (hu0 : u.size ≤ 65535) (hn : n < 0) (hj : s.size + u.size ≤ 65535) (hf : s.size = 65535) (w : World) (hm : WAt w) (hl : Laid w) : Calls Tryz.prog 6 #[.string s, .string u, .int .i64 n] w fun e w' => e = .returned (.bool true) ∧ Ext w w' := by
  have HW := hid hm
  have HB := hid (begunW_any w hm hl)
  have HS := hid hs0
  have HU := hid hu0
  have hsz : (s.size : Int) ≤ 65535 := by omega
  have huz : (u.size : Int) ≤ 65535 := by omega
  have hs1 : ¬ (65535 : Int) < s.size := by omega
  have hu1 : ¬ (65535 : Int) < u.size := by omega
  clear hm hl
  have HC1 := hid (show cutV s 0 n = refV 23 from if_neg (by omega))
  have HC2 := hid (show cutV s n s.size = refV 23 from if_neg (by omega))
  have n1 : n < 0 := by omega
  clear hn
  obtain ⟨ix, hx1, hx2, hx3⟩ := ix_found s u
  have HJ := hid (show joinV s u = wroteV (s ++ u) from if_pos hj)
  have hjz : (s ++ u).size = s.size + u.size := ByteArray.size_append
  have HF := hid (show findV (s ++ u) u = cameV (ix : Int) by unfold findV; rw [hx1])
  have hadd3 := fun W => run_string_add_sum (P := Tryz.prog) (w := W) s u (by omega)
  generalize s ++ u = j at *
  have HJZ := hid (show j.size ≤ 65535 by omega)
  have hji : (j.size : Int) ≤ 65535 := by omega
  have j1 : ¬ (65535 : Int) < (s.size : Int) + u.size := by omega
  have hsx : (s ++ ⟨#[120]⟩ : ByteArray).size = s.size + 1 := ByteArray.size_append
  have hadd2 := fun W => run_string_add_sum (P := Tryz.prog) (w := W) s ⟨#[120]⟩ (by rw [show (⟨#[120]⟩ : ByteArray).size = 1 from rfl]; omega)
  have hfn := ix_none s
  generalize (s ++ ⟨#[120]⟩ : ByteArray) = sx at *
  have HSX := hid (show sx.size ≤ 140737488351232 by omega)
  obtain ⟨at0, hat⟩ : ∃ a : Int, (ix : Int) = a := ⟨_, rfl⟩
  have hy1 : 0 ≤ at0 := by omega
  have hy2 : ¬ at0 < 0 := by omega
  have hy3 : ¬ (s.size : Int) < at0 := by omega
  have hy4 : at0 + (u.size : Int) ≤ (j.size : Int) := by omega
  have hy5 : ¬ (j.size : Int) < at0 + (u.size : Int) := by omega
  have hy6 : at0 ≤ at0 + (u.size : Int) := by omega
  have hy7 : ¬ at0 + (u.size : Int) < at0 := by omega
  have hy8 : 0 ≤ at0 + (u.size : Int) := by omega
  have hy9 : at0 + (u.size : Int) ≤ 65535 := by omega
  have hex : j.extract at0.toNat (at0 + (u.size : Int)).toNat = u := by
    rw [← hat, Int.toNat_natCast, show ((ix : Int) + (u.size : Int)).toNat = ix + u.size by omega]
    exact hx3
  rw [hat] at HF
  clear hx1 hx2 hx3 hat
  have HL5 := hid (show 65535 < sx.size by omega)
  have f1 : (s.size : Int) = 65535 := by omega
  have f2 : ((s.size : Int) == 65535) = true := by rw [f1]; rfl
  clear hf f1 hsx hjz hj hfn
  clear hs0 hu0
  go_enter Tryz.func6, Tryz.ntmps6
  go_wp2_with fail
  refine HB.out.mono ?_
  rintro e w1 ⟨rfl, hx1⟩
  have X0 := hid hx1
  clear hx1
  go_wp2_with fail
  refine (wtextP s _).mono ?_
  rintro e wk1 ⟨rfl, hx1⟩
  have X1 := hid (X0.out.trans hx1)
  clear hx1
  go_wp2_with fail
  refine (nums1_ok ⟨#[119, 111, 114, 100, 115, 46, 115, 105, 122, 101]⟩ _ _ _ (s.size : Int) _ (calls_eq (show sizeV _ = cameV _ from rfl) (ww_size s HS.out _ _ _ (HW.out.later (X1.out.trans (Ext.alloc _ _))) (wrow1 (blk0 _ _) (pie_big HS.out))))).mono ?_
  rintro e wk2 ⟨rfl, hx2⟩
  have X2 := hid (X1.out.trans ((Ext.alloc _ _).trans hx2))
  clear hx2
  go_wp2_with fail
  refine (wtextP s _).mono ?_
  rintro e wk3 ⟨rfl, hx3⟩
  have X3 := hid (X2.out.trans hx3)
  clear hx3
  go_wp2_with fail
  refine (wnumP 0 _).mono ?_
  rintro e wk4 ⟨rfl, hx4⟩
  have X4 := hid (X3.out.trans hx4)
  clear hx4
  go_wp2_with fail
  refine (wnumP n _).mono ?_
  rintro e wk5 ⟨rfl, hx5⟩
  have X5 := hid (X4.out.trans hx5)
  clear hx5
  go_wp2_with fail
  refine (words1_bad ⟨#[119, 111, 114, 100, 115, 46, 99, 117, 116]⟩ _ _ _ 23 (by decide) _ (calls_eq (HC1.out) (ww_cut s 0 n HS.out _ _ _ (HW.out.later (X5.out.trans (Ext.alloc _ _))) (wrow3 (blk0 _ _) (pie_big HS.out) (by decide) (by decide))))).mono ?_
  rintro e wk6 ⟨rfl, hx6⟩
  have X6 := hid (X5.out.trans ((Ext.alloc _ _).trans hx6))
  clear hx6
  go_wp2_with fail
  refine (wtextP s _).mono ?_
  rintro e wk7 ⟨rfl, hx7⟩
  have X7 := hid (X6.out.trans hx7)
  clear hx7
  go_wp2_with fail
  refine (wnumP n _).mono ?_
  rintro e wk8 ⟨rfl, hx8⟩
  have X8 := hid (X7.out.trans hx8)
  clear hx8
  go_wp2_with fail
  refine (wnumP (s.size : Int) _).mono ?_
  rintro e wk9 ⟨rfl, hx9⟩
  have X9 := hid (X8.out.trans hx9)
  clear hx9
  go_wp2_with fail
  refine (words1_bad ⟨#[119, 111, 114, 100, 115, 46, 99, 117, 116]⟩ _ _ _ 23 (by decide) _ (calls_eq (HC2.out) (ww_cut s n (s.size : Int) HS.out _ _ _ (HW.out.later (X9.out.trans (Ext.alloc _ _))) (wrow3 (blk0 _ _) (pie_big HS.out) (by decide) (by decide))))).mono ?_
  rintro e wk10 ⟨rfl, hx10⟩
  have X10 := hid (X9.out.trans ((Ext.alloc _ _).trans hx10))
  clear hx10
  go_wp2_with fail
  refine (wtextP s _).mono ?_
  rintro e wk11 ⟨rfl, hx11⟩
  have X11 := hid (X10.out.trans hx11)
  clear hx11
  go_wp2_with fail
  refine (wtextP u _).mono ?_
  rintro e wk12 ⟨rfl, hx12⟩
  have X12 := hid (X11.out.trans hx12)
  clear hx12
  go_wp2_with fail
  refine (words1_ok ⟨#[119, 111, 114, 100, 115, 46, 106, 111, 105, 110]⟩ _ _ _ j _ (calls_eq (HJ.out) (ww_join s u HS.out HU.out _ _ _ (HW.out.later (X12.out.trans (Ext.alloc _ _))) (wrow2 (blk0 _ _) (pie_big HS.out) (pie_big HU.out))))).mono ?_
  rintro e wk13 ⟨rfl, hx13⟩
  have X13 := hid (X12.out.trans ((Ext.alloc _ _).trans hx13))
  clear hx13
  go_wp2_with fail
  refine (wtextP j _).mono ?_
  rintro e wk14 ⟨rfl, hx14⟩
  have X14 := hid (X13.out.trans hx14)
  clear hx14
  go_wp2_with fail
  refine (wtextP u _).mono ?_
  rintro e wk15 ⟨rfl, hx15⟩
  have X15 := hid (X14.out.trans hx15)
  clear hx15
  go_wp2_with fail
  refine (nums1_ok ⟨#[119, 111, 114, 100, 115, 46, 102, 105, 110, 100]⟩ _ _ _ at0 _ (calls_eq (HF.out) (ww_find j u HJZ.out HU.out _ _ _ (HW.out.later (X15.out.trans (Ext.alloc _ _))) (wrow2 (blk0 _ _) (pie_big HJZ.out) (pie_big HU.out))))).mono ?_
  rintro e wk16 ⟨rfl, hx16⟩
  have X16 := hid (X15.out.trans ((Ext.alloc _ _).trans hx16))
  clear hx16
  go_wp2_with fail
  refine (wtextP s _).mono ?_
  rintro e wk17 ⟨rfl, hx17⟩
  have X17 := hid (X16.out.trans hx17)
  clear hx17
  go_wp2_with fail
  refine (wtextP sx _).mono ?_
  rintro e wk18 ⟨rfl, hx18⟩
  have X18 := hid (X17.out.trans hx18)
  clear hx18
  go_wp2_with fail
  refine (nums1_bad ⟨#[119, 111, 114, 100, 115, 46, 102, 105, 110, 100]⟩ _ _ _ 1 (by decide) _ (ww_find_long s sx HL5.out _ _ _ (HW.out.later (X18.out.trans (Ext.alloc _ _))) (wrow2 (blk0 _ _) (pie_big HS.out) HSX.out))).mono ?_
  rintro e wk19 ⟨rfl, hx19⟩
  have X19 := hid (X18.out.trans ((Ext.alloc _ _).trans hx19))
  clear hx19
  go_wp2_with fail
  go_ret
  exact ⟨rfl, X19.out⟩
set_option maxRecDepth 100000 in
set_option maxHeartbeats 4000000 in
theorem pie_neg_fits (s u : ByteArray) (n : Int) (hs0 : s.size ≤ 65535) (hu0 : u.size ≤ 65535) (hn : n < 0) (hj : s.size + u.size ≤ 65535) (hf : s.size < 65535) (w : World) (hm : WAt w) (hl : Laid w) : Calls Tryz.prog 6 #[.string s, .string u, .int .i64 n] w fun e w' => e = .returned (.bool true) ∧ Ext w w' := by
  have HW := hid hm
  have HB := hid (begunW_any w hm hl)
  have HS := hid hs0
  have HU := hid hu0
  have hsz : (s.size : Int) ≤ 65535 := by omega
  have huz : (u.size : Int) ≤ 65535 := by omega
  have hs1 : ¬ (65535 : Int) < s.size := by omega
  have hu1 : ¬ (65535 : Int) < u.size := by omega
  clear hm hl
  have HC1 := hid (show cutV s 0 n = refV 23 from if_neg (by omega))
  have HC2 := hid (show cutV s n s.size = refV 23 from if_neg (by omega))
  have n1 : n < 0 := by omega
  clear hn
  obtain ⟨ix, hx1, hx2, hx3⟩ := ix_found s u
  have HJ := hid (show joinV s u = wroteV (s ++ u) from if_pos hj)
  have hjz : (s ++ u).size = s.size + u.size := ByteArray.size_append
  have HF := hid (show findV (s ++ u) u = cameV (ix : Int) by unfold findV; rw [hx1])
  have hadd3 := fun W => run_string_add_sum (P := Tryz.prog) (w := W) s u (by omega)
  generalize s ++ u = j at *
  have HJZ := hid (show j.size ≤ 65535 by omega)
  have hji : (j.size : Int) ≤ 65535 := by omega
  have j1 : ¬ (65535 : Int) < (s.size : Int) + u.size := by omega
  have hsx : (s ++ ⟨#[120]⟩ : ByteArray).size = s.size + 1 := ByteArray.size_append
  have hadd2 := fun W => run_string_add_sum (P := Tryz.prog) (w := W) s ⟨#[120]⟩ (by rw [show (⟨#[120]⟩ : ByteArray).size = 1 from rfl]; omega)
  have hfn := ix_none s
  generalize (s ++ ⟨#[120]⟩ : ByteArray) = sx at *
  have HSX := hid (show sx.size ≤ 140737488351232 by omega)
  obtain ⟨at0, hat⟩ : ∃ a : Int, (ix : Int) = a := ⟨_, rfl⟩
  have hy1 : 0 ≤ at0 := by omega
  have hy2 : ¬ at0 < 0 := by omega
  have hy3 : ¬ (s.size : Int) < at0 := by omega
  have hy4 : at0 + (u.size : Int) ≤ (j.size : Int) := by omega
  have hy5 : ¬ (j.size : Int) < at0 + (u.size : Int) := by omega
  have hy6 : at0 ≤ at0 + (u.size : Int) := by omega
  have hy7 : ¬ at0 + (u.size : Int) < at0 := by omega
  have hy8 : 0 ≤ at0 + (u.size : Int) := by omega
  have hy9 : at0 + (u.size : Int) ≤ 65535 := by omega
  have hex : j.extract at0.toNat (at0 + (u.size : Int)).toNat = u := by
    rw [← hat, Int.toNat_natCast, show ((ix : Int) + (u.size : Int)).toNat = ix + u.size by omega]
    exact hx3
  rw [hat] at HF
  clear hx1 hx2 hx3 hat
  have HL5 := hid (show sx.size ≤ 65535 by omega)
  have HF2 := hid (show findV s sx = cameV (-1) by unfold findV; rw [hfn])
  have f1 : ¬ (s.size : Int) = 65535 := by omega
  have f2 : ((s.size : Int) == 65535) = false := by simpa using f1
  clear hf hsx hjz hj hfn
  clear hs0 hu0
  go_enter Tryz.func6, Tryz.ntmps6
  go_wp2_with fail
  refine HB.out.mono ?_
  rintro e w1 ⟨rfl, hx1⟩
  have X0 := hid hx1
  clear hx1
  go_wp2_with fail
  refine (wtextP s _).mono ?_
  rintro e wk1 ⟨rfl, hx1⟩
  have X1 := hid (X0.out.trans hx1)
  clear hx1
  go_wp2_with fail
  refine (nums1_ok ⟨#[119, 111, 114, 100, 115, 46, 115, 105, 122, 101]⟩ _ _ _ (s.size : Int) _ (calls_eq (show sizeV _ = cameV _ from rfl) (ww_size s HS.out _ _ _ (HW.out.later (X1.out.trans (Ext.alloc _ _))) (wrow1 (blk0 _ _) (pie_big HS.out))))).mono ?_
  rintro e wk2 ⟨rfl, hx2⟩
  have X2 := hid (X1.out.trans ((Ext.alloc _ _).trans hx2))
  clear hx2
  go_wp2_with fail
  refine (wtextP s _).mono ?_
  rintro e wk3 ⟨rfl, hx3⟩
  have X3 := hid (X2.out.trans hx3)
  clear hx3
  go_wp2_with fail
  refine (wnumP 0 _).mono ?_
  rintro e wk4 ⟨rfl, hx4⟩
  have X4 := hid (X3.out.trans hx4)
  clear hx4
  go_wp2_with fail
  refine (wnumP n _).mono ?_
  rintro e wk5 ⟨rfl, hx5⟩
  have X5 := hid (X4.out.trans hx5)
  clear hx5
  go_wp2_with fail
  refine (words1_bad ⟨#[119, 111, 114, 100, 115, 46, 99, 117, 116]⟩ _ _ _ 23 (by decide) _ (calls_eq (HC1.out) (ww_cut s 0 n HS.out _ _ _ (HW.out.later (X5.out.trans (Ext.alloc _ _))) (wrow3 (blk0 _ _) (pie_big HS.out) (by decide) (by decide))))).mono ?_
  rintro e wk6 ⟨rfl, hx6⟩
  have X6 := hid (X5.out.trans ((Ext.alloc _ _).trans hx6))
  clear hx6
  go_wp2_with fail
  refine (wtextP s _).mono ?_
  rintro e wk7 ⟨rfl, hx7⟩
  have X7 := hid (X6.out.trans hx7)
  clear hx7
  go_wp2_with fail
  refine (wnumP n _).mono ?_
  rintro e wk8 ⟨rfl, hx8⟩
  have X8 := hid (X7.out.trans hx8)
  clear hx8
  go_wp2_with fail
  refine (wnumP (s.size : Int) _).mono ?_
  rintro e wk9 ⟨rfl, hx9⟩
  have X9 := hid (X8.out.trans hx9)
  clear hx9
  go_wp2_with fail
  refine (words1_bad ⟨#[119, 111, 114, 100, 115, 46, 99, 117, 116]⟩ _ _ _ 23 (by decide) _ (calls_eq (HC2.out) (ww_cut s n (s.size : Int) HS.out _ _ _ (HW.out.later (X9.out.trans (Ext.alloc _ _))) (wrow3 (blk0 _ _) (pie_big HS.out) (by decide) (by decide))))).mono ?_
  rintro e wk10 ⟨rfl, hx10⟩
  have X10 := hid (X9.out.trans ((Ext.alloc _ _).trans hx10))
  clear hx10
  go_wp2_with fail
  refine (wtextP s _).mono ?_
  rintro e wk11 ⟨rfl, hx11⟩
  have X11 := hid (X10.out.trans hx11)
  clear hx11
  go_wp2_with fail
  refine (wtextP u _).mono ?_
  rintro e wk12 ⟨rfl, hx12⟩
  have X12 := hid (X11.out.trans hx12)
  clear hx12
  go_wp2_with fail
  refine (words1_ok ⟨#[119, 111, 114, 100, 115, 46, 106, 111, 105, 110]⟩ _ _ _ j _ (calls_eq (HJ.out) (ww_join s u HS.out HU.out _ _ _ (HW.out.later (X12.out.trans (Ext.alloc _ _))) (wrow2 (blk0 _ _) (pie_big HS.out) (pie_big HU.out))))).mono ?_
  rintro e wk13 ⟨rfl, hx13⟩
  have X13 := hid (X12.out.trans ((Ext.alloc _ _).trans hx13))
  clear hx13
  go_wp2_with fail
  refine (wtextP j _).mono ?_
  rintro e wk14 ⟨rfl, hx14⟩
  have X14 := hid (X13.out.trans hx14)
  clear hx14
  go_wp2_with fail
  refine (wtextP u _).mono ?_
  rintro e wk15 ⟨rfl, hx15⟩
  have X15 := hid (X14.out.trans hx15)
  clear hx15
  go_wp2_with fail
  refine (nums1_ok ⟨#[119, 111, 114, 100, 115, 46, 102, 105, 110, 100]⟩ _ _ _ at0 _ (calls_eq (HF.out) (ww_find j u HJZ.out HU.out _ _ _ (HW.out.later (X15.out.trans (Ext.alloc _ _))) (wrow2 (blk0 _ _) (pie_big HJZ.out) (pie_big HU.out))))).mono ?_
  rintro e wk16 ⟨rfl, hx16⟩
  have X16 := hid (X15.out.trans ((Ext.alloc _ _).trans hx16))
  clear hx16
  go_wp2_with fail
  refine (wtextP s _).mono ?_
  rintro e wk17 ⟨rfl, hx17⟩
  have X17 := hid (X16.out.trans hx17)
  clear hx17
  go_wp2_with fail
  refine (wtextP sx _).mono ?_
  rintro e wk18 ⟨rfl, hx18⟩
  have X18 := hid (X17.out.trans hx18)
  clear hx18
  go_wp2_with fail
  refine (nums1_ok ⟨#[119, 111, 114, 100, 115, 46, 102, 105, 110, 100]⟩ _ _ _ (-1) _ (calls_eq (HF2.out) (ww_find s sx HS.out HL5.out _ _ _ (HW.out.later (X18.out.trans (Ext.alloc _ _))) (wrow2 (blk0 _ _) (pie_big HS.out) HSX.out)))).mono ?_
  rintro e wk19 ⟨rfl, hx19⟩
  have X19 := hid (X18.out.trans ((Ext.alloc _ _).trans hx19))
  clear hx19
  go_wp2_with fail
  go_ret
  exact ⟨rfl, X19.out⟩
set_option maxRecDepth 100000 in
set_option maxHeartbeats 4000000 in
theorem pie_over_long (s u : ByteArray) (n : Int) (hs0 : s.size ≤ 65535) (hu0 : u.size ≤ 65535) (hn : (s.size : Int) < n) (hj : 65535 < s.size + u.size) (w : World) (hm : WAt w) (hl : Laid w) : Calls Tryz.prog 6 #[.string s, .string u, .int .i64 n] w fun e w' => e = .returned (.bool true) ∧ Ext w w' := by
  have HW := hid hm
  have HB := hid (begunW_any w hm hl)
  have HS := hid hs0
  have HU := hid hu0
  have hsz : (s.size : Int) ≤ 65535 := by omega
  have huz : (u.size : Int) ≤ 65535 := by omega
  have hs1 : ¬ (65535 : Int) < s.size := by omega
  have hu1 : ¬ (65535 : Int) < u.size := by omega
  clear hm hl
  have HC1 := hid (show cutV s 0 n = refV 23 from if_neg (by omega))
  have HC2 := hid (show cutV s n s.size = refV 23 from if_neg (by omega))
  have n1 : ¬ n < 0 := by omega
  have n2 : (s.size : Int) < n := hn
  clear hn
  have HJ := hid (show joinV s u = refV 2 from if_neg (by omega))
  have j1 : (65535 : Int) < (s.size : Int) + u.size := by omega
  clear hj
  clear hs0 hu0
  go_enter Tryz.func6, Tryz.ntmps6
  go_wp2_with fail
  refine HB.out.mono ?_
  rintro e w1 ⟨rfl, hx1⟩
  have X0 := hid hx1
  clear hx1
  go_wp2_with fail
  refine (wtextP s _).mono ?_
  rintro e wk1 ⟨rfl, hx1⟩
  have X1 := hid (X0.out.trans hx1)
  clear hx1
  go_wp2_with fail
  refine (nums1_ok ⟨#[119, 111, 114, 100, 115, 46, 115, 105, 122, 101]⟩ _ _ _ (s.size : Int) _ (calls_eq (show sizeV _ = cameV _ from rfl) (ww_size s HS.out _ _ _ (HW.out.later (X1.out.trans (Ext.alloc _ _))) (wrow1 (blk0 _ _) (pie_big HS.out))))).mono ?_
  rintro e wk2 ⟨rfl, hx2⟩
  have X2 := hid (X1.out.trans ((Ext.alloc _ _).trans hx2))
  clear hx2
  go_wp2_with fail
  refine (wtextP s _).mono ?_
  rintro e wk3 ⟨rfl, hx3⟩
  have X3 := hid (X2.out.trans hx3)
  clear hx3
  go_wp2_with fail
  refine (wnumP 0 _).mono ?_
  rintro e wk4 ⟨rfl, hx4⟩
  have X4 := hid (X3.out.trans hx4)
  clear hx4
  go_wp2_with fail
  refine (wnumP n _).mono ?_
  rintro e wk5 ⟨rfl, hx5⟩
  have X5 := hid (X4.out.trans hx5)
  clear hx5
  go_wp2_with fail
  refine (words1_bad ⟨#[119, 111, 114, 100, 115, 46, 99, 117, 116]⟩ _ _ _ 23 (by decide) _ (calls_eq (HC1.out) (ww_cut s 0 n HS.out _ _ _ (HW.out.later (X5.out.trans (Ext.alloc _ _))) (wrow3 (blk0 _ _) (pie_big HS.out) (by decide) (by decide))))).mono ?_
  rintro e wk6 ⟨rfl, hx6⟩
  have X6 := hid (X5.out.trans ((Ext.alloc _ _).trans hx6))
  clear hx6
  go_wp2_with fail
  refine (wtextP s _).mono ?_
  rintro e wk7 ⟨rfl, hx7⟩
  have X7 := hid (X6.out.trans hx7)
  clear hx7
  go_wp2_with fail
  refine (wnumP n _).mono ?_
  rintro e wk8 ⟨rfl, hx8⟩
  have X8 := hid (X7.out.trans hx8)
  clear hx8
  go_wp2_with fail
  refine (wnumP (s.size : Int) _).mono ?_
  rintro e wk9 ⟨rfl, hx9⟩
  have X9 := hid (X8.out.trans hx9)
  clear hx9
  go_wp2_with fail
  refine (words1_bad ⟨#[119, 111, 114, 100, 115, 46, 99, 117, 116]⟩ _ _ _ 23 (by decide) _ (calls_eq (HC2.out) (ww_cut s n (s.size : Int) HS.out _ _ _ (HW.out.later (X9.out.trans (Ext.alloc _ _))) (wrow3 (blk0 _ _) (pie_big HS.out) (by decide) (by decide))))).mono ?_
  rintro e wk10 ⟨rfl, hx10⟩
  have X10 := hid (X9.out.trans ((Ext.alloc _ _).trans hx10))
  clear hx10
  go_wp2_with fail
  refine (wtextP s _).mono ?_
  rintro e wk11 ⟨rfl, hx11⟩
  have X11 := hid (X10.out.trans hx11)
  clear hx11
  go_wp2_with fail
  refine (wtextP u _).mono ?_
  rintro e wk12 ⟨rfl, hx12⟩
  have X12 := hid (X11.out.trans hx12)
  clear hx12
  go_wp2_with fail
  refine (words1_bad ⟨#[119, 111, 114, 100, 115, 46, 106, 111, 105, 110]⟩ _ _ _ 2 (by decide) _ (calls_eq (HJ.out) (ww_join s u HS.out HU.out _ _ _ (HW.out.later (X12.out.trans (Ext.alloc _ _))) (wrow2 (blk0 _ _) (pie_big HS.out) (pie_big HU.out))))).mono ?_
  rintro e wk13 ⟨rfl, hx13⟩
  have X13 := hid (X12.out.trans ((Ext.alloc _ _).trans hx13))
  clear hx13
  go_wp2_with fail
  go_ret
  exact ⟨rfl, X13.out⟩
set_option maxRecDepth 100000 in
set_option maxHeartbeats 4000000 in
theorem pie_over_full (s u : ByteArray) (n : Int) (hs0 : s.size ≤ 65535) (hu0 : u.size ≤ 65535) (hn : (s.size : Int) < n) (hj : s.size + u.size ≤ 65535) (hf : s.size = 65535) (w : World) (hm : WAt w) (hl : Laid w) : Calls Tryz.prog 6 #[.string s, .string u, .int .i64 n] w fun e w' => e = .returned (.bool true) ∧ Ext w w' := by
  have HW := hid hm
  have HB := hid (begunW_any w hm hl)
  have HS := hid hs0
  have HU := hid hu0
  have hsz : (s.size : Int) ≤ 65535 := by omega
  have huz : (u.size : Int) ≤ 65535 := by omega
  have hs1 : ¬ (65535 : Int) < s.size := by omega
  have hu1 : ¬ (65535 : Int) < u.size := by omega
  clear hm hl
  have HC1 := hid (show cutV s 0 n = refV 23 from if_neg (by omega))
  have HC2 := hid (show cutV s n s.size = refV 23 from if_neg (by omega))
  have n1 : ¬ n < 0 := by omega
  have n2 : (s.size : Int) < n := hn
  clear hn
  obtain ⟨ix, hx1, hx2, hx3⟩ := ix_found s u
  have HJ := hid (show joinV s u = wroteV (s ++ u) from if_pos hj)
  have hjz : (s ++ u).size = s.size + u.size := ByteArray.size_append
  have HF := hid (show findV (s ++ u) u = cameV (ix : Int) by unfold findV; rw [hx1])
  have hadd3 := fun W => run_string_add_sum (P := Tryz.prog) (w := W) s u (by omega)
  generalize s ++ u = j at *
  have HJZ := hid (show j.size ≤ 65535 by omega)
  have hji : (j.size : Int) ≤ 65535 := by omega
  have j1 : ¬ (65535 : Int) < (s.size : Int) + u.size := by omega
  have hsx : (s ++ ⟨#[120]⟩ : ByteArray).size = s.size + 1 := ByteArray.size_append
  have hadd2 := fun W => run_string_add_sum (P := Tryz.prog) (w := W) s ⟨#[120]⟩ (by rw [show (⟨#[120]⟩ : ByteArray).size = 1 from rfl]; omega)
  have hfn := ix_none s
  generalize (s ++ ⟨#[120]⟩ : ByteArray) = sx at *
  have HSX := hid (show sx.size ≤ 140737488351232 by omega)
  obtain ⟨at0, hat⟩ : ∃ a : Int, (ix : Int) = a := ⟨_, rfl⟩
  have hy1 : 0 ≤ at0 := by omega
  have hy2 : ¬ at0 < 0 := by omega
  have hy3 : ¬ (s.size : Int) < at0 := by omega
  have hy4 : at0 + (u.size : Int) ≤ (j.size : Int) := by omega
  have hy5 : ¬ (j.size : Int) < at0 + (u.size : Int) := by omega
  have hy6 : at0 ≤ at0 + (u.size : Int) := by omega
  have hy7 : ¬ at0 + (u.size : Int) < at0 := by omega
  have hy8 : 0 ≤ at0 + (u.size : Int) := by omega
  have hy9 : at0 + (u.size : Int) ≤ 65535 := by omega
  have hex : j.extract at0.toNat (at0 + (u.size : Int)).toNat = u := by
    rw [← hat, Int.toNat_natCast, show ((ix : Int) + (u.size : Int)).toNat = ix + u.size by omega]
    exact hx3
  rw [hat] at HF
  clear hx1 hx2 hx3 hat
  have HL5 := hid (show 65535 < sx.size by omega)
  have f1 : (s.size : Int) = 65535 := by omega
  have f2 : ((s.size : Int) == 65535) = true := by rw [f1]; rfl
  clear hf f1 hsx hjz hj hfn
  clear hs0 hu0
  go_enter Tryz.func6, Tryz.ntmps6
  go_wp2_with fail
  refine HB.out.mono ?_
  rintro e w1 ⟨rfl, hx1⟩
  have X0 := hid hx1
  clear hx1
  go_wp2_with fail
  refine (wtextP s _).mono ?_
  rintro e wk1 ⟨rfl, hx1⟩
  have X1 := hid (X0.out.trans hx1)
  clear hx1
  go_wp2_with fail
  refine (nums1_ok ⟨#[119, 111, 114, 100, 115, 46, 115, 105, 122, 101]⟩ _ _ _ (s.size : Int) _ (calls_eq (show sizeV _ = cameV _ from rfl) (ww_size s HS.out _ _ _ (HW.out.later (X1.out.trans (Ext.alloc _ _))) (wrow1 (blk0 _ _) (pie_big HS.out))))).mono ?_
  rintro e wk2 ⟨rfl, hx2⟩
  have X2 := hid (X1.out.trans ((Ext.alloc _ _).trans hx2))
  clear hx2
  go_wp2_with fail
  refine (wtextP s _).mono ?_
  rintro e wk3 ⟨rfl, hx3⟩
  have X3 := hid (X2.out.trans hx3)
  clear hx3
  go_wp2_with fail
  refine (wnumP 0 _).mono ?_
  rintro e wk4 ⟨rfl, hx4⟩
  have X4 := hid (X3.out.trans hx4)
  clear hx4
  go_wp2_with fail
  refine (wnumP n _).mono ?_
  rintro e wk5 ⟨rfl, hx5⟩
  have X5 := hid (X4.out.trans hx5)
  clear hx5
  go_wp2_with fail
  refine (words1_bad ⟨#[119, 111, 114, 100, 115, 46, 99, 117, 116]⟩ _ _ _ 23 (by decide) _ (calls_eq (HC1.out) (ww_cut s 0 n HS.out _ _ _ (HW.out.later (X5.out.trans (Ext.alloc _ _))) (wrow3 (blk0 _ _) (pie_big HS.out) (by decide) (by decide))))).mono ?_
  rintro e wk6 ⟨rfl, hx6⟩
  have X6 := hid (X5.out.trans ((Ext.alloc _ _).trans hx6))
  clear hx6
  go_wp2_with fail
  refine (wtextP s _).mono ?_
  rintro e wk7 ⟨rfl, hx7⟩
  have X7 := hid (X6.out.trans hx7)
  clear hx7
  go_wp2_with fail
  refine (wnumP n _).mono ?_
  rintro e wk8 ⟨rfl, hx8⟩
  have X8 := hid (X7.out.trans hx8)
  clear hx8
  go_wp2_with fail
  refine (wnumP (s.size : Int) _).mono ?_
  rintro e wk9 ⟨rfl, hx9⟩
  have X9 := hid (X8.out.trans hx9)
  clear hx9
  go_wp2_with fail
  refine (words1_bad ⟨#[119, 111, 114, 100, 115, 46, 99, 117, 116]⟩ _ _ _ 23 (by decide) _ (calls_eq (HC2.out) (ww_cut s n (s.size : Int) HS.out _ _ _ (HW.out.later (X9.out.trans (Ext.alloc _ _))) (wrow3 (blk0 _ _) (pie_big HS.out) (by decide) (by decide))))).mono ?_
  rintro e wk10 ⟨rfl, hx10⟩
  have X10 := hid (X9.out.trans ((Ext.alloc _ _).trans hx10))
  clear hx10
  go_wp2_with fail
  refine (wtextP s _).mono ?_
  rintro e wk11 ⟨rfl, hx11⟩
  have X11 := hid (X10.out.trans hx11)
  clear hx11
  go_wp2_with fail
  refine (wtextP u _).mono ?_
  rintro e wk12 ⟨rfl, hx12⟩
  have X12 := hid (X11.out.trans hx12)
  clear hx12
  go_wp2_with fail
  refine (words1_ok ⟨#[119, 111, 114, 100, 115, 46, 106, 111, 105, 110]⟩ _ _ _ j _ (calls_eq (HJ.out) (ww_join s u HS.out HU.out _ _ _ (HW.out.later (X12.out.trans (Ext.alloc _ _))) (wrow2 (blk0 _ _) (pie_big HS.out) (pie_big HU.out))))).mono ?_
  rintro e wk13 ⟨rfl, hx13⟩
  have X13 := hid (X12.out.trans ((Ext.alloc _ _).trans hx13))
  clear hx13
  go_wp2_with fail
  refine (wtextP j _).mono ?_
  rintro e wk14 ⟨rfl, hx14⟩
  have X14 := hid (X13.out.trans hx14)
  clear hx14
  go_wp2_with fail
  refine (wtextP u _).mono ?_
  rintro e wk15 ⟨rfl, hx15⟩
  have X15 := hid (X14.out.trans hx15)
  clear hx15
  go_wp2_with fail
  refine (nums1_ok ⟨#[119, 111, 114, 100, 115, 46, 102, 105, 110, 100]⟩ _ _ _ at0 _ (calls_eq (HF.out) (ww_find j u HJZ.out HU.out _ _ _ (HW.out.later (X15.out.trans (Ext.alloc _ _))) (wrow2 (blk0 _ _) (pie_big HJZ.out) (pie_big HU.out))))).mono ?_
  rintro e wk16 ⟨rfl, hx16⟩
  have X16 := hid (X15.out.trans ((Ext.alloc _ _).trans hx16))
  clear hx16
  go_wp2_with fail
  refine (wtextP s _).mono ?_
  rintro e wk17 ⟨rfl, hx17⟩
  have X17 := hid (X16.out.trans hx17)
  clear hx17
  go_wp2_with fail
  refine (wtextP sx _).mono ?_
  rintro e wk18 ⟨rfl, hx18⟩
  have X18 := hid (X17.out.trans hx18)
  clear hx18
  go_wp2_with fail
  refine (nums1_bad ⟨#[119, 111, 114, 100, 115, 46, 102, 105, 110, 100]⟩ _ _ _ 1 (by decide) _ (ww_find_long s sx HL5.out _ _ _ (HW.out.later (X18.out.trans (Ext.alloc _ _))) (wrow2 (blk0 _ _) (pie_big HS.out) HSX.out))).mono ?_
  rintro e wk19 ⟨rfl, hx19⟩
  have X19 := hid (X18.out.trans ((Ext.alloc _ _).trans hx19))
  clear hx19
  go_wp2_with fail
  go_ret
  exact ⟨rfl, X19.out⟩
set_option maxRecDepth 100000 in
set_option maxHeartbeats 4000000 in
theorem pie_over_fits (s u : ByteArray) (n : Int) (hs0 : s.size ≤ 65535) (hu0 : u.size ≤ 65535) (hn : (s.size : Int) < n) (hj : s.size + u.size ≤ 65535) (hf : s.size < 65535) (w : World) (hm : WAt w) (hl : Laid w) : Calls Tryz.prog 6 #[.string s, .string u, .int .i64 n] w fun e w' => e = .returned (.bool true) ∧ Ext w w' := by
  have HW := hid hm
  have HB := hid (begunW_any w hm hl)
  have HS := hid hs0
  have HU := hid hu0
  have hsz : (s.size : Int) ≤ 65535 := by omega
  have huz : (u.size : Int) ≤ 65535 := by omega
  have hs1 : ¬ (65535 : Int) < s.size := by omega
  have hu1 : ¬ (65535 : Int) < u.size := by omega
  clear hm hl
  have HC1 := hid (show cutV s 0 n = refV 23 from if_neg (by omega))
  have HC2 := hid (show cutV s n s.size = refV 23 from if_neg (by omega))
  have n1 : ¬ n < 0 := by omega
  have n2 : (s.size : Int) < n := hn
  clear hn
  obtain ⟨ix, hx1, hx2, hx3⟩ := ix_found s u
  have HJ := hid (show joinV s u = wroteV (s ++ u) from if_pos hj)
  have hjz : (s ++ u).size = s.size + u.size := ByteArray.size_append
  have HF := hid (show findV (s ++ u) u = cameV (ix : Int) by unfold findV; rw [hx1])
  have hadd3 := fun W => run_string_add_sum (P := Tryz.prog) (w := W) s u (by omega)
  generalize s ++ u = j at *
  have HJZ := hid (show j.size ≤ 65535 by omega)
  have hji : (j.size : Int) ≤ 65535 := by omega
  have j1 : ¬ (65535 : Int) < (s.size : Int) + u.size := by omega
  have hsx : (s ++ ⟨#[120]⟩ : ByteArray).size = s.size + 1 := ByteArray.size_append
  have hadd2 := fun W => run_string_add_sum (P := Tryz.prog) (w := W) s ⟨#[120]⟩ (by rw [show (⟨#[120]⟩ : ByteArray).size = 1 from rfl]; omega)
  have hfn := ix_none s
  generalize (s ++ ⟨#[120]⟩ : ByteArray) = sx at *
  have HSX := hid (show sx.size ≤ 140737488351232 by omega)
  obtain ⟨at0, hat⟩ : ∃ a : Int, (ix : Int) = a := ⟨_, rfl⟩
  have hy1 : 0 ≤ at0 := by omega
  have hy2 : ¬ at0 < 0 := by omega
  have hy3 : ¬ (s.size : Int) < at0 := by omega
  have hy4 : at0 + (u.size : Int) ≤ (j.size : Int) := by omega
  have hy5 : ¬ (j.size : Int) < at0 + (u.size : Int) := by omega
  have hy6 : at0 ≤ at0 + (u.size : Int) := by omega
  have hy7 : ¬ at0 + (u.size : Int) < at0 := by omega
  have hy8 : 0 ≤ at0 + (u.size : Int) := by omega
  have hy9 : at0 + (u.size : Int) ≤ 65535 := by omega
  have hex : j.extract at0.toNat (at0 + (u.size : Int)).toNat = u := by
    rw [← hat, Int.toNat_natCast, show ((ix : Int) + (u.size : Int)).toNat = ix + u.size by omega]
    exact hx3
  rw [hat] at HF
  clear hx1 hx2 hx3 hat
  have HL5 := hid (show sx.size ≤ 65535 by omega)
  have HF2 := hid (show findV s sx = cameV (-1) by unfold findV; rw [hfn])
  have f1 : ¬ (s.size : Int) = 65535 := by omega
  have f2 : ((s.size : Int) == 65535) = false := by simpa using f1
  clear hf hsx hjz hj hfn
  clear hs0 hu0
  go_enter Tryz.func6, Tryz.ntmps6
  go_wp2_with fail
  refine HB.out.mono ?_
  rintro e w1 ⟨rfl, hx1⟩
  have X0 := hid hx1
  clear hx1
  go_wp2_with fail
  refine (wtextP s _).mono ?_
  rintro e wk1 ⟨rfl, hx1⟩
  have X1 := hid (X0.out.trans hx1)
  clear hx1
  go_wp2_with fail
  refine (nums1_ok ⟨#[119, 111, 114, 100, 115, 46, 115, 105, 122, 101]⟩ _ _ _ (s.size : Int) _ (calls_eq (show sizeV _ = cameV _ from rfl) (ww_size s HS.out _ _ _ (HW.out.later (X1.out.trans (Ext.alloc _ _))) (wrow1 (blk0 _ _) (pie_big HS.out))))).mono ?_
  rintro e wk2 ⟨rfl, hx2⟩
  have X2 := hid (X1.out.trans ((Ext.alloc _ _).trans hx2))
  clear hx2
  go_wp2_with fail
  refine (wtextP s _).mono ?_
  rintro e wk3 ⟨rfl, hx3⟩
  have X3 := hid (X2.out.trans hx3)
  clear hx3
  go_wp2_with fail
  refine (wnumP 0 _).mono ?_
  rintro e wk4 ⟨rfl, hx4⟩
  have X4 := hid (X3.out.trans hx4)
  clear hx4
  go_wp2_with fail
  refine (wnumP n _).mono ?_
  rintro e wk5 ⟨rfl, hx5⟩
  have X5 := hid (X4.out.trans hx5)
  clear hx5
  go_wp2_with fail
  refine (words1_bad ⟨#[119, 111, 114, 100, 115, 46, 99, 117, 116]⟩ _ _ _ 23 (by decide) _ (calls_eq (HC1.out) (ww_cut s 0 n HS.out _ _ _ (HW.out.later (X5.out.trans (Ext.alloc _ _))) (wrow3 (blk0 _ _) (pie_big HS.out) (by decide) (by decide))))).mono ?_
  rintro e wk6 ⟨rfl, hx6⟩
  have X6 := hid (X5.out.trans ((Ext.alloc _ _).trans hx6))
  clear hx6
  go_wp2_with fail
  refine (wtextP s _).mono ?_
  rintro e wk7 ⟨rfl, hx7⟩
  have X7 := hid (X6.out.trans hx7)
  clear hx7
  go_wp2_with fail
  refine (wnumP n _).mono ?_
  rintro e wk8 ⟨rfl, hx8⟩
  have X8 := hid (X7.out.trans hx8)
  clear hx8
  go_wp2_with fail
  refine (wnumP (s.size : Int) _).mono ?_
  rintro e wk9 ⟨rfl, hx9⟩
  have X9 := hid (X8.out.trans hx9)
  clear hx9
  go_wp2_with fail
  refine (words1_bad ⟨#[119, 111, 114, 100, 115, 46, 99, 117, 116]⟩ _ _ _ 23 (by decide) _ (calls_eq (HC2.out) (ww_cut s n (s.size : Int) HS.out _ _ _ (HW.out.later (X9.out.trans (Ext.alloc _ _))) (wrow3 (blk0 _ _) (pie_big HS.out) (by decide) (by decide))))).mono ?_
  rintro e wk10 ⟨rfl, hx10⟩
  have X10 := hid (X9.out.trans ((Ext.alloc _ _).trans hx10))
  clear hx10
  go_wp2_with fail
  refine (wtextP s _).mono ?_
  rintro e wk11 ⟨rfl, hx11⟩
  have X11 := hid (X10.out.trans hx11)
  clear hx11
  go_wp2_with fail
  refine (wtextP u _).mono ?_
  rintro e wk12 ⟨rfl, hx12⟩
  have X12 := hid (X11.out.trans hx12)
  clear hx12
  go_wp2_with fail
  refine (words1_ok ⟨#[119, 111, 114, 100, 115, 46, 106, 111, 105, 110]⟩ _ _ _ j _ (calls_eq (HJ.out) (ww_join s u HS.out HU.out _ _ _ (HW.out.later (X12.out.trans (Ext.alloc _ _))) (wrow2 (blk0 _ _) (pie_big HS.out) (pie_big HU.out))))).mono ?_
  rintro e wk13 ⟨rfl, hx13⟩
  have X13 := hid (X12.out.trans ((Ext.alloc _ _).trans hx13))
  clear hx13
  go_wp2_with fail
  refine (wtextP j _).mono ?_
  rintro e wk14 ⟨rfl, hx14⟩
  have X14 := hid (X13.out.trans hx14)
  clear hx14
  go_wp2_with fail
  refine (wtextP u _).mono ?_
  rintro e wk15 ⟨rfl, hx15⟩
  have X15 := hid (X14.out.trans hx15)
  clear hx15
  go_wp2_with fail
  refine (nums1_ok ⟨#[119, 111, 114, 100, 115, 46, 102, 105, 110, 100]⟩ _ _ _ at0 _ (calls_eq (HF.out) (ww_find j u HJZ.out HU.out _ _ _ (HW.out.later (X15.out.trans (Ext.alloc _ _))) (wrow2 (blk0 _ _) (pie_big HJZ.out) (pie_big HU.out))))).mono ?_
  rintro e wk16 ⟨rfl, hx16⟩
  have X16 := hid (X15.out.trans ((Ext.alloc _ _).trans hx16))
  clear hx16
  go_wp2_with fail
  refine (wtextP s _).mono ?_
  rintro e wk17 ⟨rfl, hx17⟩
  have X17 := hid (X16.out.trans hx17)
  clear hx17
  go_wp2_with fail
  refine (wtextP sx _).mono ?_
  rintro e wk18 ⟨rfl, hx18⟩
  have X18 := hid (X17.out.trans hx18)
  clear hx18
  go_wp2_with fail
  refine (nums1_ok ⟨#[119, 111, 114, 100, 115, 46, 102, 105, 110, 100]⟩ _ _ _ (-1) _ (calls_eq (HF2.out) (ww_find s sx HS.out HL5.out _ _ _ (HW.out.later (X18.out.trans (Ext.alloc _ _))) (wrow2 (blk0 _ _) (pie_big HS.out) HSX.out)))).mono ?_
  rintro e wk19 ⟨rfl, hx19⟩
  have X19 := hid (X18.out.trans ((Ext.alloc _ _).trans hx19))
  clear hx19
  go_wp2_with fail
  go_ret
  exact ⟨rfl, X19.out⟩
set_option maxRecDepth 100000 in
set_option maxHeartbeats 4000000 in
theorem pie_in_long (s u : ByteArray) (n : Int) (hs0 : s.size ≤ 65535) (hu0 : u.size ≤ 65535) (hn : 0 ≤ n ∧ n ≤ (s.size : Int)) (hj : 65535 < s.size + u.size) (w : World) (hm : WAt w) (hl : Laid w) : Calls Tryz.prog 6 #[.string s, .string u, .int .i64 n] w fun e w' => e = .returned (.bool true) ∧ Ext w w' := by
  have HW := hid hm
  have HB := hid (begunW_any w hm hl)
  have HS := hid hs0
  have HU := hid hu0
  have hsz : (s.size : Int) ≤ 65535 := by omega
  have huz : (u.size : Int) ≤ 65535 := by omega
  have hs1 : ¬ (65535 : Int) < s.size := by omega
  have hu1 : ¬ (65535 : Int) < u.size := by omega
  clear hm hl
  obtain ⟨m, rfl⟩ : ∃ m : Nat, n = m := ⟨n.toNat, by omega⟩
  have hm1 : m ≤ s.size := by omega
  have HC1 := hid (show cutV s 0 m = wroteV (s.extract 0 m) from if_pos ⟨Int.le_refl _, hn.1, hn.2⟩)
  have HC2 := hid (show cutV s m s.size = wroteV (s.extract m s.size) from if_pos ⟨hn.1, hn.2, Int.le_refl _⟩)
  have hcat := cut_app s m hm1
  have hlen := cut_len s m hm1
  have hl2 : (s.extract m s.size).size ≤ 65535 := extract_small s _ _ hs0
  generalize s.extract 0 m = a at *
  generalize s.extract m s.size = b at *
  have hadd1 := fun W => (run_string_add_sum (P := Tryz.prog) (w := W) a b (by omega)).trans (by rw [hcat])
  have hla : (a.size : Int) = m := by omega
  have n1 : ¬ (m : Int) < 0 := by omega
  have n2 : ¬ (s.size : Int) < m := by omega
  clear hcat hlen hl2 hn hm1
  have HJ := hid (show joinV s u = refV 2 from if_neg (by omega))
  have j1 : (65535 : Int) < (s.size : Int) + u.size := by omega
  clear hj
  clear hs0 hu0
  go_enter Tryz.func6, Tryz.ntmps6
  go_wp2_with fail
  refine HB.out.mono ?_
  rintro e w1 ⟨rfl, hx1⟩
  have X0 := hid hx1
  clear hx1
  go_wp2_with fail
  refine (wtextP s _).mono ?_
  rintro e wk1 ⟨rfl, hx1⟩
  have X1 := hid (X0.out.trans hx1)
  clear hx1
  go_wp2_with fail
  refine (nums1_ok ⟨#[119, 111, 114, 100, 115, 46, 115, 105, 122, 101]⟩ _ _ _ (s.size : Int) _ (calls_eq (show sizeV _ = cameV _ from rfl) (ww_size s HS.out _ _ _ (HW.out.later (X1.out.trans (Ext.alloc _ _))) (wrow1 (blk0 _ _) (pie_big HS.out))))).mono ?_
  rintro e wk2 ⟨rfl, hx2⟩
  have X2 := hid (X1.out.trans ((Ext.alloc _ _).trans hx2))
  clear hx2
  go_wp2_with fail
  refine (wtextP s _).mono ?_
  rintro e wk3 ⟨rfl, hx3⟩
  have X3 := hid (X2.out.trans hx3)
  clear hx3
  go_wp2_with fail
  refine (wnumP 0 _).mono ?_
  rintro e wk4 ⟨rfl, hx4⟩
  have X4 := hid (X3.out.trans hx4)
  clear hx4
  go_wp2_with fail
  refine (wnumP (m : Int) _).mono ?_
  rintro e wk5 ⟨rfl, hx5⟩
  have X5 := hid (X4.out.trans hx5)
  clear hx5
  go_wp2_with fail
  refine (words1_ok ⟨#[119, 111, 114, 100, 115, 46, 99, 117, 116]⟩ _ _ _ a _ (calls_eq (HC1.out) (ww_cut s 0 (m : Int) HS.out _ _ _ (HW.out.later (X5.out.trans (Ext.alloc _ _))) (wrow3 (blk0 _ _) (pie_big HS.out) (by decide) (by decide))))).mono ?_
  rintro e wk6 ⟨rfl, hx6⟩
  have X6 := hid (X5.out.trans ((Ext.alloc _ _).trans hx6))
  clear hx6
  go_wp2_with fail
  refine (wtextP s _).mono ?_
  rintro e wk7 ⟨rfl, hx7⟩
  have X7 := hid (X6.out.trans hx7)
  clear hx7
  go_wp2_with fail
  refine (wnumP (m : Int) _).mono ?_
  rintro e wk8 ⟨rfl, hx8⟩
  have X8 := hid (X7.out.trans hx8)
  clear hx8
  go_wp2_with fail
  refine (wnumP (s.size : Int) _).mono ?_
  rintro e wk9 ⟨rfl, hx9⟩
  have X9 := hid (X8.out.trans hx9)
  clear hx9
  go_wp2_with fail
  refine (words1_ok ⟨#[119, 111, 114, 100, 115, 46, 99, 117, 116]⟩ _ _ _ b _ (calls_eq (HC2.out) (ww_cut s (m : Int) (s.size : Int) HS.out _ _ _ (HW.out.later (X9.out.trans (Ext.alloc _ _))) (wrow3 (blk0 _ _) (pie_big HS.out) (by decide) (by decide))))).mono ?_
  rintro e wk10 ⟨rfl, hx10⟩
  have X10 := hid (X9.out.trans ((Ext.alloc _ _).trans hx10))
  clear hx10
  go_wp2_with fail
  refine (wtextP s _).mono ?_
  rintro e wk11 ⟨rfl, hx11⟩
  have X11 := hid (X10.out.trans hx11)
  clear hx11
  go_wp2_with fail
  refine (wtextP u _).mono ?_
  rintro e wk12 ⟨rfl, hx12⟩
  have X12 := hid (X11.out.trans hx12)
  clear hx12
  go_wp2_with fail
  refine (words1_bad ⟨#[119, 111, 114, 100, 115, 46, 106, 111, 105, 110]⟩ _ _ _ 2 (by decide) _ (calls_eq (HJ.out) (ww_join s u HS.out HU.out _ _ _ (HW.out.later (X12.out.trans (Ext.alloc _ _))) (wrow2 (blk0 _ _) (pie_big HS.out) (pie_big HU.out))))).mono ?_
  rintro e wk13 ⟨rfl, hx13⟩
  have X13 := hid (X12.out.trans ((Ext.alloc _ _).trans hx13))
  clear hx13
  go_wp2_with fail
  go_ret
  exact ⟨rfl, X13.out⟩
set_option maxRecDepth 100000 in
set_option maxHeartbeats 4000000 in
theorem pie_in_full (s u : ByteArray) (n : Int) (hs0 : s.size ≤ 65535) (hu0 : u.size ≤ 65535) (hn : 0 ≤ n ∧ n ≤ (s.size : Int)) (hj : s.size + u.size ≤ 65535) (hf : s.size = 65535) (w : World) (hm : WAt w) (hl : Laid w) : Calls Tryz.prog 6 #[.string s, .string u, .int .i64 n] w fun e w' => e = .returned (.bool true) ∧ Ext w w' := by
  have HW := hid hm
  have HB := hid (begunW_any w hm hl)
  have HS := hid hs0
  have HU := hid hu0
  have hsz : (s.size : Int) ≤ 65535 := by omega
  have huz : (u.size : Int) ≤ 65535 := by omega
  have hs1 : ¬ (65535 : Int) < s.size := by omega
  have hu1 : ¬ (65535 : Int) < u.size := by omega
  clear hm hl
  obtain ⟨m, rfl⟩ : ∃ m : Nat, n = m := ⟨n.toNat, by omega⟩
  have hm1 : m ≤ s.size := by omega
  have HC1 := hid (show cutV s 0 m = wroteV (s.extract 0 m) from if_pos ⟨Int.le_refl _, hn.1, hn.2⟩)
  have HC2 := hid (show cutV s m s.size = wroteV (s.extract m s.size) from if_pos ⟨hn.1, hn.2, Int.le_refl _⟩)
  have hcat := cut_app s m hm1
  have hlen := cut_len s m hm1
  have hl2 : (s.extract m s.size).size ≤ 65535 := extract_small s _ _ hs0
  generalize s.extract 0 m = a at *
  generalize s.extract m s.size = b at *
  have hadd1 := fun W => (run_string_add_sum (P := Tryz.prog) (w := W) a b (by omega)).trans (by rw [hcat])
  have hla : (a.size : Int) = m := by omega
  have n1 : ¬ (m : Int) < 0 := by omega
  have n2 : ¬ (s.size : Int) < m := by omega
  clear hcat hlen hl2 hn hm1
  obtain ⟨ix, hx1, hx2, hx3⟩ := ix_found s u
  have HJ := hid (show joinV s u = wroteV (s ++ u) from if_pos hj)
  have hjz : (s ++ u).size = s.size + u.size := ByteArray.size_append
  have HF := hid (show findV (s ++ u) u = cameV (ix : Int) by unfold findV; rw [hx1])
  have hadd3 := fun W => run_string_add_sum (P := Tryz.prog) (w := W) s u (by omega)
  generalize s ++ u = j at *
  have HJZ := hid (show j.size ≤ 65535 by omega)
  have hji : (j.size : Int) ≤ 65535 := by omega
  have j1 : ¬ (65535 : Int) < (s.size : Int) + u.size := by omega
  have hsx : (s ++ ⟨#[120]⟩ : ByteArray).size = s.size + 1 := ByteArray.size_append
  have hadd2 := fun W => run_string_add_sum (P := Tryz.prog) (w := W) s ⟨#[120]⟩ (by rw [show (⟨#[120]⟩ : ByteArray).size = 1 from rfl]; omega)
  have hfn := ix_none s
  generalize (s ++ ⟨#[120]⟩ : ByteArray) = sx at *
  have HSX := hid (show sx.size ≤ 140737488351232 by omega)
  obtain ⟨at0, hat⟩ : ∃ a : Int, (ix : Int) = a := ⟨_, rfl⟩
  have hy1 : 0 ≤ at0 := by omega
  have hy2 : ¬ at0 < 0 := by omega
  have hy3 : ¬ (s.size : Int) < at0 := by omega
  have hy4 : at0 + (u.size : Int) ≤ (j.size : Int) := by omega
  have hy5 : ¬ (j.size : Int) < at0 + (u.size : Int) := by omega
  have hy6 : at0 ≤ at0 + (u.size : Int) := by omega
  have hy7 : ¬ at0 + (u.size : Int) < at0 := by omega
  have hy8 : 0 ≤ at0 + (u.size : Int) := by omega
  have hy9 : at0 + (u.size : Int) ≤ 65535 := by omega
  have hex : j.extract at0.toNat (at0 + (u.size : Int)).toNat = u := by
    rw [← hat, Int.toNat_natCast, show ((ix : Int) + (u.size : Int)).toNat = ix + u.size by omega]
    exact hx3
  rw [hat] at HF
  clear hx1 hx2 hx3 hat
  have HL5 := hid (show 65535 < sx.size by omega)
  have f1 : (s.size : Int) = 65535 := by omega
  have f2 : ((s.size : Int) == 65535) = true := by rw [f1]; rfl
  clear hf f1 hsx hjz hj hfn
  clear hs0 hu0
  go_enter Tryz.func6, Tryz.ntmps6
  go_wp2_with fail
  refine HB.out.mono ?_
  rintro e w1 ⟨rfl, hx1⟩
  have X0 := hid hx1
  clear hx1
  go_wp2_with fail
  refine (wtextP s _).mono ?_
  rintro e wk1 ⟨rfl, hx1⟩
  have X1 := hid (X0.out.trans hx1)
  clear hx1
  go_wp2_with fail
  refine (nums1_ok ⟨#[119, 111, 114, 100, 115, 46, 115, 105, 122, 101]⟩ _ _ _ (s.size : Int) _ (calls_eq (show sizeV _ = cameV _ from rfl) (ww_size s HS.out _ _ _ (HW.out.later (X1.out.trans (Ext.alloc _ _))) (wrow1 (blk0 _ _) (pie_big HS.out))))).mono ?_
  rintro e wk2 ⟨rfl, hx2⟩
  have X2 := hid (X1.out.trans ((Ext.alloc _ _).trans hx2))
  clear hx2
  go_wp2_with fail
  refine (wtextP s _).mono ?_
  rintro e wk3 ⟨rfl, hx3⟩
  have X3 := hid (X2.out.trans hx3)
  clear hx3
  go_wp2_with fail
  refine (wnumP 0 _).mono ?_
  rintro e wk4 ⟨rfl, hx4⟩
  have X4 := hid (X3.out.trans hx4)
  clear hx4
  go_wp2_with fail
  refine (wnumP (m : Int) _).mono ?_
  rintro e wk5 ⟨rfl, hx5⟩
  have X5 := hid (X4.out.trans hx5)
  clear hx5
  go_wp2_with fail
  refine (words1_ok ⟨#[119, 111, 114, 100, 115, 46, 99, 117, 116]⟩ _ _ _ a _ (calls_eq (HC1.out) (ww_cut s 0 (m : Int) HS.out _ _ _ (HW.out.later (X5.out.trans (Ext.alloc _ _))) (wrow3 (blk0 _ _) (pie_big HS.out) (by decide) (by decide))))).mono ?_
  rintro e wk6 ⟨rfl, hx6⟩
  have X6 := hid (X5.out.trans ((Ext.alloc _ _).trans hx6))
  clear hx6
  go_wp2_with fail
  refine (wtextP s _).mono ?_
  rintro e wk7 ⟨rfl, hx7⟩
  have X7 := hid (X6.out.trans hx7)
  clear hx7
  go_wp2_with fail
  refine (wnumP (m : Int) _).mono ?_
  rintro e wk8 ⟨rfl, hx8⟩
  have X8 := hid (X7.out.trans hx8)
  clear hx8
  go_wp2_with fail
  refine (wnumP (s.size : Int) _).mono ?_
  rintro e wk9 ⟨rfl, hx9⟩
  have X9 := hid (X8.out.trans hx9)
  clear hx9
  go_wp2_with fail
  refine (words1_ok ⟨#[119, 111, 114, 100, 115, 46, 99, 117, 116]⟩ _ _ _ b _ (calls_eq (HC2.out) (ww_cut s (m : Int) (s.size : Int) HS.out _ _ _ (HW.out.later (X9.out.trans (Ext.alloc _ _))) (wrow3 (blk0 _ _) (pie_big HS.out) (by decide) (by decide))))).mono ?_
  rintro e wk10 ⟨rfl, hx10⟩
  have X10 := hid (X9.out.trans ((Ext.alloc _ _).trans hx10))
  clear hx10
  go_wp2_with fail
  refine (wtextP s _).mono ?_
  rintro e wk11 ⟨rfl, hx11⟩
  have X11 := hid (X10.out.trans hx11)
  clear hx11
  go_wp2_with fail
  refine (wtextP u _).mono ?_
  rintro e wk12 ⟨rfl, hx12⟩
  have X12 := hid (X11.out.trans hx12)
  clear hx12
  go_wp2_with fail
  refine (words1_ok ⟨#[119, 111, 114, 100, 115, 46, 106, 111, 105, 110]⟩ _ _ _ j _ (calls_eq (HJ.out) (ww_join s u HS.out HU.out _ _ _ (HW.out.later (X12.out.trans (Ext.alloc _ _))) (wrow2 (blk0 _ _) (pie_big HS.out) (pie_big HU.out))))).mono ?_
  rintro e wk13 ⟨rfl, hx13⟩
  have X13 := hid (X12.out.trans ((Ext.alloc _ _).trans hx13))
  clear hx13
  go_wp2_with fail
  refine (wtextP j _).mono ?_
  rintro e wk14 ⟨rfl, hx14⟩
  have X14 := hid (X13.out.trans hx14)
  clear hx14
  go_wp2_with fail
  refine (wtextP u _).mono ?_
  rintro e wk15 ⟨rfl, hx15⟩
  have X15 := hid (X14.out.trans hx15)
  clear hx15
  go_wp2_with fail
  refine (nums1_ok ⟨#[119, 111, 114, 100, 115, 46, 102, 105, 110, 100]⟩ _ _ _ at0 _ (calls_eq (HF.out) (ww_find j u HJZ.out HU.out _ _ _ (HW.out.later (X15.out.trans (Ext.alloc _ _))) (wrow2 (blk0 _ _) (pie_big HJZ.out) (pie_big HU.out))))).mono ?_
  rintro e wk16 ⟨rfl, hx16⟩
  have X16 := hid (X15.out.trans ((Ext.alloc _ _).trans hx16))
  clear hx16
  go_wp2_with fail
  refine (wtextP s _).mono ?_
  rintro e wk17 ⟨rfl, hx17⟩
  have X17 := hid (X16.out.trans hx17)
  clear hx17
  go_wp2_with fail
  refine (wtextP sx _).mono ?_
  rintro e wk18 ⟨rfl, hx18⟩
  have X18 := hid (X17.out.trans hx18)
  clear hx18
  go_wp2_with fail
  refine (nums1_bad ⟨#[119, 111, 114, 100, 115, 46, 102, 105, 110, 100]⟩ _ _ _ 1 (by decide) _ (ww_find_long s sx HL5.out _ _ _ (HW.out.later (X18.out.trans (Ext.alloc _ _))) (wrow2 (blk0 _ _) (pie_big HS.out) HSX.out))).mono ?_
  rintro e wk19 ⟨rfl, hx19⟩
  have X19 := hid (X18.out.trans ((Ext.alloc _ _).trans hx19))
  clear hx19
  go_wp2_with fail
  go_ret
  exact ⟨rfl, X19.out⟩
set_option maxRecDepth 100000 in
set_option maxHeartbeats 4000000 in
theorem pie_in_fits (s u : ByteArray) (n : Int) (hs0 : s.size ≤ 65535) (hu0 : u.size ≤ 65535) (hn : 0 ≤ n ∧ n ≤ (s.size : Int)) (hj : s.size + u.size ≤ 65535) (hf : s.size < 65535) (w : World) (hm : WAt w) (hl : Laid w) : Calls Tryz.prog 6 #[.string s, .string u, .int .i64 n] w fun e w' => e = .returned (.bool true) ∧ Ext w w' := by
  have HW := hid hm
  have HB := hid (begunW_any w hm hl)
  have HS := hid hs0
  have HU := hid hu0
  have hsz : (s.size : Int) ≤ 65535 := by omega
  have huz : (u.size : Int) ≤ 65535 := by omega
  have hs1 : ¬ (65535 : Int) < s.size := by omega
  have hu1 : ¬ (65535 : Int) < u.size := by omega
  clear hm hl
  obtain ⟨m, rfl⟩ : ∃ m : Nat, n = m := ⟨n.toNat, by omega⟩
  have hm1 : m ≤ s.size := by omega
  have HC1 := hid (show cutV s 0 m = wroteV (s.extract 0 m) from if_pos ⟨Int.le_refl _, hn.1, hn.2⟩)
  have HC2 := hid (show cutV s m s.size = wroteV (s.extract m s.size) from if_pos ⟨hn.1, hn.2, Int.le_refl _⟩)
  have hcat := cut_app s m hm1
  have hlen := cut_len s m hm1
  have hl2 : (s.extract m s.size).size ≤ 65535 := extract_small s _ _ hs0
  generalize s.extract 0 m = a at *
  generalize s.extract m s.size = b at *
  have hadd1 := fun W => (run_string_add_sum (P := Tryz.prog) (w := W) a b (by omega)).trans (by rw [hcat])
  have hla : (a.size : Int) = m := by omega
  have n1 : ¬ (m : Int) < 0 := by omega
  have n2 : ¬ (s.size : Int) < m := by omega
  clear hcat hlen hl2 hn hm1
  obtain ⟨ix, hx1, hx2, hx3⟩ := ix_found s u
  have HJ := hid (show joinV s u = wroteV (s ++ u) from if_pos hj)
  have hjz : (s ++ u).size = s.size + u.size := ByteArray.size_append
  have HF := hid (show findV (s ++ u) u = cameV (ix : Int) by unfold findV; rw [hx1])
  have hadd3 := fun W => run_string_add_sum (P := Tryz.prog) (w := W) s u (by omega)
  generalize s ++ u = j at *
  have HJZ := hid (show j.size ≤ 65535 by omega)
  have hji : (j.size : Int) ≤ 65535 := by omega
  have j1 : ¬ (65535 : Int) < (s.size : Int) + u.size := by omega
  have hsx : (s ++ ⟨#[120]⟩ : ByteArray).size = s.size + 1 := ByteArray.size_append
  have hadd2 := fun W => run_string_add_sum (P := Tryz.prog) (w := W) s ⟨#[120]⟩ (by rw [show (⟨#[120]⟩ : ByteArray).size = 1 from rfl]; omega)
  have hfn := ix_none s
  generalize (s ++ ⟨#[120]⟩ : ByteArray) = sx at *
  have HSX := hid (show sx.size ≤ 140737488351232 by omega)
  obtain ⟨at0, hat⟩ : ∃ a : Int, (ix : Int) = a := ⟨_, rfl⟩
  have hy1 : 0 ≤ at0 := by omega
  have hy2 : ¬ at0 < 0 := by omega
  have hy3 : ¬ (s.size : Int) < at0 := by omega
  have hy4 : at0 + (u.size : Int) ≤ (j.size : Int) := by omega
  have hy5 : ¬ (j.size : Int) < at0 + (u.size : Int) := by omega
  have hy6 : at0 ≤ at0 + (u.size : Int) := by omega
  have hy7 : ¬ at0 + (u.size : Int) < at0 := by omega
  have hy8 : 0 ≤ at0 + (u.size : Int) := by omega
  have hy9 : at0 + (u.size : Int) ≤ 65535 := by omega
  have hex : j.extract at0.toNat (at0 + (u.size : Int)).toNat = u := by
    rw [← hat, Int.toNat_natCast, show ((ix : Int) + (u.size : Int)).toNat = ix + u.size by omega]
    exact hx3
  rw [hat] at HF
  clear hx1 hx2 hx3 hat
  have HL5 := hid (show sx.size ≤ 65535 by omega)
  have HF2 := hid (show findV s sx = cameV (-1) by unfold findV; rw [hfn])
  have f1 : ¬ (s.size : Int) = 65535 := by omega
  have f2 : ((s.size : Int) == 65535) = false := by simpa using f1
  clear hf hsx hjz hj hfn
  clear hs0 hu0
  go_enter Tryz.func6, Tryz.ntmps6
  go_wp2_with fail
  refine HB.out.mono ?_
  rintro e w1 ⟨rfl, hx1⟩
  have X0 := hid hx1
  clear hx1
  go_wp2_with fail
  refine (wtextP s _).mono ?_
  rintro e wk1 ⟨rfl, hx1⟩
  have X1 := hid (X0.out.trans hx1)
  clear hx1
  go_wp2_with fail
  refine (nums1_ok ⟨#[119, 111, 114, 100, 115, 46, 115, 105, 122, 101]⟩ _ _ _ (s.size : Int) _ (calls_eq (show sizeV _ = cameV _ from rfl) (ww_size s HS.out _ _ _ (HW.out.later (X1.out.trans (Ext.alloc _ _))) (wrow1 (blk0 _ _) (pie_big HS.out))))).mono ?_
  rintro e wk2 ⟨rfl, hx2⟩
  have X2 := hid (X1.out.trans ((Ext.alloc _ _).trans hx2))
  clear hx2
  go_wp2_with fail
  refine (wtextP s _).mono ?_
  rintro e wk3 ⟨rfl, hx3⟩
  have X3 := hid (X2.out.trans hx3)
  clear hx3
  go_wp2_with fail
  refine (wnumP 0 _).mono ?_
  rintro e wk4 ⟨rfl, hx4⟩
  have X4 := hid (X3.out.trans hx4)
  clear hx4
  go_wp2_with fail
  refine (wnumP (m : Int) _).mono ?_
  rintro e wk5 ⟨rfl, hx5⟩
  have X5 := hid (X4.out.trans hx5)
  clear hx5
  go_wp2_with fail
  refine (words1_ok ⟨#[119, 111, 114, 100, 115, 46, 99, 117, 116]⟩ _ _ _ a _ (calls_eq (HC1.out) (ww_cut s 0 (m : Int) HS.out _ _ _ (HW.out.later (X5.out.trans (Ext.alloc _ _))) (wrow3 (blk0 _ _) (pie_big HS.out) (by decide) (by decide))))).mono ?_
  rintro e wk6 ⟨rfl, hx6⟩
  have X6 := hid (X5.out.trans ((Ext.alloc _ _).trans hx6))
  clear hx6
  go_wp2_with fail
  refine (wtextP s _).mono ?_
  rintro e wk7 ⟨rfl, hx7⟩
  have X7 := hid (X6.out.trans hx7)
  clear hx7
  go_wp2_with fail
  refine (wnumP (m : Int) _).mono ?_
  rintro e wk8 ⟨rfl, hx8⟩
  have X8 := hid (X7.out.trans hx8)
  clear hx8
  go_wp2_with fail
  refine (wnumP (s.size : Int) _).mono ?_
  rintro e wk9 ⟨rfl, hx9⟩
  have X9 := hid (X8.out.trans hx9)
  clear hx9
  go_wp2_with fail
  refine (words1_ok ⟨#[119, 111, 114, 100, 115, 46, 99, 117, 116]⟩ _ _ _ b _ (calls_eq (HC2.out) (ww_cut s (m : Int) (s.size : Int) HS.out _ _ _ (HW.out.later (X9.out.trans (Ext.alloc _ _))) (wrow3 (blk0 _ _) (pie_big HS.out) (by decide) (by decide))))).mono ?_
  rintro e wk10 ⟨rfl, hx10⟩
  have X10 := hid (X9.out.trans ((Ext.alloc _ _).trans hx10))
  clear hx10
  go_wp2_with fail
  refine (wtextP s _).mono ?_
  rintro e wk11 ⟨rfl, hx11⟩
  have X11 := hid (X10.out.trans hx11)
  clear hx11
  go_wp2_with fail
  refine (wtextP u _).mono ?_
  rintro e wk12 ⟨rfl, hx12⟩
  have X12 := hid (X11.out.trans hx12)
  clear hx12
  go_wp2_with fail
  refine (words1_ok ⟨#[119, 111, 114, 100, 115, 46, 106, 111, 105, 110]⟩ _ _ _ j _ (calls_eq (HJ.out) (ww_join s u HS.out HU.out _ _ _ (HW.out.later (X12.out.trans (Ext.alloc _ _))) (wrow2 (blk0 _ _) (pie_big HS.out) (pie_big HU.out))))).mono ?_
  rintro e wk13 ⟨rfl, hx13⟩
  have X13 := hid (X12.out.trans ((Ext.alloc _ _).trans hx13))
  clear hx13
  go_wp2_with fail
  refine (wtextP j _).mono ?_
  rintro e wk14 ⟨rfl, hx14⟩
  have X14 := hid (X13.out.trans hx14)
  clear hx14
  go_wp2_with fail
  refine (wtextP u _).mono ?_
  rintro e wk15 ⟨rfl, hx15⟩
  have X15 := hid (X14.out.trans hx15)
  clear hx15
  go_wp2_with fail
  refine (nums1_ok ⟨#[119, 111, 114, 100, 115, 46, 102, 105, 110, 100]⟩ _ _ _ at0 _ (calls_eq (HF.out) (ww_find j u HJZ.out HU.out _ _ _ (HW.out.later (X15.out.trans (Ext.alloc _ _))) (wrow2 (blk0 _ _) (pie_big HJZ.out) (pie_big HU.out))))).mono ?_
  rintro e wk16 ⟨rfl, hx16⟩
  have X16 := hid (X15.out.trans ((Ext.alloc _ _).trans hx16))
  clear hx16
  go_wp2_with fail
  refine (wtextP s _).mono ?_
  rintro e wk17 ⟨rfl, hx17⟩
  have X17 := hid (X16.out.trans hx17)
  clear hx17
  go_wp2_with fail
  refine (wtextP sx _).mono ?_
  rintro e wk18 ⟨rfl, hx18⟩
  have X18 := hid (X17.out.trans hx18)
  clear hx18
  go_wp2_with fail
  refine (nums1_ok ⟨#[119, 111, 114, 100, 115, 46, 102, 105, 110, 100]⟩ _ _ _ (-1) _ (calls_eq (HF2.out) (ww_find s sx HS.out HL5.out _ _ _ (HW.out.later (X18.out.trans (Ext.alloc _ _))) (wrow2 (blk0 _ _) (pie_big HS.out) HSX.out)))).mono ?_
  rintro e wk19 ⟨rfl, hx19⟩
  have X19 := hid (X18.out.trans ((Ext.alloc _ _).trans hx19))
  clear hx19
  go_wp2_with fail
  go_ret
  exact ⟨rfl, X19.out⟩

theorem wordsPieces_true (s u : ByteArray) (n : Int) (hs0 : s.size ≤ 140737488351232) (hu0 : u.size ≤ 140737488351232) (_ : inR n) (w : World) (hm : WAt w) (hl : Laid w) : Calls Tryz.prog 6 #[.string s, .string u, .int .i64 n] w fun e w' => e = .returned (.bool true) ∧ Ext w w' := by
  by_cases hls : 65535 < s.size
  · by_cases hlu : 65535 < u.size
    · exact pie_ll s u n hs0 hu0 hls hlu w hm hl
    · exact pie_ls s u n hs0 hu0 hls (by omega) w hm hl
  by_cases hlu : 65535 < u.size
  · exact pie_sl s u n hs0 hu0 (by omega) hlu w hm hl
  have h1 : s.size ≤ 65535 := by omega
  have h2 : u.size ≤ 65535 := by omega
  by_cases hj : s.size + u.size ≤ 65535
  · by_cases hf : s.size = 65535
    · by_cases c1 : n < 0
      · exact pie_neg_full s u n h1 h2 c1 hj hf w hm hl
      by_cases c2 : (s.size : Int) < n
      · exact pie_over_full s u n h1 h2 c2 hj hf w hm hl
      exact pie_in_full s u n h1 h2 ⟨by omega, by omega⟩ hj hf w hm hl
    · by_cases c1 : n < 0
      · exact pie_neg_fits s u n h1 h2 c1 hj (by omega) w hm hl
      by_cases c2 : (s.size : Int) < n
      · exact pie_over_fits s u n h1 h2 c2 hj (by omega) w hm hl
      exact pie_in_fits s u n h1 h2 ⟨by omega, by omega⟩ hj (by omega) w hm hl
  · by_cases c1 : n < 0
    · exact pie_neg_long s u n h1 h2 c1 (by omega) w hm hl
    by_cases c2 : (s.size : Int) < n
    · exact pie_over_long s u n h1 h2 c2 (by omega) w hm hl
    exact pie_in_long s u n h1 h2 ⟨by omega, by omega⟩ (by omega) w hm hl
end Go.Proofs.YtgpggkepgoelfaaGreatDoor
