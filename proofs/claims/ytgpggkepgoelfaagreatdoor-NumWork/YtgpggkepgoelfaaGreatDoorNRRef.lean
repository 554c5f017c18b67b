/-
  espalierref8's row and Rows by contracts: the rows of the kit num.
-/
import Derived.Test.YtgpggkepgoelfaaGreatDoorNKit
import Derived.Test.YtgpggkepgoelfaaGreatDoorKLaw
namespace Go.Proofs.YtgpggkepgoelfaaGreatDoor
open Go.RowKit
theorem refrow_any (k : ByteArray) (mn mx tx : Int) (a : Option Addr) (n c : Nat) (w : World) : Calls Tryz.prog 119 #[.string k, .int .i64 mn, .int .i64 mx, .int .i64 tx, .slice a n c] w fun e w' => e = .returned (.agg #[.string k, .int .i64 mn, .int .i64 mx, .bool false, .int .i64 tx, .slice a n c]) ∧ Ext w w' := by
  go_enter Tryz.func119, Tryz.ntmps119
  go_wp2_with fail
  obtain ⟨q0, q1, q2, q3, q4, q5⟩ := six_of (blk0 w (.cells #[.string k, .int .i64 mn, .int .i64 mx, .bool false, .int .i64 tx, .slice a n c] 76))
  refine bodyPost_ret (v := .agg #[.string k, .int .i64 mn, .int .i64 mx, .bool false, .int .i64 tx, .slice a n c]) (by simp [results, Tryz.results119, go_sem, q0, q1, q2, q3, q4, q5]) rfl ?_
  exact ⟨rfl, Ext.alloc _ _⟩
/-- The rows of the kit num. -/
def numR : List Rw := [
  ⟨⟨#[110, 117, 109, 46, 97, 100, 100]⟩, 2, 2, false, 0, [⟨#[83, 116, 114, 105, 99, 116]⟩, ⟨#[80, 117, 114, 101]⟩, ⟨#[83, 111, 114, 116, 101, 100]⟩]⟩,
  ⟨⟨#[110, 117, 109, 46, 115, 117, 98]⟩, 2, 2, false, 0, [⟨#[83, 116, 114, 105, 99, 116]⟩, ⟨#[80, 117, 114, 101]⟩, ⟨#[83, 111, 114, 116, 101, 100]⟩]⟩,
  ⟨⟨#[110, 117, 109, 46, 109, 117, 108]⟩, 2, 2, false, 0, [⟨#[83, 116, 114, 105, 99, 116]⟩, ⟨#[80, 117, 114, 101]⟩, ⟨#[83, 111, 114, 116, 101, 100]⟩]⟩,
  ⟨⟨#[110, 117, 109, 46, 113, 117, 111]⟩, 2, 2, false, 0, [⟨#[83, 116, 114, 105, 99, 116]⟩, ⟨#[80, 117, 114, 101]⟩, ⟨#[83, 111, 114, 116, 101, 100]⟩]⟩,
  ⟨⟨#[110, 117, 109, 46, 109, 111, 100]⟩, 2, 2, false, 0, [⟨#[83, 116, 114, 105, 99, 116]⟩, ⟨#[80, 117, 114, 101]⟩, ⟨#[83, 111, 114, 116, 101, 100]⟩]⟩,
  ⟨⟨#[110, 117, 109, 46, 112, 111, 119]⟩, 2, 2, false, 0, [⟨#[83, 116, 114, 105, 99, 116]⟩, ⟨#[80, 117, 114, 101]⟩, ⟨#[83, 111, 114, 116, 101, 100]⟩]⟩,
  ⟨⟨#[110, 117, 109, 46, 110, 101, 103]⟩, 1, 1, false, 0, [⟨#[83, 116, 114, 105, 99, 116]⟩, ⟨#[80, 117, 114, 101]⟩, ⟨#[83, 111, 114, 116, 101, 100]⟩]⟩,
  ⟨⟨#[110, 117, 109, 46, 97, 98, 115]⟩, 1, 1, false, 0, [⟨#[83, 116, 114, 105, 99, 116]⟩, ⟨#[80, 117, 114, 101]⟩, ⟨#[83, 111, 114, 116, 101, 100]⟩]⟩,
  ⟨⟨#[110, 117, 109, 46, 109, 105, 110]⟩, 2, 2, false, 0, [⟨#[83, 116, 114, 105, 99, 116]⟩, ⟨#[80, 117, 114, 101]⟩, ⟨#[84, 111, 116, 97, 108]⟩, ⟨#[83, 111, 114, 116, 101, 100]⟩]⟩,
  ⟨⟨#[110, 117, 109, 46, 109, 97, 120]⟩, 2, 2, false, 0, [⟨#[83, 116, 114, 105, 99, 116]⟩, ⟨#[80, 117, 114, 101]⟩, ⟨#[84, 111, 116, 97, 108]⟩, ⟨#[83, 111, 114, 116, 101, 100]⟩]⟩,
  ⟨⟨#[110, 117, 109, 46, 108, 101, 115, 115]⟩, 2, 2, false, 0, [⟨#[83, 116, 114, 105, 99, 116]⟩, ⟨#[80, 117, 114, 101]⟩, ⟨#[84, 111, 116, 97, 108]⟩, ⟨#[83, 111, 114, 116, 101, 100]⟩]⟩,
  ⟨⟨#[110, 117, 109, 46, 109, 111, 115, 116]⟩, 2, 2, false, 0, [⟨#[83, 116, 114, 105, 99, 116]⟩, ⟨#[80, 117, 114, 101]⟩, ⟨#[84, 111, 116, 97, 108]⟩, ⟨#[83, 111, 114, 116, 101, 100]⟩]⟩,
  ⟨⟨#[110, 117, 109, 46, 115, 117, 109]⟩, 1, -1, false, 0, [⟨#[80, 117, 114, 101]⟩, ⟨#[83, 111, 114, 116, 101, 100]⟩, ⟨#[83, 117, 103, 97, 114]⟩]⟩,
  ⟨⟨#[110, 117, 109, 46, 105, 110, 99]⟩, 1, 1, false, 0, [⟨#[80, 117, 114, 101]⟩, ⟨#[83, 111, 114, 116, 101, 100]⟩, ⟨#[83, 117, 103, 97, 114]⟩]⟩,
  ⟨⟨#[110, 117, 109, 46, 100, 101, 99]⟩, 1, 1, false, 0, [⟨#[80, 117, 114, 101]⟩, ⟨#[83, 111, 114, 116, 101, 100]⟩, ⟨#[83, 117, 103, 97, 114]⟩]⟩]
theorem numR_eq : numK.map kdRow = numR := by kernel_rfl
set_option maxRecDepth 100000 in
set_option maxHeartbeats 4000000 in
theorem refRows_any (w : World) : Calls Tryz.prog 70 #[] w (RowsR w numR) := by
  go_enter Tryz.func70, Tryz.ntmps70
  go_wp2_with fail
  refine (refrow_any _ _ _ _ _ _ _ _).mono ?_
  rintro e w1 ⟨rfl, hx1⟩
  have T0 := hid (show TB w1 (some ⟨w.heap.size, 0, none⟩) [⟨#[83, 116, 114, 105, 99, 116]⟩, ⟨#[80, 117, 114, 101]⟩, ⟨#[83, 111, 114, 116, 101, 100]⟩] from (tb_new (blk0 _ _) rfl).later hx1)
  have Y1 := hid ((Ext.alloc _ _).trans hx1)
  have X1 := hid (Y1.out)
  clear hx1
  go_wp2_with fail
  refine (refrow_any _ _ _ _ _ _ _ _).mono ?_
  rintro e w2 ⟨rfl, hx2⟩
  have T1 := hid (show TB w2 (some ⟨w1.heap.size, 0, none⟩) [⟨#[83, 116, 114, 105, 99, 116]⟩, ⟨#[80, 117, 114, 101]⟩, ⟨#[83, 111, 114, 116, 101, 100]⟩] from (tb_new (blk0 _ _) rfl).later hx2)
  have Y2 := hid ((Ext.alloc _ _).trans hx2)
  have X2 := hid (X1.out.trans Y2.out)
  clear hx2
  go_wp2_with fail
  refine (refrow_any _ _ _ _ _ _ _ _).mono ?_
  rintro e w3 ⟨rfl, hx3⟩
  have T2 := hid (show TB w3 (some ⟨w2.heap.size, 0, none⟩) [⟨#[83, 116, 114, 105, 99, 116]⟩, ⟨#[80, 117, 114, 101]⟩, ⟨#[83, 111, 114, 116, 101, 100]⟩] from (tb_new (blk0 _ _) rfl).later hx3)
  have Y3 := hid ((Ext.alloc _ _).trans hx3)
  have X3 := hid (X2.out.trans Y3.out)
  clear hx3
  go_wp2_with fail
  refine (refrow_any _ _ _ _ _ _ _ _).mono ?_
  rintro e w4 ⟨rfl, hx4⟩
  have T3 := hid (show TB w4 (some ⟨w3.heap.size, 0, none⟩) [⟨#[83, 116, 114, 105, 99, 116]⟩, ⟨#[80, 117, 114, 101]⟩, ⟨#[83, 111, 114, 116, 101, 100]⟩] from (tb_new (blk0 _ _) rfl).later hx4)
  have Y4 := hid ((Ext.alloc _ _).trans hx4)
  have X4 := hid (X3.out.trans Y4.out)
  clear hx4
  go_wp2_with fail
  refine (refrow_any _ _ _ _ _ _ _ _).mono ?_
  rintro e w5 ⟨rfl, hx5⟩
  have T4 := hid (show TB w5 (some ⟨w4.heap.size, 0, none⟩) [⟨#[83, 116, 114, 105, 99, 116]⟩, ⟨#[80, 117, 114, 101]⟩, ⟨#[83, 111, 114, 116, 101, 100]⟩] from (tb_new (blk0 _ _) rfl).later hx5)
  have Y5 := hid ((Ext.alloc _ _).trans hx5)
  have X5 := hid (X4.out.trans Y5.out)
  clear hx5
  go_wp2_with fail
  refine (refrow_any _ _ _ _ _ _ _ _).mono ?_
  rintro e w6 ⟨rfl, hx6⟩
  have T5 := hid (show TB w6 (some ⟨w5.heap.size, 0, none⟩) [⟨#[83, 116, 114, 105, 99, 116]⟩, ⟨#[80, 117, 114, 101]⟩, ⟨#[83, 111, 114, 116, 101, 100]⟩] from (tb_new (blk0 _ _) rfl).later hx6)
  have Y6 := hid ((Ext.alloc _ _).trans hx6)
  have X6 := hid (X5.out.trans Y6.out)
  clear hx6
  go_wp2_with fail
  refine (refrow_any _ _ _ _ _ _ _ _).mono ?_
  rintro e w7 ⟨rfl, hx7⟩
  have T6 := hid (show TB w7 (some ⟨w6.heap.size, 0, none⟩) [⟨#[83, 116, 114, 105, 99, 116]⟩, ⟨#[80, 117, 114, 101]⟩, ⟨#[83, 111, 114, 116, 101, 100]⟩] from (tb_new (blk0 _ _) rfl).later hx7)
  have Y7 := hid ((Ext.alloc _ _).trans hx7)
  have X7 := hid (X6.out.trans Y7.out)
  clear hx7
  go_wp2_with fail
  refine (refrow_any _ _ _ _ _ _ _ _).mono ?_
  rintro e w8 ⟨rfl, hx8⟩
  have T7 := hid (show TB w8 (some ⟨w7.heap.size, 0, none⟩) [⟨#[83, 116, 114, 105, 99, 116]⟩, ⟨#[80, 117, 114, 101]⟩, ⟨#[83, 111, 114, 116, 101, 100]⟩] from (tb_new (blk0 _ _) rfl).later hx8)
  have Y8 := hid ((Ext.alloc _ _).trans hx8)
  have X8 := hid (X7.out.trans Y8.out)
  clear hx8
  go_wp2_with fail
  refine (refrow_any _ _ _ _ _ _ _ _).mono ?_
  rintro e w9 ⟨rfl, hx9⟩
  have T8 := hid (show TB w9 (some ⟨w8.heap.size, 0, none⟩) [⟨#[83, 116, 114, 105, 99, 116]⟩, ⟨#[80, 117, 114, 101]⟩, ⟨#[84, 111, 116, 97, 108]⟩, ⟨#[83, 111, 114, 116, 101, 100]⟩] from (tb_new (blk0 _ _) rfl).later hx9)
  have Y9 := hid ((Ext.alloc _ _).trans hx9)
  have X9 := hid (X8.out.trans Y9.out)
  clear hx9
  go_wp2_with fail
  refine (refrow_any _ _ _ _ _ _ _ _).mono ?_
  rintro e w10 ⟨rfl, hx10⟩
  have T9 := hid (show TB w10 (some ⟨w9.heap.size, 0, none⟩) [⟨#[83, 116, 114, 105, 99, 116]⟩, ⟨#[80, 117, 114, 101]⟩, ⟨#[84, 111, 116, 97, 108]⟩, ⟨#[83, 111, 114, 116, 101, 100]⟩] from (tb_new (blk0 _ _) rfl).later hx10)
  have Y10 := hid ((Ext.alloc _ _).trans hx10)
  have X10 := hid (X9.out.trans Y10.out)
  clear hx10
  go_wp2_with fail
  refine (refrow_any _ _ _ _ _ _ _ _).mono ?_
  rintro e w11 ⟨rfl, hx11⟩
  have T10 := hid (show TB w11 (some ⟨w10.heap.size, 0, none⟩) [⟨#[83, 116, 114, 105, 99, 116]⟩, ⟨#[80, 117, 114, 101]⟩, ⟨#[84, 111, 116, 97, 108]⟩, ⟨#[83, 111, 114, 116, 101, 100]⟩] from (tb_new (blk0 _ _) rfl).later hx11)
  have Y11 := hid ((Ext.alloc _ _).trans hx11)
  have X11 := hid (X10.out.trans Y11.out)
  clear hx11
  go_wp2_with fail
  refine (refrow_any _ _ _ _ _ _ _ _).mono ?_
  rintro e w12 ⟨rfl, hx12⟩
  have T11 := hid (show TB w12 (some ⟨w11.heap.size, 0, none⟩) [⟨#[83, 116, 114, 105, 99, 116]⟩, ⟨#[80, 117, 114, 101]⟩, ⟨#[84, 111, 116, 97, 108]⟩, ⟨#[83, 111, 114, 116, 101, 100]⟩] from (tb_new (blk0 _ _) rfl).later hx12)
  have Y12 := hid ((Ext.alloc _ _).trans hx12)
  have X12 := hid (X11.out.trans Y12.out)
  clear hx12
  go_wp2_with fail
  refine (refrow_any _ _ _ _ _ _ _ _).mono ?_
  rintro e w13 ⟨rfl, hx13⟩
  have T12 := hid (show TB w13 (some ⟨w12.heap.size, 0, none⟩) [⟨#[80, 117, 114, 101]⟩, ⟨#[83, 111, 114, 116, 101, 100]⟩, ⟨#[83, 117, 103, 97, 114]⟩] from (tb_new (blk0 _ _) rfl).later hx13)
  have Y13 := hid ((Ext.alloc _ _).trans hx13)
  have X13 := hid (X12.out.trans Y13.out)
  clear hx13
  go_wp2_with fail
  refine (refrow_any _ _ _ _ _ _ _ _).mono ?_
  rintro e w14 ⟨rfl, hx14⟩
  have T13 := hid (show TB w14 (some ⟨w13.heap.size, 0, none⟩) [⟨#[80, 117, 114, 101]⟩, ⟨#[83, 111, 114, 116, 101, 100]⟩, ⟨#[83, 117, 103, 97, 114]⟩] from (tb_new (blk0 _ _) rfl).later hx14)
  have Y14 := hid ((Ext.alloc _ _).trans hx14)
  have X14 := hid (X13.out.trans Y14.out)
  clear hx14
  go_wp2_with fail
  refine (refrow_any _ _ _ _ _ _ _ _).mono ?_
  rintro e w15 ⟨rfl, hx15⟩
  have T14 := hid (show TB w15 (some ⟨w14.heap.size, 0, none⟩) [⟨#[80, 117, 114, 101]⟩, ⟨#[83, 111, 114, 116, 101, 100]⟩, ⟨#[83, 117, 103, 97, 114]⟩] from (tb_new (blk0 _ _) rfl).later hx15)
  have Y15 := hid ((Ext.alloc _ _).trans hx15)
  have X15 := hid (X14.out.trans Y15.out)
  clear hx15
  go_wp2_with fail
  go_ret
  refine ⟨some ⟨w15.heap.size, 0, none⟩, 15, rfl, ?_, X15.out.trans (Ext.alloc _ _)⟩
  show RItems _ _ (.slice (some ⟨w15.heap.size, 0, none⟩) 15 15) numR
  refine ritems_new (n := 15) rfl X15.out.size (blk0 _ _) rfl (by decide) ?_
  intro j hj
  have hl : numR.length = 15 := rfl
  rw [hl] at hj
  match j, hj with
  | 0, _ => exact ⟨_, _, ⟨rfl, rfl, rfl, rfl, rfl, rfl⟩, T0.out.later (Y2.out.trans (Y3.out.trans (Y4.out.trans (Y5.out.trans (Y6.out.trans (Y7.out.trans (Y8.out.trans (Y9.out.trans (Y10.out.trans (Y11.out.trans (Y12.out.trans (Y13.out.trans (Y14.out.trans (Y15.out.trans (Ext.alloc _ _)))))))))))))))⟩
  | 1, _ => exact ⟨_, _, ⟨rfl, rfl, rfl, rfl, rfl, rfl⟩, T1.out.later (Y3.out.trans (Y4.out.trans (Y5.out.trans (Y6.out.trans (Y7.out.trans (Y8.out.trans (Y9.out.trans (Y10.out.trans (Y11.out.trans (Y12.out.trans (Y13.out.trans (Y14.out.trans (Y15.out.trans (Ext.alloc _ _))))))))))))))⟩
  | 2, _ => exact ⟨_, _, ⟨rfl, rfl, rfl, rfl, rfl, rfl⟩, T2.out.later (Y4.out.trans (Y5.out.trans (Y6.out.trans (Y7.out.trans (Y8.out.trans (Y9.out.trans (Y10.out.trans (Y11.out.trans (Y12.out.trans (Y13.out.trans (Y14.out.trans (Y15.out.trans (Ext.alloc _ _)))))))))))))⟩
  | 3, _ => exact ⟨_, _, ⟨rfl, rfl, rfl, rfl, rfl, rfl⟩, T3.out.later (Y5.out.trans (Y6.out.trans (Y7.out.trans (Y8.out.trans (Y9.out.trans (Y10.out.trans (Y11.out.trans (Y12.out.trans (Y13.out.trans (Y14.out.trans (Y15.out.trans (Ext.alloc _ _))))))))))))⟩
  | 4, _ => exact ⟨_, _, ⟨rfl, rfl, rfl, rfl, rfl, rfl⟩, T4.out.later (Y6.out.trans (Y7.out.trans (Y8.out.trans (Y9.out.trans (Y10.out.trans (Y11.out.trans (Y12.out.trans (Y13.out.trans (Y14.out.trans (Y15.out.trans (Ext.alloc _ _)))))))))))⟩
  | 5, _ => exact ⟨_, _, ⟨rfl, rfl, rfl, rfl, rfl, rfl⟩, T5.out.later (Y7.out.trans (Y8.out.trans (Y9.out.trans (Y10.out.trans (Y11.out.trans (Y12.out.trans (Y13.out.trans (Y14.out.trans (Y15.out.trans (Ext.alloc _ _))))))))))⟩
  | 6, _ => exact ⟨_, _, ⟨rfl, rfl, rfl, rfl, rfl, rfl⟩, T6.out.later (Y8.out.trans (Y9.out.trans (Y10.out.trans (Y11.out.trans (Y12.out.trans (Y13.out.trans (Y14.out.trans (Y15.out.trans (Ext.alloc _ _)))))))))⟩
  | 7, _ => exact ⟨_, _, ⟨rfl, rfl, rfl, rfl, rfl, rfl⟩, T7.out.later (Y9.out.trans (Y10.out.trans (Y11.out.trans (Y12.out.trans (Y13.out.trans (Y14.out.trans (Y15.out.trans (Ext.alloc _ _))))))))⟩
  | 8, _ => exact ⟨_, _, ⟨rfl, rfl, rfl, rfl, rfl, rfl⟩, T8.out.later (Y10.out.trans (Y11.out.trans (Y12.out.trans (Y13.out.trans (Y14.out.trans (Y15.out.trans (Ext.alloc _ _)))))))⟩
  | 9, _ => exact ⟨_, _, ⟨rfl, rfl, rfl, rfl, rfl, rfl⟩, T9.out.later (Y11.out.trans (Y12.out.trans (Y13.out.trans (Y14.out.trans (Y15.out.trans (Ext.alloc _ _))))))⟩
  | 10, _ => exact ⟨_, _, ⟨rfl, rfl, rfl, rfl, rfl, rfl⟩, T10.out.later (Y12.out.trans (Y13.out.trans (Y14.out.trans (Y15.out.trans (Ext.alloc _ _)))))⟩
  | 11, _ => exact ⟨_, _, ⟨rfl, rfl, rfl, rfl, rfl, rfl⟩, T11.out.later (Y13.out.trans (Y14.out.trans (Y15.out.trans (Ext.alloc _ _))))⟩
  | 12, _ => exact ⟨_, _, ⟨rfl, rfl, rfl, rfl, rfl, rfl⟩, T12.out.later (Y14.out.trans (Y15.out.trans (Ext.alloc _ _)))⟩
  | 13, _ => exact ⟨_, _, ⟨rfl, rfl, rfl, rfl, rfl, rfl⟩, T13.out.later (Y15.out.trans (Ext.alloc _ _))⟩
  | 14, _ => exact ⟨_, _, ⟨rfl, rfl, rfl, rfl, rfl, rfl⟩, T14.out.later (Ext.alloc _ _)⟩
  | n + 15, h => exact absurd h (by omega)

end Go.Proofs.YtgpggkepgoelfaaGreatDoor
