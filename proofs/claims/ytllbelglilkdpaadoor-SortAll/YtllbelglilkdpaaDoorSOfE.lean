/-
  of at an empty list, by a contract.
-/
import Derived.Test.YtllbelglilkdpaaDoorSOf
namespace Go.Proofs.YtllbelglilkdpaaDoor
open Go.RowKit
theorem Solv.keep {w w' : World} {B kb mb N b1 b2 b3 b5 : Nat} {l : Int} {σ : ByteArray → Option Sh} (h : Solv w B kb mb N b1 b2 b3 b5 l σ) (hk : Kp (· ≠ b5) w w') : Sol w' kb mb N b1 b2 b3 σ :=
  ⟨h.sol.map.keep hk (fun e => h.n5.2.1 e.symm) (fun e => h.n5.1 e.symm), hk.block' h.sol.c1 (fun e => h.n5.2.2.1 e.symm), hk.block' h.sol.c2 (fun e => h.n5.2.2.2.1 e.symm), hk.block' h.sol.c3 (fun e => h.n5.2.2.2.2 e.symm), h.sol.n1, h.sol.n2, h.sol.n3⟩
set_option maxRecDepth 100000 in
set_option maxHeartbeats 1000000 in
theorem of_none (l : Nat) (n : Int) (x : ByteArray) (a : Option Addr) (c : Nat) (w : World) {B kb mb N b1 b2 b3 b5 : Nat} {σ : ByteArray → Option Sh} (h : Solv w B kb mb N b1 b2 b3 b5 l σ) (hl : l + 1 < 100) (hσ : FndN σ 0 (0, ⟨(Lib.decDigits (l + 1)).toArray⟩) (0, ⟨(Lib.decDigits (l + 1)).toArray⟩)) : Calls Tryd.prog 43 #[.agg #[meetF b3 b1, foundF b2, freshF b5], .agg #[.int .i64 5, .int .i64 n, .string x, .slice a 0 c]] w fun e w' => e = .returned (.tuple #[shV (1, ⟨(Lib.decDigits (l + 1)).toArray⟩), .bool true]) ∧ Kp (· ≠ b5) w w' ∧ Solv w' B kb mb N b1 b2 b3 b5 ((l + 1 : Nat) : Int) σ := by
  have HS := hid h
  obtain ⟨y, hy⟩ : ∃ y : ByteArray, ⟨(Lib.decDigits (l + 1)).toArray⟩ = y := ⟨_, rfl⟩
  have HFR := hid (fun w1 (hx : Ext w w1) => fresh_any l w1 (h.later hx).c5 hl)
  have HY := hid hy
  have HSG := hid hσ
  rw [hy] at HSG ⊢
  clear h hσ hy
  obtain ⟨M, hM⟩ : ∃ M, ((w.alloc (.cells #[meetF b3 b1, foundF b2, freshF b5] 72)).alloc (.cells #[.int .i64 5, .int .i64 n, .string x, .slice a 0 c] 31)).alloc (.cells #[.int .i64 0, .string ⟨#[]⟩] 58) = M := ⟨_, rfl⟩
  have HXM := hid (show Ext w M from hM ▸ (Ext.alloc2 _ _ _).trans (Ext.alloc _ _))
  have HM0 := hid (show M.heap[w.heap.size]? = some (.cells #[meetF b3 b1, foundF b2, freshF b5] 72) from hM ▸ blkOld _ (blkOld _ (blk0 _ _)))
  have HM1 := hid (show M.heap[w.heap.size + 1]? = some (.cells #[.int .i64 5, .int .i64 n, .string x, .slice a 0 c] 31) from hM ▸ blkOld _ (blk1 _ _ _))
  have HM2 := hid (show M.heap[w.heap.size + 1 + 1]? = some (.cells #[.int .i64 0, .string ⟨#[]⟩] 58) from hM ▸ blk2 _ _ _ _)
  have hb5 := lt_of_block HS.out.c5
  have HB5 := hid hb5
  have m0 : M.cell? ⟨w.heap.size + 1, 0, none⟩ = some (.int .i64 5) := cell_of HM1.out rfl
  have m1 : M.cell? ⟨w.heap.size, 2, none⟩ = some (freshF b5) := cell_of HM0.out rfl
  go_enter Tryd.func43, Tryd.ntmps43
  go_wp2_with fail
  clear hM hb5 m0 m1
  refine (HFR.out M HXM.out).mono ?_
  rintro e w4 ⟨rfl, hk4, hc4⟩
  rw [HY.out]
  have K4 := hid hk4
  have C4 := hid hc4
  clear hk4 hc4
  have HW0 := hid (K4.out.block' HM0.out (by have := HB5.out; omega))
  have HW1 := hid (K4.out.block' HM1.out (by have := HB5.out; omega))
  have HW2 := hid (K4.out.block' HM2.out (by have := HB5.out; omega))
  obtain ⟨V, hV⟩ : ∃ V, w4.alloc (.cells #[.int .i64 0, .string y] 58) = V := ⟨_, rfl⟩
  have XV := hid (show Ext w4 V from hV ▸ Ext.alloc _ _)
  have HV3 := hid (show V.heap[w4.heap.size]? = some (.cells #[.int .i64 0, .string y] 58) from hV ▸ blk0 _ _)
  have HSV := hid (show Sol V kb mb N b1 b2 b3 σ from ((HS.out.later HXM.out).keep K4.out).later XV.out)
  have g0 : V.cell? ⟨w.heap.size + 1, 3, none⟩ = some (.slice a 0 c) := cell_of (XV.out.block HW1.out) rfl
  have g1 : V.cell? ⟨w.heap.size, 1, none⟩ = some (foundF b2) := cell_of (XV.out.block HW0.out) rfl
  obtain ⟨g2, g3⟩ := two_of HV3.out
  go_wp2_with fail
  refine wp_loop_once ?_
  go_wp2_with fail
  refine (found_any 0 (0, y) (0, y) V HSV.out.map HSV.out.c2 HSG.out).mono ?_
  rintro e w6 ⟨rfl, hx6⟩
  have X6 := hid hx6
  clear hx6 g0 g1 g2 g3
  go_wp2_with fail
  refine (within_any 0 1 y w6 (by omega) (by omega) (by omega) (by omega)).mono ?_
  rintro e w7 ⟨rfl, hx7⟩
  have X7 := hid (X6.out.trans hx7)
  clear hx7
  have HW7 := hid (X7.out.block (XV.out.block HW2.out))
  obtain ⟨g4, g5⟩ := two_free HW7.out
  obtain ⟨g6, g7⟩ := two_of HW7.out
  obtain ⟨Z, hZ⟩ : ∃ Z, (w7.setCell ⟨w.heap.size + 1 + 1, 0, none⟩ (.int .i64 1)).setCell ⟨w.heap.size + 1 + 1, 1, none⟩ (.string y) = Z := ⟨_, rfl⟩
  have KZ := hid (show Kp (· ≠ w.heap.size + 1 + 1) w7 Z from hZ ▸ Kp.set2 w7 (w.heap.size + 1 + 1) 0 (.int .i64 1) (.string y))
  have HZ := hid (show Z.heap[w.heap.size + 1 + 1]? = some (.cells #[.int .i64 1, .string y] 58) from hZ ▸ two_set HW7.out)
  obtain ⟨z0, z1⟩ := two_of HZ.out
  go_wp2_with fail
  refine bodyPost_ret (v := .tuple #[shV (1, y), .bool true]) (by simp [results, Tryd.results43, go_sem, z0, z1]) rfl ?_
  have KE : Kp (· ≠ b5) w Z := ⟨KZ.out.os.trans ((((XV.out.trans X7.out).kp (fun _ => True)).os).trans (K4.out.os.trans HXM.out.os)), KZ.out.tape.trans ((((XV.out.trans X7.out).kp (fun _ => True)).tape).trans (K4.out.tape.trans HXM.out.tape)), KZ.out.output.trans ((((XV.out.trans X7.out).kp (fun _ => True)).output).trans (K4.out.output.trans HXM.out.output)), Nat.le_trans HXM.out.size (Nat.le_trans K4.out.size (Nat.le_trans (XV.out.trans X7.out).size KZ.out.size)), fun i hi hk => by
    have h1 := KZ.out.block i (Nat.lt_of_lt_of_le hi (Nat.le_trans HXM.out.size (Nat.le_trans K4.out.size (XV.out.trans X7.out).size))) (by omega)
    have h2 := Below.block (XV.out.trans X7.out) i (Nat.lt_of_lt_of_le hi (Nat.le_trans HXM.out.size K4.out.size))
    have h3 := K4.out.block i (Nat.lt_of_lt_of_le hi HXM.out.size) hk
    exact h1.trans (h2.trans (h3.trans (Below.block HXM.out i hi)))⟩
  have C5 : Z.heap[b5]? = some (.cells #[.int .i64 ((l + 1 : Nat) : Int)] 3) := KZ.out.block' ((XV.out.trans X7.out).block C4.out) (by have := HB5.out; omega)
  exact ⟨rfl, KE, HS.out.keep KE, C5, HS.out.n5, HS.out.ge⟩
end Go.Proofs.YtllbelglilkdpaaDoor
