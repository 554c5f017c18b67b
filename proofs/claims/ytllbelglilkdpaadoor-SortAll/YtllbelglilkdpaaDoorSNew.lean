/-
  standing, newSolver and fresh of package sort, each by a contract.
-/
import Derived.Test.YtllbelglilkdpaaDoorSMeetH
import Derived.Test.YtllbelglilkdpaaDoorShelf
import Derived.Laws.EntriesVeiled
import Derived.Deep.Cut
namespace Go.Proofs.YtllbelglilkdpaaDoor
open Go.RowKit
set_option maxRecDepth 100000 in
theorem standing_any (w : World) : Calls Tryd.prog 40 #[] w fun e w' => e = .returned (.tuple #[standF (w.heap.size + 1), standsF (w.heap.size + 1)]) ∧ Ext w w' ∧ SolM w' (w.heap.size + 1) w.heap.size 0 (fun _ => none) := by
  have hmm := @run_makeMap Tryd.prog
  have hmf : ∀ (fn : Fn) (first cap : Array Value) (w : World), (Instr.makeFunc fn first cap).run Tryd.prog w = .ok (.func fn first cap) w := fun _ _ _ _ => rfl
  go_enter Tryd.func40, Tryd.ntmps40
  go_wp2_with fail
  go_ret2
  refine ⟨rfl, Ext.alloc2 _ _ _, blk1 _ _ _, by omega, .map [], ?_, MapIs.nil⟩
  exact (World.ownsMap_made w Tryd.prog 9 shE).alloc _
/-- The function value fresh. -/
abbrev freshF (b5 : Nat) : Value := .func (.func 61) #[] #[.pointer (some ⟨b5, 0, none⟩)]
/-- A whole solver: its map, its closures' boxes, its last variable. -/
structure Solv (w : World) (B kb mb N b1 b2 b3 b5 : Nat) (l : Int) (σ : ByteArray → Option Sh) : Prop where
  sol : Sol w kb mb N b1 b2 b3 σ
  c5 : w.heap[b5]? = some (.cells #[.int .i64 l] 3)
  n5 : b5 ≠ mb ∧ b5 ≠ kb ∧ b5 ≠ b1 ∧ b5 ≠ b2 ∧ b5 ≠ b3
  ge : B ≤ kb ∧ B ≤ mb ∧ B ≤ b1 ∧ B ≤ b2 ∧ B ≤ b3 ∧ B ≤ b5
theorem Solv.later {w w' : World} {B kb mb N b1 b2 b3 b5 : Nat} {l : Int} {σ : ByteArray → Option Sh} (h : Solv w B kb mb N b1 b2 b3 b5 l σ) (hx : Ext w w') : Solv w' B kb mb N b1 b2 b3 b5 l σ := ⟨h.sol.later hx, hx.block h.c5, h.n5, h.ge⟩
set_option maxRecDepth 100000 in
set_option maxHeartbeats 1000000 in
theorem newSolver_any (w : World) : Calls Tryd.prog 39 #[] w fun e w' => ∃ kb mb b1 b2 b3 b5, e = .returned (.agg #[meetF b3 b1, foundF b2, freshF b5]) ∧ Ext w w' ∧ Solv w' w.heap.size kb mb 0 b1 b2 b3 b5 0 (fun _ => none) := by
  have hmf : ∀ (fn : Fn) (first cap : Array Value) (w : World), (Instr.makeFunc fn first cap).run Tryd.prog w = .ok (.func fn first cap) w := fun _ _ _ _ => rfl
  go_enter Tryd.func39, Tryd.ntmps39
  go_wp2_with fail
  refine (standing_any _).mono ?_
  rintro e w1 ⟨rfl, hx1, hs1⟩
  obtain ⟨kb, hkb⟩ : ∃ kb, (w.alloc (.cells #[.nilFunc, .nilFunc, .nilFunc] 72)).heap.size + 1 = kb := ⟨_, rfl⟩
  obtain ⟨mb, hmb⟩ : ∃ mb, (w.alloc (.cells #[.nilFunc, .nilFunc, .nilFunc] 72)).heap.size = mb := ⟨_, rfl⟩
  rw [hkb, hmb] at hs1
  rw [hkb]
  have hsz : (w.alloc (.cells #[.nilFunc, .nilFunc, .nilFunc] 72)).heap.size = w.heap.size + 1 := blkS _ _
  have HX1 := hid ((Ext.alloc w _).trans hx1)
  have HS1 := hid hs1
  have HB := hid (hx1.block (blk0 w (.cells #[.nilFunc, .nilFunc, .nilFunc] 72)))
  have hl1 := lt_of_block HB.out
  have HN := hid (show mb = w.heap.size + 1 ∧ kb = w.heap.size + 2 by omega)
  clear hx1 hs1 hkb hmb hsz
  have r0 : w1.cell? ⟨w.heap.size, 0, none⟩ = some .nilFunc := cell_of HB.out rfl
  have r1 : w1.cell? ⟨w.heap.size, 1, none⟩ = some .nilFunc := cell_of HB.out rfl
  have r2 : w1.cell? ⟨w.heap.size, 2, none⟩ = some .nilFunc := cell_of HB.out rfl
  have e0 := frozen_of (i := 0) HB.out
  have e1 := frozen_of (i := 1) HB.out
  have e2 := frozen_of (i := 2) HB.out
  unfold standF standsF
  go_upto_region 6 with fail
  obtain ⟨V, hV⟩ : ∃ V, (((w1.alloc (.cells #[standF kb] 74)).alloc (.cells #[standsF kb] 75)).alloc (.cells #[foundF (w1.heap.size + 1)] 69)).alloc (.cells #[.int .i64 0] 3) = V := ⟨_, rfl⟩
  have HXV := hid (show Ext w1 V from hV ▸ ((Ext.alloc2 _ _ _).trans (Ext.alloc2 _ _ _)))
  have HV1 := hid (show V.heap[w1.heap.size]? = some (.cells #[standF kb] 74) from hV ▸ blkOld _ (blkOld _ (blkOld _ (blk0 _ _))))
  have HV2 := hid (show V.heap[w1.heap.size + 1]? = some (.cells #[standsF kb] 75) from hV ▸ blkOld _ (blkOld _ (blk1 _ _ _)))
  have HV3 := hid (show V.heap[w1.heap.size + 1 + 1]? = some (.cells #[foundF (w1.heap.size + 1)] 69) from hV ▸ blkOld _ (blkN (by rw [blkS, blkS])))
  have HV5 := hid (show V.heap[w1.heap.size + 1 + 1 + 1]? = some (.cells #[.int .i64 0] 3) from hV ▸ blkN (by rw [blkS, blkS, blkS]))
  have HVB := hid (HXV.out.block HB.out)
  have HSV := hid (HS1.out.later HXV.out)
  change Code.wp _ _ _ _ ((((w1.alloc (.cells #[standF kb] 74)).alloc (.cells #[standsF kb] 75)).alloc (.cells #[foundF (w1.heap.size + 1)] 69)).alloc (.cells #[.int .i64 0] 3))
  rw [hV]
  clear r0 r1 r2 e0 e1 e2 hV
  have r0 : V.cell? ⟨w.heap.size, 0, none⟩ = some .nilFunc := cell_of HVB.out rfl
  have r1 : V.cell? ⟨w.heap.size, 1, none⟩ = some .nilFunc := cell_of HVB.out rfl
  have r2 : V.cell? ⟨w.heap.size, 2, none⟩ = some .nilFunc := cell_of HVB.out rfl
  have e0 := frozen_of (i := 0) HVB.out
  have e1 := frozen_of (i := 1) HVB.out
  have e2 := frozen_of (i := 2) HVB.out
  have q3 : V.cell? ⟨w1.heap.size + 1 + 1, 0, none⟩ = some (foundF (w1.heap.size + 1)) := cell_of HV3.out rfl
  go_wp2_with fail
  obtain ⟨F1, hF1⟩ : ∃ F1, meetF (w1.heap.size + 1 + 1) w1.heap.size = F1 := ⟨_, rfl⟩
  have hset : (((V.setCell ⟨w.heap.size, 0, none⟩ (meetF (w1.heap.size + 1 + 1) w1.heap.size)).setCell ⟨w.heap.size, 1, none⟩ (foundF (w1.heap.size + 1))).setCell ⟨w.heap.size, 2, none⟩ (freshF (w1.heap.size + 1 + 1 + 1))).heap[w.heap.size]? = some (.cells #[meetF (w1.heap.size + 1 + 1) w1.heap.size, foundF (w1.heap.size + 1), freshF (w1.heap.size + 1 + 1 + 1)] 72) := (set_at (set_at (set_at HVB.out 0 _) 1 _) 2 _).trans rfl
  have z0 := cell_of (i := 0) hset rfl
  have z1 := cell_of (i := 1) hset rfl
  have z2 := cell_of (i := 2) hset rfl
  simp only [List.getElem_toArray, List.getElem_cons_zero, List.getElem_cons_succ] at z0 z1 z2
  have kk : Kp (· ≠ w.heap.size) V (((V.setCell ⟨w.heap.size, 0, none⟩ (meetF (w1.heap.size + 1 + 1) w1.heap.size)).setCell ⟨w.heap.size, 1, none⟩ (foundF (w1.heap.size + 1))).setCell ⟨w.heap.size, 2, none⟩ (freshF (w1.heap.size + 1 + 1 + 1))) := ((Kp.set _ _ _ _ (fun h => h rfl)).trans (Kp.set _ _ _ _ (fun h => h rfl))).trans (Kp.set _ _ _ _ (fun h => h rfl))
  refine bodyPost_ret (v := .agg #[meetF (w1.heap.size + 1 + 1) w1.heap.size, foundF (w1.heap.size + 1), freshF (w1.heap.size + 1 + 1 + 1)]) (by simp [results, Tryd.results39, go_sem, z0, z1, z2]) rfl ?_
  have hn := HN.out
  have hlt := HS1.out.lt
  refine ⟨kb, mb, w1.heap.size, w1.heap.size + 1, w1.heap.size + 1 + 1, w1.heap.size + 1 + 1 + 1, rfl, Kp.ext (((HX1.out.trans HXV.out).kp _).trans kk) (fun q hq => by show q ≠ w.heap.size; omega), ⟨⟨HSV.out.keep kk (by omega) (by omega), kk.block' HV1.out (by omega), kk.block' HV2.out (by omega), kk.block' HV3.out (by omega), by omega, by omega, by omega⟩, kk.block' HV5.out (by omega), ⟨by omega, by omega, by omega, by omega, by omega⟩, ⟨by omega, by omega, by omega, by omega, by omega, by omega⟩⟩⟩
end Go.Proofs.YtllbelglilkdpaaDoor
