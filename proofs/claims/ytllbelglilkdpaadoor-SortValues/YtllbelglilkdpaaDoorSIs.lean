/-
  Is at the number and the variable, by a contract.
-/
import Derived.Test.YtllbelglilkdpaaDoorSOfE
import Derived.Test.YtllbelglilkdpaaDoorSMeet
namespace Go.Proofs.YtllbelglilkdpaaDoor
open Go.RowKit
set_option maxRecDepth 100000 in
set_option maxHeartbeats 1000000 in
theorem is_int (w : World) (HMAY : ∀ w1, Calls Tryd.prog 42 #[.agg #[.int .i64 3, .int .i64 0, .string ⟨#[]⟩, .slice none 0 0]] w1 fun e w' => e = .returned (.bool true) ∧ Ext w1 w')
    (HSF : ∀ w1, Calls Tryd.prog 32 #[.agg #[.string ⟨#[97]⟩, .slice none 0 0]] w1 fun e w' => e = .returned (.tuple #[shV (0, ⟨#[97]⟩), .int .i64 0]) ∧ Ext w1 w') :
    Calls Tryd.prog 18 #[.agg #[.int .i64 3, .int .i64 0, .string ⟨#[]⟩, .slice none 0 0], .agg #[.string ⟨#[97]⟩, .slice none 0 0]] w fun e w' => e = .returned (.bool true) ∧ Ext w w' := by
  have HM := hid HMAY
  have HF := hid HSF
  clear HMAY HSF
  obtain ⟨M, hM⟩ : ∃ M, (w.alloc (.cells #[.int .i64 3, .int .i64 0, .string ⟨#[]⟩, .slice none 0 0] 31)).alloc (.cells #[.string ⟨#[97]⟩, .slice none 0 0] 27) = M := ⟨_, rfl⟩
  have XM := hid (show Ext w M from hM ▸ Ext.alloc2 _ _ _)
  have HM0 := hid (show M.heap[w.heap.size]? = some (.cells #[.int .i64 3, .int .i64 0, .string ⟨#[]⟩, .slice none 0 0] 31) from hM ▸ blkOld _ (blk0 _ _))
  have HM1 := hid (show M.heap[w.heap.size + 1]? = some (.cells #[.string ⟨#[97]⟩, .slice none 0 0] 27) from hM ▸ blk1 _ _ _)
  obtain ⟨m0, m1⟩ := two_of HM1.out
  go_enter Tryd.func18, Tryd.ntmps18
  go_wp2_with fail
  go_at_call 32
  refine (HF.out _).mono ?_
  rintro e w1 ⟨rfl, hx1⟩
  clear hM m0 m1
  obtain ⟨V1, hV1⟩ : ∃ V1, w1.alloc (.cells #[.int .i64 0, .string ⟨#[97]⟩] 58) = V1 := ⟨_, rfl⟩
  have X1 := hid (show Ext M V1 from hV1 ▸ hx1.trans (Ext.alloc _ _))
  have HV1 := hid (show V1.heap[w1.heap.size]? = some (.cells #[.int .i64 0, .string ⟨#[97]⟩] 58) from hV1 ▸ blk0 _ _)
  clear hx1
  have HP1 := hid (X1.out.block HM0.out)
  have a0 : V1.cell? ⟨w.heap.size, 0, none⟩ = some (.int .i64 3) := cell_of HP1.out rfl
  have a1 : V1.cell? ⟨w.heap.size, 1, none⟩ = some (.int .i64 0) := cell_of HP1.out rfl
  have a2 : V1.cell? ⟨w.heap.size, 2, none⟩ = some (.string ⟨#[]⟩) := cell_of HP1.out rfl
  have a3 : V1.cell? ⟨w.heap.size, 3, none⟩ = some (.slice none 0 0) := cell_of HP1.out rfl
  go_wp2_with fail
  go_at_call 42
  refine (HM.out V1).mono ?_
  rintro e w2 ⟨rfl, hx2⟩
  have X2 := hid hx2
  clear hx2 hV1 a0 a1 a2 a3
  go_wp2_with fail
  go_at_call 39
  refine (newSolver_any w2).mono ?_
  rintro e w3 ⟨kb, mb, b1, b2, b3, b5, rfl, hx3, hs3⟩
  obtain ⟨V3, hV3⟩ : ∃ V3, w3.alloc (.cells #[meetF b3 b1, foundF b2, freshF b5] 72) = V3 := ⟨_, rfl⟩
  have X3 := hid (show Ext w2 V3 from hV3 ▸ hx3.trans (Ext.alloc _ _))
  have HS3 := hid (show Solv V3 w2.heap.size kb mb 0 b1 b2 b3 b5 0 (fun _ => none) from hs3.later (hV3 ▸ Ext.alloc _ _))
  have HV3 := hid (show V3.heap[w3.heap.size]? = some (.cells #[meetF b3 b1, foundF b2, freshF b5] 72) from hV3 ▸ blk0 _ _)
  clear hx3 hs3
  have s0 : V3.cell? ⟨w3.heap.size, 0, none⟩ = some (meetF b3 b1) := cell_of HV3.out rfl
  have s1 : V3.cell? ⟨w3.heap.size, 1, none⟩ = some (foundF b2) := cell_of HV3.out rfl
  have s2 : V3.cell? ⟨w3.heap.size, 2, none⟩ = some (freshF b5) := cell_of HV3.out rfl
  have HP3 := hid (X3.out.block (X2.out.block HP1.out))
  have a0 : V3.cell? ⟨w.heap.size, 0, none⟩ = some (.int .i64 3) := cell_of HP3.out rfl
  have a1 : V3.cell? ⟨w.heap.size, 1, none⟩ = some (.int .i64 0) := cell_of HP3.out rfl
  have a2 : V3.cell? ⟨w.heap.size, 2, none⟩ = some (.string ⟨#[]⟩) := cell_of HP3.out rfl
  have a3 : V3.cell? ⟨w.heap.size, 3, none⟩ = some (.slice none 0 0) := cell_of HP3.out rfl
  go_wp2_with fail
  go_at_call 43
  refine (of_leaf (meetF b3 b1) (foundF b2) (freshF b5) 3 0 ⟨#[]⟩ none 0 0 V3 ⟨⟨_, _, _, rfl⟩, ⟨_, _, _, rfl⟩, _, _, _, rfl⟩ (by decide)).mono ?_
  rintro e w4 ⟨rfl, hx4⟩
  clear hV3 s0 s1 s2 a0 a1 a2 a3
  rw [show nameB 3 = ⟨#[105, 110, 116]⟩ from rfl]
  obtain ⟨V4, hV4⟩ : ∃ V4, w4.alloc (.cells #[.int .i64 0, .string ⟨#[105, 110, 116]⟩] 58) = V4 := ⟨_, rfl⟩
  have X4 := hid (show Ext V3 V4 from hV4 ▸ hx4.trans (Ext.alloc _ _))
  have HV4 := hid (show V4.heap[w4.heap.size]? = some (.cells #[.int .i64 0, .string ⟨#[105, 110, 116]⟩] 58) from hV4 ▸ blk0 _ _)
  clear hx4
  have s0 : V4.cell? ⟨w3.heap.size, 0, none⟩ = some (meetF b3 b1) := cell_of (X4.out.block HV3.out) rfl
  obtain ⟨c0, c1⟩ := two_of HV4.out
  obtain ⟨d0, d1⟩ := two_of (X4.out.block (X3.out.block (X2.out.block HV1.out)))
  go_wp2_with fail
  go_at_call 58
  refine (meet_any 0 0 (0, ⟨#[105, 110, 116]⟩) (0, ⟨#[97]⟩) (0, ⟨#[105, 110, 116]⟩) (0, ⟨#[97]⟩) V4 (HS3.out.later X4.out).sol ⟨⟨by decide, by decide, by decide⟩, rfl, rfl⟩ ⟨⟨by decide, by decide, by decide⟩, rfl, rfl⟩ ⟨by decide, by decide, by decide⟩ ⟨by decide, by decide, by decide⟩ (by decide)).mono ?_
  intro e w5 hr
  rw [show meetPQ ((0 : Int) + -(if (0 : Int) < 0 then (0 : Int) else 0), ⟨#[105, 110, 116]⟩) ((0 : Int) + -(if (0 : Int) < 0 then (0 : Int) else 0), ⟨#[97]⟩) = ((0, ⟨#[97]⟩), (0, ⟨#[105, 110, 116]⟩)) from rfl] at hr
  have hr2 : e = .returned (.bool true) ∧ Kp (· ≠ mb) V4 w5 := by
    rcases hr with ⟨_, h1, h2⟩ | ⟨_, _, h1, h2, _⟩ | ⟨_, h1, _⟩
    · exact ⟨h1, h2.kp _⟩
    · exact ⟨h1, h2⟩
    · exact absurd (show opS (0, ⟨#[97]⟩) = true ∧ (⟨#[97]⟩ : ByteArray) ≠ ⟨#[105, 110, 116]⟩ from ⟨rfl, by decide⟩) h1
  obtain ⟨rfl, hk⟩ := hr2
  have HK := hid hk
  clear hr hk
  go_wp2_with fail
  go_ret
  exact ⟨rfl, Kp.extOf ((((XM.out.trans X1.out).trans X2.out).trans X3.out).trans X4.out) HK.out (Nat.le_trans ((XM.out.trans X1.out).trans X2.out).size HS3.out.ge.2.1)⟩
end Go.Proofs.YtllbelglilkdpaaDoor
