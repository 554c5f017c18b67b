/-
  A chain's rest: what errors.Unwrap gives of its first error, with one error less at hand; nothing where one alone was at hand.
-/
import Derived.Test.YtnmcmjgfnncdmaaGreatDoorZzEBase
namespace Go.Proofs.YtnmcmjgfnncdmaaGreatDoor.Er
open Go.RowKit
attribute [local go_sem] isNCoded isNLocated isNRaised isNLacking isNUnw isNAsI isNUnws isNNoted isCCoded isCLocated isCRaised isCLacking isCUnw isCAsI isCUnws isCNoted isLCoded isLLocated isLRaised isLLacking isLUnw isLAsI isLUnws isLNoted isKCoded isKLocated isKRaised isKLacking isKUnw isKAsI isKUnws isKNoted isHCoded isHLocated isHRaised isHLacking isHUnw isHAsI isHUnws isHNoted toCodedCoded toCodedLocated toCodedRaised toCodedLacking toCodedNoted toLocatedCoded toLocatedLocated toLocatedRaised toLocatedLacking toLocatedNoted toRaisedCoded toRaisedLocated toRaisedRaised toRaisedLacking toRaisedNoted toLackingCoded toLackingLocated toLackingRaised toLackingLacking toLackingNoted toNotedCoded toNotedLocated toNotedRaised toNotedLacking toNotedNoted mNUnwrap mNError mCCode mCError mLCode mLWhere mLError mKCode mKWhere mKLacks mKError mHAs mHUnwrap


theorem rest1 (b : Nat) (e u x : Value) (w : World) (hb : w.heap[b]? = some (.cells #[e, x] 150)) (hu : Unwraps w e u) :
    Calls Tryz.prog 327 #[.pointer (some ⟨b, 0, none⟩)] w fun r w' => r = .returned u ∧ Ext w w' := by
  have c0 : w.cell? ⟨b, 0, none⟩ = some e := cell_of hb rfl
  clear hb
  have HU : Hid (Unwraps w e u) := hu
  clear hu
  go_enter Tryz.func327, Tryz.ntmps327
  go_wp2_with (go_at_call 328; refine (HU.out _ (Ext.refl _)).mono ?_; rintro r w' ⟨rfl, hx⟩)
  go_ret
  exact ⟨rfl, hx⟩

set_option maxRecDepth 100000 in
set_option maxHeartbeats 800000 in
theorem rest_end (e : Value) (left : Int) (w : World) (hl : left ≤ 1) :
    Calls Tryz.prog 325 #[.agg #[e, .int .i64 left]] w fun r w' => r = .returned (.tuple #[.agg #[.nilIface, .int .i64 0], .bool false]) ∧ Ext w w' := by
  go_enter Tryz.func325, Tryz.ntmps325
  go_wp2
  refine bodyPost_ret (v := .tuple #[.agg #[.nilIface, .int .i64 0], .bool false]) (by simp [results, Tryz.results325, go_sem]) rfl ⟨rfl, ?_⟩
  first | exact Ext.alloc2 _ _ _ | exact (Ext.alloc2 _ _ _).set1 _ _ | exact ((Ext.alloc2 _ _ _).set1 _ _).set1 _ _

set_option maxRecDepth 100000 in
set_option maxHeartbeats 800000 in
theorem rest_nil (e : Value) (left : Int) (w : World) (hl : 1 < left) (hl2 : left ≤ 1024) (hu : Unwraps w e .nilIface) :
    Calls Tryz.prog 325 #[.agg #[e, .int .i64 left]] w fun r w' => r = .returned (.tuple #[.agg #[.nilIface, .int .i64 (left - 1)], .bool false]) ∧ Ext w w' := by
  have HC : Hid (∀ w1, Ext ((w.alloc (.cells #[e, .int .i64 left] 150)).alloc (.cells #[.nilIface, .int .i64 0] 150)) w1 → Calls Tryz.prog 327 #[.pointer (some ⟨w.heap.size, 0, none⟩)] w1 fun r w' => r = .returned .nilIface ∧ Ext w1 w') := fun w1 hx =>
    rest1 _ e _ (.int .i64 left) w1 (hx.block (blkOld _ (blk0 _ _))) (hu.later (((Ext.alloc _ _).trans (Ext.alloc _ _)).trans hx))
  clear hu
  go_enter Tryz.func325, Tryz.ntmps325
  go_wp2_with (go_at_call 326; refine (guarded_error _ _ _ HC.out).mono ?_; rintro r w2 ⟨rfl, hx⟩)
  have b0 : w2.heap[w.heap.size]? = some (.cells #[e, .int .i64 left] 150) := hx.block (blkOld _ (blk0 _ _))
  have b1 : w2.heap[w.heap.size + 1]? = some (.cells #[.nilIface, .int .i64 0] 150) := hx.block (blk1 _ _ _)
  have c1 : w2.cell? ⟨w.heap.size, 1, none⟩ = some (.int .i64 left) := cell_of b0 rfl
  have c2 : w2.cell? ⟨w.heap.size + 1, 0, none⟩ = some .nilIface := cell_of b1 rfl
  have c3 : w2.cell? ⟨w.heap.size + 1, 1, none⟩ = some (.int .i64 0) := cell_of b1 rfl
  have f2 : w2.frozen? ⟨w.heap.size + 1, 0, none⟩ = false := frozen_of b1
  have f3 : w2.frozen? ⟨w.heap.size + 1, 1, none⟩ = false := frozen_of b1
  have HX : Hid (Ext ((w.alloc (.cells #[e, .int .i64 left] 150)).alloc (.cells #[.nilIface, .int .i64 0] 150)) w2) := hx
  clear hx b0 b1
  go_wp2
  go_region
  all_goals
    go_wp2
    refine bodyPost_ret (v := .tuple #[.agg #[.nilIface, .int .i64 (left - 1)], .bool false]) (by simp [results, Tryz.results325, go_sem, c2, c3]) rfl ⟨rfl, ?_⟩
    exact (((((Ext.alloc2 _ _ _).trans HX.out).set1 _ _).set1 _ _).drew)

set_option maxRecDepth 100000 in
set_option maxHeartbeats 800000 in
theorem rest_some (t : TypeId) (v : Value) (e : Value) (left : Int) (w : World) (hl : 1 < left) (hl2 : left ≤ 1024) (hu : Unwraps w e (.iface t v)) :
    Calls Tryz.prog 325 #[.agg #[e, .int .i64 left]] w fun r w' => r = .returned (.tuple #[.agg #[(.iface t v), .int .i64 (left - 1)], .bool true]) ∧ Ext w w' := by
  have HC : Hid (∀ w1, Ext ((w.alloc (.cells #[e, .int .i64 left] 150)).alloc (.cells #[.nilIface, .int .i64 0] 150)) w1 → Calls Tryz.prog 327 #[.pointer (some ⟨w.heap.size, 0, none⟩)] w1 fun r w' => r = .returned (.iface t v) ∧ Ext w1 w') := fun w1 hx =>
    rest1 _ e _ (.int .i64 left) w1 (hx.block (blkOld _ (blk0 _ _))) (hu.later (((Ext.alloc _ _).trans (Ext.alloc _ _)).trans hx))
  clear hu
  go_enter Tryz.func325, Tryz.ntmps325
  go_wp2_with (go_at_call 326; refine (guarded_error _ _ _ HC.out).mono ?_; rintro r w2 ⟨rfl, hx⟩)
  have b0 : w2.heap[w.heap.size]? = some (.cells #[e, .int .i64 left] 150) := hx.block (blkOld _ (blk0 _ _))
  have b1 : w2.heap[w.heap.size + 1]? = some (.cells #[.nilIface, .int .i64 0] 150) := hx.block (blk1 _ _ _)
  have c1 : w2.cell? ⟨w.heap.size, 1, none⟩ = some (.int .i64 left) := cell_of b0 rfl
  have c2 : w2.cell? ⟨w.heap.size + 1, 0, none⟩ = some .nilIface := cell_of b1 rfl
  have c3 : w2.cell? ⟨w.heap.size + 1, 1, none⟩ = some (.int .i64 0) := cell_of b1 rfl
  have f2 : w2.frozen? ⟨w.heap.size + 1, 0, none⟩ = false := frozen_of b1
  have f3 : w2.frozen? ⟨w.heap.size + 1, 1, none⟩ = false := frozen_of b1
  have HX : Hid (Ext ((w.alloc (.cells #[e, .int .i64 left] 150)).alloc (.cells #[.nilIface, .int .i64 0] 150)) w2) := hx
  clear hx b0 b1
  go_wp2
  go_region
  all_goals
    go_wp2
    refine bodyPost_ret (v := .tuple #[.agg #[(.iface t v), .int .i64 (left - 1)], .bool true]) (by simp [results, Tryz.results325, go_sem, c2, c3]) rfl ⟨rfl, ?_⟩
    exact (((((Ext.alloc2 _ _ _).trans HX.out).set1 _ _).set1 _ _).drew)

end Go.Proofs.YtnmcmjgfnncdmaaGreatDoor.Er
