/-
  The small functions of package fault and of package errors, each by a contract: errors.Unwrap of each kind of error, the guarded calls (the deferred recover finds nothing), a chain's rest.
-/
import Derived.Test.YtaodkfchmaendaaGreatDoorEAid
import Derived.WalkKit
import Derived.WalkSpells
import Derived.WalkLawsBesides
import Derived.Defers
import Derived.Recover
import Derived.RegionTactic
import Derived.BigRegion
import Derived.LaidEql
import Derived.RangeFuncRecord
import Derived.Outline
namespace Go.Proofs.YtaodkfchmaendaaGreatDoor.Er
open Go.RowKit

attribute [local go_sem] isNCoded isNLocated isNRaised isNLacking isNUnw isNAsI isNUnws isNNoted isCCoded isCLocated isCRaised isCLacking isCUnw isCAsI isCUnws isCNoted isLCoded isLLocated isLRaised isLLacking isLUnw isLAsI isLUnws isLNoted isKCoded isKLocated isKRaised isKLacking isKUnw isKAsI isKUnws isKNoted isHCoded isHLocated isHRaised isHLacking isHUnw isHAsI isHUnws isHNoted toCodedCoded toCodedLocated toCodedRaised toCodedLacking toCodedNoted toLocatedCoded toLocatedLocated toLocatedRaised toLocatedLacking toLocatedNoted toRaisedCoded toRaisedLocated toRaisedRaised toRaisedLacking toRaisedNoted toLackingCoded toLackingLocated toLackingRaised toLackingLacking toLackingNoted toNotedCoded toNotedLocated toNotedRaised toNotedLacking toNotedNoted mNUnwrap mNError mCCode mCError mLCode mLWhere mLError mKCode mKWhere mKLacks mKError mHAs mHUnwrap


/-- A note: its block holds what is within, and the note. -/
def NotedAt (w : World) (b : Nat) (u : Value) (n : ByteArray) : Prop := w.heap[b]? = some (.cells #[u, .string n] 335)

theorem noted_unwrap (b : Nat) (u : Value) (n : ByteArray) (w : World) (h : NotedAt w b u n) :
    Calls Tryz.prog 207 #[.pointer (some ⟨b, 0, none⟩)] w fun e w' => e = .returned u ∧ w' = w := by
  have c0 : w.cell? ⟨b, 0, none⟩ = some u := cell_of h rfl
  clear h
  go_enter Tryz.func207, Tryz.ntmps207
  go_wp2
  go_ret
  exact ⟨rfl, rfl⟩

/-- errors.Unwrap gives u, in whatever later world. -/
def Unwraps (w : World) (e u : Value) : Prop :=
  ∀ w1, Ext w w1 → Calls Tryz.prog 174 #[e] w1 fun r w' => r = .returned u ∧ Ext w1 w'
theorem Unwraps.later {w w1 : World} {e u : Value} (h : Unwraps w e u) (hx : Ext w w1) : Unwraps w1 e u := fun w2 h2 => h w2 (hx.trans h2)

theorem unwraps_noted (b : Nat) (u : Value) (n : ByteArray) (w : World) (h : NotedAt w b u n) : Unwraps w (.iface 319 (.pointer (some ⟨b, 0, none⟩))) u := by
  intro w1 hx
  have h1 : NotedAt w1 b u n := hx.block h
  go_enter Tryz.func174, Tryz.ntmps174
  go_wp2_with (go_at_call 207; refine (noted_unwrap b u n _ h1).mono ?_; rintro e w' ⟨rfl, rfl⟩)
  go_ret
  exact ⟨rfl, Ext.refl _⟩

theorem unwraps_C (v : Value) (w : World) : Unwraps w (.iface 137 v) .nilIface := by
  intro w1 hx
  clear hx
  go_enter Tryz.func174, Tryz.ntmps174
  go_wp2
  go_ret
  exact ⟨rfl, Ext.refl _⟩

theorem unwraps_L (v : Value) (w : World) : Unwraps w (.iface 327 v) .nilIface := by
  intro w1 hx
  clear hx
  go_enter Tryz.func174, Tryz.ntmps174
  go_wp2
  go_ret
  exact ⟨rfl, Ext.refl _⟩

theorem unwraps_K (v : Value) (w : World) : Unwraps w (.iface 150 v) .nilIface := by
  intro w1 hx
  clear hx
  go_enter Tryz.func174, Tryz.ntmps174
  go_wp2
  go_ret
  exact ⟨rfl, Ext.refl _⟩



theorem idle_error (w : World) : CallsD Tryz.prog 175 #[] .returning w fun e u' w' => e = .returned (.tuple #[]) ∧ u' = .returning ∧ w' = w := by
  refine callsD_of_wpS Tryz.func175 rfl fun c₀ cs hu => ?_
  apply wpS_region
  simp [wpOpsS, go_sem, recoverD, hu, Tryz.ntmps175]
  cases c₀
  simp_all [bodyPostS, results, Tryz.results175]


set_option maxRecDepth 100000 in
set_option maxHeartbeats 400000 in
theorem guarded_error (c : Value) (v : Value) (w : World)
    (hc : ∀ w1, Ext w w1 → Calls Tryz.prog 173 #[c] w1 fun e w' => e = .returned v ∧ Ext w1 w') :
    Calls Tryz.prog 172 #[.func (.func 173) #[] #[c]] w fun e w' => e = .returned (.tuple #[v, .bool true]) ∧ Ext w w' := by
  have HC : Hid (∀ w1, Ext w w1 → Calls Tryz.prog 173 #[c] w1 fun e w' => e = .returned v ∧ Ext w1 w') := hc
  clear hc
  go_enter_defers Tryz.func172, Tryz.ntmps172
  go_wp2_with (go_at_call 173; refine (HC.out _ (Ext.refl _)).mono ?_; rintro e w1 ⟨rfl, hx⟩)
  refine leaves_cons (f := 175) (args := #[]) (by simp) (by simp [go_sem]) ?_
  refine (idle_error _).mono ?_
  rintro e u' w'' ⟨rfl, rfl, rfl⟩
  exact ⟨_, results_tmp2 rfl _ _ _, rfl, hx⟩


theorem idle_Errno (w : World) : CallsD Tryz.prog 99 #[] .returning w fun e u' w' => e = .returned (.tuple #[]) ∧ u' = .returning ∧ w' = w := by
  refine callsD_of_wpS Tryz.func99 rfl fun c₀ cs hu => ?_
  apply wpS_region
  simp [wpOpsS, go_sem, recoverD, hu, Tryz.ntmps99]
  cases c₀
  simp_all [bodyPostS, results, Tryz.results99]


set_option maxRecDepth 100000 in
set_option maxHeartbeats 400000 in
theorem guarded_Errno_C (b : Nat) (v : Value) (w : World)
    (hc : ∀ w1, Ext w w1 → Calls Tryz.prog 176 #[.pointer (some ⟨b, 0, none⟩)] w1 fun e w' => e = .returned v ∧ Ext w1 w') :
    Calls Tryz.prog 61 #[.func (.method "Code") #[.iface 137 (.pointer (some ⟨b, 0, none⟩))] #[]] w fun e w' => e = .returned (.tuple #[v, .bool true]) ∧ Ext w w' := by
  have HC : Hid (∀ w1, Ext w w1 → Calls Tryz.prog 176 #[.pointer (some ⟨b, 0, none⟩)] w1 fun e w' => e = .returned v ∧ Ext w1 w') := hc
  clear hc
  go_enter_defers Tryz.func61, Tryz.ntmps61
  go_wp2_with (go_at_call 176; refine (HC.out _ (Ext.refl _)).mono ?_; rintro e w1 ⟨rfl, hx⟩)
  refine leaves_cons (f := 99) (args := #[]) (by simp) (by simp [go_sem]) ?_
  refine (idle_Errno _).mono ?_
  rintro e u' w'' ⟨rfl, rfl, rfl⟩
  exact ⟨_, results_tmp2 rfl _ _ _, rfl, hx⟩


set_option maxRecDepth 100000 in
set_option maxHeartbeats 400000 in
theorem guarded_Errno_L (b : Nat) (v : Value) (w : World)
    (hc : ∀ w1, Ext w w1 → Calls Tryz.prog 176 #[.pointer (some ⟨b, 0, none⟩)] w1 fun e w' => e = .returned v ∧ Ext w1 w') :
    Calls Tryz.prog 61 #[.func (.method "Code") #[.iface 327 (.pointer (some ⟨b, 0, none⟩))] #[]] w fun e w' => e = .returned (.tuple #[v, .bool true]) ∧ Ext w w' := by
  have HC : Hid (∀ w1, Ext w w1 → Calls Tryz.prog 176 #[.pointer (some ⟨b, 0, none⟩)] w1 fun e w' => e = .returned v ∧ Ext w1 w') := hc
  clear hc
  go_enter_defers Tryz.func61, Tryz.ntmps61
  go_wp2_with (go_at_call 176; refine (HC.out _ (Ext.refl _)).mono ?_; rintro e w1 ⟨rfl, hx⟩)
  refine leaves_cons (f := 99) (args := #[]) (by simp) (by simp [go_sem]) ?_
  refine (idle_Errno _).mono ?_
  rintro e u' w'' ⟨rfl, rfl, rfl⟩
  exact ⟨_, results_tmp2 rfl _ _ _, rfl, hx⟩


set_option maxRecDepth 100000 in
set_option maxHeartbeats 400000 in
theorem guarded_Errno_K (b : Nat) (v : Value) (w : World)
    (hc : ∀ w1, Ext w w1 → Calls Tryz.prog 176 #[.pointer (some ⟨b, 0, none⟩)] w1 fun e w' => e = .returned v ∧ Ext w1 w') :
    Calls Tryz.prog 61 #[.func (.method "Code") #[.iface 150 (.pointer (some ⟨b, 0, none⟩))] #[]] w fun e w' => e = .returned (.tuple #[v, .bool true]) ∧ Ext w w' := by
  have HC : Hid (∀ w1, Ext w w1 → Calls Tryz.prog 176 #[.pointer (some ⟨b, 0, none⟩)] w1 fun e w' => e = .returned v ∧ Ext w1 w') := hc
  clear hc
  go_enter_defers Tryz.func61, Tryz.ntmps61
  go_wp2_with (go_at_call 176; refine (HC.out _ (Ext.refl _)).mono ?_; rintro e w1 ⟨rfl, hx⟩)
  refine leaves_cons (f := 99) (args := #[]) (by simp) (by simp [go_sem]) ?_
  refine (idle_Errno _).mono ?_
  rintro e u' w'' ⟨rfl, rfl, rfl⟩
  exact ⟨_, results_tmp2 rfl _ _ _, rfl, hx⟩


end Go.Proofs.YtaodkfchmaendaaGreatDoor.Er
/-
  A chain's rest: what errors.Unwrap gives of its first error, with one error less at hand; nothing where one alone was at hand.
-/
namespace Go.Proofs.YtaodkfchmaendaaGreatDoor.Er
open Go.RowKit
attribute [local go_sem] isNCoded isNLocated isNRaised isNLacking isNUnw isNAsI isNUnws isNNoted isCCoded isCLocated isCRaised isCLacking isCUnw isCAsI isCUnws isCNoted isLCoded isLLocated isLRaised isLLacking isLUnw isLAsI isLUnws isLNoted isKCoded isKLocated isKRaised isKLacking isKUnw isKAsI isKUnws isKNoted isHCoded isHLocated isHRaised isHLacking isHUnw isHAsI isHUnws isHNoted toCodedCoded toCodedLocated toCodedRaised toCodedLacking toCodedNoted toLocatedCoded toLocatedLocated toLocatedRaised toLocatedLacking toLocatedNoted toRaisedCoded toRaisedLocated toRaisedRaised toRaisedLacking toRaisedNoted toLackingCoded toLackingLocated toLackingRaised toLackingLacking toLackingNoted toNotedCoded toNotedLocated toNotedRaised toNotedLacking toNotedNoted mNUnwrap mNError mCCode mCError mLCode mLWhere mLError mKCode mKWhere mKLacks mKError mHAs mHUnwrap


theorem rest1 (b : Nat) (e u x : Value) (w : World) (hb : w.heap[b]? = some (.cells #[e, x] 127)) (hu : Unwraps w e u) :
    Calls Tryz.prog 173 #[.pointer (some ⟨b, 0, none⟩)] w fun r w' => r = .returned u ∧ Ext w w' := by
  have c0 : w.cell? ⟨b, 0, none⟩ = some e := cell_of hb rfl
  clear hb
  have HU : Hid (Unwraps w e u) := hu
  clear hu
  go_enter Tryz.func173, Tryz.ntmps173
  go_wp2_with (go_at_call 174; refine (HU.out _ (Ext.refl _)).mono ?_; rintro r w' ⟨rfl, hx⟩)
  go_ret
  exact ⟨rfl, hx⟩

set_option maxRecDepth 100000 in
set_option maxHeartbeats 800000 in
theorem rest_end (e : Value) (left : Int) (w : World) (hl : left ≤ 1) :
    Calls Tryz.prog 171 #[.agg #[e, .int .i64 left]] w fun r w' => r = .returned (.tuple #[.agg #[.nilIface, .int .i64 0], .bool false]) ∧ Ext w w' := by
  go_enter Tryz.func171, Tryz.ntmps171
  go_wp2
  refine bodyPost_ret (v := .tuple #[.agg #[.nilIface, .int .i64 0], .bool false]) (by simp [results, Tryz.results171, go_sem]) rfl ⟨rfl, ?_⟩
  first | exact Ext.alloc2 _ _ _ | exact (Ext.alloc2 _ _ _).set1 _ _ | exact ((Ext.alloc2 _ _ _).set1 _ _).set1 _ _

set_option maxRecDepth 100000 in
set_option maxHeartbeats 800000 in
theorem rest_nil (e : Value) (left : Int) (w : World) (hl : 1 < left) (hl2 : left ≤ 1024) (hu : Unwraps w e .nilIface) :
    Calls Tryz.prog 171 #[.agg #[e, .int .i64 left]] w fun r w' => r = .returned (.tuple #[.agg #[.nilIface, .int .i64 (left - 1)], .bool false]) ∧ Ext w w' := by
  have HC : Hid (∀ w1, Ext ((w.alloc (.cells #[e, .int .i64 left] 127)).alloc (.cells #[.nilIface, .int .i64 0] 127)) w1 → Calls Tryz.prog 173 #[.pointer (some ⟨w.heap.size, 0, none⟩)] w1 fun r w' => r = .returned .nilIface ∧ Ext w1 w') := fun w1 hx =>
    rest1 _ e _ (.int .i64 left) w1 (hx.block (blkOld _ (blk0 _ _))) (hu.later (((Ext.alloc _ _).trans (Ext.alloc _ _)).trans hx))
  clear hu
  go_enter Tryz.func171, Tryz.ntmps171
  go_wp2_with (go_at_call 172; refine (guarded_error _ _ _ HC.out).mono ?_; rintro r w2 ⟨rfl, hx⟩)
  have b0 : w2.heap[w.heap.size]? = some (.cells #[e, .int .i64 left] 127) := hx.block (blkOld _ (blk0 _ _))
  have b1 : w2.heap[w.heap.size + 1]? = some (.cells #[.nilIface, .int .i64 0] 127) := hx.block (blk1 _ _ _)
  have c1 : w2.cell? ⟨w.heap.size, 1, none⟩ = some (.int .i64 left) := cell_of b0 rfl
  have c2 : w2.cell? ⟨w.heap.size + 1, 0, none⟩ = some .nilIface := cell_of b1 rfl
  have c3 : w2.cell? ⟨w.heap.size + 1, 1, none⟩ = some (.int .i64 0) := cell_of b1 rfl
  have f2 : w2.frozen? ⟨w.heap.size + 1, 0, none⟩ = false := frozen_of b1
  have f3 : w2.frozen? ⟨w.heap.size + 1, 1, none⟩ = false := frozen_of b1
  have HX : Hid (Ext ((w.alloc (.cells #[e, .int .i64 left] 127)).alloc (.cells #[.nilIface, .int .i64 0] 127)) w2) := hx
  clear hx b0 b1
  go_wp2
  go_region
  all_goals
    go_wp2
    refine bodyPost_ret (v := .tuple #[.agg #[.nilIface, .int .i64 (left - 1)], .bool false]) (by simp [results, Tryz.results171, go_sem, c2, c3]) rfl ⟨rfl, ?_⟩
    exact (((((Ext.alloc2 _ _ _).trans HX.out).set1 _ _).set1 _ _).drew)

set_option maxRecDepth 100000 in
set_option maxHeartbeats 800000 in
theorem rest_some (t : TypeId) (v : Value) (e : Value) (left : Int) (w : World) (hl : 1 < left) (hl2 : left ≤ 1024) (hu : Unwraps w e (.iface t v)) :
    Calls Tryz.prog 171 #[.agg #[e, .int .i64 left]] w fun r w' => r = .returned (.tuple #[.agg #[(.iface t v), .int .i64 (left - 1)], .bool true]) ∧ Ext w w' := by
  have HC : Hid (∀ w1, Ext ((w.alloc (.cells #[e, .int .i64 left] 127)).alloc (.cells #[.nilIface, .int .i64 0] 127)) w1 → Calls Tryz.prog 173 #[.pointer (some ⟨w.heap.size, 0, none⟩)] w1 fun r w' => r = .returned (.iface t v) ∧ Ext w1 w') := fun w1 hx =>
    rest1 _ e _ (.int .i64 left) w1 (hx.block (blkOld _ (blk0 _ _))) (hu.later (((Ext.alloc _ _).trans (Ext.alloc _ _)).trans hx))
  clear hu
  go_enter Tryz.func171, Tryz.ntmps171
  go_wp2_with (go_at_call 172; refine (guarded_error _ _ _ HC.out).mono ?_; rintro r w2 ⟨rfl, hx⟩)
  have b0 : w2.heap[w.heap.size]? = some (.cells #[e, .int .i64 left] 127) := hx.block (blkOld _ (blk0 _ _))
  have b1 : w2.heap[w.heap.size + 1]? = some (.cells #[.nilIface, .int .i64 0] 127) := hx.block (blk1 _ _ _)
  have c1 : w2.cell? ⟨w.heap.size, 1, none⟩ = some (.int .i64 left) := cell_of b0 rfl
  have c2 : w2.cell? ⟨w.heap.size + 1, 0, none⟩ = some .nilIface := cell_of b1 rfl
  have c3 : w2.cell? ⟨w.heap.size + 1, 1, none⟩ = some (.int .i64 0) := cell_of b1 rfl
  have f2 : w2.frozen? ⟨w.heap.size + 1, 0, none⟩ = false := frozen_of b1
  have f3 : w2.frozen? ⟨w.heap.size + 1, 1, none⟩ = false := frozen_of b1
  have HX : Hid (Ext ((w.alloc (.cells #[e, .int .i64 left] 127)).alloc (.cells #[.nilIface, .int .i64 0] 127)) w2) := hx
  clear hx b0 b1
  go_wp2
  go_region
  all_goals
    go_wp2
    refine bodyPost_ret (v := .tuple #[.agg #[(.iface t v), .int .i64 (left - 1)], .bool true]) (by simp [results, Tryz.results171, go_sem, c2, c3]) rfl ⟨rfl, ?_⟩
    exact (((((Ext.alloc2 _ _ _).trans HX.out).set1 _ _).set1 _ _).drew)

end Go.Proofs.YtaodkfchmaendaaGreatDoor.Er
