/-
  The small functions of package fault and of package errors, each by a contract: errors.Unwrap of each kind of error, the guarded calls (the deferred recover finds nothing), a chain's rest.
-/
import Derived.Test.YtnmcmjgfnncdmaaGreatDoorZzEFacts
import Derived.Test.YtnmcmjgfnncdmaaGreatDoorZzEAid
import Derived.WalkKit
import Derived.WalkSpells
import Derived.WalkLawsBesides
import Derived.Defers
import Derived.Recover
import Derived.RegionTactic
import Derived.BigRegion
import Derived.LaidEql
import Derived.RangeFuncRecord
import Derived.Outline
namespace Go.Proofs.YtnmcmjgfnncdmaaGreatDoor.Er
open Go.RowKit

attribute [local go_sem] isNCoded isNLocated isNRaised isNLacking isNUnw isNAsI isNUnws isNNoted isCCoded isCLocated isCRaised isCLacking isCUnw isCAsI isCUnws isCNoted isLCoded isLLocated isLRaised isLLacking isLUnw isLAsI isLUnws isLNoted isKCoded isKLocated isKRaised isKLacking isKUnw isKAsI isKUnws isKNoted isHCoded isHLocated isHRaised isHLacking isHUnw isHAsI isHUnws isHNoted toCodedCoded toCodedLocated toCodedRaised toCodedLacking toCodedNoted toLocatedCoded toLocatedLocated toLocatedRaised toLocatedLacking toLocatedNoted toRaisedCoded toRaisedLocated toRaisedRaised toRaisedLacking toRaisedNoted toLackingCoded toLackingLocated toLackingRaised toLackingLacking toLackingNoted toNotedCoded toNotedLocated toNotedRaised toNotedLacking toNotedNoted mNUnwrap mNError mCCode mCError mLCode mLWhere mLError mKCode mKWhere mKLacks mKError mHAs mHUnwrap


/-- A note: its block holds what is within, and the note. -/
def NotedAt (w : World) (b : Nat) (u : Value) (n : ByteArray) : Prop := w.heap[b]? = some (.cells #[u, .string n] 516)

theorem noted_unwrap (b : Nat) (u : Value) (n : ByteArray) (w : World) (h : NotedAt w b u n) :
    Calls Tryz.prog 374 #[.pointer (some ⟨b, 0, none⟩)] w fun e w' => e = .returned u ∧ w' = w := by
  have c0 : w.cell? ⟨b, 0, none⟩ = some u := cell_of h rfl
  clear h
  go_enter Tryz.func374, Tryz.ntmps374
  go_wp2
  go_ret
  exact ⟨rfl, rfl⟩

/-- errors.Unwrap gives u, in whatever later world. -/
def Unwraps (w : World) (e u : Value) : Prop :=
  ∀ w1, Ext w w1 → Calls Tryz.prog 328 #[e] w1 fun r w' => r = .returned u ∧ Ext w1 w'
theorem Unwraps.later {w w1 : World} {e u : Value} (h : Unwraps w e u) (hx : Ext w w1) : Unwraps w1 e u := fun w2 h2 => h w2 (hx.trans h2)

theorem unwraps_noted (b : Nat) (u : Value) (n : ByteArray) (w : World) (h : NotedAt w b u n) : Unwraps w (.iface 491 (.pointer (some ⟨b, 0, none⟩))) u := by
  intro w1 hx
  have h1 : NotedAt w1 b u n := hx.block h
  go_enter Tryz.func328, Tryz.ntmps328
  go_wp2_with (go_at_call 374; refine (noted_unwrap b u n _ h1).mono ?_; rintro e w' ⟨rfl, rfl⟩)
  go_ret
  exact ⟨rfl, Ext.refl _⟩

theorem unwraps_C (v : Value) (w : World) : Unwraps w (.iface 199 v) .nilIface := by
  intro w1 hx
  clear hx
  go_enter Tryz.func328, Tryz.ntmps328
  go_wp2
  go_ret
  exact ⟨rfl, Ext.refl _⟩

theorem unwraps_L (v : Value) (w : World) : Unwraps w (.iface 525 v) .nilIface := by
  intro w1 hx
  clear hx
  go_enter Tryz.func328, Tryz.ntmps328
  go_wp2
  go_ret
  exact ⟨rfl, Ext.refl _⟩

theorem unwraps_K (v : Value) (w : World) : Unwraps w (.iface 212 v) .nilIface := by
  intro w1 hx
  clear hx
  go_enter Tryz.func328, Tryz.ntmps328
  go_wp2
  go_ret
  exact ⟨rfl, Ext.refl _⟩



theorem idle_error (w : World) : CallsD Tryz.prog 329 #[] .returning w fun e u' w' => e = .returned (.tuple #[]) ∧ u' = .returning ∧ w' = w := by
  refine callsD_of_wpS Tryz.func329 rfl fun c₀ cs hu => ?_
  apply wpS_region
  simp [wpOpsS, go_sem, recoverD, hu, Tryz.ntmps329]
  cases c₀
  simp_all [bodyPostS, results, Tryz.results329]


set_option maxRecDepth 100000 in
set_option maxHeartbeats 400000 in
theorem guarded_error (c : Value) (v : Value) (w : World)
    (hc : ∀ w1, Ext w w1 → Calls Tryz.prog 327 #[c] w1 fun e w' => e = .returned v ∧ Ext w1 w') :
    Calls Tryz.prog 326 #[.func (.func 327) #[] #[c]] w fun e w' => e = .returned (.tuple #[v, .bool true]) ∧ Ext w w' := by
  have HC : Hid (∀ w1, Ext w w1 → Calls Tryz.prog 327 #[c] w1 fun e w' => e = .returned v ∧ Ext w1 w') := hc
  clear hc
  go_enter_defers Tryz.func326, Tryz.ntmps326
  go_wp2_with (go_at_call 327; refine (HC.out _ (Ext.refl _)).mono ?_; rintro e w1 ⟨rfl, hx⟩)
  refine leaves_cons (f := 329) (args := #[]) (by simp) (by simp [go_sem]) ?_
  refine (idle_error _).mono ?_
  rintro e u' w'' ⟨rfl, rfl, rfl⟩
  exact ⟨_, results_tmp2 rfl _ _ _, rfl, hx⟩


theorem idle_Errno (w : World) : CallsD Tryz.prog 141 #[] .returning w fun e u' w' => e = .returned (.tuple #[]) ∧ u' = .returning ∧ w' = w := by
  refine callsD_of_wpS Tryz.func141 rfl fun c₀ cs hu => ?_
  apply wpS_region
  simp [wpOpsS, go_sem, recoverD, hu, Tryz.ntmps141]
  cases c₀
  simp_all [bodyPostS, results, Tryz.results141]


set_option maxRecDepth 100000 in
set_option maxHeartbeats 400000 in
theorem guarded_Errno_C (b : Nat) (v : Value) (w : World)
    (hc : ∀ w1, Ext w w1 → Calls Tryz.prog 332 #[.pointer (some ⟨b, 0, none⟩)] w1 fun e w' => e = .returned v ∧ Ext w1 w') :
    Calls Tryz.prog 73 #[.func (.method "Code") #[.iface 199 (.pointer (some ⟨b, 0, none⟩))] #[]] w fun e w' => e = .returned (.tuple #[v, .bool true]) ∧ Ext w w' := by
  have HC : Hid (∀ w1, Ext w w1 → Calls Tryz.prog 332 #[.pointer (some ⟨b, 0, none⟩)] w1 fun e w' => e = .returned v ∧ Ext w1 w') := hc
  clear hc
  go_enter_defers Tryz.func73, Tryz.ntmps73
  go_wp2_with (go_at_call 332; refine (HC.out _ (Ext.refl _)).mono ?_; rintro e w1 ⟨rfl, hx⟩)
  refine leaves_cons (f := 141) (args := #[]) (by simp) (by simp [go_sem]) ?_
  refine (idle_Errno _).mono ?_
  rintro e u' w'' ⟨rfl, rfl, rfl⟩
  exact ⟨_, results_tmp2 rfl _ _ _, rfl, hx⟩


set_option maxRecDepth 100000 in
set_option maxHeartbeats 400000 in
theorem guarded_Errno_L (b : Nat) (v : Value) (w : World)
    (hc : ∀ w1, Ext w w1 → Calls Tryz.prog 332 #[.pointer (some ⟨b, 0, none⟩)] w1 fun e w' => e = .returned v ∧ Ext w1 w') :
    Calls Tryz.prog 73 #[.func (.method "Code") #[.iface 525 (.pointer (some ⟨b, 0, none⟩))] #[]] w fun e w' => e = .returned (.tuple #[v, .bool true]) ∧ Ext w w' := by
  have HC : Hid (∀ w1, Ext w w1 → Calls Tryz.prog 332 #[.pointer (some ⟨b, 0, none⟩)] w1 fun e w' => e = .returned v ∧ Ext w1 w') := hc
  clear hc
  go_enter_defers Tryz.func73, Tryz.ntmps73
  go_wp2_with (go_at_call 332; refine (HC.out _ (Ext.refl _)).mono ?_; rintro e w1 ⟨rfl, hx⟩)
  refine leaves_cons (f := 141) (args := #[]) (by simp) (by simp [go_sem]) ?_
  refine (idle_Errno _).mono ?_
  rintro e u' w'' ⟨rfl, rfl, rfl⟩
  exact ⟨_, results_tmp2 rfl _ _ _, rfl, hx⟩


set_option maxRecDepth 100000 in
set_option maxHeartbeats 400000 in
theorem guarded_Errno_K (b : Nat) (v : Value) (w : World)
    (hc : ∀ w1, Ext w w1 → Calls Tryz.prog 332 #[.pointer (some ⟨b, 0, none⟩)] w1 fun e w' => e = .returned v ∧ Ext w1 w') :
    Calls Tryz.prog 73 #[.func (.method "Code") #[.iface 212 (.pointer (some ⟨b, 0, none⟩))] #[]] w fun e w' => e = .returned (.tuple #[v, .bool true]) ∧ Ext w w' := by
  have HC : Hid (∀ w1, Ext w w1 → Calls Tryz.prog 332 #[.pointer (some ⟨b, 0, none⟩)] w1 fun e w' => e = .returned v ∧ Ext w1 w') := hc
  clear hc
  go_enter_defers Tryz.func73, Tryz.ntmps73
  go_wp2_with (go_at_call 332; refine (HC.out _ (Ext.refl _)).mono ?_; rintro e w1 ⟨rfl, hx⟩)
  refine leaves_cons (f := 141) (args := #[]) (by simp) (by simp [go_sem]) ?_
  refine (idle_Errno _).mono ?_
  rintro e u' w'' ⟨rfl, rfl, rfl⟩
  exact ⟨_, results_tmp2 rfl _ _ _, rfl, hx⟩


end Go.Proofs.YtnmcmjgfnncdmaaGreatDoor.Er
