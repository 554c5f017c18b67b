/-
  The small functions of package fault and of package errors, each by a contract: errors.Unwrap of each kind of error, the guarded calls (the deferred recover finds nothing), a chain's rest.
-/
import Derived.Test.YtflcmdjekmmkkaaGreatDoorFacts
import Derived.Test.YtflcmdjekmmkkaaGreatDoorAid
import Derived.WalkKit
import Derived.WalkSpells
import Derived.WalkLawsBesides
import Derived.Defers
import Derived.Recover
import Derived.RegionTactic
import Derived.BigRegion
import Derived.LaidEql
import Derived.RangeFuncRecord
import Derived.Outline
namespace Go.Proofs.YtflcmdjekmmkkaaGreatDoor
open Go.RowKit

attribute [local go_sem] isNCoded isNLocated isNRaised isNLacking isNUnw isNAsI isNUnws isNNoted isGCoded isGLocated isGRaised isGLacking isGUnw isGAsI isGUnws isGNoted isCCoded isCLocated isCRaised isCLacking isCUnw isCAsI isCUnws isCNoted isLCoded isLLocated isLRaised isLLacking isLUnw isLAsI isLUnws isLNoted isRCoded isRLocated isRRaised isRLacking isRUnw isRAsI isRUnws isRNoted isKCoded isKLocated isKRaised isKLacking isKUnw isKAsI isKUnws isKNoted isHCoded isHLocated isHRaised isHLacking isHUnw isHAsI isHUnws isHNoted toCodedCoded toCodedLocated toCodedRaised toCodedLacking toCodedNoted toLocatedCoded toLocatedLocated toLocatedRaised toLocatedLacking toLocatedNoted toRaisedCoded toRaisedLocated toRaisedRaised toRaisedLacking toRaisedNoted toLackingCoded toLackingLocated toLackingRaised toLackingLacking toLackingNoted toNotedCoded toNotedLocated toNotedRaised toNotedLacking toNotedNoted mNUnwrap mNError mCCode mCError mLCode mLWhere mLError mRCode mRWhere mRSaid mRError mKCode mKWhere mKLacks mKError mGUnwrap mGError mHAs mHUnwrap

/-- A note: its block holds what is within, and the note. -/
def NotedAt (w : World) (b : Nat) (u : Value) (n : ByteArray) : Prop := w.heap[b]? = some (.cells #[u, .string n] 89)

theorem noted_unwrap (b : Nat) (u : Value) (n : ByteArray) (w : World) (h : NotedAt w b u n) :
    Calls Tryz.prog 83 #[.pointer (some ⟨b, 0, none⟩)] w fun e w' => e = .returned u ∧ w' = w := by
  have c0 : w.cell? ⟨b, 0, none⟩ = some u := cell_of h rfl
  clear h
  go_enter Tryz.func83, Tryz.ntmps83
  go_wp2
  go_ret
  exact ⟨rfl, rfl⟩

theorem foreign_unwrap (t : ByteArray) (u : Value) (w : World) :
    Calls Tryz.prog 81 #[.agg #[.string t, u]] w fun e w' => e = .returned u ∧ Ext w w' := by
  go_enter Tryz.func81, Tryz.ntmps81
  go_wp2
  go_ret
  exact ⟨rfl, Ext.alloc _ _⟩

/-- errors.Unwrap gives u, in whatever later world. -/
def Unwraps (w : World) (e u : Value) : Prop :=
  ∀ w1, Ext w w1 → Calls Tryz.prog 60 #[e] w1 fun r w' => r = .returned u ∧ Ext w1 w'
theorem Unwraps.later {w w1 : World} {e u : Value} (h : Unwraps w e u) (hx : Ext w w1) : Unwraps w1 e u := fun w2 h2 => h w2 (hx.trans h2)

theorem unwraps_noted (b : Nat) (u : Value) (n : ByteArray) (w : World) (h : NotedAt w b u n) : Unwraps w (.iface 87 (.pointer (some ⟨b, 0, none⟩))) u := by
  intro w1 hx
  have h1 : NotedAt w1 b u n := hx.block h
  go_enter Tryz.func60, Tryz.ntmps60
  go_wp2_with (go_at_call 83; refine (noted_unwrap b u n _ h1).mono ?_; rintro e w' ⟨rfl, rfl⟩)
  go_ret
  exact ⟨rfl, Ext.refl _⟩

theorem unwraps_foreign (t : ByteArray) (u : Value) (w : World) : Unwraps w (.iface 46 (.agg #[.string t, u])) u := by
  intro w1 hx
  clear hx
  go_enter Tryz.func60, Tryz.ntmps60
  go_wp2_with (go_at_call 81; refine (foreign_unwrap t u _).mono ?_; rintro e w' ⟨rfl, hb⟩)
  go_ret
  exact ⟨rfl, by assumption⟩

theorem unwraps_C (v : Value) (w : World) : Unwraps w (.iface 128 v) .nilIface := by
  intro w1 hx
  clear hx
  go_enter Tryz.func60, Tryz.ntmps60
  go_wp2
  go_ret
  exact ⟨rfl, Ext.refl _⟩

theorem unwraps_L (v : Value) (w : World) : Unwraps w (.iface 127 v) .nilIface := by
  intro w1 hx
  clear hx
  go_enter Tryz.func60, Tryz.ntmps60
  go_wp2
  go_ret
  exact ⟨rfl, Ext.refl _⟩

theorem unwraps_R (v : Value) (w : World) : Unwraps w (.iface 129 v) .nilIface := by
  intro w1 hx
  clear hx
  go_enter Tryz.func60, Tryz.ntmps60
  go_wp2
  go_ret
  exact ⟨rfl, Ext.refl _⟩

theorem unwraps_K (v : Value) (w : World) : Unwraps w (.iface 132 v) .nilIface := by
  intro w1 hx
  clear hx
  go_enter Tryz.func60, Tryz.ntmps60
  go_wp2
  go_ret
  exact ⟨rfl, Ext.refl _⟩



theorem idle_error (w : World) : CallsD Tryz.prog 62 #[] .returning w fun e u' w' => e = .returned (.tuple #[]) ∧ u' = .returning ∧ w' = w := by
  refine callsD_of_wpS Tryz.func62 rfl fun c₀ cs hu => ?_
  apply wpS_region
  simp [wpOpsS, go_sem, recoverD, hu, Tryz.ntmps62]
  cases c₀
  simp_all [bodyPostS, results, Tryz.results62]


set_option maxRecDepth 100000 in
set_option maxHeartbeats 400000 in
theorem guarded_error (c : Value) (v : Value) (w : World)
    (hc : ∀ w1, Ext w w1 → Calls Tryz.prog 59 #[c] w1 fun e w' => e = .returned v ∧ Ext w1 w') :
    Calls Tryz.prog 58 #[.func (.func 59) #[] #[c]] w fun e w' => e = .returned (.tuple #[v, .bool true]) ∧ Ext w w' := by
  have HC : Hid (∀ w1, Ext w w1 → Calls Tryz.prog 59 #[c] w1 fun e w' => e = .returned v ∧ Ext w1 w') := hc
  clear hc
  go_enter_defers Tryz.func58, Tryz.ntmps58
  go_wp2_with (go_at_call 59; refine (HC.out _ (Ext.refl _)).mono ?_; rintro e w1 ⟨rfl, hx⟩)
  refine leaves_cons (f := 62) (args := #[]) (by simp) (by simp [go_sem]) ?_
  refine (idle_error _).mono ?_
  rintro e u' w'' ⟨rfl, rfl, rfl⟩
  exact ⟨_, results_tmp2 rfl _ _ _, rfl, hx⟩


theorem idle_Errno (w : World) : CallsD Tryz.prog 48 #[] .returning w fun e u' w' => e = .returned (.tuple #[]) ∧ u' = .returning ∧ w' = w := by
  refine callsD_of_wpS Tryz.func48 rfl fun c₀ cs hu => ?_
  apply wpS_region
  simp [wpOpsS, go_sem, recoverD, hu, Tryz.ntmps48]
  cases c₀
  simp_all [bodyPostS, results, Tryz.results48]


set_option maxRecDepth 100000 in
set_option maxHeartbeats 400000 in
theorem guarded_Errno_C (b : Nat) (v : Value) (w : World)
    (hc : ∀ w1, Ext w w1 → Calls Tryz.prog 96 #[.pointer (some ⟨b, 0, none⟩)] w1 fun e w' => e = .returned v ∧ Ext w1 w') :
    Calls Tryz.prog 35 #[.func (.method "Code") #[.iface 128 (.pointer (some ⟨b, 0, none⟩))] #[]] w fun e w' => e = .returned (.tuple #[v, .bool true]) ∧ Ext w w' := by
  have HC : Hid (∀ w1, Ext w w1 → Calls Tryz.prog 96 #[.pointer (some ⟨b, 0, none⟩)] w1 fun e w' => e = .returned v ∧ Ext w1 w') := hc
  clear hc
  go_enter_defers Tryz.func35, Tryz.ntmps35
  go_wp2_with (go_at_call 96; refine (HC.out _ (Ext.refl _)).mono ?_; rintro e w1 ⟨rfl, hx⟩)
  refine leaves_cons (f := 48) (args := #[]) (by simp) (by simp [go_sem]) ?_
  refine (idle_Errno _).mono ?_
  rintro e u' w'' ⟨rfl, rfl, rfl⟩
  exact ⟨_, results_tmp2 rfl _ _ _, rfl, hx⟩


set_option maxRecDepth 100000 in
set_option maxHeartbeats 400000 in
theorem guarded_Errno_L (b : Nat) (v : Value) (w : World)
    (hc : ∀ w1, Ext w w1 → Calls Tryz.prog 96 #[.pointer (some ⟨b, 0, none⟩)] w1 fun e w' => e = .returned v ∧ Ext w1 w') :
    Calls Tryz.prog 35 #[.func (.method "Code") #[.iface 127 (.pointer (some ⟨b, 0, none⟩))] #[]] w fun e w' => e = .returned (.tuple #[v, .bool true]) ∧ Ext w w' := by
  have HC : Hid (∀ w1, Ext w w1 → Calls Tryz.prog 96 #[.pointer (some ⟨b, 0, none⟩)] w1 fun e w' => e = .returned v ∧ Ext w1 w') := hc
  clear hc
  go_enter_defers Tryz.func35, Tryz.ntmps35
  go_wp2_with (go_at_call 96; refine (HC.out _ (Ext.refl _)).mono ?_; rintro e w1 ⟨rfl, hx⟩)
  refine leaves_cons (f := 48) (args := #[]) (by simp) (by simp [go_sem]) ?_
  refine (idle_Errno _).mono ?_
  rintro e u' w'' ⟨rfl, rfl, rfl⟩
  exact ⟨_, results_tmp2 rfl _ _ _, rfl, hx⟩


set_option maxRecDepth 100000 in
set_option maxHeartbeats 400000 in
theorem guarded_Errno_R (b : Nat) (v : Value) (w : World)
    (hc : ∀ w1, Ext w w1 → Calls Tryz.prog 96 #[.pointer (some ⟨b, 0, none⟩)] w1 fun e w' => e = .returned v ∧ Ext w1 w') :
    Calls Tryz.prog 35 #[.func (.method "Code") #[.iface 129 (.pointer (some ⟨b, 0, none⟩))] #[]] w fun e w' => e = .returned (.tuple #[v, .bool true]) ∧ Ext w w' := by
  have HC : Hid (∀ w1, Ext w w1 → Calls Tryz.prog 96 #[.pointer (some ⟨b, 0, none⟩)] w1 fun e w' => e = .returned v ∧ Ext w1 w') := hc
  clear hc
  go_enter_defers Tryz.func35, Tryz.ntmps35
  go_wp2_with (go_at_call 96; refine (HC.out _ (Ext.refl _)).mono ?_; rintro e w1 ⟨rfl, hx⟩)
  refine leaves_cons (f := 48) (args := #[]) (by simp) (by simp [go_sem]) ?_
  refine (idle_Errno _).mono ?_
  rintro e u' w'' ⟨rfl, rfl, rfl⟩
  exact ⟨_, results_tmp2 rfl _ _ _, rfl, hx⟩


set_option maxRecDepth 100000 in
set_option maxHeartbeats 400000 in
theorem guarded_Errno_K (b : Nat) (v : Value) (w : World)
    (hc : ∀ w1, Ext w w1 → Calls Tryz.prog 96 #[.pointer (some ⟨b, 0, none⟩)] w1 fun e w' => e = .returned v ∧ Ext w1 w') :
    Calls Tryz.prog 35 #[.func (.method "Code") #[.iface 132 (.pointer (some ⟨b, 0, none⟩))] #[]] w fun e w' => e = .returned (.tuple #[v, .bool true]) ∧ Ext w w' := by
  have HC : Hid (∀ w1, Ext w w1 → Calls Tryz.prog 96 #[.pointer (some ⟨b, 0, none⟩)] w1 fun e w' => e = .returned v ∧ Ext w1 w') := hc
  clear hc
  go_enter_defers Tryz.func35, Tryz.ntmps35
  go_wp2_with (go_at_call 96; refine (HC.out _ (Ext.refl _)).mono ?_; rintro e w1 ⟨rfl, hx⟩)
  refine leaves_cons (f := 48) (args := #[]) (by simp) (by simp [go_sem]) ?_
  refine (idle_Errno _).mono ?_
  rintro e u' w'' ⟨rfl, rfl, rfl⟩
  exact ⟨_, results_tmp2 rfl _ _ _, rfl, hx⟩


theorem idle_Place (w : World) : CallsD Tryz.prog 49 #[] .returning w fun e u' w' => e = .returned (.tuple #[]) ∧ u' = .returning ∧ w' = w := by
  refine callsD_of_wpS Tryz.func49 rfl fun c₀ cs hu => ?_
  apply wpS_region
  simp [wpOpsS, go_sem, recoverD, hu, Tryz.ntmps49]
  cases c₀
  simp_all [bodyPostS, results, Tryz.results49]


theorem idle_told (w : World) : CallsD Tryz.prog 61 #[] .returning w fun e u' w' => e = .returned (.tuple #[]) ∧ u' = .returning ∧ w' = w := by
  refine callsD_of_wpS Tryz.func61 rfl fun c₀ cs hu => ?_
  apply wpS_region
  simp [wpOpsS, go_sem, recoverD, hu, Tryz.ntmps61]
  cases c₀
  simp_all [bodyPostS, results, Tryz.results61]


theorem idle_string (w : World) : CallsD Tryz.prog 85 #[] .returning w fun e u' w' => e = .returned (.tuple #[]) ∧ u' = .returning ∧ w' = w := by
  refine callsD_of_wpS Tryz.func85 rfl fun c₀ cs hu => ?_
  apply wpS_region
  simp [wpOpsS, go_sem, recoverD, hu, Tryz.ntmps85]
  cases c₀
  simp_all [bodyPostS, results, Tryz.results85]


set_option maxRecDepth 100000 in
set_option maxHeartbeats 400000 in
theorem guarded_string_C (b : Nat) (v : Value) (w : World)
    (hc : ∀ w1, Ext w w1 → Calls Tryz.prog 99 #[.pointer (some ⟨b, 0, none⟩)] w1 fun e w' => e = .returned v ∧ Ext w1 w') :
    Calls Tryz.prog 84 #[.func (.method "Error") #[.iface 128 (.pointer (some ⟨b, 0, none⟩))] #[]] w fun e w' => e = .returned (.tuple #[v, .bool true]) ∧ Ext w w' := by
  have HC : Hid (∀ w1, Ext w w1 → Calls Tryz.prog 99 #[.pointer (some ⟨b, 0, none⟩)] w1 fun e w' => e = .returned v ∧ Ext w1 w') := hc
  clear hc
  go_enter_defers Tryz.func84, Tryz.ntmps84
  go_wp2_with (go_at_call 99; refine (HC.out _ (Ext.refl _)).mono ?_; rintro e w1 ⟨rfl, hx⟩)
  refine leaves_cons (f := 85) (args := #[]) (by simp) (by simp [go_sem]) ?_
  refine (idle_string _).mono ?_
  rintro e u' w'' ⟨rfl, rfl, rfl⟩
  exact ⟨_, results_tmp2 rfl _ _ _, rfl, hx⟩


set_option maxRecDepth 100000 in
set_option maxHeartbeats 400000 in
theorem guarded_string_L (b : Nat) (v : Value) (w : World)
    (hc : ∀ w1, Ext w w1 → Calls Tryz.prog 97 #[.pointer (some ⟨b, 0, none⟩)] w1 fun e w' => e = .returned v ∧ Ext w1 w') :
    Calls Tryz.prog 84 #[.func (.method "Error") #[.iface 127 (.pointer (some ⟨b, 0, none⟩))] #[]] w fun e w' => e = .returned (.tuple #[v, .bool true]) ∧ Ext w w' := by
  have HC : Hid (∀ w1, Ext w w1 → Calls Tryz.prog 97 #[.pointer (some ⟨b, 0, none⟩)] w1 fun e w' => e = .returned v ∧ Ext w1 w') := hc
  clear hc
  go_enter_defers Tryz.func84, Tryz.ntmps84
  go_wp2_with (go_at_call 97; refine (HC.out _ (Ext.refl _)).mono ?_; rintro e w1 ⟨rfl, hx⟩)
  refine leaves_cons (f := 85) (args := #[]) (by simp) (by simp [go_sem]) ?_
  refine (idle_string _).mono ?_
  rintro e u' w'' ⟨rfl, rfl, rfl⟩
  exact ⟨_, results_tmp2 rfl _ _ _, rfl, hx⟩


set_option maxRecDepth 100000 in
set_option maxHeartbeats 400000 in
theorem guarded_string_R (b : Nat) (v : Value) (w : World)
    (hc : ∀ w1, Ext w w1 → Calls Tryz.prog 121 #[.pointer (some ⟨b, 0, none⟩)] w1 fun e w' => e = .returned v ∧ Ext w1 w') :
    Calls Tryz.prog 84 #[.func (.method "Error") #[.iface 129 (.pointer (some ⟨b, 0, none⟩))] #[]] w fun e w' => e = .returned (.tuple #[v, .bool true]) ∧ Ext w w' := by
  have HC : Hid (∀ w1, Ext w w1 → Calls Tryz.prog 121 #[.pointer (some ⟨b, 0, none⟩)] w1 fun e w' => e = .returned v ∧ Ext w1 w') := hc
  clear hc
  go_enter_defers Tryz.func84, Tryz.ntmps84
  go_wp2_with (go_at_call 121; refine (HC.out _ (Ext.refl _)).mono ?_; rintro e w1 ⟨rfl, hx⟩)
  refine leaves_cons (f := 85) (args := #[]) (by simp) (by simp [go_sem]) ?_
  refine (idle_string _).mono ?_
  rintro e u' w'' ⟨rfl, rfl, rfl⟩
  exact ⟨_, results_tmp2 rfl _ _ _, rfl, hx⟩


set_option maxRecDepth 100000 in
set_option maxHeartbeats 400000 in
theorem guarded_string_K (b : Nat) (v : Value) (w : World)
    (hc : ∀ w1, Ext w w1 → Calls Tryz.prog 123 #[.pointer (some ⟨b, 0, none⟩)] w1 fun e w' => e = .returned v ∧ Ext w1 w') :
    Calls Tryz.prog 84 #[.func (.method "Error") #[.iface 132 (.pointer (some ⟨b, 0, none⟩))] #[]] w fun e w' => e = .returned (.tuple #[v, .bool true]) ∧ Ext w w' := by
  have HC : Hid (∀ w1, Ext w w1 → Calls Tryz.prog 123 #[.pointer (some ⟨b, 0, none⟩)] w1 fun e w' => e = .returned v ∧ Ext w1 w') := hc
  clear hc
  go_enter_defers Tryz.func84, Tryz.ntmps84
  go_wp2_with (go_at_call 123; refine (HC.out _ (Ext.refl _)).mono ?_; rintro e w1 ⟨rfl, hx⟩)
  refine leaves_cons (f := 85) (args := #[]) (by simp) (by simp [go_sem]) ?_
  refine (idle_string _).mono ?_
  rintro e u' w'' ⟨rfl, rfl, rfl⟩
  exact ⟨_, results_tmp2 rfl _ _ _, rfl, hx⟩


set_option maxRecDepth 100000 in
set_option maxHeartbeats 400000 in
theorem guarded_string_N (b : Nat) (v : Value) (w : World)
    (hc : ∀ w1, Ext w w1 → Calls Tryz.prog 82 #[.pointer (some ⟨b, 0, none⟩)] w1 fun e w' => e = .returned v ∧ Ext w1 w') :
    Calls Tryz.prog 84 #[.func (.method "Error") #[.iface 87 (.pointer (some ⟨b, 0, none⟩))] #[]] w fun e w' => e = .returned (.tuple #[v, .bool true]) ∧ Ext w w' := by
  have HC : Hid (∀ w1, Ext w w1 → Calls Tryz.prog 82 #[.pointer (some ⟨b, 0, none⟩)] w1 fun e w' => e = .returned v ∧ Ext w1 w') := hc
  clear hc
  go_enter_defers Tryz.func84, Tryz.ntmps84
  go_wp2_with (go_at_call 82; refine (HC.out _ (Ext.refl _)).mono ?_; rintro e w1 ⟨rfl, hx⟩)
  refine leaves_cons (f := 85) (args := #[]) (by simp) (by simp [go_sem]) ?_
  refine (idle_string _).mono ?_
  rintro e u' w'' ⟨rfl, rfl, rfl⟩
  exact ⟨_, results_tmp2 rfl _ _ _, rfl, hx⟩


end Go.Proofs.YtflcmdjekmmkkaaGreatDoor
