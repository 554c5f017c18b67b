/-
  The small functions of package fault and of package errors, each by a contract: errors.Unwrap of each kind of error, the guarded calls (the deferred recover finds nothing), a chain's rest.
-/
import Derived.Test.YtflcmdjekmmkkabDoorFacts
import Derived.Test.YtflcmdjekmmkkabDoorAid
import Derived.WalkKit
import Derived.WalkSpells
import Derived.WalkLawsBesides
import Derived.Defers
import Derived.Recover
import Derived.RegionTactic
import Derived.BigRegion
import Derived.LaidEql
import Derived.RangeFuncRecord
import Derived.Outline
namespace Go.Proofs.YtflcmdjekmmkkabDoor
open Go.RowKit

attribute [local go_sem] isNCoded isNLocated isNRaised isNLacking isNUnw isNAsI isNUnws isNNoted isGCoded isGLocated isGRaised isGLacking isGUnw isGAsI isGUnws isGNoted isCCoded isCLocated isCRaised isCLacking isCUnw isCAsI isCUnws isCNoted isLCoded isLLocated isLRaised isLLacking isLUnw isLAsI isLUnws isLNoted isRCoded isRLocated isRRaised isRLacking isRUnw isRAsI isRUnws isRNoted isHCoded isHLocated isHRaised isHLacking isHUnw isHAsI isHUnws isHNoted isOCoded isOLocated isORaised isOLacking isOUnw isOAsI isOUnws isONoted toCodedCoded toCodedLocated toCodedRaised toCodedLacking toCodedNoted toLocatedCoded toLocatedLocated toLocatedRaised toLocatedLacking toLocatedNoted toRaisedCoded toRaisedLocated toRaisedRaised toRaisedLacking toRaisedNoted toLackingCoded toLackingLocated toLackingRaised toLackingLacking toLackingNoted toNotedCoded toNotedLocated toNotedRaised toNotedLacking toNotedNoted mNUnwrap mNError mCCode mCError mLCode mLWhere mLError mRCode mRWhere mRSaid mRError mOUnwrap mGUnwrap mGError mHAs mHUnwrap

/-- A note: its block holds what is within, and the note. -/
def NotedAt (w : World) (b : Nat) (u : Value) (n : ByteArray) : Prop := w.heap[b]? = some (.cells #[u, .string n] 55)

theorem noted_unwrap (b : Nat) (u : Value) (n : ByteArray) (w : World) (h : NotedAt w b u n) :
    Calls Tryd.prog 66 #[.pointer (some ⟨b, 0, none⟩)] w fun e w' => e = .returned u ∧ w' = w := by
  have c0 : w.cell? ⟨b, 0, none⟩ = some u := cell_of h rfl
  clear h
  go_enter Tryd.func66, Tryd.ntmps66
  go_wp2
  go_ret
  exact ⟨rfl, rfl⟩

theorem foreign_unwrap (t : ByteArray) (u : Value) (w : World) :
    Calls Tryd.prog 64 #[.agg #[.string t, u]] w fun e w' => e = .returned u ∧ Ext w w' := by
  go_enter Tryd.func64, Tryd.ntmps64
  go_wp2
  go_ret
  exact ⟨rfl, Ext.alloc _ _⟩

/-- errors.Unwrap gives u, in whatever later world. -/
def Unwraps (w : World) (e u : Value) : Prop :=
  ∀ w1, Ext w w1 → Calls Tryd.prog 38 #[e] w1 fun r w' => r = .returned u ∧ Ext w1 w'
theorem Unwraps.later {w w1 : World} {e u : Value} (h : Unwraps w e u) (hx : Ext w w1) : Unwraps w1 e u := fun w2 h2 => h w2 (hx.trans h2)

theorem unwraps_noted (b : Nat) (u : Value) (n : ByteArray) (w : World) (h : NotedAt w b u n) : Unwraps w (.iface 53 (.pointer (some ⟨b, 0, none⟩))) u := by
  intro w1 hx
  have h1 : NotedAt w1 b u n := hx.block h
  go_enter Tryd.func38, Tryd.ntmps38
  go_wp2_with (go_at_call 66; refine (noted_unwrap b u n _ h1).mono ?_; rintro e w' ⟨rfl, rfl⟩)
  go_ret
  exact ⟨rfl, Ext.refl _⟩

theorem unwraps_foreign (t : ByteArray) (u : Value) (w : World) : Unwraps w (.iface 42 (.agg #[.string t, u])) u := by
  intro w1 hx
  clear hx
  go_enter Tryd.func38, Tryd.ntmps38
  go_wp2_with (go_at_call 64; refine (foreign_unwrap t u _).mono ?_; rintro e w' ⟨rfl, hb⟩)
  go_ret
  exact ⟨rfl, by assumption⟩

theorem unwraps_C (v : Value) (w : World) : Unwraps w (.iface 87 v) .nilIface := by
  intro w1 hx
  clear hx
  go_enter Tryd.func38, Tryd.ntmps38
  go_wp2
  go_ret
  exact ⟨rfl, Ext.refl _⟩

theorem unwraps_L (v : Value) (w : World) : Unwraps w (.iface 86 v) .nilIface := by
  intro w1 hx
  clear hx
  go_enter Tryd.func38, Tryd.ntmps38
  go_wp2
  go_ret
  exact ⟨rfl, Ext.refl _⟩

theorem unwraps_R (v : Value) (w : World) : Unwraps w (.iface 88 v) .nilIface := by
  intro w1 hx
  clear hx
  go_enter Tryd.func38, Tryd.ntmps38
  go_wp2
  go_ret
  exact ⟨rfl, Ext.refl _⟩

theorem idle_error (w : World) : CallsD Tryd.prog 43 #[] .returning w fun e u' w' => e = .returned (.tuple #[]) ∧ u' = .returning ∧ w' = w := by
  refine callsD_of_wpS Tryd.func43 rfl fun c₀ cs hu => ?_
  apply wpS_region
  simp [wpOpsS, go_sem, recoverD, hu, Tryd.ntmps43]
  cases c₀
  simp_all [bodyPostS, results, Tryd.results43]


set_option maxRecDepth 100000 in
set_option maxHeartbeats 400000 in
theorem guarded_error (c : Value) (v : Value) (w : World)
    (hc : ∀ w1, Ext w w1 → Calls Tryd.prog 37 #[c] w1 fun e w' => e = .returned v ∧ Ext w1 w') :
    Calls Tryd.prog 36 #[.func (.func 37) #[] #[c]] w fun e w' => e = .returned (.tuple #[v, .bool true]) ∧ Ext w w' := by
  have HC : Hid (∀ w1, Ext w w1 → Calls Tryd.prog 37 #[c] w1 fun e w' => e = .returned v ∧ Ext w1 w') := hc
  clear hc
  go_enter_defers Tryd.func36, Tryd.ntmps36
  go_wp2_with (go_at_call 37; refine (HC.out _ (Ext.refl _)).mono ?_; rintro e w1 ⟨rfl, hx⟩)
  refine leaves_cons (f := 43) (args := #[]) (by simp) (by simp [go_sem]) ?_
  refine (idle_error _).mono ?_
  rintro e u' w'' ⟨rfl, rfl, rfl⟩
  exact ⟨_, results_tmp2 rfl _ _ _, rfl, hx⟩


theorem idle_Errno (w : World) : CallsD Tryd.prog 31 #[] .returning w fun e u' w' => e = .returned (.tuple #[]) ∧ u' = .returning ∧ w' = w := by
  refine callsD_of_wpS Tryd.func31 rfl fun c₀ cs hu => ?_
  apply wpS_region
  simp [wpOpsS, go_sem, recoverD, hu, Tryd.ntmps31]
  cases c₀
  simp_all [bodyPostS, results, Tryd.results31]


set_option maxRecDepth 100000 in
set_option maxHeartbeats 400000 in
theorem guarded_Errno_C (b : Nat) (v : Value) (w : World)
    (hc : ∀ w1, Ext w w1 → Calls Tryd.prog 76 #[.pointer (some ⟨b, 0, none⟩)] w1 fun e w' => e = .returned v ∧ Ext w1 w') :
    Calls Tryd.prog 18 #[.func (.method "Code") #[.iface 87 (.pointer (some ⟨b, 0, none⟩))] #[]] w fun e w' => e = .returned (.tuple #[v, .bool true]) ∧ Ext w w' := by
  have HC : Hid (∀ w1, Ext w w1 → Calls Tryd.prog 76 #[.pointer (some ⟨b, 0, none⟩)] w1 fun e w' => e = .returned v ∧ Ext w1 w') := hc
  clear hc
  go_enter_defers Tryd.func18, Tryd.ntmps18
  go_wp2_with (go_at_call 76; refine (HC.out _ (Ext.refl _)).mono ?_; rintro e w1 ⟨rfl, hx⟩)
  refine leaves_cons (f := 31) (args := #[]) (by simp) (by simp [go_sem]) ?_
  refine (idle_Errno _).mono ?_
  rintro e u' w'' ⟨rfl, rfl, rfl⟩
  exact ⟨_, results_tmp2 rfl _ _ _, rfl, hx⟩


set_option maxRecDepth 100000 in
set_option maxHeartbeats 400000 in
theorem guarded_Errno_L (b : Nat) (v : Value) (w : World)
    (hc : ∀ w1, Ext w w1 → Calls Tryd.prog 76 #[.pointer (some ⟨b, 0, none⟩)] w1 fun e w' => e = .returned v ∧ Ext w1 w') :
    Calls Tryd.prog 18 #[.func (.method "Code") #[.iface 86 (.pointer (some ⟨b, 0, none⟩))] #[]] w fun e w' => e = .returned (.tuple #[v, .bool true]) ∧ Ext w w' := by
  have HC : Hid (∀ w1, Ext w w1 → Calls Tryd.prog 76 #[.pointer (some ⟨b, 0, none⟩)] w1 fun e w' => e = .returned v ∧ Ext w1 w') := hc
  clear hc
  go_enter_defers Tryd.func18, Tryd.ntmps18
  go_wp2_with (go_at_call 76; refine (HC.out _ (Ext.refl _)).mono ?_; rintro e w1 ⟨rfl, hx⟩)
  refine leaves_cons (f := 31) (args := #[]) (by simp) (by simp [go_sem]) ?_
  refine (idle_Errno _).mono ?_
  rintro e u' w'' ⟨rfl, rfl, rfl⟩
  exact ⟨_, results_tmp2 rfl _ _ _, rfl, hx⟩


set_option maxRecDepth 100000 in
set_option maxHeartbeats 400000 in
theorem guarded_Errno_R (b : Nat) (v : Value) (w : World)
    (hc : ∀ w1, Ext w w1 → Calls Tryd.prog 76 #[.pointer (some ⟨b, 0, none⟩)] w1 fun e w' => e = .returned v ∧ Ext w1 w') :
    Calls Tryd.prog 18 #[.func (.method "Code") #[.iface 88 (.pointer (some ⟨b, 0, none⟩))] #[]] w fun e w' => e = .returned (.tuple #[v, .bool true]) ∧ Ext w w' := by
  have HC : Hid (∀ w1, Ext w w1 → Calls Tryd.prog 76 #[.pointer (some ⟨b, 0, none⟩)] w1 fun e w' => e = .returned v ∧ Ext w1 w') := hc
  clear hc
  go_enter_defers Tryd.func18, Tryd.ntmps18
  go_wp2_with (go_at_call 76; refine (HC.out _ (Ext.refl _)).mono ?_; rintro e w1 ⟨rfl, hx⟩)
  refine leaves_cons (f := 31) (args := #[]) (by simp) (by simp [go_sem]) ?_
  refine (idle_Errno _).mono ?_
  rintro e u' w'' ⟨rfl, rfl, rfl⟩
  exact ⟨_, results_tmp2 rfl _ _ _, rfl, hx⟩


theorem idle_Place (w : World) : CallsD Tryd.prog 29 #[] .returning w fun e u' w' => e = .returned (.tuple #[]) ∧ u' = .returning ∧ w' = w := by
  refine callsD_of_wpS Tryd.func29 rfl fun c₀ cs hu => ?_
  apply wpS_region
  simp [wpOpsS, go_sem, recoverD, hu, Tryd.ntmps29]
  cases c₀
  simp_all [bodyPostS, results, Tryd.results29]


theorem idle_told (w : World) : CallsD Tryd.prog 42 #[] .returning w fun e u' w' => e = .returned (.tuple #[]) ∧ u' = .returning ∧ w' = w := by
  refine callsD_of_wpS Tryd.func42 rfl fun c₀ cs hu => ?_
  apply wpS_region
  simp [wpOpsS, go_sem, recoverD, hu, Tryd.ntmps42]
  cases c₀
  simp_all [bodyPostS, results, Tryd.results42]


theorem idle_string (w : World) : CallsD Tryd.prog 68 #[] .returning w fun e u' w' => e = .returned (.tuple #[]) ∧ u' = .returning ∧ w' = w := by
  refine callsD_of_wpS Tryd.func68 rfl fun c₀ cs hu => ?_
  apply wpS_region
  simp [wpOpsS, go_sem, recoverD, hu, Tryd.ntmps68]
  cases c₀
  simp_all [bodyPostS, results, Tryd.results68]


set_option maxRecDepth 100000 in
set_option maxHeartbeats 400000 in
theorem guarded_string_C (b : Nat) (v : Value) (w : World)
    (hc : ∀ w1, Ext w w1 → Calls Tryd.prog 79 #[.pointer (some ⟨b, 0, none⟩)] w1 fun e w' => e = .returned v ∧ Ext w1 w') :
    Calls Tryd.prog 67 #[.func (.method "Error") #[.iface 87 (.pointer (some ⟨b, 0, none⟩))] #[]] w fun e w' => e = .returned (.tuple #[v, .bool true]) ∧ Ext w w' := by
  have HC : Hid (∀ w1, Ext w w1 → Calls Tryd.prog 79 #[.pointer (some ⟨b, 0, none⟩)] w1 fun e w' => e = .returned v ∧ Ext w1 w') := hc
  clear hc
  go_enter_defers Tryd.func67, Tryd.ntmps67
  go_wp2_with (go_at_call 79; refine (HC.out _ (Ext.refl _)).mono ?_; rintro e w1 ⟨rfl, hx⟩)
  refine leaves_cons (f := 68) (args := #[]) (by simp) (by simp [go_sem]) ?_
  refine (idle_string _).mono ?_
  rintro e u' w'' ⟨rfl, rfl, rfl⟩
  exact ⟨_, results_tmp2 rfl _ _ _, rfl, hx⟩


set_option maxRecDepth 100000 in
set_option maxHeartbeats 400000 in
theorem guarded_string_L (b : Nat) (v : Value) (w : World)
    (hc : ∀ w1, Ext w w1 → Calls Tryd.prog 77 #[.pointer (some ⟨b, 0, none⟩)] w1 fun e w' => e = .returned v ∧ Ext w1 w') :
    Calls Tryd.prog 67 #[.func (.method "Error") #[.iface 86 (.pointer (some ⟨b, 0, none⟩))] #[]] w fun e w' => e = .returned (.tuple #[v, .bool true]) ∧ Ext w w' := by
  have HC : Hid (∀ w1, Ext w w1 → Calls Tryd.prog 77 #[.pointer (some ⟨b, 0, none⟩)] w1 fun e w' => e = .returned v ∧ Ext w1 w') := hc
  clear hc
  go_enter_defers Tryd.func67, Tryd.ntmps67
  go_wp2_with (go_at_call 77; refine (HC.out _ (Ext.refl _)).mono ?_; rintro e w1 ⟨rfl, hx⟩)
  refine leaves_cons (f := 68) (args := #[]) (by simp) (by simp [go_sem]) ?_
  refine (idle_string _).mono ?_
  rintro e u' w'' ⟨rfl, rfl, rfl⟩
  exact ⟨_, results_tmp2 rfl _ _ _, rfl, hx⟩


set_option maxRecDepth 100000 in
set_option maxHeartbeats 400000 in
theorem guarded_string_R (b : Nat) (v : Value) (w : World)
    (hc : ∀ w1, Ext w w1 → Calls Tryd.prog 101 #[.pointer (some ⟨b, 0, none⟩)] w1 fun e w' => e = .returned v ∧ Ext w1 w') :
    Calls Tryd.prog 67 #[.func (.method "Error") #[.iface 88 (.pointer (some ⟨b, 0, none⟩))] #[]] w fun e w' => e = .returned (.tuple #[v, .bool true]) ∧ Ext w w' := by
  have HC : Hid (∀ w1, Ext w w1 → Calls Tryd.prog 101 #[.pointer (some ⟨b, 0, none⟩)] w1 fun e w' => e = .returned v ∧ Ext w1 w') := hc
  clear hc
  go_enter_defers Tryd.func67, Tryd.ntmps67
  go_wp2_with (go_at_call 101; refine (HC.out _ (Ext.refl _)).mono ?_; rintro e w1 ⟨rfl, hx⟩)
  refine leaves_cons (f := 68) (args := #[]) (by simp) (by simp [go_sem]) ?_
  refine (idle_string _).mono ?_
  rintro e u' w'' ⟨rfl, rfl, rfl⟩
  exact ⟨_, results_tmp2 rfl _ _ _, rfl, hx⟩


set_option maxRecDepth 100000 in
set_option maxHeartbeats 400000 in
theorem guarded_string_N (b : Nat) (v : Value) (w : World)
    (hc : ∀ w1, Ext w w1 → Calls Tryd.prog 65 #[.pointer (some ⟨b, 0, none⟩)] w1 fun e w' => e = .returned v ∧ Ext w1 w') :
    Calls Tryd.prog 67 #[.func (.method "Error") #[.iface 53 (.pointer (some ⟨b, 0, none⟩))] #[]] w fun e w' => e = .returned (.tuple #[v, .bool true]) ∧ Ext w w' := by
  have HC : Hid (∀ w1, Ext w w1 → Calls Tryd.prog 65 #[.pointer (some ⟨b, 0, none⟩)] w1 fun e w' => e = .returned v ∧ Ext w1 w') := hc
  clear hc
  go_enter_defers Tryd.func67, Tryd.ntmps67
  go_wp2_with (go_at_call 65; refine (HC.out _ (Ext.refl _)).mono ?_; rintro e w1 ⟨rfl, hx⟩)
  refine leaves_cons (f := 68) (args := #[]) (by simp) (by simp [go_sem]) ?_
  refine (idle_string _).mono ?_
  rintro e u' w'' ⟨rfl, rfl, rfl⟩
  exact ⟨_, results_tmp2 rfl _ _ _, rfl, hx⟩


end Go.Proofs.YtflcmdjekmmkkabDoor
