/-
  fault.Code of an error that fault.New gave: its number.
-/
import Derived.Test.YtaodkfchmaendaaGreatDoorEAs
import Derived.Test.YtaodkfchmaendaaGreatDoorBase
namespace Go.Proofs.YtaodkfchmaendaaGreatDoor.Er
open Go.RowKit
attribute [local go_sem] isNCoded isNLocated isNRaised isNLacking isNUnw isNAsI isNUnws isNNoted isCCoded isCLocated isCRaised isCLacking isCUnw isCAsI isCUnws isCNoted isLCoded isLLocated isLRaised isLLacking isLUnw isLAsI isLUnws isLNoted isKCoded isKLocated isKRaised isKLacking isKUnw isKAsI isKUnws isKNoted isHCoded isHLocated isHRaised isHLacking isHUnw isHAsI isHUnws isHNoted toCodedCoded toCodedLocated toCodedRaised toCodedLacking toCodedNoted toLocatedCoded toLocatedLocated toLocatedRaised toLocatedLacking toLocatedNoted toRaisedCoded toRaisedLocated toRaisedRaised toRaisedLacking toRaisedNoted toLackingCoded toLackingLocated toLackingRaised toLackingLacking toLackingNoted toNotedCoded toNotedLocated toNotedRaised toNotedLacking toNotedNoted mNUnwrap mNError mCCode mCError mLCode mLWhere mLError mKCode mKWhere mKLacks mKError mHAs mHUnwrap

theorem lt_of_cell {w : World} {a : Addr} {v : Value} (h : w.cell? a = some v) : a.block < w.heap.size := by
  rcases Nat.lt_or_ge a.block w.heap.size with h' | h'
  · exact h'
  · simp [World.cell?, Array.getElem?_eq_none h'] at h
theorem from_any (t : TypeId) (v : Value) (w : World) :
    Calls Tryz.prog 60 #[.iface t v] w fun r w' => r = .returned (.agg #[.iface t v, .int .i64 1024]) ∧ Ext w w' := by
  go_enter Tryz.func60, Tryz.ntmps60
  go_wp2
  refine bodyPost_ret (v := .agg #[.iface t v, .int .i64 1024]) (by simp [results, Tryz.results60, go_sem]) rfl ⟨rfl, ?_⟩
  first | exact Ext.alloc _ _ | exact ((Ext.alloc _ _).set0 _ _).set0 _ _
theorem code_of (b : Nat) (co : Int) (w : World) (h : w.cell? ⟨b, 0, none⟩ = some (.int .i64 co)) :
    Calls Tryz.prog 176 #[.pointer (some ⟨b, 0, none⟩)] w fun r w' => r = .returned (.int .i64 co) ∧ w' = w := by
  go_enter Tryz.func176, Tryz.ntmps176
  go_wp2
  go_ret
  exact ⟨rfl, rfl⟩

set_option maxRecDepth 100000 in
set_option maxHeartbeats 2000000 in
theorem code_C (t0 : TypeId) (v0 : Value) (b k : Nat) (num : Int) (es : Nat → Value) (w : World) (hk : k < 1024) (he0 : es 0 = .iface t0 v0) (hek : es k = .iface 137 (.pointer (some ⟨b, 0, none⟩))) (hc : w.cell? ⟨b, 0, none⟩ = some (.int .i64 num))
    (hi : ∀ i, i < k → ∃ t v, es (i + 1) = .iface t v) (hno : ∀ i, i < k → ∃ v, Asks 124 (es i) v false) (hu : ∀ i, i < k → Unwraps w (es i) (es (i + 1))) :
    Calls Tryz.prog 28 #[.iface t0 v0] w fun r w' => r = .returned (.int .i64 num) ∧ Ext w w' := by
  have HAS : Hid (∀ w1, Ext (w.alloc (.cells #[.nilIface] 124)) w1 → Calls Tryz.prog 59 #[.iface 127 (.agg #[.iface t0 v0, .int .i64 1024]), .iface 129 (.pointer (some ⟨w.heap.size, 0, none⟩))] w1 fun r w' => r = .returned (.bool true) ∧ Apart w.heap.size w1 w' ∧ w'.heap[w.heap.size]? = some (.cells #[.iface 137 (.pointer (some ⟨b, 0, none⟩))] 124)) := fun w1 hx => by
    have h := As_Coded_hit 137 (.pointer (some ⟨b, 0, none⟩)) es 1024 k hk (Nat.le_refl _) w.heap.size .nilIface w1 (hx.block (blk0 _ _)) hi hno (fun i h => (hu i h).later ((Ext.alloc _ _).trans hx)) (by rw [hek]; exact fun w => isCCoded _ _ _)
    rw [he0] at h
    exact h
  have hlt := lt_of_cell hc
  have HC : Hid (w.cell? ⟨b, 0, none⟩ = some (.int .i64 num)) := hc
  clear hi hno hu hek he0 hc
  have hna : ∀ (w : World), (nilAhead 450 137 (.pointer (some ⟨b, 0, none⟩)) "Code").run Tryz.prog w = .ok (some false) w := fun w => by kernel_rfl
  have hmf : ∀ (fn : Fn) (first cap : Array Value) (w : World), (Instr.makeFunc fn first cap).run Tryz.prog w = .ok (.func fn first cap) w := fun _ _ _ _ => rfl
  go_enter Tryz.func28, Tryz.ntmps28
  go_wp2_with (first
    | (go_at_call 60; refine (from_any t0 v0 _).mono ?_; rintro r w1 ⟨rfl, hx1⟩)
    | (go_at_call 59; refine (HAS.out w1 hx1).mono ?_; rintro r w2 ⟨rfl, hA, hB⟩; have cB : w2.cell? ⟨w.heap.size, 0, none⟩ = some (.iface 137 (.pointer (some ⟨b, 0, none⟩))) := cell_of hB rfl; have hx2 : Ext w w2 := hA.ext ((Ext.alloc w _).trans hx1) (Nat.le_refl _); have HC2 : Hid (w2.cell? ⟨b, 0, none⟩ = some (.int .i64 num)) := (Below.cell hx2 hlt).trans HC.out)
    | (go_at_call 61; refine (guarded_Errno_C b (.int .i64 num) w2 (fun w3 h3 => (code_of b num w3 ((Below.cell h3 (Nat.lt_of_lt_of_le hlt hx2.size)).trans HC2.out)).mono (by rintro r w4 ⟨rfl, rfl⟩; exact ⟨rfl, Ext.refl _⟩))).mono ?_; rintro r w3 ⟨rfl, hx3⟩))
  go_ret
  exact ⟨rfl, hx2.trans hx3⟩


end Go.Proofs.YtaodkfchmaendaaGreatDoor.Er
/-
  fault.New and fault.Code of what it gave, by contracts.
-/
namespace Go.Proofs.YtaodkfchmaendaaGreatDoor.Nd
open Go.RowKit
theorem fnew_any (c : Int) (hc : (c == 0) = false) (w : World) : Calls Tryz.prog 37 #[.int .i64 c] w fun e w' => e = .returned (.iface 137 (.pointer (some ⟨w.heap.size, 0, none⟩))) ∧ w' = w.alloc (.cells #[.int .i64 c] 139) := by
  go_enter Tryz.func37, Tryz.ntmps37
  go_wp2_with fail
  go_ret
  exact ⟨rfl, rfl⟩
theorem fcode_any (b : Nat) (c : Int) (w : World) (h : w.cell? ⟨b, 0, none⟩ = some (.int .i64 c)) : Calls Tryz.prog 28 #[.iface 137 (.pointer (some ⟨b, 0, none⟩))] w fun e w' => e = .returned (.int .i64 c) ∧ Ext w w' :=
  Er.code_C 137 (.pointer (some ⟨b, 0, none⟩)) b 0 c (fun _ => .iface 137 (.pointer (some ⟨b, 0, none⟩))) w (by decide) rfl rfl h (fun i hi => absurd hi (Nat.not_lt_zero _)) (fun i hi => absurd hi (Nat.not_lt_zero _)) (fun i hi => absurd hi (Nat.not_lt_zero _))
end Go.Proofs.YtaodkfchmaendaaGreatDoor.Nd
