/-
  What an error tells, asked by its methods: Code, Where, Said, Lacks; fault.Code along Unwrap.
-/
import Derived.Test.YtflcmdjekmmkkabDoorOver
import Derived.Test.YtflcmdjekmmkkabDoorAsCoded
namespace Go.Proofs.YtflcmdjekmmkkabDoor
open Go.RowKit Go.Shelf
attribute [local go_sem] isNCoded isNLocated isNRaised isNLacking isNUnw isNAsI isNUnws isNNoted isGCoded isGLocated isGRaised isGLacking isGUnw isGAsI isGUnws isGNoted isCCoded isCLocated isCRaised isCLacking isCUnw isCAsI isCUnws isCNoted isLCoded isLLocated isLRaised isLLacking isLUnw isLAsI isLUnws isLNoted isRCoded isRLocated isRRaised isRLacking isRUnw isRAsI isRUnws isRNoted isHCoded isHLocated isHRaised isHLacking isHUnw isHAsI isHUnws isHNoted isOCoded isOLocated isORaised isOLacking isOUnw isOAsI isOUnws isONoted toCodedCoded toCodedLocated toCodedRaised toCodedLacking toCodedNoted toLocatedCoded toLocatedLocated toLocatedRaised toLocatedLacking toLocatedNoted toRaisedCoded toRaisedLocated toRaisedRaised toRaisedLacking toRaisedNoted toLackingCoded toLackingLocated toLackingRaised toLackingLacking toLackingNoted toNotedCoded toNotedLocated toNotedRaised toNotedLacking toNotedNoted mNUnwrap mNError mCCode mCError mLCode mLWhere mLError mRCode mRWhere mRSaid mRError mOUnwrap mGUnwrap mGError mHAs mHUnwrap

theorem code_of (b : Nat) (co : Int) (w : World) (h : w.cell? ⟨b, 0, none⟩ = some (.int .i64 co)) :
    Calls Tryd.prog 76 #[.pointer (some ⟨b, 0, none⟩)] w fun r w' => r = .returned (.int .i64 co) ∧ w' = w := by
  go_enter Tryd.func76, Tryd.ntmps76
  go_wp2
  go_ret
  exact ⟨rfl, rfl⟩

set_option maxRecDepth 100000 in
theorem where_of (b : Nat) (fu : ByteArray) (a : Option Addr) (n c : Nat) (xs : List Int) (w : World) (hb : xs.length * 8 ≤ 140737488355328) (h1 : w.cell? ⟨b, 1, none⟩ = some (.string fu)) (h2 : w.cell? ⟨b, 2, none⟩ = some (.slice a n c)) (hI : Ints w (.slice a n c) xs) :
    Calls Tryd.prog 78 #[.pointer (some ⟨b, 0, none⟩)] w fun r w' => ∃ v', r = .returned (.agg #[.string fu, v']) ∧ w'.ownsRow w.heap.size 3 1 v' xs.length (xs.map (Value.int .i64)) ∧ Ext w w' := by
  have HI : Hid (Ints w (.slice a n c) xs) := hI
  clear hI
  have hlt : b < w.heap.size := lt_of_cell h1
  go_enter Tryd.func78, Tryd.ntmps78
  go_wp2_with (go_at_call 17; refine (copied_any fu a n c xs _ hb (HI.out.later (Ext.alloc _ _))).mono ?_; rintro r w1 ⟨v', rfl, ho, hx⟩; obtain ⟨a', n', c', rfl⟩ := ownsRow_slice ho; have b0 := hx.block (blk0 w (.cells #[.string ByteArray.empty, .slice none 0 0] 34)); have d0 := cell_of (i := 0) b0 rfl; have d1 := cell_of (i := 1) b0 rfl; have g0 := frozen_of (i := 0) b0; have g1 := frozen_of (i := 1) b0)
  have ho' : w1.ownsRow (w.heap.size + 1) 3 1 (.slice a' n' c') xs.length (xs.map (Value.int .i64)) := by simpa using ho
  clear ho
  refine bodyPost_ret (v := .agg #[.string fu, .slice a' n' c']) (by simp [results, Tryd.results78, go_sem, d0, d1]) rfl ⟨_, rfl, ?_, ?_⟩
  · exact row_mono (row_set (row_set ho' (by omega)) (by omega)) (by omega)
  · exact (((Ext.alloc _ _).trans hx).set0 _ _).set0 _ _
theorem said_of (b : Nat) (sa : ByteArray) (w : World) (h : w.cell? ⟨b, 3, none⟩ = some (.string sa)) :
    Calls Tryd.prog 102 #[.pointer (some ⟨b, 0, none⟩)] w fun r w' => r = .returned (.string sa) ∧ w' = w := by
  go_enter Tryd.func102, Tryd.ntmps102
  go_wp2
  go_ret
  exact ⟨rfl, rfl⟩
set_option maxRecDepth 100000 in
set_option maxHeartbeats 2000000 in
theorem code_C (t0 : TypeId) (v0 : Value) (b k : Nat) (num : Int) (es : Nat → Value) (w : World) (hk : k < 1024) (he0 : es 0 = .iface t0 v0) (hek : es k = .iface 87 (.pointer (some ⟨b, 0, none⟩))) (hc : w.cell? ⟨b, 0, none⟩ = some (.int .i64 num))
    (hi : ∀ i, i < k → ∃ t v, es (i + 1) = .iface t v) (hno : ∀ i, i < k → ∃ v, Asks 47 (es i) v false) (hu : ∀ i, i < k → Unwraps w (es i) (es (i + 1))) :
    Calls Tryd.prog 8 #[.iface t0 v0] w fun r w' => r = .returned (.int .i64 num) ∧ Ext w w' := by
  have HAS : Hid (∀ w1, Ext (w.alloc (.cells #[.nilIface] 47)) w1 → Calls Tryd.prog 14 #[.iface 60 (.agg #[.iface t0 v0, .int .i64 1024]), .iface 70 (.pointer (some ⟨w.heap.size, 0, none⟩))] w1 fun r w' => r = .returned (.bool true) ∧ Apart w.heap.size w1 w' ∧ w'.heap[w.heap.size]? = some (.cells #[.iface 87 (.pointer (some ⟨b, 0, none⟩))] 47)) := fun w1 hx => by
    have h := As_Coded_hit 87 (.pointer (some ⟨b, 0, none⟩)) es 1024 k hk (Nat.le_refl _) w.heap.size .nilIface w1 (hx.block (blk0 _ _)) hi hno (fun i h => (hu i h).later ((Ext.alloc _ _).trans hx)) (by rw [hek]; exact fun w => isCCoded _ _ _)
    rw [he0] at h
    exact h
  have hlt := lt_of_cell hc
  have HC : Hid (w.cell? ⟨b, 0, none⟩ = some (.int .i64 num)) := hc
  clear hi hno hu hek he0 hc
  have hna : ∀ (w : World), (nilAhead 301 87 (.pointer (some ⟨b, 0, none⟩)) "Code").run Tryd.prog w = .ok (some false) w := fun w => by kernel_rfl
  have hmf : ∀ (fn : Fn) (first cap : Array Value) (w : World), (Instr.makeFunc fn first cap).run Tryd.prog w = .ok (.func fn first cap) w := fun _ _ _ _ => rfl
  go_enter Tryd.func8, Tryd.ntmps8
  go_wp2_with (first
    | (go_at_call 15; refine (from_any t0 v0 _).mono ?_; rintro r w1 ⟨rfl, hx1⟩)
    | (go_at_call 14; refine (HAS.out w1 hx1).mono ?_; rintro r w2 ⟨rfl, hA, hB⟩; have cB : w2.cell? ⟨w.heap.size, 0, none⟩ = some (.iface 87 (.pointer (some ⟨b, 0, none⟩))) := cell_of hB rfl; have hx2 : Ext w w2 := hA.ext ((Ext.alloc w _).trans hx1) (Nat.le_refl _); have HC2 : Hid (w2.cell? ⟨b, 0, none⟩ = some (.int .i64 num)) := (Below.cell hx2 hlt).trans HC.out)
    | (go_at_call 18; refine (guarded_Errno_C b (.int .i64 num) w2 (fun w3 h3 => (code_of b num w3 ((Below.cell h3 (Nat.lt_of_lt_of_le hlt hx2.size)).trans HC2.out)).mono (by rintro r w4 ⟨rfl, rfl⟩; exact ⟨rfl, Ext.refl _⟩))).mono ?_; rintro r w3 ⟨rfl, hx3⟩))
  go_ret
  exact ⟨rfl, hx2.trans hx3⟩


set_option maxRecDepth 100000 in
set_option maxHeartbeats 2000000 in
theorem code_L (t0 : TypeId) (v0 : Value) (b k : Nat) (num : Int) (es : Nat → Value) (w : World) (hk : k < 1024) (he0 : es 0 = .iface t0 v0) (hek : es k = .iface 86 (.pointer (some ⟨b, 0, none⟩))) (hc : w.cell? ⟨b, 0, none⟩ = some (.int .i64 num))
    (hi : ∀ i, i < k → ∃ t v, es (i + 1) = .iface t v) (hno : ∀ i, i < k → ∃ v, Asks 47 (es i) v false) (hu : ∀ i, i < k → Unwraps w (es i) (es (i + 1))) :
    Calls Tryd.prog 8 #[.iface t0 v0] w fun r w' => r = .returned (.int .i64 num) ∧ Ext w w' := by
  have HAS : Hid (∀ w1, Ext (w.alloc (.cells #[.nilIface] 47)) w1 → Calls Tryd.prog 14 #[.iface 60 (.agg #[.iface t0 v0, .int .i64 1024]), .iface 70 (.pointer (some ⟨w.heap.size, 0, none⟩))] w1 fun r w' => r = .returned (.bool true) ∧ Apart w.heap.size w1 w' ∧ w'.heap[w.heap.size]? = some (.cells #[.iface 86 (.pointer (some ⟨b, 0, none⟩))] 47)) := fun w1 hx => by
    have h := As_Coded_hit 86 (.pointer (some ⟨b, 0, none⟩)) es 1024 k hk (Nat.le_refl _) w.heap.size .nilIface w1 (hx.block (blk0 _ _)) hi hno (fun i h => (hu i h).later ((Ext.alloc _ _).trans hx)) (by rw [hek]; exact fun w => isLCoded _ _ _)
    rw [he0] at h
    exact h
  have hlt := lt_of_cell hc
  have HC : Hid (w.cell? ⟨b, 0, none⟩ = some (.int .i64 num)) := hc
  clear hi hno hu hek he0 hc
  have hna : ∀ (w : World), (nilAhead 301 86 (.pointer (some ⟨b, 0, none⟩)) "Code").run Tryd.prog w = .ok (some false) w := fun w => by kernel_rfl
  have hmf : ∀ (fn : Fn) (first cap : Array Value) (w : World), (Instr.makeFunc fn first cap).run Tryd.prog w = .ok (.func fn first cap) w := fun _ _ _ _ => rfl
  go_enter Tryd.func8, Tryd.ntmps8
  go_wp2_with (first
    | (go_at_call 15; refine (from_any t0 v0 _).mono ?_; rintro r w1 ⟨rfl, hx1⟩)
    | (go_at_call 14; refine (HAS.out w1 hx1).mono ?_; rintro r w2 ⟨rfl, hA, hB⟩; have cB : w2.cell? ⟨w.heap.size, 0, none⟩ = some (.iface 86 (.pointer (some ⟨b, 0, none⟩))) := cell_of hB rfl; have hx2 : Ext w w2 := hA.ext ((Ext.alloc w _).trans hx1) (Nat.le_refl _); have HC2 : Hid (w2.cell? ⟨b, 0, none⟩ = some (.int .i64 num)) := (Below.cell hx2 hlt).trans HC.out)
    | (go_at_call 18; refine (guarded_Errno_L b (.int .i64 num) w2 (fun w3 h3 => (code_of b num w3 ((Below.cell h3 (Nat.lt_of_lt_of_le hlt hx2.size)).trans HC2.out)).mono (by rintro r w4 ⟨rfl, rfl⟩; exact ⟨rfl, Ext.refl _⟩))).mono ?_; rintro r w3 ⟨rfl, hx3⟩))
  go_ret
  exact ⟨rfl, hx2.trans hx3⟩


set_option maxRecDepth 100000 in
set_option maxHeartbeats 2000000 in
theorem code_R (t0 : TypeId) (v0 : Value) (b k : Nat) (num : Int) (es : Nat → Value) (w : World) (hk : k < 1024) (he0 : es 0 = .iface t0 v0) (hek : es k = .iface 88 (.pointer (some ⟨b, 0, none⟩))) (hc : w.cell? ⟨b, 0, none⟩ = some (.int .i64 num))
    (hi : ∀ i, i < k → ∃ t v, es (i + 1) = .iface t v) (hno : ∀ i, i < k → ∃ v, Asks 47 (es i) v false) (hu : ∀ i, i < k → Unwraps w (es i) (es (i + 1))) :
    Calls Tryd.prog 8 #[.iface t0 v0] w fun r w' => r = .returned (.int .i64 num) ∧ Ext w w' := by
  have HAS : Hid (∀ w1, Ext (w.alloc (.cells #[.nilIface] 47)) w1 → Calls Tryd.prog 14 #[.iface 60 (.agg #[.iface t0 v0, .int .i64 1024]), .iface 70 (.pointer (some ⟨w.heap.size, 0, none⟩))] w1 fun r w' => r = .returned (.bool true) ∧ Apart w.heap.size w1 w' ∧ w'.heap[w.heap.size]? = some (.cells #[.iface 88 (.pointer (some ⟨b, 0, none⟩))] 47)) := fun w1 hx => by
    have h := As_Coded_hit 88 (.pointer (some ⟨b, 0, none⟩)) es 1024 k hk (Nat.le_refl _) w.heap.size .nilIface w1 (hx.block (blk0 _ _)) hi hno (fun i h => (hu i h).later ((Ext.alloc _ _).trans hx)) (by rw [hek]; exact fun w => isRCoded _ _ _)
    rw [he0] at h
    exact h
  have hlt := lt_of_cell hc
  have HC : Hid (w.cell? ⟨b, 0, none⟩ = some (.int .i64 num)) := hc
  clear hi hno hu hek he0 hc
  have hna : ∀ (w : World), (nilAhead 301 88 (.pointer (some ⟨b, 0, none⟩)) "Code").run Tryd.prog w = .ok (some false) w := fun w => by kernel_rfl
  have hmf : ∀ (fn : Fn) (first cap : Array Value) (w : World), (Instr.makeFunc fn first cap).run Tryd.prog w = .ok (.func fn first cap) w := fun _ _ _ _ => rfl
  go_enter Tryd.func8, Tryd.ntmps8
  go_wp2_with (first
    | (go_at_call 15; refine (from_any t0 v0 _).mono ?_; rintro r w1 ⟨rfl, hx1⟩)
    | (go_at_call 14; refine (HAS.out w1 hx1).mono ?_; rintro r w2 ⟨rfl, hA, hB⟩; have cB : w2.cell? ⟨w.heap.size, 0, none⟩ = some (.iface 88 (.pointer (some ⟨b, 0, none⟩))) := cell_of hB rfl; have hx2 : Ext w w2 := hA.ext ((Ext.alloc w _).trans hx1) (Nat.le_refl _); have HC2 : Hid (w2.cell? ⟨b, 0, none⟩ = some (.int .i64 num)) := (Below.cell hx2 hlt).trans HC.out)
    | (go_at_call 18; refine (guarded_Errno_R b (.int .i64 num) w2 (fun w3 h3 => (code_of b num w3 ((Below.cell h3 (Nat.lt_of_lt_of_le hlt hx2.size)).trans HC2.out)).mono (by rintro r w4 ⟨rfl, rfl⟩; exact ⟨rfl, Ext.refl _⟩))).mono ?_; rintro r w3 ⟨rfl, hx3⟩))
  go_ret
  exact ⟨rfl, hx2.trans hx3⟩


end Go.Proofs.YtflcmdjekmmkkabDoor
