/-
  fault.Same for errors with a place: what both tell is held against each other.
-/
import Derived.Test.YtflcmdjekmmkkabDoorTell
import Derived.Test.YtflcmdjekmmkkabDoorEqual
import Derived.Laws.StructEq
namespace Go.Proofs.YtflcmdjekmmkkabDoor
open Go.RowKit Go.Shelf
attribute [local go_sem] isNCoded isNLocated isNRaised isNLacking isNUnw isNAsI isNUnws isNNoted isGCoded isGLocated isGRaised isGLacking isGUnw isGAsI isGUnws isGNoted isCCoded isCLocated isCRaised isCLacking isCUnw isCAsI isCUnws isCNoted isLCoded isLLocated isLRaised isLLacking isLUnw isLAsI isLUnws isLNoted isRCoded isRLocated isRRaised isRLacking isRUnw isRAsI isRUnws isRNoted isHCoded isHLocated isHRaised isHLacking isHUnw isHAsI isHUnws isHNoted isOCoded isOLocated isORaised isOLacking isOUnw isOAsI isOUnws isONoted toCodedCoded toCodedLocated toCodedRaised toCodedLacking toCodedNoted toLocatedCoded toLocatedLocated toLocatedRaised toLocatedLacking toLocatedNoted toRaisedCoded toRaisedLocated toRaisedRaised toRaisedLacking toRaisedNoted toLackingCoded toLackingLocated toLackingRaised toLackingLacking toLackingNoted toNotedCoded toNotedLocated toNotedRaised toNotedLacking toNotedNoted mNUnwrap mNError mCCode mCError mLCode mLWhere mLError mRCode mRWhere mRSaid mRError mOUnwrap mGUnwrap mGError mHAs mHUnwrap

set_option maxRecDepth 100000 in
set_option maxHeartbeats 2000000 in
theorem tell1_L (cb b : Nat) (co : Int) (fu : ByteArray) (a : Option Addr) (n c : Nat) (xs : List Int) (w : World) (hb : xs.length * 8 ≤ 140737488355328) (hcb : w.heap[cb]? = some (.cells #[.iface 86 (.pointer (some ⟨b, 0, none⟩))] 47)) (hL : LocatedAt w b co fu (.slice a n c)) (hI : Ints w (.slice a n c) xs) :
    Calls Tryd.prog 33 #[.pointer (some ⟨cb, 0, none⟩)] w fun r w' => ∃ v', r = .returned (.agg #[.int .i64 co, .bool true, .bool false, .bool false, .string fu, .string ByteArray.empty, .string ByteArray.empty, .string ByteArray.empty, v']) ∧ w'.ownsRow w.heap.size 3 1 v' xs.length (xs.map (Value.int .i64)) ∧ Ext w w' := by
  have cc : w.cell? ⟨cb, 0, none⟩ = some (.iface 86 (.pointer (some ⟨b, 0, none⟩))) := cell_of hcb rfl
  have hlt := lt_of_block hcb
  have hT := tellOf_L b co fu a n c xs (w.alloc (.cells #[.int .i64 0, .bool false, .bool false, .bool false, .string ByteArray.empty, .string ByteArray.empty, .string ByteArray.empty, .string ByteArray.empty, .slice none 0 0] 77)) hb (blkOld _ hL) (hI.later (Ext.alloc _ _))
  have HT : Hid (Calls Tryd.prog 34 #[.iface 86 (.pointer (some ⟨b, 0, none⟩))] (w.alloc (.cells #[.int .i64 0, .bool false, .bool false, .bool false, .string ByteArray.empty, .string ByteArray.empty, .string ByteArray.empty, .string ByteArray.empty, .slice none 0 0] 77)) fun r w' => ∃ v', r = .returned (.agg #[.int .i64 co, .bool true, .bool false, .bool false, .string fu, .string ByteArray.empty, .string ByteArray.empty, .string ByteArray.empty, v']) ∧ w'.ownsRow (w.alloc (.cells #[.int .i64 0, .bool false, .bool false, .bool false, .string ByteArray.empty, .string ByteArray.empty, .string ByteArray.empty, .string ByteArray.empty, .slice none 0 0] 77)).heap.size 3 1 v' xs.length (xs.map (Value.int .i64)) ∧ Ext (w.alloc (.cells #[.int .i64 0, .bool false, .bool false, .bool false, .string ByteArray.empty, .string ByteArray.empty, .string ByteArray.empty, .string ByteArray.empty, .slice none 0 0] 77)) w') := hT
  clear hT hcb hL hI
  go_enter Tryd.func33, Tryd.ntmps33
  go_wp2_with (go_at_call 34; refine HT.out.mono ?_; rintro r w1 ⟨v', rfl, ho, hx⟩; obtain ⟨a', n', c', rfl⟩ := ownsRow_slice ho; have b0 := hx.block (blk0 w (.cells #[.int .i64 0, .bool false, .bool false, .bool false, .string ByteArray.empty, .string ByteArray.empty, .string ByteArray.empty, .string ByteArray.empty, .slice none 0 0] 77)); have q0 := cell_of (i := 0) b0 rfl; have z0 := frozen_of (i := 0) b0; have q1 := cell_of (i := 1) b0 rfl; have z1 := frozen_of (i := 1) b0; have q2 := cell_of (i := 2) b0 rfl; have z2 := frozen_of (i := 2) b0; have q3 := cell_of (i := 3) b0 rfl; have z3 := frozen_of (i := 3) b0; have q4 := cell_of (i := 4) b0 rfl; have z4 := frozen_of (i := 4) b0; have q5 := cell_of (i := 5) b0 rfl; have z5 := frozen_of (i := 5) b0; have q6 := cell_of (i := 6) b0 rfl; have z6 := frozen_of (i := 6) b0; have q7 := cell_of (i := 7) b0 rfl; have z7 := frozen_of (i := 7) b0; have q8 := cell_of (i := 8) b0 rfl; have z8 := frozen_of (i := 8) b0; simp only [List.getElem_toArray, List.getElem_cons_zero, List.getElem_cons_succ] at q0 q1 q2 q3 q4 q5 q6 q7 q8; clear b0)
  have ho' : w1.ownsRow (w.heap.size + 1) 3 1 (.slice a' n' c') xs.length (xs.map (Value.int .i64)) := by simpa using ho
  clear ho
  refine bodyPost_ret (v := .agg #[.int .i64 co, .bool true, .bool false, .bool false, .string fu, .string ByteArray.empty, .string ByteArray.empty, .string ByteArray.empty, (.slice a' n' c')]) (by simp [results, Tryd.results33, go_sem, q0, q1, q2, q3, q4, q5, q6, q7, q8]) rfl ⟨_, rfl, ?_, ?_⟩
  · refine row_mono ?_ (show w.heap.size ≤ w.heap.size + 1 by omega)
    repeat (refine row_set ?_ (by omega))
    exact ho'
  · repeat (refine Ext.set0 ?_ _ _)
    exact (Ext.alloc _ _).trans hx


set_option maxRecDepth 100000 in
set_option maxHeartbeats 2000000 in
theorem guarded_told_L (cb b : Nat) (co : Int) (fu : ByteArray) (a : Option Addr) (n c : Nat) (xs : List Int) (w : World) (hb : xs.length * 8 ≤ 140737488355328) (hcb : w.heap[cb]? = some (.cells #[.iface 86 (.pointer (some ⟨b, 0, none⟩))] 47)) (hL : LocatedAt w b co fu (.slice a n c)) (hI : Ints w (.slice a n c) xs) :
    Calls Tryd.prog 32 #[.func (.func 33) #[] #[.pointer (some ⟨cb, 0, none⟩)]] w fun r w' => ∃ v', r = .returned (.tuple #[.agg #[.int .i64 co, .bool true, .bool false, .bool false, .string fu, .string ByteArray.empty, .string ByteArray.empty, .string ByteArray.empty, v'], .bool true]) ∧ w'.ownsRow w.heap.size 3 1 v' xs.length (xs.map (Value.int .i64)) ∧ Ext w w' := by
  have hT := tell1_L cb b co fu a n c xs (w.alloc (.cells #[.int .i64 0, .bool false, .bool false, .bool false, .string ByteArray.empty, .string ByteArray.empty, .string ByteArray.empty, .string ByteArray.empty, .slice none 0 0] 77)) hb (blkOld _ hcb) (blkOld _ hL) (hI.later (Ext.alloc _ _))
  have HT : Hid (Calls Tryd.prog 33 #[.pointer (some ⟨cb, 0, none⟩)] (w.alloc (.cells #[.int .i64 0, .bool false, .bool false, .bool false, .string ByteArray.empty, .string ByteArray.empty, .string ByteArray.empty, .string ByteArray.empty, .slice none 0 0] 77)) fun r w' => ∃ v', r = .returned (.agg #[.int .i64 co, .bool true, .bool false, .bool false, .string fu, .string ByteArray.empty, .string ByteArray.empty, .string ByteArray.empty, v']) ∧ w'.ownsRow (w.alloc (.cells #[.int .i64 0, .bool false, .bool false, .bool false, .string ByteArray.empty, .string ByteArray.empty, .string ByteArray.empty, .string ByteArray.empty, .slice none 0 0] 77)).heap.size 3 1 v' xs.length (xs.map (Value.int .i64)) ∧ Ext (w.alloc (.cells #[.int .i64 0, .bool false, .bool false, .bool false, .string ByteArray.empty, .string ByteArray.empty, .string ByteArray.empty, .string ByteArray.empty, .slice none 0 0] 77)) w') := hT
  clear hT hcb hL hI
  go_enter_defers Tryd.func32, Tryd.ntmps32
  go_wp2_with (go_at_call 33; refine HT.out.mono ?_; rintro r w1 ⟨v', rfl, ho, hx⟩; obtain ⟨a', n', c', rfl⟩ := ownsRow_slice ho; have b0 := hx.block (blk0 w (.cells #[.int .i64 0, .bool false, .bool false, .bool false, .string ByteArray.empty, .string ByteArray.empty, .string ByteArray.empty, .string ByteArray.empty, .slice none 0 0] 77)); have q0 := cell_of (i := 0) b0 rfl; have z0 := frozen_of (i := 0) b0; have q1 := cell_of (i := 1) b0 rfl; have z1 := frozen_of (i := 1) b0; have q2 := cell_of (i := 2) b0 rfl; have z2 := frozen_of (i := 2) b0; have q3 := cell_of (i := 3) b0 rfl; have z3 := frozen_of (i := 3) b0; have q4 := cell_of (i := 4) b0 rfl; have z4 := frozen_of (i := 4) b0; have q5 := cell_of (i := 5) b0 rfl; have z5 := frozen_of (i := 5) b0; have q6 := cell_of (i := 6) b0 rfl; have z6 := frozen_of (i := 6) b0; have q7 := cell_of (i := 7) b0 rfl; have z7 := frozen_of (i := 7) b0; have q8 := cell_of (i := 8) b0 rfl; have z8 := frozen_of (i := 8) b0; simp only [List.getElem_toArray, List.getElem_cons_zero, List.getElem_cons_succ] at q0 q1 q2 q3 q4 q5 q6 q7 q8; clear b0)
  have ho' : w1.ownsRow (w.heap.size + 1) 3 1 (.slice a' n' c') xs.length (xs.map (Value.int .i64)) := by simpa using ho
  clear ho
  refine leaves_cons (f := 42) (args := #[]) (by simp) (by simp [go_sem]) ?_
  refine (idle_told _).mono ?_
  rintro r u' w'' ⟨rfl, rfl, rfl⟩
  refine ⟨.tuple #[.agg #[.int .i64 co, .bool true, .bool false, .bool false, .string fu, .string ByteArray.empty, .string ByteArray.empty, .string ByteArray.empty, (.slice a' n' c')], .bool true], by simp [results, Tryd.results32, go_sem, q0, q1, q2, q3, q4, q5, q6, q7, q8], _, rfl, ?_, ?_⟩
  · refine row_mono ?_ (show w.heap.size ≤ w.heap.size + 1 by omega)
    repeat (refine row_set ?_ (by omega))
    exact ho'
  · repeat (refine Ext.set0 ?_ _ _)
    exact (Ext.alloc _ _).trans hx


set_option maxRecDepth 100000 in
set_option maxHeartbeats 4000000 in
theorem tell_L (t0 : TypeId) (v0 : Value) (k : Nat) (es : Nat → Value) (b : Nat) (co : Int) (fu : ByteArray) (a : Option Addr) (n c : Nat) (xs : List Int) (w : World) (hb : xs.length * 8 ≤ 140737488355328) (hL : LocatedAt w b co fu (.slice a n c)) (hI : Ints w (.slice a n c) xs)
    (hk : k < 1024) (he0 : es 0 = .iface t0 v0) (hek : es k = .iface 86 (.pointer (some ⟨b, 0, none⟩)))
    (hi : ∀ i, i < k → ∃ t v, es (i + 1) = .iface t v) (hno : ∀ i, i < k → ∃ v, Asks 47 (es i) v false) (hu : ∀ i, i < k → Unwraps w (es i) (es (i + 1))) :
    Calls Tryd.prog 19 #[.iface t0 v0] w fun r w' => ∃ v', r = .returned (.tuple #[.agg #[.int .i64 co, .bool true, .bool false, .bool false, .string fu, .string ByteArray.empty, .string ByteArray.empty, .string ByteArray.empty, v'], .bool true]) ∧ w'.ownsRow w.heap.size 3 1 v' xs.length (xs.map (Value.int .i64)) ∧ Ext w w' := by
  have HAS : Hid (∀ w1, Ext ((w.alloc (.cells #[.int .i64 0, .bool false, .bool false, .bool false, .string ByteArray.empty, .string ByteArray.empty, .string ByteArray.empty, .string ByteArray.empty, .slice none 0 0] 77)).alloc (.cells #[.nilIface] 47)) w1 → Calls Tryd.prog 14 #[.iface 60 (.agg #[.iface t0 v0, .int .i64 1024]), .iface 70 (.pointer (some ⟨w.heap.size + 1, 0, none⟩))] w1 fun r w' => r = .returned (.bool true) ∧ Apart (w.heap.size + 1) w1 w' ∧ w'.heap[w.heap.size + 1]? = some (.cells #[.iface 86 (.pointer (some ⟨b, 0, none⟩))] 47)) := fun w1 hx => by
    have h := As_Coded_hit 86 (.pointer (some ⟨b, 0, none⟩)) es 1024 k hk (Nat.le_refl _) (w.heap.size + 1) .nilIface w1 (hx.block (blk1 _ _ _)) hi hno (fun i h => (hu i h).later ((Ext.alloc2 _ _ _).trans hx)) (by rw [hek]; exact fun w => isLCoded _ _ _)
    rw [he0] at h
    exact h
  have HL : Hid (LocatedAt w b co fu (.slice a n c)) := hL
  have HI : Hid (Ints w (.slice a n c) xs) := hI
  have hmf : ∀ (fn : Fn) (first cap : Array Value) (w : World), (Instr.makeFunc fn first cap).run Tryd.prog w = .ok (.func fn first cap) w := fun _ _ _ _ => rfl
  clear hi hno hu hek he0 hL hI
  go_enter Tryd.func19, Tryd.ntmps19
  go_wp2_with (first
    | (go_at_call 15; refine (from_any t0 v0 _).mono ?_; rintro r w1 ⟨rfl, hx1⟩)
    | (go_at_call 14; refine (HAS.out w1 hx1).mono ?_; rintro r w2 ⟨rfl, hA, hB⟩; have x2 : Ext w w2 := hA.ext ((Ext.alloc2 w _ _).trans hx1) (Nat.le_succ _); have hT := guarded_told_L (w.heap.size + 1) b co fu a n c xs w2 hb hB (x2.block HL.out) (HI.out.later x2); have HT : Hid (Calls Tryd.prog 32 #[.func (.func 33) #[] #[.pointer (some ⟨w.heap.size + 1, 0, none⟩)]] w2 fun r w' => ∃ v', r = .returned (.tuple #[.agg #[.int .i64 co, .bool true, .bool false, .bool false, .string fu, .string ByteArray.empty, .string ByteArray.empty, .string ByteArray.empty, v'], .bool true]) ∧ w'.ownsRow w2.heap.size 3 1 v' xs.length (xs.map (Value.int .i64)) ∧ Ext w2 w') := hT; clear hT; have HY : Hid (w2.heap[w.heap.size]? = some (.cells #[.int .i64 0, .bool false, .bool false, .bool false, .string ByteArray.empty, .string ByteArray.empty, .string ByteArray.empty, .string ByteArray.empty, .slice none 0 0] 77)) := ((hA.block _ (lt_of_block (hx1.block (blkOld _ (blk0 _ _)))) (by omega)).trans (hx1.block (blkOld _ (blk0 _ _)))); have hsz : w.heap.size + 1 < w2.heap.size := lt_of_block hB; clear hB)
    | (go_at_call 32; refine HT.out.mono ?_; rintro r w3 ⟨v', rfl, ho, hx3⟩; obtain ⟨a', n', c', rfl⟩ := ownsRow_slice ho; have y0 := hx3.block HY.out; have q0 := cell_of (i := 0) y0 rfl; have z0 := frozen_of (i := 0) y0; have q1 := cell_of (i := 1) y0 rfl; have z1 := frozen_of (i := 1) y0; have q2 := cell_of (i := 2) y0 rfl; have z2 := frozen_of (i := 2) y0; have q3 := cell_of (i := 3) y0 rfl; have z3 := frozen_of (i := 3) y0; have q4 := cell_of (i := 4) y0 rfl; have z4 := frozen_of (i := 4) y0; have q5 := cell_of (i := 5) y0 rfl; have z5 := frozen_of (i := 5) y0; have q6 := cell_of (i := 6) y0 rfl; have z6 := frozen_of (i := 6) y0; have q7 := cell_of (i := 7) y0 rfl; have z7 := frozen_of (i := 7) y0; have q8 := cell_of (i := 8) y0 rfl; have z8 := frozen_of (i := 8) y0; simp only [List.getElem_toArray, List.getElem_cons_zero, List.getElem_cons_succ] at q0 q1 q2 q3 q4 q5 q6 q7 q8; clear y0))
  refine bodyPost_ret (v := .tuple #[.agg #[.int .i64 co, .bool true, .bool false, .bool false, .string fu, .string ByteArray.empty, .string ByteArray.empty, .string ByteArray.empty, (.slice a' n' c')], .bool true]) (by simp [results, Tryd.results19, go_sem, q0, q1, q2, q3, q4, q5, q6, q7, q8]) rfl ⟨_, rfl, ?_, ?_⟩
  · refine row_mono ?_ (show w.heap.size ≤ w2.heap.size by omega)
    repeat (refine row_set ?_ (by omega))
    exact ho
  · repeat (refine Ext.set0 ?_ _ _)
    exact x2.trans hx3

set_option maxRecDepth 100000 in
set_option maxHeartbeats 4000000 in
theorem same_eq (co : Int) (fu : ByteArray) (a1 a2 : Option Addr) (n1 n2 c1 c2 : Nat) (xs : List Int) (w : World) (hb : xs.length * 8 ≤ 140737488355328) (h1 : Ints w (.slice a1 n1 c1) xs) (h2 : Ints w (.slice a2 n2 c2) xs) :
    Calls Tryd.prog 20 #[.agg #[.int .i64 co, .bool true, .bool false, .bool false, .string fu, .string ByteArray.empty, .string ByteArray.empty, .string ByteArray.empty, (.slice a1 n1 c1)], .agg #[.int .i64 co, .bool true, .bool false, .bool false, .string fu, .string ByteArray.empty, .string ByteArray.empty, .string ByteArray.empty, (.slice a2 n2 c2)]] w fun r w' => r = .returned (.bool true) ∧ Ext w w' := by
  have hs1 : Tryd.prog.stoodInHeld 75 = false := by kernel_rfl
  have hs2 : Tryd.prog.eqGuardType Tryd.prog.depth 75 = false := by kernel_rfl
  have hE : Hid (∀ w1, Ext w w1 → Calls Tryd.prog 35 #[.slice a1 n1 c1, .slice a2 n2 c2] w1 fun r w' => r = .returned (.bool true) ∧ Ext w1 w') := fun w1 hx => by
    have h := equal_any _ _ xs xs w1 hb (h1.later hx) (h2.later hx)
    have hd : decide (xs = xs) = true := by simp
    rw [hd] at h
    exact h
  clear h1 h2
  go_enter Tryd.func20, Tryd.ntmps20
  go_wp2_with (go_at_call 35; refine (hE.out _ (Ext.alloc2 _ _ _)).mono ?_; rintro r w1 ⟨rfl, hx⟩)
  go_ret
  exact ⟨rfl, (Ext.alloc2 _ _ _).trans hx⟩


end Go.Proofs.YtflcmdjekmmkkabDoor
