/-
  Rings of errors; what fault.Code and fault.Place tell where errors.As finds nothing among 1,024 errors; fault.Place of an error that has one.
-/
import Derived.Test.YtflcmdjekmmkkabDoorTellAny
namespace Go.Proofs.YtflcmdjekmmkkabDoor
open Go.RowKit Go.Shelf
attribute [local go_sem] isNCoded isNLocated isNRaised isNLacking isNUnw isNAsI isNUnws isNNoted isGCoded isGLocated isGRaised isGLacking isGUnw isGAsI isGUnws isGNoted isCCoded isCLocated isCRaised isCLacking isCUnw isCAsI isCUnws isCNoted isLCoded isLLocated isLRaised isLLacking isLUnw isLAsI isLUnws isLNoted isRCoded isRLocated isRRaised isRLacking isRUnw isRAsI isRUnws isRNoted isHCoded isHLocated isHRaised isHLacking isHUnw isHAsI isHUnws isHNoted isOCoded isOLocated isORaised isOLacking isOUnw isOAsI isOUnws isONoted toCodedCoded toCodedLocated toCodedRaised toCodedLacking toCodedNoted toLocatedCoded toLocatedLocated toLocatedRaised toLocatedLacking toLocatedNoted toRaisedCoded toRaisedLocated toRaisedRaised toRaisedLacking toRaisedNoted toLackingCoded toLackingLocated toLackingRaised toLackingLacking toLackingNoted toNotedCoded toNotedLocated toNotedRaised toNotedLacking toNotedNoted mNUnwrap mNError mCCode mCError mLCode mLWhere mLError mRCode mRWhere mRSaid mRError mOUnwrap mGUnwrap mGError mHAs mHUnwrap

/-- One of a ring: its block holds the next one's address. -/
def RingAt (w : World) (b nb : Nat) : Prop := w.heap[b]? = some (.cells #[.pointer (some ⟨nb, 0, none⟩)] 26)
theorem ring_unwrap (b nb : Nat) (w : World) (h : RingAt w b nb) : Calls Tryd.prog 62 #[.pointer (some ⟨b, 0, none⟩)] w fun e w' => e = .returned (.iface 24 (.pointer (some ⟨nb, 0, none⟩))) ∧ w' = w := by
  have c0 : w.cell? ⟨b, 0, none⟩ = some (.pointer (some ⟨nb, 0, none⟩)) := cell_of h rfl
  clear h
  go_enter Tryd.func62, Tryd.ntmps62
  go_wp2
  go_ret
  exact ⟨rfl, rfl⟩
theorem unwraps_ring (b nb : Nat) (w : World) (h : RingAt w b nb) : Unwraps w (.iface 24 (.pointer (some ⟨b, 0, none⟩))) (.iface 24 (.pointer (some ⟨nb, 0, none⟩))) := by
  intro w1 hx
  have h1 : RingAt w1 b nb := hx.block h
  go_enter Tryd.func38, Tryd.ntmps38
  go_wp2_with (go_at_call 62; refine (ring_unwrap b nb _ h1).mono ?_; rintro e w' ⟨rfl, rfl⟩)
  go_ret
  exact ⟨rfl, Ext.refl _⟩
set_option maxRecDepth 100000 in
set_option maxHeartbeats 2000000 in
theorem code_none (t0 : TypeId) (v0 : Value) (m : Nat) (es : Nat → Value) (w : World) (hm : 1 ≤ m) (hml : m ≤ 1024) (hend : m = 1024 ∨ es m = .nilIface) (he0 : es 0 = .iface t0 v0) (hi : ∀ i, i + 1 < m → ∃ t v, es (i + 1) = .iface t v) (hno : ∀ i, i < m → ∃ v, Asks 47 (es i) v false) (hu : ∀ i, i + 1 ≤ m → i + 1 < 1024 → Unwraps w (es i) (es (i + 1))) :
    Calls Tryd.prog 8 #[.iface t0 v0] w fun r w' => r = .returned (.int .i64 1) ∧ Ext w w' := by
  have HAS : Hid (∀ w1, Ext (w.alloc (.cells #[.nilIface] 47)) w1 → Calls Tryd.prog 14 #[.iface 60 (.agg #[.iface t0 v0, .int .i64 1024]), .iface 70 (.pointer (some ⟨w.heap.size, 0, none⟩))] w1 fun r w' => r = .returned (.bool false) ∧ Ext w1 w') := fun w1 hx => by
    have h := As_Coded_miss es 1024 m hm hml (Nat.le_refl _) hend w.heap.size w1 hi hno (fun i h h' => (hu i h h').later ((Ext.alloc _ _).trans hx))
    rw [he0] at h
    exact h
  clear hi hno hu he0 hend
  go_enter Tryd.func8, Tryd.ntmps8
  go_wp2_with (first
    | (go_at_call 15; refine (from_any t0 v0 _).mono ?_; rintro r w1 ⟨rfl, hx1⟩)
    | (go_at_call 14; refine (HAS.out w1 hx1).mono ?_; rintro r w2 ⟨rfl, hx2⟩))
  go_ret
  exact ⟨rfl, (Ext.alloc _ _).trans (hx1.trans hx2)⟩
set_option maxRecDepth 100000 in
set_option maxHeartbeats 2000000 in
theorem place_none (t0 : TypeId) (v0 : Value) (m : Nat) (es : Nat → Value) (w : World) (hm : 1 ≤ m) (hml : m ≤ 1024) (hend : m = 1024 ∨ es m = .nilIface) (he0 : es 0 = .iface t0 v0) (hi : ∀ i, i + 1 < m → ∃ t v, es (i + 1) = .iface t v) (hno : ∀ i, i < m → ∃ v, Asks 64 (es i) v false) (hu : ∀ i, i + 1 ≤ m → i + 1 < 1024 → Unwraps w (es i) (es (i + 1))) :
    Calls Tryd.prog 7 #[.iface t0 v0] w fun r w' => r = .returned (.tuple #[.agg #[.string ⟨#[]⟩, .slice none 0 0], .bool false]) ∧ Ext w w' := by
  have HAS : Hid (∀ w1, Ext w w1 → ∀ tb, Calls Tryd.prog 14 #[.iface 60 (.agg #[.iface t0 v0, .int .i64 1024]), .iface 66 (.pointer (some ⟨tb, 0, none⟩))] w1 fun r w' => r = .returned (.bool false) ∧ Ext w1 w') := fun w1 hx tb => by
    have h := As_Located_miss es 1024 m hm hml (Nat.le_refl _) hend tb w1 hi hno (fun i h h' => (hu i h h').later hx)
    rw [he0] at h
    exact h
  clear hi hno hu he0 hend
  go_enter Tryd.func7, Tryd.ntmps7
  go_wp2_with fail
  refine (from_any t0 v0 _).mono ?_
  rintro r w1 ⟨rfl, hx1⟩
  have X1 : Hid (Ext ((w.alloc (.cells #[.string ByteArray.empty, .slice none 0 0] 34)).alloc (.cells #[.nilIface] 64)) w1) := hx1
  clear hx1
  go_wp2_with fail
  refine (HAS.out _ ((Ext.alloc2 w _ _).trans X1.out) _).mono ?_
  rintro r w2 ⟨rfl, hx2⟩
  have X2 : Hid (Ext w w2) := (Ext.alloc2 w _ _).trans (X1.out.trans hx2)
  have b0 := (X1.out.trans hx2).block (blkOld _ (blk0 w _))
  have c0 := cell_of (i := 0) b0 rfl
  have c1 := cell_of (i := 1) b0 rfl
  have g0 := frozen_of (i := 0) b0
  have g1 := frozen_of (i := 1) b0
  simp only [List.getElem_toArray, List.getElem_cons_zero, List.getElem_cons_succ] at c0 c1
  clear b0 hx2
  go_wp2
  exact bodyPost_ret (v := .tuple #[.agg #[.string ⟨#[]⟩, .slice none 0 0], .bool false]) (by simp [results, Tryd.results7, go_sem, c0, c1]) rfl ⟨rfl, (X2.out.set0 0 _).set0 1 _⟩
set_option maxRecDepth 100000 in
set_option maxHeartbeats 2000000 in
theorem guarded_Place_L (b : Nat) (co : Int) (fu : ByteArray) (a : Option Addr) (n c : Nat) (xs : List Int) (w : World) (hb : xs.length * 8 ≤ 140737488355328) (hL : LocatedAt w b co fu (.slice a n c)) (hI : Ints w (.slice a n c) xs) :
    Calls Tryd.prog 16 #[.func (.method "Where") #[.iface 86 (.pointer (some ⟨b, 0, none⟩))] #[]] w fun r w' => ∃ v', r = .returned (.tuple #[.agg #[.string fu, v'], .bool true]) ∧ w'.ownsRow w.heap.size 3 1 v' xs.length (xs.map (Value.int .i64)) ∧ Ext w w' := by
  have hT := where_of b fu a n c xs (w.alloc (.cells #[.string ByteArray.empty, .slice none 0 0] 34)) hb (cell_of (blkOld _ hL) rfl) (cell_of (blkOld _ hL) rfl) (hI.later (Ext.alloc _ _))
  have HT : Hid (Calls Tryd.prog 78 #[.pointer (some ⟨b, 0, none⟩)] (w.alloc (.cells #[.string ByteArray.empty, .slice none 0 0] 34)) fun r w' => ∃ v', r = .returned (.agg #[.string fu, v']) ∧ w'.ownsRow (w.alloc (.cells #[.string ByteArray.empty, .slice none 0 0] 34)).heap.size 3 1 v' xs.length (xs.map (Value.int .i64)) ∧ Ext (w.alloc (.cells #[.string ByteArray.empty, .slice none 0 0] 34)) w') := hT
  clear hT hL hI
  go_enter_defers Tryd.func16, Tryd.ntmps16
  go_wp2_with (go_at_call 78; refine HT.out.mono ?_; rintro r w1 ⟨v', rfl, ho, hx⟩; obtain ⟨a', n', c', rfl⟩ := ownsRow_slice ho; have b0 := hx.block (blk0 w (.cells #[.string ByteArray.empty, .slice none 0 0] 34)); have q0 := cell_of (i := 0) b0 rfl; have q1 := cell_of (i := 1) b0 rfl; have z0 := frozen_of (i := 0) b0; have z1 := frozen_of (i := 1) b0; simp only [List.getElem_toArray, List.getElem_cons_zero, List.getElem_cons_succ] at q0 q1; clear b0)
  have ho' : w1.ownsRow (w.heap.size + 1) 3 1 (.slice a' n' c') xs.length (xs.map (Value.int .i64)) := by simpa using ho
  clear ho
  refine leaves_cons (f := 29) (args := #[]) (by simp) (by simp [go_sem]) ?_
  refine (idle_Place _).mono ?_
  rintro r u' w'' ⟨rfl, rfl, rfl⟩
  refine ⟨.tuple #[.agg #[.string fu, .slice a' n' c'], .bool true], by simp [results, Tryd.results16, go_sem, q0, q1], _, rfl, ?_, ?_⟩
  · refine row_mono ?_ (show w.heap.size ≤ w.heap.size + 1 by omega)
    repeat (refine row_set ?_ (by omega))
    exact ho'
  · repeat (refine Ext.set0 ?_ _ _)
    exact (Ext.alloc _ _).trans hx
set_option maxRecDepth 100000 in
set_option maxHeartbeats 4000000 in
theorem place_L (t0 : TypeId) (v0 : Value) (k : Nat) (es : Nat → Value) (b : Nat) (co : Int) (fu : ByteArray) (a : Option Addr) (n c : Nat) (xs : List Int) (w : World) (hb : xs.length * 8 ≤ 140737488355328) (hL : LocatedAt w b co fu (.slice a n c)) (hI : Ints w (.slice a n c) xs)
    (hk : k < 1024) (he0 : es 0 = .iface t0 v0) (hek : es k = .iface 86 (.pointer (some ⟨b, 0, none⟩)))
    (hi : ∀ i, i < k → ∃ t v, es (i + 1) = .iface t v) (hno : ∀ i, i < k → ∃ v, Asks 64 (es i) v false) (hu : ∀ i, i < k → Unwraps w (es i) (es (i + 1))) :
    Calls Tryd.prog 7 #[.iface t0 v0] w fun r w' => (∃ v', r = .returned (.tuple #[.agg #[.string fu, v'], .bool true]) ∧ ∃ a' n' c', v' = .slice a' n' c') ∧ Ext w w' := by
  have HAS : Hid (∀ w1, Ext ((w.alloc (.cells #[.string ByteArray.empty, .slice none 0 0] 34)).alloc (.cells #[.nilIface] 64)) w1 → Calls Tryd.prog 14 #[.iface 60 (.agg #[.iface t0 v0, .int .i64 1024]), .iface 66 (.pointer (some ⟨w.heap.size + 1, 0, none⟩))] w1 fun r w' => r = .returned (.bool true) ∧ Apart (w.heap.size + 1) w1 w' ∧ w'.heap[w.heap.size + 1]? = some (.cells #[.iface 86 (.pointer (some ⟨b, 0, none⟩))] 64)) := fun w1 hx => by
    have h := As_Located_hit 86 (.pointer (some ⟨b, 0, none⟩)) es 1024 k hk (Nat.le_refl _) (w.heap.size + 1) .nilIface w1 (hx.block (blk1 _ _ _)) hi hno (fun i h => (hu i h).later ((Ext.alloc2 _ _ _).trans hx)) (by rw [hek]; exact fun w => isLLocated _ _ _)
    rw [he0] at h
    exact h
  have HL : Hid (LocatedAt w b co fu (.slice a n c)) := hL
  have HI : Hid (Ints w (.slice a n c) xs) := hI
  clear hi hno hu hek he0 hL hI
  have hna : ∀ (w : World), (nilAhead 301 86 (.pointer (some ⟨b, 0, none⟩)) "Where").run Tryd.prog w = .ok (some false) w := fun w => by kernel_rfl
  have hmf : ∀ (fn : Fn) (first cap : Array Value) (w : World), (Instr.makeFunc fn first cap).run Tryd.prog w = .ok (.func fn first cap) w := fun _ _ _ _ => rfl
  go_enter Tryd.func7, Tryd.ntmps7
  go_wp2_with fail
  refine (from_any t0 v0 _).mono ?_
  rintro r w1 ⟨rfl, hx1⟩
  have X1 : Hid (Ext ((w.alloc (.cells #[.string ByteArray.empty, .slice none 0 0] 34)).alloc (.cells #[.nilIface] 64)) w1) := hx1
  clear hx1
  go_wp2_with fail
  refine (HAS.out _ X1.out).mono ?_
  rintro r w2 ⟨rfl, hA, hB⟩
  have X2 : Hid (Ext w w2) := hA.ext ((Ext.alloc2 w _ _).trans X1.out) (Nat.le_succ _)
  have cB : w2.cell? ⟨w.heap.size + 1, 0, none⟩ = some (.iface 86 (.pointer (some ⟨b, 0, none⟩))) := cell_of hB rfl
  have HZ : Hid (w2.heap[w.heap.size]? = some (.cells #[.string ByteArray.empty, .slice none 0 0] 34)) := ((hA.block _ (lt_of_block (X1.out.block (blkOld _ (blk0 w _)))) (by omega)).trans (X1.out.block (blkOld _ (blk0 w _))))
  clear hA hB
  go_wp2_with fail
  refine (guarded_Place_L b co fu a n c xs _ hb (X2.out.block HL.out) (HI.out.later X2.out)).mono ?_
  rintro r w3 ⟨v', rfl, ho, hx3⟩
  obtain ⟨a', n', c', rfl⟩ := ownsRow_slice ho
  have HO : Hid (Ints w3 (.slice a' n' c') xs) := Ints.own ho
  have HZ3 : Hid (w3.heap[w.heap.size]? = some (.cells #[.string ByteArray.empty, .slice none 0 0] 34)) := hx3.block HZ.out
  have X3 : Hid (Ext w w3) := X2.out.trans hx3
  clear ho hx3 cB
  go_wp2_with fail
  refine (copied_any fu a' n' c' xs _ hb (HO.out.later (Ext.alloc _ _))).mono ?_
  rintro r w4 ⟨v4, rfl, ho, hx4⟩
  obtain ⟨a4, n4, c4, rfl⟩ := ownsRow_slice ho
  have b0 := hx4.block (blkOld _ HZ3.out)
  have q0 := cell_of (i := 0) b0 rfl
  have q1 := cell_of (i := 1) b0 rfl
  have z0 := frozen_of (i := 0) b0
  have z1 := frozen_of (i := 1) b0
  simp only [List.getElem_toArray, List.getElem_cons_zero, List.getElem_cons_succ] at q0 q1
  have X4 : Hid (Ext w w4) := (X3.out.more _).trans hx4
  clear b0 ho hx4
  go_wp2
  exact bodyPost_ret (v := .tuple #[.agg #[.string fu, .slice a4 n4 c4], .bool true]) (by simp [results, Tryd.results7, go_sem, q0, q1]) rfl ⟨⟨_, rfl, _, _, _, rfl⟩, (X4.out.set0 0 _).set0 1 _⟩
theorem same_un (t0 : TypeId) (v0 : Value) (t1 : TypeId) (v1 : Value) (w : World) (h : Calls Tryd.prog 19 #[.iface t0 v0] w fun r w' => r = .returned (.tuple #[.agg #[.int .i64 0, .bool false, .bool false, .bool false, .string ByteArray.empty, .string ByteArray.empty, .string ByteArray.empty, .string ByteArray.empty, .slice none 0 0], .bool false]) ∧ Ext w w') :
    Calls Tryd.prog 9 #[.iface t0 v0, .iface t1 v1] w fun r w' => r = .returned (.bool false) ∧ Ext w w' := by
  have H : Hid (Calls Tryd.prog 19 #[.iface t0 v0] w fun r w' => r = .returned (.tuple #[.agg #[.int .i64 0, .bool false, .bool false, .bool false, .string ByteArray.empty, .string ByteArray.empty, .string ByteArray.empty, .string ByteArray.empty, .slice none 0 0], .bool false]) ∧ Ext w w') := h
  clear h
  go_enter Tryd.func9, Tryd.ntmps9
  go_wp2_with fail
  refine H.out.mono ?_
  rintro r w1 ⟨rfl, hx⟩
  go_wp2
  go_ret
  exact ⟨rfl, hx.more _⟩


end Go.Proofs.YtflcmdjekmmkkabDoor
