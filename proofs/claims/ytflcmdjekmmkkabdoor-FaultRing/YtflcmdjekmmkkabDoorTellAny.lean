/-
  What the first error along Unwrap tells that has a number (tell), whatever its kind; and where there is none.
-/
import Derived.Test.YtflcmdjekmmkkabDoorWords
import Derived.Test.YtflcmdjekmmkkabDoorTell
namespace Go.Proofs.YtflcmdjekmmkkabDoor
open Go.RowKit Go.Shelf
attribute [local go_sem] isNCoded isNLocated isNRaised isNLacking isNUnw isNAsI isNUnws isNNoted isGCoded isGLocated isGRaised isGLacking isGUnw isGAsI isGUnws isGNoted isCCoded isCLocated isCRaised isCLacking isCUnw isCAsI isCUnws isCNoted isLCoded isLLocated isLRaised isLLacking isLUnw isLAsI isLUnws isLNoted isRCoded isRLocated isRRaised isRLacking isRUnw isRAsI isRUnws isRNoted isHCoded isHLocated isHRaised isHLacking isHUnw isHAsI isHUnws isHNoted isOCoded isOLocated isORaised isOLacking isOUnw isOAsI isOUnws isONoted toCodedCoded toCodedLocated toCodedRaised toCodedLacking toCodedNoted toLocatedCoded toLocatedLocated toLocatedRaised toLocatedLacking toLocatedNoted toRaisedCoded toRaisedLocated toRaisedRaised toRaisedLacking toRaisedNoted toLackingCoded toLackingLocated toLackingRaised toLackingLacking toLackingNoted toNotedCoded toNotedLocated toNotedRaised toNotedLacking toNotedNoted mNUnwrap mNError mCCode mCError mLCode mLWhere mLError mRCode mRWhere mRSaid mRError mOUnwrap mGUnwrap mGError mHAs mHUnwrap
/-- What an error tells by its abilities, asked in whatever later world. -/
def TellOfs (w : World) (e : Value) (co : Int) (lo ra la : Bool) (fu sa ki ab : ByteArray) (xs : List Int) : Prop :=
  ∀ w1, Ext w w1 → Calls Tryd.prog 34 #[e] w1 fun r w' => ∃ v', r = .returned (.agg #[.int .i64 co, .bool lo, .bool ra, .bool la, .string fu, .string sa, .string ki, .string ab, v']) ∧ w'.ownsRow w1.heap.size 3 1 v' xs.length (xs.map (Value.int .i64)) ∧ Ext w1 w'
theorem TellOfs.later {w w' : World} {e : Value} {co : Int} {lo ra la : Bool} {fu sa ki ab : ByteArray} {xs : List Int} (h : TellOfs w e co lo ra la fu sa ki ab xs) (hx : Ext w w') : TellOfs w' e co lo ra la fu sa ki ab xs := fun w1 h1 => h w1 (hx.trans h1)

set_option maxRecDepth 100000 in
set_option maxHeartbeats 2000000 in
theorem tell1_any (cb : Nat) (te : TypeId) (ve : Value) (co : Int) (lo ra la : Bool) (fu sa ki ab : ByteArray) (xs : List Int) (w : World) (hcb : w.heap[cb]? = some (.cells #[.iface te ve] 47)) (hO : TellOfs w (.iface te ve) co lo ra la fu sa ki ab xs) :
    Calls Tryd.prog 33 #[.pointer (some ⟨cb, 0, none⟩)] w fun r w' => ∃ v', r = .returned (.agg #[.int .i64 co, .bool lo, .bool ra, .bool la, .string fu, .string sa, .string ki, .string ab, v']) ∧ w'.ownsRow w.heap.size 3 1 v' xs.length (xs.map (Value.int .i64)) ∧ Ext w w' := by
  have cc : w.cell? ⟨cb, 0, none⟩ = some (.iface te ve) := cell_of hcb rfl
  have hlt := lt_of_block hcb
  have hT := hO (w.alloc (.cells #[.int .i64 0, .bool false, .bool false, .bool false, .string ByteArray.empty, .string ByteArray.empty, .string ByteArray.empty, .string ByteArray.empty, .slice none 0 0] 77)) (Ext.alloc _ _)
  have HT : Hid (Calls Tryd.prog 34 #[.iface te ve] (w.alloc (.cells #[.int .i64 0, .bool false, .bool false, .bool false, .string ByteArray.empty, .string ByteArray.empty, .string ByteArray.empty, .string ByteArray.empty, .slice none 0 0] 77)) fun r w' => ∃ v', r = .returned (.agg #[.int .i64 co, .bool lo, .bool ra, .bool la, .string fu, .string sa, .string ki, .string ab, v']) ∧ w'.ownsRow (w.alloc (.cells #[.int .i64 0, .bool false, .bool false, .bool false, .string ByteArray.empty, .string ByteArray.empty, .string ByteArray.empty, .string ByteArray.empty, .slice none 0 0] 77)).heap.size 3 1 v' xs.length (xs.map (Value.int .i64)) ∧ Ext (w.alloc (.cells #[.int .i64 0, .bool false, .bool false, .bool false, .string ByteArray.empty, .string ByteArray.empty, .string ByteArray.empty, .string ByteArray.empty, .slice none 0 0] 77)) w') := hT
  clear hT hcb hO
  go_enter Tryd.func33, Tryd.ntmps33
  go_wp2_with (go_at_call 34; refine HT.out.mono ?_; rintro r w1 ⟨v', rfl, ho, hx⟩; obtain ⟨a', n', c', rfl⟩ := ownsRow_slice ho; have b0 := hx.block (blk0 w (.cells #[.int .i64 0, .bool false, .bool false, .bool false, .string ByteArray.empty, .string ByteArray.empty, .string ByteArray.empty, .string ByteArray.empty, .slice none 0 0] 77)); have q0 := cell_of (i := 0) b0 rfl; have z0 := frozen_of (i := 0) b0; have q1 := cell_of (i := 1) b0 rfl; have z1 := frozen_of (i := 1) b0; have q2 := cell_of (i := 2) b0 rfl; have z2 := frozen_of (i := 2) b0; have q3 := cell_of (i := 3) b0 rfl; have z3 := frozen_of (i := 3) b0; have q4 := cell_of (i := 4) b0 rfl; have z4 := frozen_of (i := 4) b0; have q5 := cell_of (i := 5) b0 rfl; have z5 := frozen_of (i := 5) b0; have q6 := cell_of (i := 6) b0 rfl; have z6 := frozen_of (i := 6) b0; have q7 := cell_of (i := 7) b0 rfl; have z7 := frozen_of (i := 7) b0; have q8 := cell_of (i := 8) b0 rfl; have z8 := frozen_of (i := 8) b0; simp only [List.getElem_toArray, List.getElem_cons_zero, List.getElem_cons_succ] at q0 q1 q2 q3 q4 q5 q6 q7 q8; clear b0)
  have ho' : w1.ownsRow (w.heap.size + 1) 3 1 (.slice a' n' c') xs.length (xs.map (Value.int .i64)) := by simpa using ho
  clear ho
  refine bodyPost_ret (v := .agg #[.int .i64 co, .bool lo, .bool ra, .bool la, .string fu, .string sa, .string ki, .string ab, (.slice a' n' c')]) (by simp [results, Tryd.results33, go_sem, q0, q1, q2, q3, q4, q5, q6, q7, q8]) rfl ⟨_, rfl, ?_, ?_⟩
  · refine row_mono ?_ (show w.heap.size ≤ w.heap.size + 1 by omega)
    repeat (refine row_set ?_ (by omega))
    exact ho'
  · repeat (refine Ext.set0 ?_ _ _)
    exact (Ext.alloc _ _).trans hx


set_option maxRecDepth 100000 in
set_option maxHeartbeats 2000000 in
theorem guarded_told_any (cb : Nat) (te : TypeId) (ve : Value) (co : Int) (lo ra la : Bool) (fu sa ki ab : ByteArray) (xs : List Int) (w : World) (hcb : w.heap[cb]? = some (.cells #[.iface te ve] 47)) (hO : TellOfs w (.iface te ve) co lo ra la fu sa ki ab xs) :
    Calls Tryd.prog 32 #[.func (.func 33) #[] #[.pointer (some ⟨cb, 0, none⟩)]] w fun r w' => ∃ v', r = .returned (.tuple #[.agg #[.int .i64 co, .bool lo, .bool ra, .bool la, .string fu, .string sa, .string ki, .string ab, v'], .bool true]) ∧ w'.ownsRow w.heap.size 3 1 v' xs.length (xs.map (Value.int .i64)) ∧ Ext w w' := by
  have hT := tell1_any cb te ve co lo ra la fu sa ki ab xs (w.alloc (.cells #[.int .i64 0, .bool false, .bool false, .bool false, .string ByteArray.empty, .string ByteArray.empty, .string ByteArray.empty, .string ByteArray.empty, .slice none 0 0] 77)) (blkOld _ hcb) (hO.later (Ext.alloc _ _))
  have HT : Hid (Calls Tryd.prog 33 #[.pointer (some ⟨cb, 0, none⟩)] (w.alloc (.cells #[.int .i64 0, .bool false, .bool false, .bool false, .string ByteArray.empty, .string ByteArray.empty, .string ByteArray.empty, .string ByteArray.empty, .slice none 0 0] 77)) fun r w' => ∃ v', r = .returned (.agg #[.int .i64 co, .bool lo, .bool ra, .bool la, .string fu, .string sa, .string ki, .string ab, v']) ∧ w'.ownsRow (w.alloc (.cells #[.int .i64 0, .bool false, .bool false, .bool false, .string ByteArray.empty, .string ByteArray.empty, .string ByteArray.empty, .string ByteArray.empty, .slice none 0 0] 77)).heap.size 3 1 v' xs.length (xs.map (Value.int .i64)) ∧ Ext (w.alloc (.cells #[.int .i64 0, .bool false, .bool false, .bool false, .string ByteArray.empty, .string ByteArray.empty, .string ByteArray.empty, .string ByteArray.empty, .slice none 0 0] 77)) w') := hT
  clear hT hcb hO
  go_enter_defers Tryd.func32, Tryd.ntmps32
  go_wp2_with (go_at_call 33; refine HT.out.mono ?_; rintro r w1 ⟨v', rfl, ho, hx⟩; obtain ⟨a', n', c', rfl⟩ := ownsRow_slice ho; have b0 := hx.block (blk0 w (.cells #[.int .i64 0, .bool false, .bool false, .bool false, .string ByteArray.empty, .string ByteArray.empty, .string ByteArray.empty, .string ByteArray.empty, .slice none 0 0] 77)); have q0 := cell_of (i := 0) b0 rfl; have z0 := frozen_of (i := 0) b0; have q1 := cell_of (i := 1) b0 rfl; have z1 := frozen_of (i := 1) b0; have q2 := cell_of (i := 2) b0 rfl; have z2 := frozen_of (i := 2) b0; have q3 := cell_of (i := 3) b0 rfl; have z3 := frozen_of (i := 3) b0; have q4 := cell_of (i := 4) b0 rfl; have z4 := frozen_of (i := 4) b0; have q5 := cell_of (i := 5) b0 rfl; have z5 := frozen_of (i := 5) b0; have q6 := cell_of (i := 6) b0 rfl; have z6 := frozen_of (i := 6) b0; have q7 := cell_of (i := 7) b0 rfl; have z7 := frozen_of (i := 7) b0; have q8 := cell_of (i := 8) b0 rfl; have z8 := frozen_of (i := 8) b0; simp only [List.getElem_toArray, List.getElem_cons_zero, List.getElem_cons_succ] at q0 q1 q2 q3 q4 q5 q6 q7 q8; clear b0)
  have ho' : w1.ownsRow (w.heap.size + 1) 3 1 (.slice a' n' c') xs.length (xs.map (Value.int .i64)) := by simpa using ho
  clear ho
  refine leaves_cons (f := 42) (args := #[]) (by simp) (by simp [go_sem]) ?_
  refine (idle_told _).mono ?_
  rintro r u' w'' ⟨rfl, rfl, rfl⟩
  refine ⟨.tuple #[.agg #[.int .i64 co, .bool lo, .bool ra, .bool la, .string fu, .string sa, .string ki, .string ab, (.slice a' n' c')], .bool true], by simp [results, Tryd.results32, go_sem, q0, q1, q2, q3, q4, q5, q6, q7, q8], _, rfl, ?_, ?_⟩
  · refine row_mono ?_ (show w.heap.size ≤ w.heap.size + 1 by omega)
    repeat (refine row_set ?_ (by omega))
    exact ho'
  · repeat (refine Ext.set0 ?_ _ _)
    exact (Ext.alloc _ _).trans hx


set_option maxRecDepth 100000 in
set_option maxHeartbeats 4000000 in
theorem tell_any (t0 : TypeId) (v0 : Value) (k : Nat) (es : Nat → Value) (te : TypeId) (ve : Value) (co : Int) (lo ra la : Bool) (fu sa ki ab : ByteArray) (xs : List Int) (w : World) (hO : TellOfs w (.iface te ve) co lo ra la fu sa ki ab xs) (hy : Asks 47 (.iface te ve) (.iface te ve) true)
    (hk : k < 1024) (he0 : es 0 = .iface t0 v0) (hek : es k = .iface te ve)
    (hi : ∀ i, i < k → ∃ t v, es (i + 1) = .iface t v) (hno : ∀ i, i < k → ∃ v, Asks 47 (es i) v false) (hu : ∀ i, i < k → Unwraps w (es i) (es (i + 1))) :
    Calls Tryd.prog 19 #[.iface t0 v0] w fun r w' => ∃ v', r = .returned (.tuple #[.agg #[.int .i64 co, .bool lo, .bool ra, .bool la, .string fu, .string sa, .string ki, .string ab, v'], .bool true]) ∧ w'.ownsRow w.heap.size 3 1 v' xs.length (xs.map (Value.int .i64)) ∧ Ext w w' := by
  have HAS : Hid (∀ w1, Ext ((w.alloc (.cells #[.int .i64 0, .bool false, .bool false, .bool false, .string ByteArray.empty, .string ByteArray.empty, .string ByteArray.empty, .string ByteArray.empty, .slice none 0 0] 77)).alloc (.cells #[.nilIface] 47)) w1 → Calls Tryd.prog 14 #[.iface 60 (.agg #[.iface t0 v0, .int .i64 1024]), .iface 70 (.pointer (some ⟨w.heap.size + 1, 0, none⟩))] w1 fun r w' => r = .returned (.bool true) ∧ Apart (w.heap.size + 1) w1 w' ∧ w'.heap[w.heap.size + 1]? = some (.cells #[.iface te ve] 47)) := fun w1 hx => by
    have h := As_Coded_hit te ve es 1024 k hk (Nat.le_refl _) (w.heap.size + 1) .nilIface w1 (hx.block (blk1 _ _ _)) hi hno (fun i h => (hu i h).later ((Ext.alloc2 _ _ _).trans hx)) (by rw [hek]; exact hy)
    rw [he0] at h
    exact h
  have HL : Hid (TellOfs w (.iface te ve) co lo ra la fu sa ki ab xs) := hO
  have hmf : ∀ (fn : Fn) (first cap : Array Value) (w : World), (Instr.makeFunc fn first cap).run Tryd.prog w = .ok (.func fn first cap) w := fun _ _ _ _ => rfl
  clear hi hno hu hek he0 hO hy
  go_enter Tryd.func19, Tryd.ntmps19
  go_wp2_with (first
    | (go_at_call 15; refine (from_any t0 v0 _).mono ?_; rintro r w1 ⟨rfl, hx1⟩)
    | (go_at_call 14; refine (HAS.out w1 hx1).mono ?_; rintro r w2 ⟨rfl, hA, hB⟩; have x2 : Ext w w2 := hA.ext ((Ext.alloc2 w _ _).trans hx1) (Nat.le_succ _); have hT := guarded_told_any (w.heap.size + 1) te ve co lo ra la fu sa ki ab xs w2 hB (HL.out.later x2); have HT : Hid (Calls Tryd.prog 32 #[.func (.func 33) #[] #[.pointer (some ⟨w.heap.size + 1, 0, none⟩)]] w2 fun r w' => ∃ v', r = .returned (.tuple #[.agg #[.int .i64 co, .bool lo, .bool ra, .bool la, .string fu, .string sa, .string ki, .string ab, v'], .bool true]) ∧ w'.ownsRow w2.heap.size 3 1 v' xs.length (xs.map (Value.int .i64)) ∧ Ext w2 w') := hT; clear hT; have HY : Hid (w2.heap[w.heap.size]? = some (.cells #[.int .i64 0, .bool false, .bool false, .bool false, .string ByteArray.empty, .string ByteArray.empty, .string ByteArray.empty, .string ByteArray.empty, .slice none 0 0] 77)) := ((hA.block _ (lt_of_block (hx1.block (blkOld _ (blk0 _ _)))) (by omega)).trans (hx1.block (blkOld _ (blk0 _ _)))); have hsz : w.heap.size + 1 < w2.heap.size := lt_of_block hB; clear hB)
    | (go_at_call 32; refine HT.out.mono ?_; rintro r w3 ⟨v', rfl, ho, hx3⟩; obtain ⟨a', n', c', rfl⟩ := ownsRow_slice ho; have y0 := hx3.block HY.out; have q0 := cell_of (i := 0) y0 rfl; have z0 := frozen_of (i := 0) y0; have q1 := cell_of (i := 1) y0 rfl; have z1 := frozen_of (i := 1) y0; have q2 := cell_of (i := 2) y0 rfl; have z2 := frozen_of (i := 2) y0; have q3 := cell_of (i := 3) y0 rfl; have z3 := frozen_of (i := 3) y0; have q4 := cell_of (i := 4) y0 rfl; have z4 := frozen_of (i := 4) y0; have q5 := cell_of (i := 5) y0 rfl; have z5 := frozen_of (i := 5) y0; have q6 := cell_of (i := 6) y0 rfl; have z6 := frozen_of (i := 6) y0; have q7 := cell_of (i := 7) y0 rfl; have z7 := frozen_of (i := 7) y0; have q8 := cell_of (i := 8) y0 rfl; have z8 := frozen_of (i := 8) y0; simp only [List.getElem_toArray, List.getElem_cons_zero, List.getElem_cons_succ] at q0 q1 q2 q3 q4 q5 q6 q7 q8; clear y0))
  refine bodyPost_ret (v := .tuple #[.agg #[.int .i64 co, .bool lo, .bool ra, .bool la, .string fu, .string sa, .string ki, .string ab, (.slice a' n' c')], .bool true]) (by simp [results, Tryd.results19, go_sem, q0, q1, q2, q3, q4, q5, q6, q7, q8]) rfl ⟨_, rfl, ?_, ?_⟩
  · refine row_mono ?_ (show w.heap.size ≤ w2.heap.size by omega)
    repeat (refine row_set ?_ (by omega))
    exact ho
  · repeat (refine Ext.set0 ?_ _ _)
    exact x2.trans hx3


set_option maxRecDepth 100000 in
set_option maxHeartbeats 2000000 in
theorem tell_none (t0 : TypeId) (v0 : Value) (m : Nat) (es : Nat → Value) (w : World) (hm : 1 ≤ m) (hml : m ≤ 1024) (hend : m = 1024 ∨ es m = .nilIface) (he0 : es 0 = .iface t0 v0)
    (hi : ∀ i, i + 1 < m → ∃ t v, es (i + 1) = .iface t v) (hno : ∀ i, i < m → ∃ v, Asks 47 (es i) v false) (hu : ∀ i, i + 1 ≤ m → i + 1 < 1024 → Unwraps w (es i) (es (i + 1))) :
    Calls Tryd.prog 19 #[.iface t0 v0] w fun r w' => r = .returned (.tuple #[.agg #[.int .i64 0, .bool false, .bool false, .bool false, .string ByteArray.empty, .string ByteArray.empty, .string ByteArray.empty, .string ByteArray.empty, .slice none 0 0], .bool false]) ∧ Ext w w' := by
  have HAS : Hid (∀ w1, Ext ((w.alloc (.cells #[.int .i64 0, .bool false, .bool false, .bool false, .string ByteArray.empty, .string ByteArray.empty, .string ByteArray.empty, .string ByteArray.empty, .slice none 0 0] 77)).alloc (.cells #[.nilIface] 47)) w1 → Calls Tryd.prog 14 #[.iface 60 (.agg #[.iface t0 v0, .int .i64 1024]), .iface 70 (.pointer (some ⟨w.heap.size + 1, 0, none⟩))] w1 fun r w' => r = .returned (.bool false) ∧ Ext w1 w') := fun w1 hx => by
    have h := As_Coded_miss es 1024 m hm hml (Nat.le_refl _) hend (w.heap.size + 1) w1 hi hno (fun i h h' => (hu i h h').later ((Ext.alloc2 _ _ _).trans hx))
    rw [he0] at h
    exact h
  clear hi hno hu he0 hend
  go_enter Tryd.func19, Tryd.ntmps19
  go_wp2_with (first
    | (go_at_call 15; refine (from_any t0 v0 _).mono ?_; rintro r w1 ⟨rfl, hx1⟩)
    | (go_at_call 14; refine (HAS.out w1 hx1).mono ?_; rintro r w2 ⟨rfl, hx2⟩; have y0 := (hx1.trans hx2).block (blkOld _ (blk0 w _)); have q0 := cell_of (i := 0) y0 rfl; have z0 := frozen_of (i := 0) y0; have q1 := cell_of (i := 1) y0 rfl; have z1 := frozen_of (i := 1) y0; have q2 := cell_of (i := 2) y0 rfl; have z2 := frozen_of (i := 2) y0; have q3 := cell_of (i := 3) y0 rfl; have z3 := frozen_of (i := 3) y0; have q4 := cell_of (i := 4) y0 rfl; have z4 := frozen_of (i := 4) y0; have q5 := cell_of (i := 5) y0 rfl; have z5 := frozen_of (i := 5) y0; have q6 := cell_of (i := 6) y0 rfl; have z6 := frozen_of (i := 6) y0; have q7 := cell_of (i := 7) y0 rfl; have z7 := frozen_of (i := 7) y0; have q8 := cell_of (i := 8) y0 rfl; have z8 := frozen_of (i := 8) y0; simp only [List.getElem_toArray, List.getElem_cons_zero, List.getElem_cons_succ] at q0 q1 q2 q3 q4 q5 q6 q7 q8; clear y0))
  refine bodyPost_ret (v := .tuple #[.agg #[.int .i64 0, .bool false, .bool false, .bool false, .string ByteArray.empty, .string ByteArray.empty, .string ByteArray.empty, .string ByteArray.empty, .slice none 0 0], .bool false]) (by simp [results, Tryd.results19, go_sem, q0, q1, q2, q3, q4, q5, q6, q7, q8]; rfl) rfl ⟨rfl, ?_⟩
  repeat (refine Ext.set0 ?_ _ _)
  exact (Ext.alloc2 _ _ _).trans (hx1.trans hx2)


end Go.Proofs.YtflcmdjekmmkkabDoor
