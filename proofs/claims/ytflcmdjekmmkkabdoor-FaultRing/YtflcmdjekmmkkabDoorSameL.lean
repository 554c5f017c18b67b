/-
  fault.Same of two errors that tell the same place and number; of one and none.
-/
import Derived.Test.YtflcmdjekmmkkabDoorSame
namespace Go.Proofs.YtflcmdjekmmkkabDoor
open Go.RowKit Go.Shelf
attribute [local go_sem] isNCoded isNLocated isNRaised isNLacking isNUnw isNAsI isNUnws isNNoted isGCoded isGLocated isGRaised isGLacking isGUnw isGAsI isGUnws isGNoted isCCoded isCLocated isCRaised isCLacking isCUnw isCAsI isCUnws isCNoted isLCoded isLLocated isLRaised isLLacking isLUnw isLAsI isLUnws isLNoted isRCoded isRLocated isRRaised isRLacking isRUnw isRAsI isRUnws isRNoted isHCoded isHLocated isHRaised isHLacking isHUnw isHAsI isHUnws isHNoted isOCoded isOLocated isORaised isOLacking isOUnw isOAsI isOUnws isONoted toCodedCoded toCodedLocated toCodedRaised toCodedLacking toCodedNoted toLocatedCoded toLocatedLocated toLocatedRaised toLocatedLacking toLocatedNoted toRaisedCoded toRaisedLocated toRaisedRaised toRaisedLacking toRaisedNoted toLackingCoded toLackingLocated toLackingRaised toLackingLacking toLackingNoted toNotedCoded toNotedLocated toNotedRaised toNotedLacking toNotedNoted mNUnwrap mNError mCCode mCError mLCode mLWhere mLError mRCode mRWhere mRSaid mRError mOUnwrap mGUnwrap mGError mHAs mHUnwrap

/-- What an error tells that has a number and a place, asked in whatever later world. -/
def TellsL (w : World) (e : Value) (co : Int) (fu : ByteArray) (xs : List Int) : Prop :=
  ∀ w1, Ext w w1 → Calls Tryd.prog 19 #[e] w1 fun r w' => ∃ v', r = .returned (.tuple #[.agg #[.int .i64 co, .bool true, .bool false, .bool false, .string fu, .string ByteArray.empty, .string ByteArray.empty, .string ByteArray.empty, v'], .bool true]) ∧ w'.ownsRow w1.heap.size 3 1 v' xs.length (xs.map (Value.int .i64)) ∧ Ext w1 w'
theorem tellsL_of (t0 : TypeId) (v0 : Value) (k : Nat) (es : Nat → Value) (b : Nat) (co : Int) (fu : ByteArray) (a : Option Addr) (n c : Nat) (xs : List Int) (w : World) (hb : xs.length * 8 ≤ 140737488355328) (hL : LocatedAt w b co fu (.slice a n c)) (hI : Ints w (.slice a n c) xs)
    (hk : k < 1024) (he0 : es 0 = .iface t0 v0) (hek : es k = .iface 86 (.pointer (some ⟨b, 0, none⟩)))
    (hi : ∀ i, i < k → ∃ t v, es (i + 1) = .iface t v) (hno : ∀ i, i < k → ∃ v, Asks 47 (es i) v false) (hu : ∀ i, i < k → Unwraps w (es i) (es (i + 1))) : TellsL w (.iface t0 v0) co fu xs :=
  fun w1 hx => tell_L t0 v0 k es b co fu a n c xs w1 hb (hx.block hL) (hI.later hx) hk he0 hek hi hno (fun i h => (hu i h).later hx)
set_option maxRecDepth 100000 in
set_option maxHeartbeats 4000000 in
theorem same_LL (t0 : TypeId) (v0 : Value) (t1 : TypeId) (v1 : Value) (co : Int) (fu : ByteArray) (xs : List Int) (w : World) (hb : xs.length * 8 ≤ 140737488355328) (h0 : TellsL w (.iface t0 v0) co fu xs) (h1 : TellsL w (.iface t1 v1) co fu xs) :
    Calls Tryd.prog 9 #[.iface t0 v0, .iface t1 v1] w fun r w' => r = .returned (.bool true) ∧ Ext w w' := by
  have H0 : Hid (TellsL w (.iface t0 v0) co fu xs) := h0
  have H1 : Hid (TellsL w (.iface t1 v1) co fu xs) := h1
  clear h0 h1
  go_enter Tryd.func9, Tryd.ntmps9
  go_wp2_with fail
  refine (H0.out w (Ext.refl _)).mono ?_
  rintro r w1 ⟨u, rfl, ho, hx⟩
  obtain ⟨a', n', c', rfl⟩ := ownsRow_slice ho
  have HI : Hid (Ints w1 (.slice a' n' c') xs) := Ints.own ho
  have HX : Hid (Ext w w1) := hx
  clear ho hx
  go_wp2_with fail
  refine (H1.out _ (HX.out.more _)).mono ?_
  rintro r w2 ⟨u, rfl, ho, hx⟩
  obtain ⟨a2, n2, c2, rfl⟩ := ownsRow_slice ho
  have HJ : Hid (Ints w2 (.slice a2 n2 c2) xs) := Ints.own ho
  have HX2 : Hid (Ext w1 w2) := (Ext.alloc _ _).trans hx
  have b0 := hx.block (blk0 w1 _)
  have q0 := cell_of (i := 0) b0 rfl
  have q1 := cell_of (i := 1) b0 rfl
  have q2 := cell_of (i := 2) b0 rfl
  have q3 := cell_of (i := 3) b0 rfl
  have q4 := cell_of (i := 4) b0 rfl
  have q5 := cell_of (i := 5) b0 rfl
  have q6 := cell_of (i := 6) b0 rfl
  have q7 := cell_of (i := 7) b0 rfl
  have q8 := cell_of (i := 8) b0 rfl
  simp only [List.getElem_toArray, List.getElem_cons_zero, List.getElem_cons_succ] at q0 q1 q2 q3 q4 q5 q6 q7 q8
  have hlt : w1.heap.size < w2.heap.size := lt_of_block b0
  clear b0 ho hx
  have HS : Hid (∀ w3, Ext w2 w3 → Calls Tryd.prog 20 #[.agg #[.int .i64 co, .bool true, .bool false, .bool false, .string fu, .string ByteArray.empty, .string ByteArray.empty, .string ByteArray.empty, (.slice a' n' c')], .agg #[.int .i64 co, .bool true, .bool false, .bool false, .string fu, .string ByteArray.empty, .string ByteArray.empty, .string ByteArray.empty, (.slice a2 n2 c2)]] w3 fun r w' => r = .returned (.bool true) ∧ Ext w3 w') := fun w3 h3 => same_eq co fu a' a2 n' n2 c' c2 xs w3 hb (HI.out.later (HX2.out.trans h3)) (HJ.out.later h3)
  go_wp2_with (go_at_call 20; refine (HS.out _ (Ext.alloc _ _)).mono ?_; rintro r w3 ⟨rfl, hx3⟩)
  go_ret
  exact ⟨rfl, (HX.out.trans HX2.out).trans ((Ext.alloc _ _).trans hx3)⟩
theorem same_none (t0 : TypeId) (v0 : Value) (w : World) :
    Calls Tryd.prog 9 #[.iface t0 v0, .nilIface] w fun r w' => r = .returned (.bool false) ∧ w' = w := by
  go_enter Tryd.func9, Tryd.ntmps9
  go_wp2
  go_ret
  exact ⟨rfl, rfl⟩


end Go.Proofs.YtflcmdjekmmkkabDoor
