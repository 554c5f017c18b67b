/-
  An error with notes around it, and errors.As of it at the target api.Raised: it finds the raised error within, or nothing.
-/
import Derived.Test.YtflcmdjekmmkkaaGreatDoorBareFacts
import Derived.Test.YtflcmdjekmmkkaaGreatDoorTell
import Derived.LoopTactic
namespace Go.Proofs.YtflcmdjekmmkkaaGreatDoor
open Go.RowKit Go.Extern.Stop Go.Stop Go.Extern
attribute [local go_sem] isNCoded isNLocated isNRaised isNLacking isNUnw isNAsI isNUnws isNNoted isGCoded isGLocated isGRaised isGLacking isGUnw isGAsI isGUnws isGNoted isCCoded isCLocated isCRaised isCLacking isCUnw isCAsI isCUnws isCNoted isLCoded isLLocated isLRaised isLLacking isLUnw isLAsI isLUnws isLNoted isRCoded isRLocated isRRaised isRLacking isRUnw isRAsI isRUnws isRNoted isKCoded isKLocated isKRaised isKLacking isKUnw isKAsI isKUnws isKNoted isHCoded isHLocated isHRaised isHLacking isHUnw isHAsI isHUnws isHNoted toCodedCoded toCodedLocated toCodedRaised toCodedLacking toCodedNoted toLocatedCoded toLocatedLocated toLocatedRaised toLocatedLacking toLocatedNoted toRaisedCoded toRaisedLocated toRaisedRaised toRaisedLacking toRaisedNoted toLackingCoded toLackingLocated toLackingRaised toLackingLacking toLackingNoted toNotedCoded toNotedLocated toNotedRaised toNotedLacking toNotedNoted mNUnwrap mNError mCCode mCError mLCode mLWhere mLError mRCode mRWhere mRSaid mRError mKCode mKWhere mKLacks mKError mGUnwrap mGError mHAs mHUnwrap
attribute [local go_sem] rmKind rmElem rmImplements rmAssignableTo xValueOf xVType xIsNil xKind xElem xImplements xTypeOf xAssignableTo voRaised tyRaised kpRaised keRaised elRaised typeOfN typeOfC typeOfL typeOfR typeOfK asgN asgC asgL asgR asgK valueOfR xVElem xVSet
/-- Where an error lies. -/
def blockOf : Value → Nat
  | .iface _ (.pointer (some a)) => a.block + 1
  | _ => 0
/-- k notes around the error bs: es 0 is the outermost. -/
structure Wrapped (w : World) (bs : Value) (k : Nat) (es : Nat → Value) (ns : Nat → Option ByteArray) : Prop where
  chain : Chain w (k + 1) es ns
  top : es k = bs
  len : (notedTo ns (k + 1)).length = k
  note : ∀ i, i < k → ∃ b n, es i = .iface 87 (.pointer (some ⟨b, 0, none⟩)) ∧ NotedAt w b (es (i + 1)) n
  dec : ∀ i, i < k → blockOf (es (i + 1)) < blockOf (es i)
  low : blockOf (es 0) ≤ w.heap.size
  form : ∀ i, i ≤ k → ∃ t b, es i = .iface t (.pointer (some ⟨b, 0, none⟩))
theorem Wrapped.later {w w' : World} {bs : Value} {k : Nat} {es : Nat → Value} {ns : Nat → Option ByteArray} (h : Wrapped w bs k es ns) (hx : Ext w w') : Wrapped w' bs k es ns :=
  ⟨h.chain.later hx, h.top, h.len, fun i hi => by
    obtain ⟨b, n, h1, h2⟩ := h.note i hi
    exact ⟨b, n, h1, hx.block h2⟩, h.dec, Nat.le_trans h.low hx.size, h.form⟩
theorem Wrapped.cons {w w' : World} {bs : Value} {k : Nat} {es : Nat → Value} {ns : Nat → Option ByteArray} (h : Wrapped w bs k es ns) (hx : Ext w w') (hk : k < 1000) {b : Nat} {n : ByteArray} (hb : NotedAt w' b (es 0) n) (hlow : w.heap.size ≤ b) :
    Wrapped w' bs (k + 1) (ahead (.iface 87 (.pointer (some ⟨b, 0, none⟩))) es) (ahead (some n) ns) := by
  refine ⟨Chain.cons (h.chain.later hx) hb (by omega), h.top, ?_, ?_, ?_, ?_, ?_⟩
  · rw [notedTo_cons]; simp [h.len]
  · intro i hi
    cases i with
    | zero => exact ⟨b, n, rfl, hb⟩
    | succ i =>
      obtain ⟨b', n', h1, h2⟩ := h.note i (by omega)
      exact ⟨b', n', h1, hx.block h2⟩
  · intro i hi
    cases i with
    | zero =>
      have := h.low
      show blockOf (es 0) < b + 1
      omega
    | succ i => exact h.dec i (by omega)
  · show b + 1 ≤ w'.heap.size
    exact lt_of_block hb
  · intro i hi
    cases i with
    | zero => exact ⟨_, b, rfl⟩
    | succ i => exact h.form i (by omega)
theorem wrapped_C (b : Nat) (w : World) (hb : b < w.heap.size) : Wrapped w (.iface 128 (.pointer (some ⟨b, 0, none⟩))) 0 (ahead (.iface 128 (.pointer (some ⟨b, 0, none⟩))) (fun _ => .nilIface)) (fun _ => Option.none) :=
  ⟨chain_C b w, rfl, rfl, fun i h => absurd h (Nat.not_lt_zero _), fun i h => absurd h (Nat.not_lt_zero _), hb, fun i h => by
    obtain rfl : i = 0 := by omega
    exact ⟨_, b, rfl⟩⟩


set_option maxRecDepth 100000 in
set_option maxHeartbeats 2000000 in
theorem asB_C (b k : Nat) (es : Nat → Value) (ns : Nat → Option ByteArray) (tb : Nat) (ad : Addr) (w : World) (hW : Wrapped w (.iface 128 (.pointer (some ⟨b, 0, none⟩))) k es ns)  :
    Calls Tryz.prog 43 #[es 0, .iface 56 (.pointer (some ⟨tb, 0, none⟩)), .agg #[.pointer (some ⟨4, 56, none⟩), .pointer (some ad), .int .u64 150], .iface 145 (.agg #[.pointer (some ⟨4, 54, none⟩)])] w fun r w' => r = .returned (.bool false) ∧ Ext w w' := by
  have HW : Hid (Wrapped w (.iface 128 (.pointer (some ⟨b, 0, none⟩))) k es ns) := hW
  clear hW
  go_enter Tryz.func43, Tryz.ntmps43
  go_wp2
  go_loopw [0] (fun v wr => ∃ i : Nat, i ≤ k ∧ v = es i ∧ wr = w.alloc (.cells #[.pointer (some ⟨4, 56, none⟩), .pointer (some ad), .int .u64 150] 113)) (fun v _ => blockOf v)
  case atStart => exact ⟨0, Nat.zero_le _, rfl, rfl⟩
  case round =>
    obtain ⟨i, hik, rfl, rfl⟩ := hrel
    rcases Nat.lt_or_eq_of_le hik with hlt' | heq
    · obtain ⟨nb, nn, he, hN⟩ := HW.out.note i hlt'
      obtain ⟨t1, b1, he1⟩ := HW.out.form (i + 1) hlt'
      have hd := HW.out.dec i hlt'
      rw [he1] at hN
      have HN : Hid (NotedAt w nb (.iface t1 (.pointer (some ⟨b1, 0, none⟩))) nn) := hN
      have HD : Hid (blockOf (es (i + 1)) < blockOf (es i)) := hd
      have HE1 : Hid (es (i + 1) = .iface t1 (.pointer (some ⟨b1, 0, none⟩))) := he1
      have HE : Hid (es i = .iface 87 (.pointer (some ⟨nb, 0, none⟩))) := he
      clear hd he1 hN
      rw [he]
      clear he
      go_wp2_with (go_at_call 83; refine (noted_unwrap nb _ nn _ (blkOld _ HN.out)).mono ?_; rintro r w1 ⟨rfl, hw1⟩; obtain rfl := hw1.symm)
      go_roundw
      case rel => exact ⟨i + 1, hlt', HE1.out.symm, trivial⟩
      case measure =>
        have h := HD.out
        rw [HE1.out, HE.out] at h
        exact h
    · subst heq
      rw [HW.out.top]
      go_wp2
      go_ret
      exact ⟨rfl, Ext.alloc _ _⟩

set_option maxRecDepth 100000 in
set_option maxHeartbeats 2000000 in
theorem AsB_C (b k : Nat) (es : Nat → Value) (ns : Nat → Option ByteArray) (tb : Nat) (w : World) (hW : Wrapped w (.iface 128 (.pointer (some ⟨b, 0, none⟩))) k es ns)  :
    Calls Tryz.prog 20 #[es 0, .iface 56 (.pointer (some ⟨tb, 0, none⟩))] w fun r w' => r = .returned (.bool false) ∧ Ext w w' := by
  obtain ⟨t0, b0, he0⟩ := hW.form 0 (Nat.zero_le _)
  have n8 := nnRaised ⟨w.heap.size, 0, none⟩ ⟨tb, 0, none⟩ ((w.alloc (.cells #[.pointer (some ⟨tb, 0, none⟩)] 56)).alloc (.cells #[.pointer (some ⟨4, 56, none⟩), .pointer (some ⟨w.heap.size, 0, none⟩), .int .u64 150] 113)) (cell_of (blkOld _ (blk0 _ _)) rfl)
  have HC := asB_C b k es ns tb ⟨w.heap.size, 0, none⟩ ((w.alloc (.cells #[.pointer (some ⟨tb, 0, none⟩)] 56)).alloc (.cells #[.pointer (some ⟨4, 56, none⟩), .pointer (some ⟨w.heap.size, 0, none⟩), .int .u64 150] 113)) (hW.later (Ext.alloc2 _ _ _))
  have HC' := Calls.mono (R' := fun r w' => r = .returned (.bool false) ∧ Ext w w') HC (fun r w' h => ⟨h.1, (Ext.alloc2 w _ _).trans h.2⟩)
  rw [he0] at HC' ⊢
  have HD : Hid (Calls Tryz.prog 43 #[.iface t0 (.pointer (some ⟨b0, 0, none⟩)), .iface 56 (.pointer (some ⟨tb, 0, none⟩)), .agg #[.pointer (some ⟨4, 56, none⟩), .pointer (some ⟨w.heap.size, 0, none⟩), .int .u64 150], .iface 145 (.agg #[.pointer (some ⟨4, 54, none⟩)])] ((w.alloc (.cells #[.pointer (some ⟨tb, 0, none⟩)] 56)).alloc (.cells #[.pointer (some ⟨4, 56, none⟩), .pointer (some ⟨w.heap.size, 0, none⟩), .int .u64 150] 113)) fun r w' => r = .returned (.bool false) ∧ Ext w w') := HC'
  clear HC HC' hW he0
  go_enter Tryz.func20, Tryz.ntmps20
  go_wp2_with (go_at_call 43; refine HD.out.mono ?_; rintro r w1 ⟨rfl, hx1⟩)
  go_ret
  exact ⟨rfl, hx1⟩
theorem wrapped_L (b : Nat) (w : World) (hb : b < w.heap.size) : Wrapped w (.iface 127 (.pointer (some ⟨b, 0, none⟩))) 0 (ahead (.iface 127 (.pointer (some ⟨b, 0, none⟩))) (fun _ => .nilIface)) (fun _ => Option.none) :=
  ⟨chain_L b w, rfl, rfl, fun i h => absurd h (Nat.not_lt_zero _), fun i h => absurd h (Nat.not_lt_zero _), hb, fun i h => by
    obtain rfl : i = 0 := by omega
    exact ⟨_, b, rfl⟩⟩


set_option maxRecDepth 100000 in
set_option maxHeartbeats 2000000 in
theorem asB_L (b k : Nat) (es : Nat → Value) (ns : Nat → Option ByteArray) (tb : Nat) (ad : Addr) (w : World) (hW : Wrapped w (.iface 127 (.pointer (some ⟨b, 0, none⟩))) k es ns)  :
    Calls Tryz.prog 43 #[es 0, .iface 56 (.pointer (some ⟨tb, 0, none⟩)), .agg #[.pointer (some ⟨4, 56, none⟩), .pointer (some ad), .int .u64 150], .iface 145 (.agg #[.pointer (some ⟨4, 54, none⟩)])] w fun r w' => r = .returned (.bool false) ∧ Ext w w' := by
  have HW : Hid (Wrapped w (.iface 127 (.pointer (some ⟨b, 0, none⟩))) k es ns) := hW
  clear hW
  go_enter Tryz.func43, Tryz.ntmps43
  go_wp2
  go_loopw [0] (fun v wr => ∃ i : Nat, i ≤ k ∧ v = es i ∧ wr = w.alloc (.cells #[.pointer (some ⟨4, 56, none⟩), .pointer (some ad), .int .u64 150] 113)) (fun v _ => blockOf v)
  case atStart => exact ⟨0, Nat.zero_le _, rfl, rfl⟩
  case round =>
    obtain ⟨i, hik, rfl, rfl⟩ := hrel
    rcases Nat.lt_or_eq_of_le hik with hlt' | heq
    · obtain ⟨nb, nn, he, hN⟩ := HW.out.note i hlt'
      obtain ⟨t1, b1, he1⟩ := HW.out.form (i + 1) hlt'
      have hd := HW.out.dec i hlt'
      rw [he1] at hN
      have HN : Hid (NotedAt w nb (.iface t1 (.pointer (some ⟨b1, 0, none⟩))) nn) := hN
      have HD : Hid (blockOf (es (i + 1)) < blockOf (es i)) := hd
      have HE1 : Hid (es (i + 1) = .iface t1 (.pointer (some ⟨b1, 0, none⟩))) := he1
      have HE : Hid (es i = .iface 87 (.pointer (some ⟨nb, 0, none⟩))) := he
      clear hd he1 hN
      rw [he]
      clear he
      go_wp2_with (go_at_call 83; refine (noted_unwrap nb _ nn _ (blkOld _ HN.out)).mono ?_; rintro r w1 ⟨rfl, hw1⟩; obtain rfl := hw1.symm)
      go_roundw
      case rel => exact ⟨i + 1, hlt', HE1.out.symm, trivial⟩
      case measure =>
        have h := HD.out
        rw [HE1.out, HE.out] at h
        exact h
    · subst heq
      rw [HW.out.top]
      go_wp2
      go_ret
      exact ⟨rfl, Ext.alloc _ _⟩

set_option maxRecDepth 100000 in
set_option maxHeartbeats 2000000 in
theorem AsB_L (b k : Nat) (es : Nat → Value) (ns : Nat → Option ByteArray) (tb : Nat) (w : World) (hW : Wrapped w (.iface 127 (.pointer (some ⟨b, 0, none⟩))) k es ns)  :
    Calls Tryz.prog 20 #[es 0, .iface 56 (.pointer (some ⟨tb, 0, none⟩))] w fun r w' => r = .returned (.bool false) ∧ Ext w w' := by
  obtain ⟨t0, b0, he0⟩ := hW.form 0 (Nat.zero_le _)
  have n8 := nnRaised ⟨w.heap.size, 0, none⟩ ⟨tb, 0, none⟩ ((w.alloc (.cells #[.pointer (some ⟨tb, 0, none⟩)] 56)).alloc (.cells #[.pointer (some ⟨4, 56, none⟩), .pointer (some ⟨w.heap.size, 0, none⟩), .int .u64 150] 113)) (cell_of (blkOld _ (blk0 _ _)) rfl)
  have HC := asB_L b k es ns tb ⟨w.heap.size, 0, none⟩ ((w.alloc (.cells #[.pointer (some ⟨tb, 0, none⟩)] 56)).alloc (.cells #[.pointer (some ⟨4, 56, none⟩), .pointer (some ⟨w.heap.size, 0, none⟩), .int .u64 150] 113)) (hW.later (Ext.alloc2 _ _ _))
  have HC' := Calls.mono (R' := fun r w' => r = .returned (.bool false) ∧ Ext w w') HC (fun r w' h => ⟨h.1, (Ext.alloc2 w _ _).trans h.2⟩)
  rw [he0] at HC' ⊢
  have HD : Hid (Calls Tryz.prog 43 #[.iface t0 (.pointer (some ⟨b0, 0, none⟩)), .iface 56 (.pointer (some ⟨tb, 0, none⟩)), .agg #[.pointer (some ⟨4, 56, none⟩), .pointer (some ⟨w.heap.size, 0, none⟩), .int .u64 150], .iface 145 (.agg #[.pointer (some ⟨4, 54, none⟩)])] ((w.alloc (.cells #[.pointer (some ⟨tb, 0, none⟩)] 56)).alloc (.cells #[.pointer (some ⟨4, 56, none⟩), .pointer (some ⟨w.heap.size, 0, none⟩), .int .u64 150] 113)) fun r w' => r = .returned (.bool false) ∧ Ext w w') := HC'
  clear HC HC' hW he0
  go_enter Tryz.func20, Tryz.ntmps20
  go_wp2_with (go_at_call 43; refine HD.out.mono ?_; rintro r w1 ⟨rfl, hx1⟩)
  go_ret
  exact ⟨rfl, hx1⟩
theorem wrapped_R (b : Nat) (w : World) (hb : b < w.heap.size) : Wrapped w (.iface 129 (.pointer (some ⟨b, 0, none⟩))) 0 (ahead (.iface 129 (.pointer (some ⟨b, 0, none⟩))) (fun _ => .nilIface)) (fun _ => Option.none) :=
  ⟨chain_R b w, rfl, rfl, fun i h => absurd h (Nat.not_lt_zero _), fun i h => absurd h (Nat.not_lt_zero _), hb, fun i h => by
    obtain rfl : i = 0 := by omega
    exact ⟨_, b, rfl⟩⟩


set_option maxRecDepth 100000 in
set_option maxHeartbeats 2000000 in
theorem asB_R (b k : Nat) (es : Nat → Value) (ns : Nat → Option ByteArray) (tb : Nat) (ad : Addr) (w : World) (hW : Wrapped w (.iface 129 (.pointer (some ⟨b, 0, none⟩))) k es ns) (old : Value) (hb : w.heap[tb]? = some (.cells #[old] 54)) (ha : w.cell? ad = some (.pointer (some ⟨tb, 0, none⟩))) :
    Calls Tryz.prog 43 #[es 0, .iface 56 (.pointer (some ⟨tb, 0, none⟩)), .agg #[.pointer (some ⟨4, 56, none⟩), .pointer (some ad), .int .u64 150], .iface 145 (.agg #[.pointer (some ⟨4, 54, none⟩)])] w fun r w' => r = .returned (.bool true) ∧ Apart tb w w' ∧ w'.heap[tb]? = some (.cells #[.iface 129 (.pointer (some ⟨b, 0, none⟩))] 54) := by
  have HW : Hid (Wrapped w (.iface 129 (.pointer (some ⟨b, 0, none⟩))) k es ns) := hW
  have hlt := lt_of_block hb
  have hal := lt_of_cell ha
  have HB : Hid (w.heap[tb]? = some (.cells #[old] 54)) := hb
  have hev : ∀ W, W = w.alloc (.cells #[.pointer (some ⟨4, 56, none⟩), .pointer (some ad), .int .u64 150] 113) → (ReflectliteValue.method (ReflectliteValue.valueError "reflectlite.Value.Elem" 0) ReflectliteValue.elem #[.agg #[.pointer (some ⟨4, 56, none⟩), .pointer (some ad), .int .u64 150]]).run Tryz.prog W = .ok (.agg #[.pointer (some ⟨4, 54, none⟩), .pointer (some ⟨tb, 0, none⟩), .int .u64 404]) W := fun W h => elemVP ad ⟨tb, 0, none⟩ W (by subst h; exact (Below.cell (Ext.alloc w _) hal).trans ha)
  have hE := hev _ rfl
  have hS := setXR ⟨tb, 0, none⟩ ⟨w.heap.size + 1, 0, none⟩ ⟨b, 0, none⟩ old ((w.alloc (.cells #[.pointer (some ⟨4, 56, none⟩), .pointer (some ad), .int .u64 150] 113)).alloc (.cells #[.pointer (some ⟨b, 0, none⟩)] 129)) (cell_of (blk1 w _ _) rfl) (cell_of (blkOld _ (blkOld _ hb)) rfl) (frozen_of (blkOld _ (blkOld _ hb)))
  clear hev hb ha
  clear hW
  go_enter Tryz.func43, Tryz.ntmps43
  go_wp2
  go_loopw [0] (fun v wr => ∃ i : Nat, i ≤ k ∧ v = es i ∧ wr = w.alloc (.cells #[.pointer (some ⟨4, 56, none⟩), .pointer (some ad), .int .u64 150] 113)) (fun v _ => blockOf v)
  case atStart => exact ⟨0, Nat.zero_le _, rfl, rfl⟩
  case round =>
    obtain ⟨i, hik, rfl, rfl⟩ := hrel
    rcases Nat.lt_or_eq_of_le hik with hlt' | heq
    · obtain ⟨nb, nn, he, hN⟩ := HW.out.note i hlt'
      obtain ⟨t1, b1, he1⟩ := HW.out.form (i + 1) hlt'
      have hd := HW.out.dec i hlt'
      rw [he1] at hN
      have HN : Hid (NotedAt w nb (.iface t1 (.pointer (some ⟨b1, 0, none⟩))) nn) := hN
      have HD : Hid (blockOf (es (i + 1)) < blockOf (es i)) := hd
      have HE1 : Hid (es (i + 1) = .iface t1 (.pointer (some ⟨b1, 0, none⟩))) := he1
      have HE : Hid (es i = .iface 87 (.pointer (some ⟨nb, 0, none⟩))) := he
      clear hd he1 hN
      rw [he]
      clear he
      go_wp2_with (go_at_call 83; refine (noted_unwrap nb _ nn _ (blkOld _ HN.out)).mono ?_; rintro r w1 ⟨rfl, hw1⟩; obtain rfl := hw1.symm)
      go_roundw
      case rel => exact ⟨i + 1, hlt', HE1.out.symm, trivial⟩
      case measure =>
        have h := HD.out
        rw [HE1.out, HE.out] at h
        exact h
    · subst heq
      rw [HW.out.top]
      go_wp2
      go_ret
      refine ⟨rfl, (Apart.set w tb 0 _).trans ((Ext.alloc2 _ _ _).apart tb), ?_⟩
      exact blkOld _ (blkOld _ (set_blk (i := 0) HB.out _))

set_option maxRecDepth 100000 in
set_option maxHeartbeats 2000000 in
theorem AsB_R (b k : Nat) (es : Nat → Value) (ns : Nat → Option ByteArray) (tb : Nat) (w : World) (hW : Wrapped w (.iface 129 (.pointer (some ⟨b, 0, none⟩))) k es ns) (old : Value) (hb : w.heap[tb]? = some (.cells #[old] 54)) :
    Calls Tryz.prog 20 #[es 0, .iface 56 (.pointer (some ⟨tb, 0, none⟩))] w fun r w' => r = .returned (.bool true) ∧ Apart tb w w' ∧ w'.heap[tb]? = some (.cells #[.iface 129 (.pointer (some ⟨b, 0, none⟩))] 54) := by
  obtain ⟨t0, b0, he0⟩ := hW.form 0 (Nat.zero_le _)
  have n8 := nnRaised ⟨w.heap.size, 0, none⟩ ⟨tb, 0, none⟩ ((w.alloc (.cells #[.pointer (some ⟨tb, 0, none⟩)] 56)).alloc (.cells #[.pointer (some ⟨4, 56, none⟩), .pointer (some ⟨w.heap.size, 0, none⟩), .int .u64 150] 113)) (cell_of (blkOld _ (blk0 _ _)) rfl)
  have HC := asB_R b k es ns tb ⟨w.heap.size, 0, none⟩ ((w.alloc (.cells #[.pointer (some ⟨tb, 0, none⟩)] 56)).alloc (.cells #[.pointer (some ⟨4, 56, none⟩), .pointer (some ⟨w.heap.size, 0, none⟩), .int .u64 150] 113)) (hW.later (Ext.alloc2 _ _ _)) old (blkOld _ (blkOld _ hb)) (cell_of (blkOld _ (blk0 _ _)) rfl)
  have HC' := Calls.mono (R' := fun r w' => r = .returned (.bool true) ∧ Apart tb w w' ∧ w'.heap[tb]? = some (.cells #[.iface 129 (.pointer (some ⟨b, 0, none⟩))] 54)) HC (fun r w' h => ⟨h.1, ((Ext.alloc2 w _ _).apart tb).trans h.2.1, h.2.2⟩)
  rw [he0] at HC' ⊢
  have HD : Hid (Calls Tryz.prog 43 #[.iface t0 (.pointer (some ⟨b0, 0, none⟩)), .iface 56 (.pointer (some ⟨tb, 0, none⟩)), .agg #[.pointer (some ⟨4, 56, none⟩), .pointer (some ⟨w.heap.size, 0, none⟩), .int .u64 150], .iface 145 (.agg #[.pointer (some ⟨4, 54, none⟩)])] ((w.alloc (.cells #[.pointer (some ⟨tb, 0, none⟩)] 56)).alloc (.cells #[.pointer (some ⟨4, 56, none⟩), .pointer (some ⟨w.heap.size, 0, none⟩), .int .u64 150] 113)) fun r w' => r = .returned (.bool true) ∧ Apart tb w w' ∧ w'.heap[tb]? = some (.cells #[.iface 129 (.pointer (some ⟨b, 0, none⟩))] 54)) := HC'
  clear HC HC' hW he0 hb
  go_enter Tryz.func20, Tryz.ntmps20
  go_wp2_with (go_at_call 43; refine HD.out.mono ?_; rintro r w1 ⟨rfl, hx1⟩)
  go_ret
  exact ⟨rfl, hx1⟩
theorem wrapped_K (b : Nat) (w : World) (hb : b < w.heap.size) : Wrapped w (.iface 132 (.pointer (some ⟨b, 0, none⟩))) 0 (ahead (.iface 132 (.pointer (some ⟨b, 0, none⟩))) (fun _ => .nilIface)) (fun _ => Option.none) :=
  ⟨chain_K b w, rfl, rfl, fun i h => absurd h (Nat.not_lt_zero _), fun i h => absurd h (Nat.not_lt_zero _), hb, fun i h => by
    obtain rfl : i = 0 := by omega
    exact ⟨_, b, rfl⟩⟩


set_option maxRecDepth 100000 in
set_option maxHeartbeats 2000000 in
theorem asB_K (b k : Nat) (es : Nat → Value) (ns : Nat → Option ByteArray) (tb : Nat) (ad : Addr) (w : World) (hW : Wrapped w (.iface 132 (.pointer (some ⟨b, 0, none⟩))) k es ns)  :
    Calls Tryz.prog 43 #[es 0, .iface 56 (.pointer (some ⟨tb, 0, none⟩)), .agg #[.pointer (some ⟨4, 56, none⟩), .pointer (some ad), .int .u64 150], .iface 145 (.agg #[.pointer (some ⟨4, 54, none⟩)])] w fun r w' => r = .returned (.bool false) ∧ Ext w w' := by
  have HW : Hid (Wrapped w (.iface 132 (.pointer (some ⟨b, 0, none⟩))) k es ns) := hW
  clear hW
  go_enter Tryz.func43, Tryz.ntmps43
  go_wp2
  go_loopw [0] (fun v wr => ∃ i : Nat, i ≤ k ∧ v = es i ∧ wr = w.alloc (.cells #[.pointer (some ⟨4, 56, none⟩), .pointer (some ad), .int .u64 150] 113)) (fun v _ => blockOf v)
  case atStart => exact ⟨0, Nat.zero_le _, rfl, rfl⟩
  case round =>
    obtain ⟨i, hik, rfl, rfl⟩ := hrel
    rcases Nat.lt_or_eq_of_le hik with hlt' | heq
    · obtain ⟨nb, nn, he, hN⟩ := HW.out.note i hlt'
      obtain ⟨t1, b1, he1⟩ := HW.out.form (i + 1) hlt'
      have hd := HW.out.dec i hlt'
      rw [he1] at hN
      have HN : Hid (NotedAt w nb (.iface t1 (.pointer (some ⟨b1, 0, none⟩))) nn) := hN
      have HD : Hid (blockOf (es (i + 1)) < blockOf (es i)) := hd
      have HE1 : Hid (es (i + 1) = .iface t1 (.pointer (some ⟨b1, 0, none⟩))) := he1
      have HE : Hid (es i = .iface 87 (.pointer (some ⟨nb, 0, none⟩))) := he
      clear hd he1 hN
      rw [he]
      clear he
      go_wp2_with (go_at_call 83; refine (noted_unwrap nb _ nn _ (blkOld _ HN.out)).mono ?_; rintro r w1 ⟨rfl, hw1⟩; obtain rfl := hw1.symm)
      go_roundw
      case rel => exact ⟨i + 1, hlt', HE1.out.symm, trivial⟩
      case measure =>
        have h := HD.out
        rw [HE1.out, HE.out] at h
        exact h
    · subst heq
      rw [HW.out.top]
      go_wp2
      go_ret
      exact ⟨rfl, Ext.alloc _ _⟩

set_option maxRecDepth 100000 in
set_option maxHeartbeats 2000000 in
theorem AsB_K (b k : Nat) (es : Nat → Value) (ns : Nat → Option ByteArray) (tb : Nat) (w : World) (hW : Wrapped w (.iface 132 (.pointer (some ⟨b, 0, none⟩))) k es ns)  :
    Calls Tryz.prog 20 #[es 0, .iface 56 (.pointer (some ⟨tb, 0, none⟩))] w fun r w' => r = .returned (.bool false) ∧ Ext w w' := by
  obtain ⟨t0, b0, he0⟩ := hW.form 0 (Nat.zero_le _)
  have n8 := nnRaised ⟨w.heap.size, 0, none⟩ ⟨tb, 0, none⟩ ((w.alloc (.cells #[.pointer (some ⟨tb, 0, none⟩)] 56)).alloc (.cells #[.pointer (some ⟨4, 56, none⟩), .pointer (some ⟨w.heap.size, 0, none⟩), .int .u64 150] 113)) (cell_of (blkOld _ (blk0 _ _)) rfl)
  have HC := asB_K b k es ns tb ⟨w.heap.size, 0, none⟩ ((w.alloc (.cells #[.pointer (some ⟨tb, 0, none⟩)] 56)).alloc (.cells #[.pointer (some ⟨4, 56, none⟩), .pointer (some ⟨w.heap.size, 0, none⟩), .int .u64 150] 113)) (hW.later (Ext.alloc2 _ _ _))
  have HC' := Calls.mono (R' := fun r w' => r = .returned (.bool false) ∧ Ext w w') HC (fun r w' h => ⟨h.1, (Ext.alloc2 w _ _).trans h.2⟩)
  rw [he0] at HC' ⊢
  have HD : Hid (Calls Tryz.prog 43 #[.iface t0 (.pointer (some ⟨b0, 0, none⟩)), .iface 56 (.pointer (some ⟨tb, 0, none⟩)), .agg #[.pointer (some ⟨4, 56, none⟩), .pointer (some ⟨w.heap.size, 0, none⟩), .int .u64 150], .iface 145 (.agg #[.pointer (some ⟨4, 54, none⟩)])] ((w.alloc (.cells #[.pointer (some ⟨tb, 0, none⟩)] 56)).alloc (.cells #[.pointer (some ⟨4, 56, none⟩), .pointer (some ⟨w.heap.size, 0, none⟩), .int .u64 150] 113)) fun r w' => r = .returned (.bool false) ∧ Ext w w') := HC'
  clear HC HC' hW he0
  go_enter Tryz.func20, Tryz.ntmps20
  go_wp2_with (go_at_call 43; refine HD.out.mono ?_; rintro r w1 ⟨rfl, hx1⟩)
  go_ret
  exact ⟨rfl, hx1⟩

end Go.Proofs.YtflcmdjekmmkkaaGreatDoor
