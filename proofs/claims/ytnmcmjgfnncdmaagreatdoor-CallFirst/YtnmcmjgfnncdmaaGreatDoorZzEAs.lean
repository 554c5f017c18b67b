/-
  errors.As along a chain, at each of the five targets: the first error along Unwrap that has the ability is laid at the target and the answer is true; where none has it among those at hand, the answer is false and nothing has turned.
-/
import Derived.Test.YtnmcmjgfnncdmaaGreatDoorZzEAsAid
import Derived.LoopTactic
namespace Go.Proofs.YtnmcmjgfnncdmaaGreatDoor.Er
open Go.RowKit Go.Extern.Stop Go.Stop Go.Extern
attribute [local go_sem] isNCoded isNLocated isNRaised isNLacking isNUnw isNAsI isNUnws isNNoted isCCoded isCLocated isCRaised isCLacking isCUnw isCAsI isCUnws isCNoted isLCoded isLLocated isLRaised isLLacking isLUnw isLAsI isLUnws isLNoted isKCoded isKLocated isKRaised isKLacking isKUnw isKAsI isKUnws isKNoted isHCoded isHLocated isHRaised isHLacking isHUnw isHAsI isHUnws isHNoted toCodedCoded toCodedLocated toCodedRaised toCodedLacking toCodedNoted toLocatedCoded toLocatedLocated toLocatedRaised toLocatedLacking toLocatedNoted toRaisedCoded toRaisedLocated toRaisedRaised toRaisedLacking toRaisedNoted toLackingCoded toLackingLocated toLackingRaised toLackingLacking toLackingNoted toNotedCoded toNotedLocated toNotedRaised toNotedLacking toNotedNoted mNUnwrap mNError mCCode mCError mLCode mLWhere mLError mKCode mKWhere mKLacks mKError mHAs mHUnwrap

attribute [local go_sem] rmKind rmElem rmImplements rmAssignableTo xValueOf xVType xIsNil xKind xElem xImplements xTypeOf xAssignableTo voCoded voLocated voRaised voLacking voNoted tyCoded tyLocated tyRaised tyLacking tyNoted kpCoded kpLocated kpRaised kpLacking kpNoted keCoded keLocated keRaised keLacking keNoted elCoded elLocated elRaised elLacking elNoted nasCoded nasLocated nasRaised nasLacking nasNoted imNoted toH

set_option maxRecDepth 100000 in
set_option maxHeartbeats 2000000 in
theorem as_Coded_hit (t : TypeId) (x : Value) (es : Nat → Value) (left k : Nat) (hk : k < left) (hleft : left ≤ 1024) (tb : Nat) (old : Value) (ad : Addr) (w : World) (hb : w.heap[tb]? = some (.cells #[old] 147))
    (hi : ∀ i, i < k → ∃ t v, es (i + 1) = .iface t v) (hno : ∀ i, i < k → ∃ v, Asks 147 (es i) v false) (hu : ∀ i, i < k → Unwraps w (es i) (es (i + 1))) (hy : Asks 147 (es k) (.iface t x) true) :
    Calls Tryz.prog 140 #[.iface 150 (.agg #[es 0, .int .i64 left]), .iface 152 (.pointer (some ⟨tb, 0, none⟩)), .agg #[.pointer (some ⟨10, 152, none⟩), .pointer (some ad), .int .u64 150], .iface 329 (.agg #[.pointer (some ⟨10, 147, none⟩)])] w fun r w' => r = .returned (.bool true) ∧ Apart tb w w' ∧ w'.heap[tb]? = some (.cells #[(.iface t x)] 147) := by
  have HI : Hid (∀ i, i < k → ∃ t v, es (i + 1) = .iface t v) := hi
  have HN : Hid (∀ i, i < k → ∃ v, Asks 147 (es i) v false) := hno
  have HU : Hid (∀ i, i < k → Unwraps w (es i) (es (i + 1))) := hu
  have HY : Hid (Asks 147 (es k) (.iface t x) true) := hy
  have HB : Hid (w.heap[tb]? = some (.cells #[old] 147)) := hb
  clear hi hno hu hy hb
  go_enter Tryz.func140, Tryz.ntmps140
  go_wp2
  go_loopw [0] (fun v wr => ∃ i : Nat, i ≤ k ∧ v = .iface 150 (.agg #[es i, .int .i64 ((left : Int) - i)]) ∧ Ext w wr) (fun v _ => leftOf v)
  case atStart => exact ⟨0, Nat.zero_le _, by simp, Ext.alloc _ _⟩
  case round =>
    obtain ⟨i, hik, rfl, hx⟩ := hrel
    have HX : Hid (Ext w wr) := hx
    clear hx
    rcases Nat.lt_or_eq_of_le hik with hlt | heq
    · obtain ⟨v0, hq⟩ := HN.out i hlt
      obtain ⟨t1, v1, he⟩ := HI.out i hlt
      have hun := (HU.out i hlt)
      rw [he] at hun
      have HUN : Hid (Unwraps w (es i) (.iface t1 v1)) := hun
      have HQ : Hid (Asks 147 (es i) v0 false) := hq
      have HE : Hid (es (i + 1) = .iface t1 v1) := he
      clear hun hq he
      go_wp2_with (first
        | (go_at_call 318; refine (chainAs_Coded_no _ _ v0 _ _ HQ.out).mono ?_; rintro r w1 ⟨rfl, hx1⟩)
        | (go_at_call 319; refine (chain_unwrap_some _ t1 v1 _ _ (by omega) (by omega) (HUN.out.later (HX.out.trans hx1))).mono ?_; rintro r w2 ⟨rfl, hx2⟩))
      have hrelw : ∃ i' : Nat, i' ≤ k ∧ Value.iface 150 (.agg #[.iface t1 v1, .int .i64 ((left : Int) - i - 1)]) = .iface 150 (.agg #[es i', .int .i64 ((left : Int) - i')]) ∧ Ext w w2 :=
        ⟨i + 1, hlt, by rw [HE.out, show ((left : Int) - i - 1) = (left : Int) - ((i + 1 : Nat) : Int) from by omega], (HX.out.trans hx1).trans hx2⟩
      go_roundw
      case rel => first | exact hrelw | ((repeat apply Exists.intro); exact ⟨hrelw, rfl⟩)
      case measure => simp only [leftOf_mk]; omega
    · subst heq
      go_wp2_with (go_at_call 318; refine (chainAs_Coded_yes t x _ _ old tb _ HY.out (HX.out.block HB.out)).mono ?_; rintro r w1 ⟨rfl, ha, hv⟩)
      go_ret
      exact ⟨rfl, (HX.out.apart tb).trans ha, hv⟩

set_option maxRecDepth 100000 in
set_option maxHeartbeats 2000000 in
theorem as_Coded_miss (es : Nat → Value) (left m : Nat) (hm : 1 ≤ m) (hml : m ≤ left) (hleft : left ≤ 1024) (hend : m = left ∨ es m = .nilIface) (tb : Nat) (ad : Addr) (w : World)
    (hi : ∀ i, i + 1 < m → ∃ t v, es (i + 1) = .iface t v) (hno : ∀ i, i < m → ∃ v, Asks 147 (es i) v false) (hu : ∀ i, i + 1 ≤ m → i + 1 < left → Unwraps w (es i) (es (i + 1))) :
    Calls Tryz.prog 140 #[.iface 150 (.agg #[es 0, .int .i64 left]), .iface 152 (.pointer (some ⟨tb, 0, none⟩)), .agg #[.pointer (some ⟨10, 152, none⟩), .pointer (some ad), .int .u64 150], .iface 329 (.agg #[.pointer (some ⟨10, 147, none⟩)])] w fun r w' => r = .returned (.bool false) ∧ Ext w w' := by
  have HI : Hid (∀ i, i + 1 < m → ∃ t v, es (i + 1) = .iface t v) := hi
  have HN : Hid (∀ i, i < m → ∃ v, Asks 147 (es i) v false) := hno
  have HU : Hid (∀ i, i + 1 ≤ m → i + 1 < left → Unwraps w (es i) (es (i + 1))) := hu
  have HEND : Hid (m = left ∨ es m = .nilIface) := hend
  clear hi hno hu hend
  go_enter Tryz.func140, Tryz.ntmps140
  go_wp2
  go_loopw [0] (fun v wr => ∃ i : Nat, i < m ∧ v = .iface 150 (.agg #[es i, .int .i64 ((left : Int) - i)]) ∧ Ext w wr) (fun v _ => leftOf v)
  case atStart => exact ⟨0, hm, by simp, Ext.alloc _ _⟩
  case round =>
    obtain ⟨i, him, rfl, hx⟩ := hrel
    have HX : Hid (Ext w wr) := hx
    clear hx
    obtain ⟨v0, hq⟩ := HN.out i him
    have HQ : Hid (Asks 147 (es i) v0 false) := hq
    clear hq
    rcases Nat.lt_or_eq_of_le (Nat.succ_le_of_lt him) with hlt | heq
    · obtain ⟨t1, v1, he⟩ := HI.out i hlt
      have hun := (HU.out i (by omega) (by omega))
      rw [he] at hun
      have HUN : Hid (Unwraps w (es i) (.iface t1 v1)) := hun
      have HE : Hid (es (i + 1) = .iface t1 v1) := he
      clear hun he
      go_wp2_with (first
        | (go_at_call 318; refine (chainAs_Coded_no _ _ v0 _ _ HQ.out).mono ?_; rintro r w1 ⟨rfl, hx1⟩)
        | (go_at_call 319; refine (chain_unwrap_some _ t1 v1 _ _ (by omega) (by omega) (HUN.out.later (HX.out.trans hx1))).mono ?_; rintro r w2 ⟨rfl, hx2⟩))
      have hrelw : ∃ i' : Nat, i' < m ∧ Value.iface 150 (.agg #[.iface t1 v1, .int .i64 ((left : Int) - i - 1)]) = .iface 150 (.agg #[es i', .int .i64 ((left : Int) - i')]) ∧ Ext w w2 :=
        ⟨i + 1, hlt, by rw [HE.out, show ((left : Int) - i - 1) = (left : Int) - ((i + 1 : Nat) : Int) from by omega], (HX.out.trans hx1).trans hx2⟩
      go_roundw
      case rel => first | exact hrelw | ((repeat apply Exists.intro); exact ⟨hrelw, rfl⟩)
      case measure => simp only [leftOf_mk]; omega
    · have HQM : Hid (i + 1 = m) := heq
      rcases Nat.lt_or_eq_of_le hml with hless | hfull
      · have hn : es (i + 1) = .nilIface := by
          rcases HEND.out with h | h
          · omega
          · have e : i + 1 = m := HQM.out
            rw [e]; exact h
        have hun := HU.out i (by omega) (by omega)
        rw [hn] at hun
        have HUN : Hid (Unwraps w (es i) .nilIface) := hun
        have hl1 : (1 : Int) < (left : Int) - i := by omega
        have hl2 : (left : Int) - i ≤ 1024 := by omega
        clear hun hn heq
        go_wp2_with (first
          | (go_at_call 318; refine (chainAs_Coded_no _ _ v0 _ _ HQ.out).mono ?_; rintro r w1 ⟨rfl, hx1⟩)
          | (go_at_call 319; refine (chain_unwrap_nil _ _ _ hl1 hl2 (HUN.out.later (HX.out.trans hx1))).mono ?_; rintro r w2 ⟨rfl, hx2⟩))
        go_ret
        exact ⟨rfl, (HX.out.trans hx1).trans hx2⟩
      · have hl1 : (left : Int) - i ≤ 1 := by omega
        clear heq hfull
        go_wp2_with (first
          | (go_at_call 318; refine (chainAs_Coded_no _ _ v0 _ _ HQ.out).mono ?_; rintro r w1 ⟨rfl, hx1⟩)
          | (go_at_call 319; refine (chain_unwrap_end _ _ _ hl1).mono ?_; rintro r w2 ⟨rfl, hx2⟩))
        go_ret
        exact ⟨rfl, (HX.out.trans hx1).trans hx2⟩

set_option maxRecDepth 100000 in
set_option maxHeartbeats 2000000 in
theorem As_Coded_hit (t : TypeId) (x : Value) (es : Nat → Value) (left k : Nat) (hk : k < left) (hleft : left ≤ 1024) (tb : Nat) (old : Value) (w : World) (hb : w.heap[tb]? = some (.cells #[old] 147))
    (hi : ∀ i, i < k → ∃ t v, es (i + 1) = .iface t v) (hno : ∀ i, i < k → ∃ v, Asks 147 (es i) v false) (hu : ∀ i, i < k → Unwraps w (es i) (es (i + 1))) (hy : Asks 147 (es k) (.iface t x) true) :
    Calls Tryz.prog 71 #[.iface 150 (.agg #[es 0, .int .i64 left]), .iface 152 (.pointer (some ⟨tb, 0, none⟩))] w fun r w' => r = .returned (.bool true) ∧ Apart tb w w' ∧ w'.heap[tb]? = some (.cells #[(.iface t x)] 147) := by
  have n8 := nnCoded ⟨w.heap.size, 0, none⟩ ⟨tb, 0, none⟩ ((w.alloc (.cells #[.pointer (some ⟨tb, 0, none⟩)] 152)).alloc (.cells #[.pointer (some ⟨10, 152, none⟩), .pointer (some ⟨w.heap.size, 0, none⟩), .int .u64 150] 221)) (cell_of (blkOld _ (blk0 _ _)) rfl)
  have HC := as_Coded_hit t x es left k hk hleft tb old ⟨w.heap.size, 0, none⟩ ((w.alloc (.cells #[.pointer (some ⟨tb, 0, none⟩)] 152)).alloc (.cells #[.pointer (some ⟨10, 152, none⟩), .pointer (some ⟨w.heap.size, 0, none⟩), .int .u64 150] 221)) (blkOld _ (blkOld _ hb)) hi hno (fun i h => (hu i h).later (Ext.alloc2 _ _ _)) hy
  have HC' := Calls.mono (R' := fun r w' => r = .returned (.bool true) ∧ Apart tb w w' ∧ w'.heap[tb]? = some (.cells #[(.iface t x)] 147)) HC (fun r w' h => ⟨h.1, ((Ext.alloc2 w _ _).apart tb).trans h.2.1, h.2.2⟩)
  clear HC hb hi hno hu hy
  have HD : Hid (Calls Tryz.prog 140 #[.iface 150 (.agg #[es 0, .int .i64 left]), .iface 152 (.pointer (some ⟨tb, 0, none⟩)), .agg #[.pointer (some ⟨10, 152, none⟩), .pointer (some ⟨w.heap.size, 0, none⟩), .int .u64 150], .iface 329 (.agg #[.pointer (some ⟨10, 147, none⟩)])] ((w.alloc (.cells #[.pointer (some ⟨tb, 0, none⟩)] 152)).alloc (.cells #[.pointer (some ⟨10, 152, none⟩), .pointer (some ⟨w.heap.size, 0, none⟩), .int .u64 150] 221)) fun r w' => r = .returned (.bool true) ∧ Apart tb w w' ∧ w'.heap[tb]? = some (.cells #[(.iface t x)] 147)) := HC'
  clear HC'
  go_enter Tryz.func71, Tryz.ntmps71
  go_wp2_with (go_at_call 140; refine HD.out.mono ?_; rintro r w1 ⟨rfl, hx1⟩)
  go_ret
  exact ⟨rfl, hx1⟩

set_option maxRecDepth 100000 in
set_option maxHeartbeats 2000000 in
theorem As_Coded_miss (es : Nat → Value) (left m : Nat) (hm : 1 ≤ m) (hml : m ≤ left) (hleft : left ≤ 1024) (hend : m = left ∨ es m = .nilIface) (tb : Nat) (w : World) 
    (hi : ∀ i, i + 1 < m → ∃ t v, es (i + 1) = .iface t v) (hno : ∀ i, i < m → ∃ v, Asks 147 (es i) v false) (hu : ∀ i, i + 1 ≤ m → i + 1 < left → Unwraps w (es i) (es (i + 1))) :
    Calls Tryz.prog 71 #[.iface 150 (.agg #[es 0, .int .i64 left]), .iface 152 (.pointer (some ⟨tb, 0, none⟩))] w fun r w' => r = .returned (.bool false) ∧ Ext w w' := by
  have n8 := nnCoded ⟨w.heap.size, 0, none⟩ ⟨tb, 0, none⟩ ((w.alloc (.cells #[.pointer (some ⟨tb, 0, none⟩)] 152)).alloc (.cells #[.pointer (some ⟨10, 152, none⟩), .pointer (some ⟨w.heap.size, 0, none⟩), .int .u64 150] 221)) (cell_of (blkOld _ (blk0 _ _)) rfl)
  have HC := as_Coded_miss es left m hm hml hleft hend tb ⟨w.heap.size, 0, none⟩ ((w.alloc (.cells #[.pointer (some ⟨tb, 0, none⟩)] 152)).alloc (.cells #[.pointer (some ⟨10, 152, none⟩), .pointer (some ⟨w.heap.size, 0, none⟩), .int .u64 150] 221)) hi hno (fun i h h' => (hu i h h').later (Ext.alloc2 _ _ _))
  have HC' := Calls.mono (R' := fun r w' => r = .returned (.bool false) ∧ Ext w w') HC (fun r w' h => ⟨h.1, (Ext.alloc2 w _ _).trans h.2⟩)
  clear HC hi hno hu hend
  have HD : Hid (Calls Tryz.prog 140 #[.iface 150 (.agg #[es 0, .int .i64 left]), .iface 152 (.pointer (some ⟨tb, 0, none⟩)), .agg #[.pointer (some ⟨10, 152, none⟩), .pointer (some ⟨w.heap.size, 0, none⟩), .int .u64 150], .iface 329 (.agg #[.pointer (some ⟨10, 147, none⟩)])] ((w.alloc (.cells #[.pointer (some ⟨tb, 0, none⟩)] 152)).alloc (.cells #[.pointer (some ⟨10, 152, none⟩), .pointer (some ⟨w.heap.size, 0, none⟩), .int .u64 150] 221)) fun r w' => r = .returned (.bool false) ∧ Ext w w') := HC'
  clear HC'
  go_enter Tryz.func71, Tryz.ntmps71
  go_wp2_with (go_at_call 140; refine HD.out.mono ?_; rintro r w1 ⟨rfl, hx1⟩)
  go_ret
  exact ⟨rfl, hx1⟩


end Go.Proofs.YtnmcmjgfnncdmaaGreatDoor.Er
