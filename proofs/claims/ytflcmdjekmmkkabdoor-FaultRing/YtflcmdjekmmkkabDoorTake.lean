/-
  A chain asked by errors.As: what it unwraps to; whether its first error has an ability, and what is laid at the target then.
-/
import Derived.Test.YtflcmdjekmmkkabDoorChain
import Derived.RangeFuncBox
namespace Go.Proofs.YtflcmdjekmmkkabDoor
open Go.RowKit
attribute [local go_sem] isNCoded isNLocated isNRaised isNLacking isNUnw isNAsI isNUnws isNNoted isGCoded isGLocated isGRaised isGLacking isGUnw isGAsI isGUnws isGNoted isCCoded isCLocated isCRaised isCLacking isCUnw isCAsI isCUnws isCNoted isLCoded isLLocated isLRaised isLLacking isLUnw isLAsI isLUnws isLNoted isRCoded isRLocated isRRaised isRLacking isRUnw isRAsI isRUnws isRNoted isHCoded isHLocated isHRaised isHLacking isHUnw isHAsI isHUnws isHNoted isOCoded isOLocated isORaised isOLacking isOUnw isOAsI isOUnws isONoted toCodedCoded toCodedLocated toCodedRaised toCodedLacking toCodedNoted toLocatedCoded toLocatedLocated toLocatedRaised toLocatedLacking toLocatedNoted toRaisedCoded toRaisedLocated toRaisedRaised toRaisedLacking toRaisedNoted toLackingCoded toLackingLocated toLackingRaised toLackingLacking toLackingNoted toNotedCoded toNotedLocated toNotedRaised toNotedLacking toNotedNoted mNUnwrap mNError mCCode mCError mLCode mLWhere mLError mRCode mRWhere mRSaid mRError mOUnwrap mGUnwrap mGError mHAs mHUnwrap

/-- Nothing that lay there has turned but the block T. -/
structure Apart (T : Nat) (w w' : World) : Prop where
  os : w'.os = w.os
  tape : w'.tape = w.tape
  output : w'.output = w.output
  size : w.heap.size ≤ w'.heap.size
  block : ∀ k, k < w.heap.size → k ≠ T → w'.heap[k]? = w.heap[k]?
theorem Ext.apart {w w' : World} (h : Ext w w') (T : Nat) : Apart T w w' := ⟨h.os, h.tape, h.output, h.size, fun k hk _ => Below.block h k hk⟩
theorem Apart.trans {T : Nat} {a b c : World} (h : Apart T a b) (k : Apart T b c) : Apart T a c :=
  ⟨k.os.trans h.os, k.tape.trans h.tape, k.output.trans h.output, Nat.le_trans h.size k.size, fun i hi hT => (k.block i (Nat.lt_of_lt_of_le hi h.size) hT).trans (h.block i hi hT)⟩
theorem Apart.set (w : World) (T i : Nat) (v : Value) : Apart T w (w.setCell ⟨T, i, none⟩ v) := by
  have h := Below.setCell (Below.refl 0 w) (p := ⟨T, i, none⟩) (Nat.zero_le _) v
  exact ⟨h.os, h.tape, h.output, h.size, fun k _ hk => Below.heap_setCell w ⟨T, i, none⟩ v k hk⟩
theorem Apart.ext {w0 w w' : World} {T : Nat} (ha : Apart T w w') (h : Ext w0 w) (hT : w0.heap.size ≤ T) : Ext w0 w' :=
  ⟨ha.os.trans h.os, ha.tape.trans h.tape, ha.output.trans h.output, Nat.le_trans h.size ha.size, fun k hk => (ha.block k (Nat.lt_of_lt_of_le hk h.size) (by omega)).trans (Below.block h k hk)⟩

/-- An assertion of e to the type X gives v, and whether it holds. -/
def Asks (X : TypeId) (e v : Value) (b : Bool) : Prop := ∀ w : World, (Instr.typeAssert e 28 X true).run Tryd.prog w = .ok (.tuple #[v, .bool b]) w

set_option maxRecDepth 100000 in
set_option maxHeartbeats 800000 in
theorem chain_unwrap_end (e : Value) (left : Int) (w : World) (hl : left ≤ 1) :
    Calls Tryd.prog 70 #[.agg #[e, .int .i64 left]] w fun r w' => r = .returned (.nilIface) ∧ Ext w w' := by
  go_enter Tryd.func70, Tryd.ntmps70
  go_wp2_with (go_at_call 23; refine (rest_end e left _ hl).mono ?_; rintro r w1 ⟨rfl, hx⟩)
  go_ret
  exact ⟨rfl, ((Ext.alloc _ _).trans hx).trans (by first | exact Ext.refl _ | exact Ext.alloc _ _)⟩

set_option maxRecDepth 100000 in
set_option maxHeartbeats 800000 in
theorem chain_unwrap_nil (e : Value) (left : Int) (w : World) (hl : 1 < left) (hl2 : left ≤ 1024) (hu : Unwraps w e .nilIface) :
    Calls Tryd.prog 70 #[.agg #[e, .int .i64 left]] w fun r w' => r = .returned (.nilIface) ∧ Ext w w' := by
  have HU : Hid (Unwraps w e .nilIface) := hu
  clear hu
  go_enter Tryd.func70, Tryd.ntmps70
  go_wp2_with (go_at_call 23; refine (rest_nil e left _ hl hl2 (HU.out.later (Ext.alloc _ _))).mono ?_; rintro r w1 ⟨rfl, hx⟩)
  go_ret
  exact ⟨rfl, ((Ext.alloc _ _).trans hx).trans (by first | exact Ext.refl _ | exact Ext.alloc _ _)⟩

set_option maxRecDepth 100000 in
set_option maxHeartbeats 800000 in
theorem chain_unwrap_some (e : Value) (t : TypeId) (v : Value) (left : Int) (w : World) (hl : 1 < left) (hl2 : left ≤ 1024) (hu : Unwraps w e (.iface t v)) :
    Calls Tryd.prog 70 #[.agg #[e, .int .i64 left]] w fun r w' => r = .returned (.iface 60 (.agg #[.iface t v, .int .i64 (left - 1)])) ∧ Ext w w' := by
  have HU : Hid (Unwraps w e (.iface t v)) := hu
  clear hu
  go_enter Tryd.func70, Tryd.ntmps70
  go_wp2_with (go_at_call 23; refine (rest_some t v e left _ hl hl2 (HU.out.later (Ext.alloc _ _))).mono ?_; rintro r w1 ⟨rfl, hx⟩)
  go_ret
  exact ⟨rfl, ((Ext.alloc _ _).trans hx).trans (by first | exact Ext.refl _ | exact Ext.alloc _ _)⟩

theorem take_Coded_yes (t : TypeId) (x : Value) (e old : Value) (tb : Nat) (w : World) (ha : Asks 47 e (.iface t x) true) (hb : w.heap[tb]? = some (.cells #[old] 47)) :
    Calls Tryd.prog 71 #[e, .pointer (some ⟨tb, 0, none⟩)] w fun r w' => r = .returned (.bool true) ∧ w' = w.setCell ⟨tb, 0, none⟩ (.iface t x) := by
  have hq : ∀ w : World, (Instr.typeAssert e 28 47 true).run Tryd.prog w = .ok (.tuple #[(.iface t x), .bool true]) w := ha
  have c0 : w.cell? ⟨tb, 0, none⟩ = some old := cell_of hb rfl
  have f0 : w.frozen? ⟨tb, 0, none⟩ = false := frozen_of hb
  clear ha hb
  go_enter Tryd.func71, Tryd.ntmps71
  go_wp2
  go_ret
  exact ⟨rfl, rfl⟩
theorem take_Coded_no (e v p : Value) (w : World) (ha : Asks 47 e v false) :
    Calls Tryd.prog 71 #[e, p] w fun r w' => r = .returned (.bool false) ∧ w' = w := by
  have hq : ∀ w : World, (Instr.typeAssert e 28 47 true).run Tryd.prog w = .ok (.tuple #[v, .bool false]) w := ha
  clear ha
  go_enter Tryd.func71, Tryd.ntmps71
  go_wp2
  go_ret
  exact ⟨rfl, rfl⟩
set_option maxRecDepth 100000 in
theorem chainAs_Coded_yes (t : TypeId) (x : Value) (e left old : Value) (tb : Nat) (w : World) (ha : Asks 47 e (.iface t x) true) (hb : w.heap[tb]? = some (.cells #[old] 47)) :
    Calls Tryd.prog 69 #[.agg #[e, left], .iface 70 (.pointer (some ⟨tb, 0, none⟩))] w fun r w' => r = .returned (.bool true) ∧ Apart tb w w' ∧ w'.heap[tb]? = some (.cells #[(.iface t x)] 47) := by
  have HB := blkOld (.cells #[e, left] 60) hb
  have HB' : Hid (w.heap[tb]? = some (.cells #[old] 47)) := hb
  clear hb
  have HH : Hid ((w.alloc (.cells #[e, left] 60)).heap[tb]? = some (.cells #[old] 47)) := HB
  clear HB
  go_enter Tryd.func69, Tryd.ntmps69
  go_wp2_with (go_at_call 71; refine (take_Coded_yes t x _ old tb _ ha HH.out).mono ?_; rintro r w1 ⟨rfl, rfl⟩)
  go_ret
  exact ⟨rfl, ((Ext.alloc w _).apart tb).trans (Apart.set _ _ _ _), Boxed.set (.iface t x) HH.out⟩
set_option maxRecDepth 100000 in
theorem chainAs_Coded_no (e left v p : Value) (w : World) (ha : Asks 47 e v false) :
    Calls Tryd.prog 69 #[.agg #[e, left], .iface 70 p] w fun r w' => r = .returned (.bool false) ∧ Ext w w' := by
  go_enter Tryd.func69, Tryd.ntmps69
  go_wp2_with (go_at_call 71; refine (take_Coded_no _ v _ _ ha).mono ?_; rintro r w1 ⟨rfl, rfl⟩)
  go_ret
  exact ⟨rfl, Ext.alloc _ _⟩

theorem take_Located_yes (t : TypeId) (x : Value) (e old : Value) (tb : Nat) (w : World) (ha : Asks 64 e (.iface t x) true) (hb : w.heap[tb]? = some (.cells #[old] 64)) :
    Calls Tryd.prog 72 #[e, .pointer (some ⟨tb, 0, none⟩)] w fun r w' => r = .returned (.bool true) ∧ w' = w.setCell ⟨tb, 0, none⟩ (.iface t x) := by
  have hq : ∀ w : World, (Instr.typeAssert e 28 64 true).run Tryd.prog w = .ok (.tuple #[(.iface t x), .bool true]) w := ha
  have c0 : w.cell? ⟨tb, 0, none⟩ = some old := cell_of hb rfl
  have f0 : w.frozen? ⟨tb, 0, none⟩ = false := frozen_of hb
  clear ha hb
  go_enter Tryd.func72, Tryd.ntmps72
  go_wp2
  go_ret
  exact ⟨rfl, rfl⟩
theorem take_Located_no (e v p : Value) (w : World) (ha : Asks 64 e v false) :
    Calls Tryd.prog 72 #[e, p] w fun r w' => r = .returned (.bool false) ∧ w' = w := by
  have hq : ∀ w : World, (Instr.typeAssert e 28 64 true).run Tryd.prog w = .ok (.tuple #[v, .bool false]) w := ha
  clear ha
  go_enter Tryd.func72, Tryd.ntmps72
  go_wp2
  go_ret
  exact ⟨rfl, rfl⟩
set_option maxRecDepth 100000 in
theorem chainAs_Located_yes (t : TypeId) (x : Value) (e left old : Value) (tb : Nat) (w : World) (ha : Asks 64 e (.iface t x) true) (hb : w.heap[tb]? = some (.cells #[old] 64)) :
    Calls Tryd.prog 69 #[.agg #[e, left], .iface 66 (.pointer (some ⟨tb, 0, none⟩))] w fun r w' => r = .returned (.bool true) ∧ Apart tb w w' ∧ w'.heap[tb]? = some (.cells #[(.iface t x)] 64) := by
  have HB := blkOld (.cells #[e, left] 60) hb
  have HB' : Hid (w.heap[tb]? = some (.cells #[old] 64)) := hb
  clear hb
  have HH : Hid ((w.alloc (.cells #[e, left] 60)).heap[tb]? = some (.cells #[old] 64)) := HB
  clear HB
  go_enter Tryd.func69, Tryd.ntmps69
  go_wp2_with (go_at_call 72; refine (take_Located_yes t x _ old tb _ ha HH.out).mono ?_; rintro r w1 ⟨rfl, rfl⟩)
  go_ret
  exact ⟨rfl, ((Ext.alloc w _).apart tb).trans (Apart.set _ _ _ _), Boxed.set (.iface t x) HH.out⟩
set_option maxRecDepth 100000 in
theorem chainAs_Located_no (e left v p : Value) (w : World) (ha : Asks 64 e v false) :
    Calls Tryd.prog 69 #[.agg #[e, left], .iface 66 p] w fun r w' => r = .returned (.bool false) ∧ Ext w w' := by
  go_enter Tryd.func69, Tryd.ntmps69
  go_wp2_with (go_at_call 72; refine (take_Located_no _ v _ _ ha).mono ?_; rintro r w1 ⟨rfl, rfl⟩)
  go_ret
  exact ⟨rfl, Ext.alloc _ _⟩

theorem take_Raised_yes (t : TypeId) (x : Value) (e old : Value) (tb : Nat) (w : World) (ha : Asks 50 e (.iface t x) true) (hb : w.heap[tb]? = some (.cells #[old] 50)) :
    Calls Tryd.prog 73 #[e, .pointer (some ⟨tb, 0, none⟩)] w fun r w' => r = .returned (.bool true) ∧ w' = w.setCell ⟨tb, 0, none⟩ (.iface t x) := by
  have hq : ∀ w : World, (Instr.typeAssert e 28 50 true).run Tryd.prog w = .ok (.tuple #[(.iface t x), .bool true]) w := ha
  have c0 : w.cell? ⟨tb, 0, none⟩ = some old := cell_of hb rfl
  have f0 : w.frozen? ⟨tb, 0, none⟩ = false := frozen_of hb
  clear ha hb
  go_enter Tryd.func73, Tryd.ntmps73
  go_wp2
  go_ret
  exact ⟨rfl, rfl⟩
theorem take_Raised_no (e v p : Value) (w : World) (ha : Asks 50 e v false) :
    Calls Tryd.prog 73 #[e, p] w fun r w' => r = .returned (.bool false) ∧ w' = w := by
  have hq : ∀ w : World, (Instr.typeAssert e 28 50 true).run Tryd.prog w = .ok (.tuple #[v, .bool false]) w := ha
  clear ha
  go_enter Tryd.func73, Tryd.ntmps73
  go_wp2
  go_ret
  exact ⟨rfl, rfl⟩
set_option maxRecDepth 100000 in
theorem chainAs_Raised_yes (t : TypeId) (x : Value) (e left old : Value) (tb : Nat) (w : World) (ha : Asks 50 e (.iface t x) true) (hb : w.heap[tb]? = some (.cells #[old] 50)) :
    Calls Tryd.prog 69 #[.agg #[e, left], .iface 128 (.pointer (some ⟨tb, 0, none⟩))] w fun r w' => r = .returned (.bool true) ∧ Apart tb w w' ∧ w'.heap[tb]? = some (.cells #[(.iface t x)] 50) := by
  have HB := blkOld (.cells #[e, left] 60) hb
  have HB' : Hid (w.heap[tb]? = some (.cells #[old] 50)) := hb
  clear hb
  have HH : Hid ((w.alloc (.cells #[e, left] 60)).heap[tb]? = some (.cells #[old] 50)) := HB
  clear HB
  go_enter Tryd.func69, Tryd.ntmps69
  go_wp2_with (go_at_call 73; refine (take_Raised_yes t x _ old tb _ ha HH.out).mono ?_; rintro r w1 ⟨rfl, rfl⟩)
  go_ret
  exact ⟨rfl, ((Ext.alloc w _).apart tb).trans (Apart.set _ _ _ _), Boxed.set (.iface t x) HH.out⟩
set_option maxRecDepth 100000 in
theorem chainAs_Raised_no (e left v p : Value) (w : World) (ha : Asks 50 e v false) :
    Calls Tryd.prog 69 #[.agg #[e, left], .iface 128 p] w fun r w' => r = .returned (.bool false) ∧ Ext w w' := by
  go_enter Tryd.func69, Tryd.ntmps69
  go_wp2_with (go_at_call 73; refine (take_Raised_no _ v _ _ ha).mono ?_; rintro r w1 ⟨rfl, rfl⟩)
  go_ret
  exact ⟨rfl, Ext.alloc _ _⟩

theorem take_Lacking_yes (t : TypeId) (x : Value) (e old : Value) (tb : Nat) (w : World) (ha : Asks 130 e (.iface t x) true) (hb : w.heap[tb]? = some (.cells #[old] 130)) :
    Calls Tryd.prog 74 #[e, .pointer (some ⟨tb, 0, none⟩)] w fun r w' => r = .returned (.bool true) ∧ w' = w.setCell ⟨tb, 0, none⟩ (.iface t x) := by
  have hq : ∀ w : World, (Instr.typeAssert e 28 130 true).run Tryd.prog w = .ok (.tuple #[(.iface t x), .bool true]) w := ha
  have c0 : w.cell? ⟨tb, 0, none⟩ = some old := cell_of hb rfl
  have f0 : w.frozen? ⟨tb, 0, none⟩ = false := frozen_of hb
  clear ha hb
  go_enter Tryd.func74, Tryd.ntmps74
  go_wp2
  go_ret
  exact ⟨rfl, rfl⟩
theorem take_Lacking_no (e v p : Value) (w : World) (ha : Asks 130 e v false) :
    Calls Tryd.prog 74 #[e, p] w fun r w' => r = .returned (.bool false) ∧ w' = w := by
  have hq : ∀ w : World, (Instr.typeAssert e 28 130 true).run Tryd.prog w = .ok (.tuple #[v, .bool false]) w := ha
  clear ha
  go_enter Tryd.func74, Tryd.ntmps74
  go_wp2
  go_ret
  exact ⟨rfl, rfl⟩
set_option maxRecDepth 100000 in
theorem chainAs_Lacking_yes (t : TypeId) (x : Value) (e left old : Value) (tb : Nat) (w : World) (ha : Asks 130 e (.iface t x) true) (hb : w.heap[tb]? = some (.cells #[old] 130)) :
    Calls Tryd.prog 69 #[.agg #[e, left], .iface 131 (.pointer (some ⟨tb, 0, none⟩))] w fun r w' => r = .returned (.bool true) ∧ Apart tb w w' ∧ w'.heap[tb]? = some (.cells #[(.iface t x)] 130) := by
  have HB := blkOld (.cells #[e, left] 60) hb
  have HB' : Hid (w.heap[tb]? = some (.cells #[old] 130)) := hb
  clear hb
  have HH : Hid ((w.alloc (.cells #[e, left] 60)).heap[tb]? = some (.cells #[old] 130)) := HB
  clear HB
  go_enter Tryd.func69, Tryd.ntmps69
  go_wp2_with (go_at_call 74; refine (take_Lacking_yes t x _ old tb _ ha HH.out).mono ?_; rintro r w1 ⟨rfl, rfl⟩)
  go_ret
  exact ⟨rfl, ((Ext.alloc w _).apart tb).trans (Apart.set _ _ _ _), Boxed.set (.iface t x) HH.out⟩
set_option maxRecDepth 100000 in
theorem chainAs_Lacking_no (e left v p : Value) (w : World) (ha : Asks 130 e v false) :
    Calls Tryd.prog 69 #[.agg #[e, left], .iface 131 p] w fun r w' => r = .returned (.bool false) ∧ Ext w w' := by
  go_enter Tryd.func69, Tryd.ntmps69
  go_wp2_with (go_at_call 74; refine (take_Lacking_no _ v _ _ ha).mono ?_; rintro r w1 ⟨rfl, rfl⟩)
  go_ret
  exact ⟨rfl, Ext.alloc _ _⟩

theorem take_Noted_yes (vb : Nat) (e old : Value) (tb : Nat) (w : World) (ha : Asks 53 e (.pointer (some ⟨vb, 0, none⟩)) true) (hb : w.heap[tb]? = some (.cells #[old] 53)) :
    Calls Tryd.prog 75 #[e, .pointer (some ⟨tb, 0, none⟩)] w fun r w' => r = .returned (.bool true) ∧ w' = w.setCell ⟨tb, 0, none⟩ (.pointer (some ⟨vb, 0, none⟩)) := by
  have hq : ∀ w : World, (Instr.typeAssert e 28 53 true).run Tryd.prog w = .ok (.tuple #[(.pointer (some ⟨vb, 0, none⟩)), .bool true]) w := ha
  have c0 : w.cell? ⟨tb, 0, none⟩ = some old := cell_of hb rfl
  have f0 : w.frozen? ⟨tb, 0, none⟩ = false := frozen_of hb
  clear ha hb
  go_enter Tryd.func75, Tryd.ntmps75
  go_wp2
  go_ret
  exact ⟨rfl, rfl⟩
theorem take_Noted_no (e v p : Value) (w : World) (ha : Asks 53 e v false) :
    Calls Tryd.prog 75 #[e, p] w fun r w' => r = .returned (.bool false) ∧ w' = w := by
  have hq : ∀ w : World, (Instr.typeAssert e 28 53 true).run Tryd.prog w = .ok (.tuple #[v, .bool false]) w := ha
  clear ha
  go_enter Tryd.func75, Tryd.ntmps75
  go_wp2
  go_ret
  exact ⟨rfl, rfl⟩
set_option maxRecDepth 100000 in
theorem chainAs_Noted_yes (vb : Nat) (e left old : Value) (tb : Nat) (w : World) (ha : Asks 53 e (.pointer (some ⟨vb, 0, none⟩)) true) (hb : w.heap[tb]? = some (.cells #[old] 53)) :
    Calls Tryd.prog 69 #[.agg #[e, left], .iface 62 (.pointer (some ⟨tb, 0, none⟩))] w fun r w' => r = .returned (.bool true) ∧ Apart tb w w' ∧ w'.heap[tb]? = some (.cells #[(.pointer (some ⟨vb, 0, none⟩))] 53) := by
  have HB := blkOld (.cells #[e, left] 60) hb
  have HB' : Hid (w.heap[tb]? = some (.cells #[old] 53)) := hb
  clear hb
  have HH : Hid ((w.alloc (.cells #[e, left] 60)).heap[tb]? = some (.cells #[old] 53)) := HB
  clear HB
  go_enter Tryd.func69, Tryd.ntmps69
  go_wp2_with (go_at_call 75; refine (take_Noted_yes vb _ old tb _ ha HH.out).mono ?_; rintro r w1 ⟨rfl, rfl⟩)
  go_ret
  exact ⟨rfl, ((Ext.alloc w _).apart tb).trans (Apart.set _ _ _ _), Boxed.set (.pointer (some ⟨vb, 0, none⟩)) HH.out⟩
set_option maxRecDepth 100000 in
theorem chainAs_Noted_no (e left v p : Value) (w : World) (ha : Asks 53 e v false) :
    Calls Tryd.prog 69 #[.agg #[e, left], .iface 62 p] w fun r w' => r = .returned (.bool false) ∧ Ext w w' := by
  go_enter Tryd.func69, Tryd.ntmps69
  go_wp2_with (go_at_call 75; refine (take_Noted_no _ v _ _ ha).mono ?_; rintro r w1 ⟨rfl, rfl⟩)
  go_ret
  exact ⟨rfl, Ext.alloc _ _⟩

end Go.Proofs.YtflcmdjekmmkkabDoor
