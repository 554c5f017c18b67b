/-
  A chain asked by errors.As: what it unwraps to; whether its first error has an ability, and what is laid at the target then.
-/
import Derived.Test.YtaodkfchmaendaaGreatDoorEChain
import Derived.RangeFuncBox
namespace Go.Proofs.YtaodkfchmaendaaGreatDoor.Er
open Go.RowKit
attribute [local go_sem] isNCoded isNLocated isNRaised isNLacking isNUnw isNAsI isNUnws isNNoted isCCoded isCLocated isCRaised isCLacking isCUnw isCAsI isCUnws isCNoted isLCoded isLLocated isLRaised isLLacking isLUnw isLAsI isLUnws isLNoted isKCoded isKLocated isKRaised isKLacking isKUnw isKAsI isKUnws isKNoted isHCoded isHLocated isHRaised isHLacking isHUnw isHAsI isHUnws isHNoted toCodedCoded toCodedLocated toCodedRaised toCodedLacking toCodedNoted toLocatedCoded toLocatedLocated toLocatedRaised toLocatedLacking toLocatedNoted toRaisedCoded toRaisedLocated toRaisedRaised toRaisedLacking toRaisedNoted toLackingCoded toLackingLocated toLackingRaised toLackingLacking toLackingNoted toNotedCoded toNotedLocated toNotedRaised toNotedLacking toNotedNoted mNUnwrap mNError mCCode mCError mLCode mLWhere mLError mKCode mKWhere mKLacks mKError mHAs mHUnwrap


/-- Nothing that lay there has turned but the block T. -/
structure Apart (T : Nat) (w w' : World) : Prop where
  os : w'.os = w.os
  tape : w'.tape = w.tape
  output : w'.output = w.output
  size : w.heap.size ≤ w'.heap.size
  block : ∀ k, k < w.heap.size → k ≠ T → w'.heap[k]? = w.heap[k]?
theorem Ext.apart {w w' : World} (h : Ext w w') (T : Nat) : Apart T w w' := ⟨h.os, h.tape, h.output, h.size, fun k hk _ => Below.block h k hk⟩
theorem Apart.trans {T : Nat} {a b c : World} (h : Apart T a b) (k : Apart T b c) : Apart T a c :=
  ⟨k.os.trans h.os, k.tape.trans h.tape, k.output.trans h.output, Nat.le_trans h.size k.size, fun i hi hT => (k.block i (Nat.lt_of_lt_of_le hi h.size) hT).trans (h.block i hi hT)⟩
theorem Apart.set (w : World) (T i : Nat) (v : Value) : Apart T w (w.setCell ⟨T, i, none⟩ v) := by
  have h := Below.setCell (Below.refl 0 w) (p := ⟨T, i, none⟩) (Nat.zero_le _) v
  exact ⟨h.os, h.tape, h.output, h.size, fun k _ hk => Below.heap_setCell w ⟨T, i, none⟩ v k hk⟩
theorem Apart.ext {w0 w w' : World} {T : Nat} (ha : Apart T w w') (h : Ext w0 w) (hT : w0.heap.size ≤ T) : Ext w0 w' :=
  ⟨ha.os.trans h.os, ha.tape.trans h.tape, ha.output.trans h.output, Nat.le_trans h.size ha.size, fun k hk => (ha.block k (Nat.lt_of_lt_of_le hk h.size) (by omega)).trans (Below.block h k hk)⟩

/-- An assertion of e to the type X gives v, and whether it holds. -/
def Asks (X : TypeId) (e v : Value) (b : Bool) : Prop := ∀ w : World, (Instr.typeAssert e 41 X true).run Tryz.prog w = .ok (.tuple #[v, .bool b]) w

set_option maxRecDepth 100000 in
set_option maxHeartbeats 800000 in
theorem chain_unwrap_end (e : Value) (left : Int) (w : World) (hl : left ≤ 1) :
    Calls Tryz.prog 165 #[.agg #[e, .int .i64 left]] w fun r w' => r = .returned (.nilIface) ∧ Ext w w' := by
  go_enter Tryz.func165, Tryz.ntmps165
  go_wp2_with (go_at_call 171; refine (rest_end e left _ hl).mono ?_; rintro r w1 ⟨rfl, hx⟩)
  go_ret
  exact ⟨rfl, ((Ext.alloc _ _).trans hx).trans (by first | exact Ext.refl _ | exact Ext.alloc _ _)⟩

set_option maxRecDepth 100000 in
set_option maxHeartbeats 800000 in
theorem chain_unwrap_nil (e : Value) (left : Int) (w : World) (hl : 1 < left) (hl2 : left ≤ 1024) (hu : Unwraps w e .nilIface) :
    Calls Tryz.prog 165 #[.agg #[e, .int .i64 left]] w fun r w' => r = .returned (.nilIface) ∧ Ext w w' := by
  have HU : Hid (Unwraps w e .nilIface) := hu
  clear hu
  go_enter Tryz.func165, Tryz.ntmps165
  go_wp2_with (go_at_call 171; refine (rest_nil e left _ hl hl2 (HU.out.later (Ext.alloc _ _))).mono ?_; rintro r w1 ⟨rfl, hx⟩)
  go_ret
  exact ⟨rfl, ((Ext.alloc _ _).trans hx).trans (by first | exact Ext.refl _ | exact Ext.alloc _ _)⟩

set_option maxRecDepth 100000 in
set_option maxHeartbeats 800000 in
theorem chain_unwrap_some (e : Value) (t : TypeId) (v : Value) (left : Int) (w : World) (hl : 1 < left) (hl2 : left ≤ 1024) (hu : Unwraps w e (.iface t v)) :
    Calls Tryz.prog 165 #[.agg #[e, .int .i64 left]] w fun r w' => r = .returned (.iface 127 (.agg #[.iface t v, .int .i64 (left - 1)])) ∧ Ext w w' := by
  have HU : Hid (Unwraps w e (.iface t v)) := hu
  clear hu
  go_enter Tryz.func165, Tryz.ntmps165
  go_wp2_with (go_at_call 171; refine (rest_some t v e left _ hl hl2 (HU.out.later (Ext.alloc _ _))).mono ?_; rintro r w1 ⟨rfl, hx⟩)
  go_ret
  exact ⟨rfl, ((Ext.alloc _ _).trans hx).trans (by first | exact Ext.refl _ | exact Ext.alloc _ _)⟩

theorem take_Coded_yes (t : TypeId) (x : Value) (e old : Value) (tb : Nat) (w : World) (ha : Asks 124 e (.iface t x) true) (hb : w.heap[tb]? = some (.cells #[old] 124)) :
    Calls Tryz.prog 166 #[e, .pointer (some ⟨tb, 0, none⟩)] w fun r w' => r = .returned (.bool true) ∧ w' = w.setCell ⟨tb, 0, none⟩ (.iface t x) := by
  have hq : ∀ w : World, (Instr.typeAssert e 41 124 true).run Tryz.prog w = .ok (.tuple #[(.iface t x), .bool true]) w := ha
  have c0 : w.cell? ⟨tb, 0, none⟩ = some old := cell_of hb rfl
  have f0 : w.frozen? ⟨tb, 0, none⟩ = false := frozen_of hb
  clear ha hb
  go_enter Tryz.func166, Tryz.ntmps166
  go_wp2
  go_ret
  exact ⟨rfl, rfl⟩
theorem take_Coded_no (e v p : Value) (w : World) (ha : Asks 124 e v false) :
    Calls Tryz.prog 166 #[e, p] w fun r w' => r = .returned (.bool false) ∧ w' = w := by
  have hq : ∀ w : World, (Instr.typeAssert e 41 124 true).run Tryz.prog w = .ok (.tuple #[v, .bool false]) w := ha
  clear ha
  go_enter Tryz.func166, Tryz.ntmps166
  go_wp2
  go_ret
  exact ⟨rfl, rfl⟩
set_option maxRecDepth 100000 in
theorem chainAs_Coded_yes (t : TypeId) (x : Value) (e left old : Value) (tb : Nat) (w : World) (ha : Asks 124 e (.iface t x) true) (hb : w.heap[tb]? = some (.cells #[old] 124)) :
    Calls Tryz.prog 164 #[.agg #[e, left], .iface 129 (.pointer (some ⟨tb, 0, none⟩))] w fun r w' => r = .returned (.bool true) ∧ Apart tb w w' ∧ w'.heap[tb]? = some (.cells #[(.iface t x)] 124) := by
  have HB := blkOld (.cells #[e, left] 127) hb
  have HB' : Hid (w.heap[tb]? = some (.cells #[old] 124)) := hb
  clear hb
  have HH : Hid ((w.alloc (.cells #[e, left] 127)).heap[tb]? = some (.cells #[old] 124)) := HB
  clear HB
  go_enter Tryz.func164, Tryz.ntmps164
  go_wp2_with (go_at_call 166; refine (take_Coded_yes t x _ old tb _ ha HH.out).mono ?_; rintro r w1 ⟨rfl, rfl⟩)
  go_ret
  exact ⟨rfl, ((Ext.alloc w _).apart tb).trans (Apart.set _ _ _ _), Boxed.set (.iface t x) HH.out⟩
set_option maxRecDepth 100000 in
theorem chainAs_Coded_no (e left v p : Value) (w : World) (ha : Asks 124 e v false) :
    Calls Tryz.prog 164 #[.agg #[e, left], .iface 129 p] w fun r w' => r = .returned (.bool false) ∧ Ext w w' := by
  go_enter Tryz.func164, Tryz.ntmps164
  go_wp2_with (go_at_call 166; refine (take_Coded_no _ v _ _ ha).mono ?_; rintro r w1 ⟨rfl, rfl⟩)
  go_ret
  exact ⟨rfl, Ext.alloc _ _⟩

theorem take_Located_yes (t : TypeId) (x : Value) (e old : Value) (tb : Nat) (w : World) (ha : Asks 158 e (.iface t x) true) (hb : w.heap[tb]? = some (.cells #[old] 158)) :
    Calls Tryz.prog 167 #[e, .pointer (some ⟨tb, 0, none⟩)] w fun r w' => r = .returned (.bool true) ∧ w' = w.setCell ⟨tb, 0, none⟩ (.iface t x) := by
  have hq : ∀ w : World, (Instr.typeAssert e 41 158 true).run Tryz.prog w = .ok (.tuple #[(.iface t x), .bool true]) w := ha
  have c0 : w.cell? ⟨tb, 0, none⟩ = some old := cell_of hb rfl
  have f0 : w.frozen? ⟨tb, 0, none⟩ = false := frozen_of hb
  clear ha hb
  go_enter Tryz.func167, Tryz.ntmps167
  go_wp2
  go_ret
  exact ⟨rfl, rfl⟩
theorem take_Located_no (e v p : Value) (w : World) (ha : Asks 158 e v false) :
    Calls Tryz.prog 167 #[e, p] w fun r w' => r = .returned (.bool false) ∧ w' = w := by
  have hq : ∀ w : World, (Instr.typeAssert e 41 158 true).run Tryz.prog w = .ok (.tuple #[v, .bool false]) w := ha
  clear ha
  go_enter Tryz.func167, Tryz.ntmps167
  go_wp2
  go_ret
  exact ⟨rfl, rfl⟩
set_option maxRecDepth 100000 in
theorem chainAs_Located_yes (t : TypeId) (x : Value) (e left old : Value) (tb : Nat) (w : World) (ha : Asks 158 e (.iface t x) true) (hb : w.heap[tb]? = some (.cells #[old] 158)) :
    Calls Tryz.prog 164 #[.agg #[e, left], .iface 311 (.pointer (some ⟨tb, 0, none⟩))] w fun r w' => r = .returned (.bool true) ∧ Apart tb w w' ∧ w'.heap[tb]? = some (.cells #[(.iface t x)] 158) := by
  have HB := blkOld (.cells #[e, left] 127) hb
  have HB' : Hid (w.heap[tb]? = some (.cells #[old] 158)) := hb
  clear hb
  have HH : Hid ((w.alloc (.cells #[e, left] 127)).heap[tb]? = some (.cells #[old] 158)) := HB
  clear HB
  go_enter Tryz.func164, Tryz.ntmps164
  go_wp2_with (go_at_call 167; refine (take_Located_yes t x _ old tb _ ha HH.out).mono ?_; rintro r w1 ⟨rfl, rfl⟩)
  go_ret
  exact ⟨rfl, ((Ext.alloc w _).apart tb).trans (Apart.set _ _ _ _), Boxed.set (.iface t x) HH.out⟩
set_option maxRecDepth 100000 in
theorem chainAs_Located_no (e left v p : Value) (w : World) (ha : Asks 158 e v false) :
    Calls Tryz.prog 164 #[.agg #[e, left], .iface 311 p] w fun r w' => r = .returned (.bool false) ∧ Ext w w' := by
  go_enter Tryz.func164, Tryz.ntmps164
  go_wp2_with (go_at_call 167; refine (take_Located_no _ v _ _ ha).mono ?_; rintro r w1 ⟨rfl, rfl⟩)
  go_ret
  exact ⟨rfl, Ext.alloc _ _⟩

theorem take_Raised_yes (t : TypeId) (x : Value) (e old : Value) (tb : Nat) (w : World) (ha : Asks 162 e (.iface t x) true) (hb : w.heap[tb]? = some (.cells #[old] 162)) :
    Calls Tryz.prog 168 #[e, .pointer (some ⟨tb, 0, none⟩)] w fun r w' => r = .returned (.bool true) ∧ w' = w.setCell ⟨tb, 0, none⟩ (.iface t x) := by
  have hq : ∀ w : World, (Instr.typeAssert e 41 162 true).run Tryz.prog w = .ok (.tuple #[(.iface t x), .bool true]) w := ha
  have c0 : w.cell? ⟨tb, 0, none⟩ = some old := cell_of hb rfl
  have f0 : w.frozen? ⟨tb, 0, none⟩ = false := frozen_of hb
  clear ha hb
  go_enter Tryz.func168, Tryz.ntmps168
  go_wp2
  go_ret
  exact ⟨rfl, rfl⟩
theorem take_Raised_no (e v p : Value) (w : World) (ha : Asks 162 e v false) :
    Calls Tryz.prog 168 #[e, p] w fun r w' => r = .returned (.bool false) ∧ w' = w := by
  have hq : ∀ w : World, (Instr.typeAssert e 41 162 true).run Tryz.prog w = .ok (.tuple #[v, .bool false]) w := ha
  clear ha
  go_enter Tryz.func168, Tryz.ntmps168
  go_wp2
  go_ret
  exact ⟨rfl, rfl⟩
set_option maxRecDepth 100000 in
theorem chainAs_Raised_yes (t : TypeId) (x : Value) (e left old : Value) (tb : Nat) (w : World) (ha : Asks 162 e (.iface t x) true) (hb : w.heap[tb]? = some (.cells #[old] 162)) :
    Calls Tryz.prog 164 #[.agg #[e, left], .iface 313 (.pointer (some ⟨tb, 0, none⟩))] w fun r w' => r = .returned (.bool true) ∧ Apart tb w w' ∧ w'.heap[tb]? = some (.cells #[(.iface t x)] 162) := by
  have HB := blkOld (.cells #[e, left] 127) hb
  have HB' : Hid (w.heap[tb]? = some (.cells #[old] 162)) := hb
  clear hb
  have HH : Hid ((w.alloc (.cells #[e, left] 127)).heap[tb]? = some (.cells #[old] 162)) := HB
  clear HB
  go_enter Tryz.func164, Tryz.ntmps164
  go_wp2_with (go_at_call 168; refine (take_Raised_yes t x _ old tb _ ha HH.out).mono ?_; rintro r w1 ⟨rfl, rfl⟩)
  go_ret
  exact ⟨rfl, ((Ext.alloc w _).apart tb).trans (Apart.set _ _ _ _), Boxed.set (.iface t x) HH.out⟩
set_option maxRecDepth 100000 in
theorem chainAs_Raised_no (e left v p : Value) (w : World) (ha : Asks 162 e v false) :
    Calls Tryz.prog 164 #[.agg #[e, left], .iface 313 p] w fun r w' => r = .returned (.bool false) ∧ Ext w w' := by
  go_enter Tryz.func164, Tryz.ntmps164
  go_wp2_with (go_at_call 168; refine (take_Raised_no _ v _ _ ha).mono ?_; rintro r w1 ⟨rfl, rfl⟩)
  go_ret
  exact ⟨rfl, Ext.alloc _ _⟩

theorem take_Lacking_yes (t : TypeId) (x : Value) (e old : Value) (tb : Nat) (w : World) (ha : Asks 165 e (.iface t x) true) (hb : w.heap[tb]? = some (.cells #[old] 165)) :
    Calls Tryz.prog 169 #[e, .pointer (some ⟨tb, 0, none⟩)] w fun r w' => r = .returned (.bool true) ∧ w' = w.setCell ⟨tb, 0, none⟩ (.iface t x) := by
  have hq : ∀ w : World, (Instr.typeAssert e 41 165 true).run Tryz.prog w = .ok (.tuple #[(.iface t x), .bool true]) w := ha
  have c0 : w.cell? ⟨tb, 0, none⟩ = some old := cell_of hb rfl
  have f0 : w.frozen? ⟨tb, 0, none⟩ = false := frozen_of hb
  clear ha hb
  go_enter Tryz.func169, Tryz.ntmps169
  go_wp2
  go_ret
  exact ⟨rfl, rfl⟩
theorem take_Lacking_no (e v p : Value) (w : World) (ha : Asks 165 e v false) :
    Calls Tryz.prog 169 #[e, p] w fun r w' => r = .returned (.bool false) ∧ w' = w := by
  have hq : ∀ w : World, (Instr.typeAssert e 41 165 true).run Tryz.prog w = .ok (.tuple #[v, .bool false]) w := ha
  clear ha
  go_enter Tryz.func169, Tryz.ntmps169
  go_wp2
  go_ret
  exact ⟨rfl, rfl⟩
set_option maxRecDepth 100000 in
theorem chainAs_Lacking_yes (t : TypeId) (x : Value) (e left old : Value) (tb : Nat) (w : World) (ha : Asks 165 e (.iface t x) true) (hb : w.heap[tb]? = some (.cells #[old] 165)) :
    Calls Tryz.prog 164 #[.agg #[e, left], .iface 315 (.pointer (some ⟨tb, 0, none⟩))] w fun r w' => r = .returned (.bool true) ∧ Apart tb w w' ∧ w'.heap[tb]? = some (.cells #[(.iface t x)] 165) := by
  have HB := blkOld (.cells #[e, left] 127) hb
  have HB' : Hid (w.heap[tb]? = some (.cells #[old] 165)) := hb
  clear hb
  have HH : Hid ((w.alloc (.cells #[e, left] 127)).heap[tb]? = some (.cells #[old] 165)) := HB
  clear HB
  go_enter Tryz.func164, Tryz.ntmps164
  go_wp2_with (go_at_call 169; refine (take_Lacking_yes t x _ old tb _ ha HH.out).mono ?_; rintro r w1 ⟨rfl, rfl⟩)
  go_ret
  exact ⟨rfl, ((Ext.alloc w _).apart tb).trans (Apart.set _ _ _ _), Boxed.set (.iface t x) HH.out⟩
set_option maxRecDepth 100000 in
theorem chainAs_Lacking_no (e left v p : Value) (w : World) (ha : Asks 165 e v false) :
    Calls Tryz.prog 164 #[.agg #[e, left], .iface 315 p] w fun r w' => r = .returned (.bool false) ∧ Ext w w' := by
  go_enter Tryz.func164, Tryz.ntmps164
  go_wp2_with (go_at_call 169; refine (take_Lacking_no _ v _ _ ha).mono ?_; rintro r w1 ⟨rfl, rfl⟩)
  go_ret
  exact ⟨rfl, Ext.alloc _ _⟩

theorem take_Noted_yes (vb : Nat) (e old : Value) (tb : Nat) (w : World) (ha : Asks 319 e (.pointer (some ⟨vb, 0, none⟩)) true) (hb : w.heap[tb]? = some (.cells #[old] 319)) :
    Calls Tryz.prog 170 #[e, .pointer (some ⟨tb, 0, none⟩)] w fun r w' => r = .returned (.bool true) ∧ w' = w.setCell ⟨tb, 0, none⟩ (.pointer (some ⟨vb, 0, none⟩)) := by
  have hq : ∀ w : World, (Instr.typeAssert e 41 319 true).run Tryz.prog w = .ok (.tuple #[(.pointer (some ⟨vb, 0, none⟩)), .bool true]) w := ha
  have c0 : w.cell? ⟨tb, 0, none⟩ = some old := cell_of hb rfl
  have f0 : w.frozen? ⟨tb, 0, none⟩ = false := frozen_of hb
  clear ha hb
  go_enter Tryz.func170, Tryz.ntmps170
  go_wp2
  go_ret
  exact ⟨rfl, rfl⟩
theorem take_Noted_no (e v p : Value) (w : World) (ha : Asks 319 e v false) :
    Calls Tryz.prog 170 #[e, p] w fun r w' => r = .returned (.bool false) ∧ w' = w := by
  have hq : ∀ w : World, (Instr.typeAssert e 41 319 true).run Tryz.prog w = .ok (.tuple #[v, .bool false]) w := ha
  clear ha
  go_enter Tryz.func170, Tryz.ntmps170
  go_wp2
  go_ret
  exact ⟨rfl, rfl⟩
set_option maxRecDepth 100000 in
theorem chainAs_Noted_yes (vb : Nat) (e left old : Value) (tb : Nat) (w : World) (ha : Asks 319 e (.pointer (some ⟨vb, 0, none⟩)) true) (hb : w.heap[tb]? = some (.cells #[old] 319)) :
    Calls Tryz.prog 164 #[.agg #[e, left], .iface 317 (.pointer (some ⟨tb, 0, none⟩))] w fun r w' => r = .returned (.bool true) ∧ Apart tb w w' ∧ w'.heap[tb]? = some (.cells #[(.pointer (some ⟨vb, 0, none⟩))] 319) := by
  have HB := blkOld (.cells #[e, left] 127) hb
  have HB' : Hid (w.heap[tb]? = some (.cells #[old] 319)) := hb
  clear hb
  have HH : Hid ((w.alloc (.cells #[e, left] 127)).heap[tb]? = some (.cells #[old] 319)) := HB
  clear HB
  go_enter Tryz.func164, Tryz.ntmps164
  go_wp2_with (go_at_call 170; refine (take_Noted_yes vb _ old tb _ ha HH.out).mono ?_; rintro r w1 ⟨rfl, rfl⟩)
  go_ret
  exact ⟨rfl, ((Ext.alloc w _).apart tb).trans (Apart.set _ _ _ _), Boxed.set (.pointer (some ⟨vb, 0, none⟩)) HH.out⟩
set_option maxRecDepth 100000 in
theorem chainAs_Noted_no (e left v p : Value) (w : World) (ha : Asks 319 e v false) :
    Calls Tryz.prog 164 #[.agg #[e, left], .iface 317 p] w fun r w' => r = .returned (.bool false) ∧ Ext w w' := by
  go_enter Tryz.func164, Tryz.ntmps164
  go_wp2_with (go_at_call 170; refine (take_Noted_no _ v _ _ ha).mono ?_; rintro r w1 ⟨rfl, rfl⟩)
  go_ret
  exact ⟨rfl, Ext.alloc _ _⟩

end Go.Proofs.YtaodkfchmaendaaGreatDoor.Er
