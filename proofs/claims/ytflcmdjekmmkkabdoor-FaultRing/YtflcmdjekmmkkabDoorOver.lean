/-
  Errors with notes around them: fault.Wrap, by the notes that are there already.
-/
import Derived.Test.YtflcmdjekmmkkabDoorNotes
import Derived.Test.YtflcmdjekmmkkabDoorMade
namespace Go.Proofs.YtflcmdjekmmkkabDoor
open Go.RowKit Go.Shelf
attribute [local go_sem] isNCoded isNLocated isNRaised isNLacking isNUnw isNAsI isNUnws isNNoted isGCoded isGLocated isGRaised isGLacking isGUnw isGAsI isGUnws isGNoted isCCoded isCLocated isCRaised isCLacking isCUnw isCAsI isCUnws isCNoted isLCoded isLLocated isLRaised isLLacking isLUnw isLAsI isLUnws isLNoted isRCoded isRLocated isRRaised isRLacking isRUnw isRAsI isRUnws isRNoted isHCoded isHLocated isHRaised isHLacking isHUnw isHAsI isHUnws isHNoted isOCoded isOLocated isORaised isOLacking isOUnw isOAsI isOUnws isONoted toCodedCoded toCodedLocated toCodedRaised toCodedLacking toCodedNoted toLocatedCoded toLocatedLocated toLocatedRaised toLocatedLacking toLocatedNoted toRaisedCoded toRaisedLocated toRaisedRaised toRaisedLacking toRaisedNoted toLackingCoded toLackingLocated toLackingRaised toLackingLacking toLackingNoted toNotedCoded toNotedLocated toNotedRaised toNotedLacking toNotedNoted mNUnwrap mNError mCCode mCError mLCode mLWhere mLError mRCode mRWhere mRSaid mRError mOUnwrap mGUnwrap mGError mHAs mHUnwrap

/-- The errors along Unwrap from es 0 on, m of them, and which of them are notes. -/
structure Chain (w : World) (m : Nat) (es : Nat → Value) (ns : Nat → Option ByteArray) : Prop where
  pos : 1 ≤ m
  le : m ≤ 1024
  fin : m = 1024 ∨ es m = .nilIface
  unw : ∀ i, i < m → i + 1 < 1024 → Unwraps w (es i) (es (i + 1))
  kind : ∀ i, i < m → (∃ b u n, es i = .iface 53 (.pointer (some ⟨b, 0, none⟩)) ∧ NotedAt w b u n ∧ ns i = some n) ∨ (∃ t v, es i = .iface t v ∧ Asks 53 (es i) (.pointer none) false ∧ ns i = Option.none)
theorem Chain.later {w w' : World} {m : Nat} {es : Nat → Value} {ns : Nat → Option ByteArray} (h : Chain w m es ns) (hx : Ext w w') : Chain w' m es ns :=
  ⟨h.pos, h.le, h.fin, fun i a b => (h.unw i a b).later hx, fun i a => by
    rcases h.kind i a with ⟨b, u, n, h1, h2, h3⟩ | h'
    · exact .inl ⟨b, u, n, h1, hx.block h2, h3⟩
    · exact .inr h'⟩
/-- One ahead. -/
def ahead {α : Type} (x : α) (f : Nat → α) : Nat → α
  | 0 => x
  | i + 1 => f i
theorem Chain.cons {w : World} {m : Nat} {es : Nat → Value} {ns : Nat → Option ByteArray} (h : Chain w m es ns) {b : Nat} {n : ByteArray} (hb : NotedAt w b (es 0) n) (hm : m < 1024) :
    Chain w (m + 1) (ahead (.iface 53 (.pointer (some ⟨b, 0, none⟩))) es) (ahead (some n) ns) := by
  refine ⟨Nat.succ_pos _, hm, ?_, ?_, ?_⟩
  · rcases h.fin with h' | h'
    · omega
    · exact .inr h'
  · intro i hi h1
    cases i with
    | zero => exact unwraps_noted b _ n w hb
    | succ i => exact h.unw i (by omega) (by omega)
  · intro i hi
    cases i with
    | zero => exact .inl ⟨b, es 0, n, rfl, hb, rfl⟩
    | succ i => exact h.kind i (by omega)
theorem notedTo_cons (n : ByteArray) (ns : Nat → Option ByteArray) : ∀ m, notedTo (ahead (some n) ns) (m + 1) = .string n :: notedTo ns m
  | 0 => rfl
  | m + 1 => by
    have ih := notedTo_cons n ns m
    show notedTo (ahead (some n) ns) (m + 1) ++ _ = _
    rw [ih]
    rfl
theorem ownsRow_len {w : World} {base : Nat} {e : TypeId} {v : Value} {n : Nat} {xs : List Value} (h : w.ownsRow base e 1 v n xs) : ∃ a c, v = .slice a n c := by
  rcases h.2 with ⟨rfl, rfl⟩ | ⟨g, cap, cur, rfl, _⟩
  · exact ⟨_, _, rfl⟩
  · exact ⟨_, _, rfl⟩

theorem notes_calls (m : Nat) (es : Nat → Value) (ns : Nat → Option ByteArray) (w : World) (hG : Laid w) (h : Chain w m es ns) :
    Calls Tryd.prog 6 #[es 0] w fun r w' => ∃ v, r = .returned v ∧ w'.ownsRow w.heap.size 9 1 v (notedTo ns m).length (notedTo ns m) ∧ Ext w w' :=
  callsIn_wide.1 (notes_any m es ns w hG h.pos h.le h.fin h.unw h.kind)
theorem wrap_nil (nt : ByteArray) (w : World) : Calls Tryd.prog 5 #[.nilIface, .string nt] w fun r w' => r = .returned .nilIface ∧ w' = w := by
  go_enter Tryd.func5, Tryd.ntmps5
  go_wp2
  go_ret
  exact ⟨rfl, rfl⟩
set_option maxRecDepth 100000 in
set_option maxHeartbeats 1000000 in
theorem wrap_few (nt : ByteArray) (t0 : TypeId) (v0 : Value) (m : Nat) (es : Nat → Value) (ns : Nat → Option ByteArray) (w : World) (hG : Laid w) (h : Chain w m es ns) (he : es 0 = .iface t0 v0) (hl : (notedTo ns m).length < 64) :
    Calls Tryd.prog 5 #[.iface t0 v0, .string nt] w fun r w' => ∃ b, r = .returned (.iface 53 (.pointer (some ⟨b, 0, none⟩))) ∧ w.heap.size ≤ b ∧ NotedAt w' b (.iface t0 v0) nt ∧ Ext w w' := by
  have HC := notes_calls m es ns w hG h
  rw [he] at HC
  have HD : Hid (Calls Tryd.prog 6 #[.iface t0 v0] w fun r w' => ∃ v, r = .returned v ∧ w'.ownsRow w.heap.size 9 1 v (notedTo ns m).length (notedTo ns m) ∧ Ext w w') := HC
  clear HC h he hG
  have hl' : ((notedTo ns m).length : Int) < 64 := by omega
  go_enter Tryd.func5, Tryd.ntmps5
  go_wp2_with (go_at_call 6; refine HD.out.mono ?_; rintro r w1 ⟨v, rfl, ho, hx⟩; obtain ⟨a, c, rfl⟩ := ownsRow_len ho)
  go_ret
  exact ⟨_, rfl, hx.size, blk0 _ _, hx.more _⟩
set_option maxRecDepth 100000 in
set_option maxHeartbeats 1000000 in
theorem wrap_full (nt : ByteArray) (t0 : TypeId) (v0 : Value) (m : Nat) (es : Nat → Value) (ns : Nat → Option ByteArray) (w : World) (hG : Laid w) (h : Chain w m es ns) (he : es 0 = .iface t0 v0) (hl : 64 ≤ (notedTo ns m).length) :
    Calls Tryd.prog 5 #[.iface t0 v0, .string nt] w fun r w' => r = .returned (.iface t0 v0) ∧ Ext w w' := by
  have HC := notes_calls m es ns w hG h
  rw [he] at HC
  have HD : Hid (Calls Tryd.prog 6 #[.iface t0 v0] w fun r w' => ∃ v, r = .returned v ∧ w'.ownsRow w.heap.size 9 1 v (notedTo ns m).length (notedTo ns m) ∧ Ext w w') := HC
  clear HC h he hG
  have hl' : 64 ≤ ((notedTo ns m).length : Int) := by omega
  go_enter Tryd.func5, Tryd.ntmps5
  go_wp2_with (go_at_call 6; refine HD.out.mono ?_; rintro r w1 ⟨v, rfl, ho, hx⟩; obtain ⟨a, c, rfl⟩ := ownsRow_len ho)
  go_ret
  exact ⟨rfl, hx⟩

theorem chain_C (b : Nat) (w : World) : Chain w 1 (ahead (.iface 87 (.pointer (some ⟨b, 0, none⟩))) (fun _ => .nilIface)) (fun _ => Option.none) := by
  refine ⟨Nat.le_refl _, by decide, .inr rfl, ?_, ?_⟩
  · intro i hi _
    obtain rfl : i = 0 := by omega
    exact unwraps_C _ w
  · intro i hi
    obtain rfl : i = 0 := by omega
    exact .inr ⟨_, _, rfl, fun w => isCNoted _ _ _, rfl⟩
theorem chain_L (b : Nat) (w : World) : Chain w 1 (ahead (.iface 86 (.pointer (some ⟨b, 0, none⟩))) (fun _ => .nilIface)) (fun _ => Option.none) := by
  refine ⟨Nat.le_refl _, by decide, .inr rfl, ?_, ?_⟩
  · intro i hi _
    obtain rfl : i = 0 := by omega
    exact unwraps_L _ w
  · intro i hi
    obtain rfl : i = 0 := by omega
    exact .inr ⟨_, _, rfl, fun w => isLNoted _ _ _, rfl⟩
theorem chain_R (b : Nat) (w : World) : Chain w 1 (ahead (.iface 88 (.pointer (some ⟨b, 0, none⟩))) (fun _ => .nilIface)) (fun _ => Option.none) := by
  refine ⟨Nat.le_refl _, by decide, .inr rfl, ?_, ?_⟩
  · intro i hi _
    obtain rfl : i = 0 := by omega
    exact unwraps_R _ w
  · intro i hi
    obtain rfl : i = 0 := by omega
    exact .inr ⟨_, _, rfl, fun w => isRNoted _ _ _, rfl⟩
end Go.Proofs.YtflcmdjekmmkkabDoor
