/-
  An error of the statements, with notes around it, or none; what it tells; fault.Same of two such.
-/
import Derived.Test.YtflcmdjekmmkkaaGreatDoorTellAny
import Derived.Test.YtflcmdjekmmkkaaGreatDoorTellC
import Derived.Test.YtflcmdjekmmkkaaGreatDoorTellR
import Derived.Test.YtflcmdjekmmkkaaGreatDoorTellK
import Derived.Test.YtflcmdjekmmkkaaGreatDoorRefSame
import Derived.Test.YtflcmdjekmmkkaaGreatDoorMake
import Derived.Test.YtflcmdjekmmkkaaGreatDoorFound
namespace Go.Proofs.YtflcmdjekmmkkaaGreatDoor
open Go.RowKit Go.Shelf
attribute [local go_sem] isNCoded isNLocated isNRaised isNLacking isNUnw isNAsI isNUnws isNNoted isGCoded isGLocated isGRaised isGLacking isGUnw isGAsI isGUnws isGNoted isCCoded isCLocated isCRaised isCLacking isCUnw isCAsI isCUnws isCNoted isLCoded isLLocated isLRaised isLLacking isLUnw isLAsI isLUnws isLNoted isRCoded isRLocated isRRaised isRLacking isRUnw isRAsI isRUnws isRNoted isKCoded isKLocated isKRaised isKLacking isKUnw isKAsI isKUnws isKNoted isHCoded isHLocated isHRaised isHLacking isHUnw isHAsI isHUnws isHNoted toCodedCoded toCodedLocated toCodedRaised toCodedLacking toCodedNoted toLocatedCoded toLocatedLocated toLocatedRaised toLocatedLacking toLocatedNoted toRaisedCoded toRaisedLocated toRaisedRaised toRaisedLacking toRaisedNoted toLackingCoded toLackingLocated toLackingRaised toLackingLacking toLackingNoted toNotedCoded toNotedLocated toNotedRaised toNotedLacking toNotedNoted mNUnwrap mNError mCCode mCError mLCode mLWhere mLError mRCode mRWhere mRSaid mRError mKCode mKWhere mKLacks mKError mGUnwrap mGError mHAs mHUnwrap
/-- All that an error tells. -/
structure TD where
  co : Int
  lo : Bool
  ra : Bool
  la : Bool
  fu : ByteArray
  sa : ByteArray
  ki : ByteArray
  ab : ByteArray
  xs : List Int
/-- They tell the same. -/
abbrev TD.eqv (a b : TD) : Prop := (a.co = b.co ∧ a.lo = b.lo ∧ a.ra = b.ra ∧ a.la = b.la ∧ a.fu = b.fu ∧ a.sa = b.sa ∧ a.ki = b.ki ∧ a.ab = b.ab) ∧ a.xs = b.xs
/-- Two errors, or none, are the same. -/
def sameB : Option TD → Option TD → Bool
  | none, none => true
  | some a, some b => decide (TD.eqv a b)
  | _, _ => false
theorem sameB_symm (a b : Option TD) : sameB a b = sameB b a := by
  cases a <;> cases b <;> simp [sameB, TD.eqv, eq_comm]
theorem sameB_self (a : Option TD) : sameB a a = true := by
  cases a <;> simp [sameB, TD.eqv]

/-- What tell answers, in whatever later world. -/
def Tells (w : World) (e : Value) (d : TD) : Prop :=
  ∀ w1, Ext w w1 → Calls Tryz.prog 38 #[e] w1 fun r w' => ∃ v', r = .returned (.tuple #[.agg #[.int .i64 d.co, .bool d.lo, .bool d.ra, .bool d.la, .string d.fu, .string d.sa, .string d.ki, .string d.ab, v'], .bool true]) ∧ w'.ownsRow w1.heap.size 3 1 v' d.xs.length (d.xs.map (Value.int .i64)) ∧ Ext w1 w'
theorem Tells.later {w w' : World} {e : Value} {d : TD} (h : Tells w e d) (hx : Ext w w') : Tells w' e d := fun w1 h1 => h w1 (hx.trans h1)
set_option maxRecDepth 100000 in
set_option maxHeartbeats 2000000 in
theorem same_DD (t0 : TypeId) (v0 : Value) (t1 : TypeId) (v1 : Value) (d0 d1 : TD) (w : World) (hb : d0.xs.length * 8 ≤ 140737488355328) (h0 : Tells w (.iface t0 v0) d0) (h1 : Tells w (.iface t1 v1) d1) :
    Calls Tryz.prog 19 #[.iface t0 v0, .iface t1 v1] w fun r w' => r = .returned (.bool (decide (TD.eqv d0 d1))) ∧ Ext w w' := by
  have H0 : Hid (Tells w (.iface t0 v0) d0) := h0
  have H1 : Hid (Tells w (.iface t1 v1) d1) := h1
  clear h0 h1
  obtain ⟨B, hB⟩ : ∃ B, decide (TD.eqv d0 d1) = B := ⟨_, rfl⟩
  have HBq : Hid (decide (TD.eqv d0 d1) = B) := hB
  rw [hB]
  clear hB
  go_enter Tryz.func19, Tryz.ntmps19
  go_wp2_with fail
  refine (H0.out w (Ext.refl _)).mono ?_
  rintro r w1 ⟨u, rfl, ho, hx⟩
  obtain ⟨a', n', c', rfl⟩ := ownsRow_slice ho
  have HI : Hid (Ints w1 (.slice a' n' c') d0.xs) := Ints.own ho
  have HX : Hid (Ext w w1) := hx
  clear ho hx
  go_wp2_with fail
  refine (H1.out _ (HX.out.more _)).mono ?_
  rintro r w2 ⟨u, rfl, ho, hx⟩
  obtain ⟨a2, n2, c2, rfl⟩ := ownsRow_slice ho
  have HJ : Hid (Ints w2 (.slice a2 n2 c2) d1.xs) := Ints.own ho
  have HX2 : Hid (Ext w1 w2) := (Ext.alloc _ _).trans hx
  have b0 := hx.block (blk0 w1 _)
  have q0 := cell_of (i := 0) b0 rfl
  have q1 := cell_of (i := 1) b0 rfl
  have q2 := cell_of (i := 2) b0 rfl
  have q3 := cell_of (i := 3) b0 rfl
  have q4 := cell_of (i := 4) b0 rfl
  have q5 := cell_of (i := 5) b0 rfl
  have q6 := cell_of (i := 6) b0 rfl
  have q7 := cell_of (i := 7) b0 rfl
  have q8 := cell_of (i := 8) b0 rfl
  simp only [List.getElem_toArray, List.getElem_cons_zero, List.getElem_cons_succ] at q0 q1 q2 q3 q4 q5 q6 q7 q8
  have hlt : w1.heap.size < w2.heap.size := lt_of_block b0
  clear b0 ho hx
  have HS : Hid (∀ w3, Ext w2 w3 → Calls Tryz.prog 39 #[.agg #[.int .i64 d0.co, .bool d0.lo, .bool d0.ra, .bool d0.la, .string d0.fu, .string d0.sa, .string d0.ki, .string d0.ab, (.slice a' n' c')], .agg #[.int .i64 d1.co, .bool d1.lo, .bool d1.ra, .bool d1.la, .string d1.fu, .string d1.sa, .string d1.ki, .string d1.ab, (.slice a2 n2 c2)]] w3 fun r w' => r = .returned (.bool B) ∧ Ext w3 w') := fun w3 h3 => by
    have h : Calls Tryz.prog 39 #[.agg #[.int .i64 d0.co, .bool d0.lo, .bool d0.ra, .bool d0.la, .string d0.fu, .string d0.sa, .string d0.ki, .string d0.ab, (.slice a' n' c')], .agg #[.int .i64 d1.co, .bool d1.lo, .bool d1.ra, .bool d1.la, .string d1.fu, .string d1.sa, .string d1.ki, .string d1.ab, (.slice a2 n2 c2)]] w3 fun r w' => r = .returned (.bool (decide (TD.eqv d0 d1))) ∧ Ext w3 w' := same_any _ _ _ _ _ _ _ _ _ _ _ _ _ _ _ _ a' a2 n' n2 c' c2 d0.xs d1.xs w3 hb (HI.out.later (HX2.out.trans h3)) (HJ.out.later h3)
    rw [HBq.out] at h
    exact h
  go_wp2_with (go_at_call 39; refine (HS.out _ (Ext.alloc _ _)).mono ?_; rintro r w3 ⟨rfl, hx3⟩)
  go_ret
  exact ⟨rfl, (HX.out.trans HX2.out).trans ((Ext.alloc _ _).trans hx3)⟩
theorem same_nn (w : World) : Calls Tryz.prog 19 #[.nilIface, .nilIface] w fun r w' => r = .returned (.bool true) ∧ w' = w := by
  go_enter Tryz.func19, Tryz.ntmps19
  go_wp2
  go_ret
  exact ⟨rfl, rfl⟩
theorem same_nf (t0 : TypeId) (v0 : Value) (w : World) : Calls Tryz.prog 19 #[.nilIface, .iface t0 v0] w fun r w' => r = .returned (.bool false) ∧ w' = w := by
  go_enter Tryz.func19, Tryz.ntmps19
  go_wp2
  go_ret
  exact ⟨rfl, rfl⟩
set_option maxRecDepth 100000 in
theorem same_un (t0 : TypeId) (v0 : Value) (t1 : TypeId) (v1 : Value) (w : World) (h : Calls Tryz.prog 38 #[.iface t0 v0] w fun r w' => r = .returned (.tuple #[.agg #[.int .i64 0, .bool false, .bool false, .bool false, .string ByteArray.empty, .string ByteArray.empty, .string ByteArray.empty, .string ByteArray.empty, .slice none 0 0], .bool false]) ∧ Ext w w') :
    Calls Tryz.prog 19 #[.iface t0 v0, .iface t1 v1] w fun r w' => r = .returned (.bool false) ∧ Ext w w' := by
  have H : Hid (Calls Tryz.prog 38 #[.iface t0 v0] w fun r w' => r = .returned (.tuple #[.agg #[.int .i64 0, .bool false, .bool false, .bool false, .string ByteArray.empty, .string ByteArray.empty, .string ByteArray.empty, .string ByteArray.empty, .slice none 0 0], .bool false]) ∧ Ext w w') := h
  clear h
  go_enter Tryz.func19, Tryz.ntmps19
  go_wp2_with fail
  refine H.out.mono ?_
  rintro r w1 ⟨rfl, hx⟩
  go_wp2
  go_ret
  exact ⟨rfl, hx.more _⟩
/-- An error of the statements, or none. -/
def Err (w : World) (e : Value) (od : Option TD) : Prop :=
  (e = .nilIface ∧ od = Option.none) ∨ ∃ (d : TD) (tb : TypeId) (b k : Nat) (es : Nat → Value) (ns : Nat → Option ByteArray), od = some d ∧ d.xs.length * 8 ≤ 140737488355328 ∧ e = es 0 ∧ k ≤ 64 ∧ Wrapped w (.iface tb (.pointer (some ⟨b, 0, none⟩))) k es ns ∧
    TellOfs w (.iface tb (.pointer (some ⟨b, 0, none⟩))) d.co d.lo d.ra d.la d.fu d.sa d.ki d.ab d.xs ∧ Asks 67 (.iface tb (.pointer (some ⟨b, 0, none⟩))) (.iface tb (.pointer (some ⟨b, 0, none⟩))) true
theorem Err.later {w w' : World} {e : Value} {od : Option TD} (h : Err w e od) (hx : Ext w w') : Err w' e od := by
  rcases h with h | ⟨d, tb, b, k, es, ns, h1, h2, h3, h4, h5, h6, h7⟩
  · exact .inl h
  · exact .inr ⟨d, tb, b, k, es, ns, h1, h2, h3, h4, h5.later hx, h6.later hx, h7⟩
theorem wrap_err (nt : ByteArray) (e : Value) (od : Option TD) (w : World) (hG : Laid w) (h : Err w e od) :
    Calls Tryz.prog 13 #[e, .string nt] w fun r w' => ∃ e', r = .returned e' ∧ Err w' e' od ∧ Ext w w' := by
  rcases h with ⟨rfl, rfl⟩ | ⟨d, tb, b, k, es, ns, rfl, h2, rfl, h4, h5, h6, h7⟩
  · exact (wrap_nil nt w).mono (by rintro r w' ⟨rfl, rfl⟩; exact ⟨_, rfl, .inl ⟨rfl, rfl⟩, Ext.refl _⟩)
  · refine (wrap_more nt _ k es ns w hG h4 h5).mono ?_
    rintro r w' ⟨k', es', ns', rfl, h8, h9, hx⟩
    exact ⟨_, rfl, .inr ⟨d, tb, b, k', es', ns', rfl, h2, rfl, h8, h9, h6.later hx, h7⟩, hx⟩
theorem Wrapped.tells {w : World} {tb : TypeId} {b k : Nat} {es : Nat → Value} {ns : Nat → Option ByteArray} {d : TD} (h5 : Wrapped w (.iface tb (.pointer (some ⟨b, 0, none⟩))) k es ns) (h4 : k ≤ 64) (h6 : TellOfs w (.iface tb (.pointer (some ⟨b, 0, none⟩))) d.co d.lo d.ra d.la d.fu d.sa d.ki d.ab d.xs) (h7 : Asks 67 (.iface tb (.pointer (some ⟨b, 0, none⟩))) (.iface tb (.pointer (some ⟨b, 0, none⟩))) true) {t0 : TypeId} {v0 : Value} (he : es 0 = .iface t0 v0) : Tells w (.iface t0 v0) d := by
  intro w1 hx
  have hW := h5.later hx
  refine tell_any t0 v0 k es tb (.pointer (some ⟨b, 0, none⟩)) d.co d.lo d.ra d.la d.fu d.sa d.ki d.ab d.xs w1 (h6.later hx) h7 (by omega) he hW.top ?_ ?_ ?_
  · intro i hi
    obtain ⟨t, b', h⟩ := hW.form (i + 1) hi
    exact ⟨_, _, h⟩
  · intro i hi
    obtain ⟨b', n', h, _⟩ := hW.note i hi
    rw [h]
    exact ⟨_, fun w => isNCoded _ _ _⟩
  · intro i hi
    exact hW.chain.unw i (by omega) (by omega)
theorem same_err (e0 e1 : Value) (o0 o1 : Option TD) (w : World) (h0 : Err w e0 o0) (h1 : Err w e1 o1) :
    Calls Tryz.prog 19 #[e0, e1] w fun r w' => r = .returned (.bool (sameB o0 o1)) ∧ Ext w w' := by
  rcases h0 with ⟨rfl, rfl⟩ | ⟨d, tb, b, k, es, ns, rfl, h2, rfl, h4, h5, h6, h7⟩
  · rcases h1 with ⟨rfl, rfl⟩ | ⟨d', tb', b', k', es', ns', rfl, h2', rfl, h4', h5', h6', h7'⟩
    · exact (same_nn w).mono (by rintro r w' ⟨rfl, rfl⟩; exact ⟨rfl, Ext.refl _⟩)
    · obtain ⟨t1, b1, he1⟩ := h5'.form 0 (Nat.zero_le _)
      rw [he1]
      exact (same_nf _ _ w).mono (by rintro r w' ⟨rfl, rfl⟩; exact ⟨rfl, Ext.refl _⟩)
  · obtain ⟨t0, b0, he0⟩ := h5.form 0 (Nat.zero_le _)
    rw [he0]
    rcases h1 with ⟨rfl, rfl⟩ | ⟨d', tb', b', k', es', ns', rfl, h2', rfl, h4', h5', h6', h7'⟩
    · exact (same_none _ _ w).mono (by rintro r w' ⟨rfl, rfl⟩; exact ⟨rfl, Ext.refl _⟩)
    · obtain ⟨t1, b1, he1⟩ := h5'.form 0 (Nat.zero_le _)
      rw [he1]
      exact same_DD _ _ _ _ d d' w h2 (h5.tells h4 h6 h7 he0) (h5'.tells h4' h6' h7' he1)
/-- An error of another package around it is the same as it, if there is one. -/
theorem same_far (tx : ByteArray) (e : Value) (od : Option TD) (w : World) (h : Err w e od) :
    Calls Tryz.prog 19 #[.iface 46 (.agg #[.string tx, e]), e] w fun r w' => r = .returned (.bool od.isSome) ∧ Ext w w' := by
  rcases h with ⟨rfl, rfl⟩ | ⟨d, tb, b, k, es, ns, rfl, h2, rfl, h4, h5, h6, h7⟩
  · exact (same_none _ _ w).mono (by rintro r w' ⟨rfl, rfl⟩; exact ⟨rfl, Ext.refl _⟩)
  · obtain ⟨t0, b0, he0⟩ := h5.form 0 (Nat.zero_le _)
    have hT : Tells w (.iface 46 (.agg #[.string tx, es 0])) d := by
      intro w1 hx
      have hW := h5.later hx
      refine tell_any 46 (.agg #[.string tx, es 0]) (k + 1) (ahead (.iface 46 (.agg #[.string tx, es 0])) es) tb (.pointer (some ⟨b, 0, none⟩)) d.co d.lo d.ra d.la d.fu d.sa d.ki d.ab d.xs w1 (h6.later hx) h7 (by omega) rfl hW.top ?_ ?_ ?_
      · intro i hi
        cases i with
        | zero => exact ⟨_, _, he0⟩
        | succ i =>
          obtain ⟨t, b', h⟩ := hW.form (i + 1) (by omega)
          exact ⟨_, _, h⟩
      · intro i hi
        cases i with
        | zero => exact ⟨_, fun w => isGCoded _ _ _⟩
        | succ i =>
          obtain ⟨b', n', h, _⟩ := hW.note i (by omega)
          show ∃ v, Asks 67 (es i) v false
          rw [h]
          exact ⟨_, fun w => isNCoded _ _ _⟩
      · intro i hi
        cases i with
        | zero => exact unwraps_foreign tx (es 0) w1
        | succ i => exact hW.chain.unw i (by omega) (by omega)
    have hD := same_DD 46 (.agg #[.string tx, es 0]) t0 (.pointer (some ⟨b0, 0, none⟩)) d d w h2 hT (h5.tells h4 h6 h7 he0)
    have hd : decide (TD.eqv d d) = true := by simp [TD.eqv]
    rw [hd] at hD
    rw [← he0] at hD
    exact hD
theorem same_bare (tx ty : ByteArray) (w : World) :
    Calls Tryz.prog 19 #[.iface 46 (.agg #[.string tx, .nilIface]), .iface 46 (.agg #[.string ty, .nilIface])] w fun r w' => r = .returned (.bool false) ∧ Ext w w' := by
  refine same_un _ _ _ _ w (tell_none _ _ 1 (ahead (.iface 46 (.agg #[.string tx, .nilIface])) (fun _ => .nilIface)) w (by decide) (by decide) (.inr rfl) rfl ?_ ?_ ?_)
  · intro i hi; omega
  · intro i hi
    obtain rfl : i = 0 := by omega
    exact ⟨_, fun w => isGCoded _ _ _⟩
  · intro i hi _
    obtain rfl : i = 0 := by omega
    exact unwraps_foreign tx .nilIface w


end Go.Proofs.YtflcmdjekmmkkaaGreatDoor
