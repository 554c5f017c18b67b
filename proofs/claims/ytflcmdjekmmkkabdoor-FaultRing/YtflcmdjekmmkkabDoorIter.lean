/-
  The iterator each(e): called with the yield of whatever loop it hands it the errors from e on, one by one, at most 1,024 of them.
-/
import Derived.Test.YtflcmdjekmmkkabDoorTake
import Derived.RangeFuncRecord
import Derived.RangeFuncSeq
import Derived.TacticsIn
import Derived.BigFrameIn
import Derived.LoopIn
import Derived.LoopNIn
import Derived.OwnWalkIn
import Derived.TacticsInMore
import Derived.Deep.RegionWith
namespace Go.Proofs.YtflcmdjekmmkkabDoor
open Go.RowKit
attribute [local go_sem] isNCoded isNLocated isNRaised isNLacking isNUnw isNAsI isNUnws isNNoted isGCoded isGLocated isGRaised isGLacking isGUnw isGAsI isGUnws isGNoted isCCoded isCLocated isCRaised isCLacking isCUnw isCAsI isCUnws isCNoted isLCoded isLLocated isLRaised isLLacking isLUnw isLAsI isLUnws isLNoted isRCoded isRLocated isRRaised isRLacking isRUnw isRAsI isRUnws isRNoted isHCoded isHLocated isHRaised isHLacking isHUnw isHAsI isHUnws isHNoted isOCoded isOLocated isORaised isOLacking isOUnw isOAsI isOUnws isONoted toCodedCoded toCodedLocated toCodedRaised toCodedLacking toCodedNoted toLocatedCoded toLocatedLocated toLocatedRaised toLocatedLacking toLocatedNoted toRaisedCoded toRaisedLocated toRaisedRaised toRaisedLacking toRaisedNoted toLackingCoded toLackingLocated toLackingRaised toLackingLacking toLackingNoted toNotedCoded toNotedLocated toNotedRaised toNotedLacking toNotedNoted mNUnwrap mNError mCCode mCError mLCode mLWhere mLError mRCode mRWhere mRSaid mRError mOUnwrap mGUnwrap mGError mHAs mHUnwrap

theorem from_any (t : TypeId) (v : Value) (w : World) :
    Calls Tryd.prog 15 #[.iface t v] w fun r w' => r = .returned (.agg #[.iface t v, .int .i64 1024]) ∧ Ext w w' := by
  go_enter Tryd.func15, Tryd.ntmps15
  go_wp2
  refine bodyPost_ret (v := .agg #[.iface t v, .int .i64 1024]) (by simp [results, Tryd.results15, go_sem]) rfl ⟨rfl, ?_⟩
  first | exact Ext.alloc _ _ | exact ((Ext.alloc _ _).set0 _ _).set0 _ _
theorem alone_any (t : TypeId) (v : Value) (w : World) :
    Calls Tryd.prog 24 #[.iface t v] w fun r w' => r = .returned (.agg #[.iface t v, .int .i64 1]) ∧ Ext w w' := by
  go_enter Tryd.func24, Tryd.ntmps24
  go_wp2
  refine bodyPost_ret (v := .agg #[.iface t v, .int .i64 1]) (by simp [results, Tryd.results24, go_sem]) rfl ⟨rfl, ?_⟩
  first | exact Ext.alloc _ _ | exact ((Ext.alloc _ _).set0 _ _).set0 _ _
theorem each_any (t : TypeId) (v : Value) (w : World) :
    Calls Tryd.prog 13 #[.iface t v] w fun r w' => r = .returned (.func (.func 22) #[] #[.pointer (some ⟨w.heap.size, 0, none⟩)]) ∧ w' = w.alloc (.cells #[.iface t v] 28) := by
  have hmf : ∀ (fn : Fn) (first cap : Array Value) (w : World), (Instr.makeFunc fn first cap).run Tryd.prog w = .ok (.func fn first cap) w := fun _ _ _ _ => rfl
  go_enter Tryd.func13, Tryd.ntmps13
  go_wp2
  go_ret
  exact ⟨rfl, rfl⟩

theorem set2 {w : World} {b : Nat} {x y : Value} {t : TypeId} (h : w.heap[b]? = some (.cells #[x, y] t)) (x' y' : Value) : ((w.setCell ⟨b, 0, none⟩ x').setCell ⟨b, 1, none⟩ y').heap[b]? = some (.cells #[x', y'] t) := by
  have h1 : (w.setCell ⟨b, 0, none⟩ x').heap[b]? = some (.cells #[x', y] t) := by
    simp only [World.setCell]
    rw [Array.getElem?_modify, if_pos rfl, h]
    simp
  simp only [World.setCell] at h1 ⊢
  rw [Array.getElem?_modify, if_pos rfl, h1]
  simp
/-- The chains that lie there lie as they lay. -/
def KeepsC (w w' : World) : Prop := ∀ (k : Nat) (cs : Array Value), w.heap[k]? = some (.cells cs 60) → w'.heap[k]? = some (.cells cs 60)

/-- What is at hand in the chain at p. -/
def leftAt (p : Value) (w : World) : Nat :=
  match p with
  | .pointer (some ad) => (match w.cell? ⟨ad.block, 1, none⟩ with | some (.int _ n) => n.toNat | _ => 0)
  | _ => 0
theorem leftAt_of {cb : Nat} {w : World} {x : Value} {n : Int} {t : TypeId} (h : w.heap[cb]? = some (.cells #[x, .int .i64 n] t)) : leftAt (.pointer (some ⟨cb, 0, none⟩)) w = n.toNat := by
  simp [leftAt, cell_of (i := 1) h rfl]


set_option maxRecDepth 100000 in
set_option maxHeartbeats 4000000 in
theorem each1 (l B m : Nat) (es : Nat → Value) (w0 W : World) (J : Nat → World → Prop) (hm1 : 1 ≤ m) (hm : m ≤ 1024)
    (hext : ∀ i W, J i W → Ext w0 W)
    (hst : ∀ i W W', J i W → Apart W.heap.size W W' → J i W')
    (hY : ∀ i W1, i < m → J i W1 → YieldAt Fence.wide 0 Tryd.prog l #[.agg #[es i, .int .i64 1]] W1 fun e W' => e = .returned (.bool true) ∧ J (i + 1) W' ∧ KeepsC W1 W')
    (hi : ∀ i, i < m → ∃ t v, es i = .iface t v) (hend : m = 1024 ∨ es m = .nilIface) (hu : ∀ i, i < m → i + 1 < 1024 → Unwraps w0 (es i) (es (i + 1)))
    (hB : W.heap[B]? = some (.cells #[es 0] 28)) (h0 : J 0 W) :
    CallsIn Fence.wide 0 Tryd.prog 22 #[.func (.yield l) #[] #[], .pointer (some ⟨B, 0, none⟩)] W fun e W' => (∃ v, e = .returned v) ∧ J m W' := by
  have HEXT : Hid (∀ i W, J i W → Ext w0 W) := hext
  have HST : Hid (∀ i W W', J i W → Apart W.heap.size W W' → J i W') := hst
  have HY : Hid (∀ i W1, i < m → J i W1 → YieldAt Fence.wide 0 Tryd.prog l #[.agg #[es i, .int .i64 1]] W1 fun e W' => e = .returned (.bool true) ∧ J (i + 1) W' ∧ KeepsC W1 W') := hY
  have HI : Hid (∀ i, i < m → ∃ t v, es i = .iface t v) := hi
  have HE : Hid (m = 1024 ∨ es m = .nilIface) := hend
  have HU : Hid (∀ i, i < m → i + 1 < 1024 → Unwraps w0 (es i) (es (i + 1))) := hu
  have H0 : Hid (J 0 W) := h0
  clear hext hst hY hi hend hu h0
  obtain ⟨t0, v0, he0⟩ := HI.out 0 hm1
  rw [he0] at hB
  have HE0 : Hid (es 0 = .iface t0 v0) := he0
  clear he0
  have c0 : W.cell? ⟨B, 0, none⟩ = some (.iface t0 v0) := cell_of hB rfl
  have hlt : B < W.heap.size := lt_of_block hB
  clear hB
  refine callsIn_of_wp Tryd.func22 rfl trivial ?_ rfl
  simp only [Tryd.ntmps22, List.size_toArray, List.length_cons, List.length_nil, Nat.reduceAdd, Nat.reduceSub, Array.replicate_succ, Array.replicate_zero, List.push_toArray, List.append_toArray, List.nil_append, List.cons_append]
  gi_wp2
  refine wpIn_wide.2 ?_
  have hb2 : ∀ w1, Ext W w1 → w1.cell? ⟨B, 0, none⟩ = some (.iface t0 v0) := fun w1 h => (Below.cell h hlt).trans c0
  rename_i K hK
  have REST : ∀ (cb : Nat) (w1 : World), w1.heap[cb]? = some (.cells #[.iface t0 v0, .int .i64 1024] 60) → Ext W w1 → W.heap.size ≤ cb →
      K { tmps := #[.func (.yield l) #[] #[], .pointer (some ⟨B, 0, none⟩), undef, .pointer (some ⟨cb, 0, none⟩), .bool true, .iface t0 v0, .agg #[.iface t0 v0, .int .i64 1024], .iface t0 v0, .bool true, undef, undef, undef, undef, undef, undef, undef, undef, undef, undef, undef, undef, undef], defers := [] } w1 := by
    intro cb w1 hcb hx hge
    apply hK
    clear hK
    gi_wp2
    gi_loopw [3, 4] (fun p okv wr => ∃ (i cb : Nat) (x : Value) (lf : Int), p = .pointer (some ⟨cb, 0, none⟩) ∧ wr.heap[cb]? = some (.cells #[x, .int .i64 lf] 60) ∧ J i wr ∧ ((i < m ∧ okv = .bool true ∧ x = es i ∧ lf = 1024 - i) ∨ (i = m ∧ okv = .bool false))) (fun p _ wr => leftAt p wr)
    case atStart => exact ⟨0, cb, _, _, rfl, hcb, HST.out 0 W w1 H0.out (hx.apart _), .inl ⟨hm1, rfl, HE0.out.symm, by simp⟩⟩
    case round =>
      obtain ⟨i, cb', x, lf, rfl, hcb', hJ, hcase⟩ := hrel
      have HJ : Hid (J i wr) := hJ
      have HCB : Hid (wr.heap[cb']? = some (.cells #[x, .int .i64 lf] 60)) := hcb'
      clear hJ
      rcases hcase with ⟨hlt1, rfl, hxe, hlf⟩ | ⟨rfl, rfl⟩
      · obtain ⟨ti, vi, hei⟩ := HI.out i hlt1
        rw [hei] at hxe
        subst hxe
        have HEI : Hid (es i = .iface ti vi) := hei
        clear hei
        have k0 : wr.cell? ⟨cb', 0, none⟩ = some (.iface ti vi) := cell_of hcb' rfl
        clear hcb'
        have wf : ∀ f, Fence.wide.fn f := fun _ => trivial
        have wd : Fence.wide.depth = none := rfl
        gi_wp2_with (gi_at_call 24; refine (callsIn_wide.2 (alone_any ti vi _)).mono ?_; rintro r w2 ⟨rfl, hx2⟩; obtain ⟨fn, tmps, assign, body, hy, hR⟩ := HY.out i w2 hlt1 (HST.out i wr w2 HJ.out (hx2.apart _)); rw [HEI.out] at hy)
        refine hR.mono ?_
        rintro e W3 ⟨rfl, hJ3, hk3⟩
        have HJ3 : Hid (J (i + 1) W3) := hJ3
        have b3 : W3.heap[cb']? = some (.cells #[.iface ti vi, .int .i64 lf] 60) := hk3 cb' _ (hx2.block HCB.out)
        have k1 : W3.cell? ⟨cb', 0, none⟩ = some (.iface ti vi) := cell_of b3 rfl
        have k2 : W3.cell? ⟨cb', 1, none⟩ = some (.int .i64 lf) := cell_of b3 rfl
        have HLF : Hid (lf = 1024 - i) := hlf
        have hl1 : lf ≤ 1024 - i := by omega
        have hl2 : 1024 - i ≤ lf := by omega
        clear hJ3 hk3 b3 hlf hR hy k0
        rcases Nat.lt_or_ge (i + 1) m with hnx | hnx
        · obtain ⟨t1, v1, hn1⟩ := HI.out (i + 1) hnx
          have hun := HU.out i hlt1 (by omega)
          rw [hn1, HEI.out] at hun
          have HUN : Hid (Unwraps w0 (.iface ti vi) (.iface t1 v1)) := hun
          have HN : Hid (es (i + 1) = .iface t1 v1) := hn1
          clear hun hn1
          gi_wp2_with (gi_at_call 23; refine (callsIn_wide.2 (rest_some t1 v1 (.iface ti vi) lf _ (by omega) (by omega) (HUN.out.later ((HEXT.out _ _ HJ3.out).trans (Ext.alloc _ _))))).mono ?_; rintro r w5 ⟨rfl, hx5⟩; have b5 := hx5.block (blk0 W3 (.cells #[.iface ti vi, .int .i64 lf] 60)); have d0 := cell_of (i := 0) b5 rfl; have d1 := cell_of (i := 1) b5 rfl; have g0 := frozen_of (i := 0) b5; have g1 := frozen_of (i := 1) b5)
          have hrelw : ∃ (i' cb : Nat) (x : Value) (lf' : Int), Value.pointer (some ⟨W3.heap.size, 0, none⟩) = .pointer (some ⟨cb, 0, none⟩) ∧ ((w5.setCell ⟨W3.heap.size, 0, none⟩ (.iface t1 v1)).setCell ⟨W3.heap.size, 1, none⟩ (.int .i64 (lf - 1))).heap[cb]? = some (.cells #[x, .int .i64 lf'] 60) ∧ J i' ((w5.setCell ⟨W3.heap.size, 0, none⟩ (.iface t1 v1)).setCell ⟨W3.heap.size, 1, none⟩ (.int .i64 (lf - 1))) ∧ ((i' < m ∧ Value.bool true = .bool true ∧ x = es i' ∧ lf' = 1024 - i') ∨ (i' = m ∧ Value.bool true = .bool false)) :=
            ⟨i + 1, W3.heap.size, _, _, rfl, set2 b5 _ _, HST.out (i + 1) W3 _ HJ3.out (((((Ext.alloc W3 _).trans hx5).apart _).trans (Apart.set _ _ _ _)).trans (Apart.set _ _ _ _)), .inl ⟨hnx, rfl, HN.out.symm, by omega⟩⟩
          go_roundw
          case rel => first | exact hrelw | ((repeat apply Exists.intro); exact ⟨hrelw, rfl⟩)
          case measure =>
            have e1 := leftAt_of (set2 b5 (.iface t1 v1) (.int .i64 (lf - 1)))
            have e2 := leftAt_of HCB.out
            first | (simp [e1, e2]; omega) | (simp only [e1, e2]; omega) | (show leftAt _ _ < leftAt _ _; rw [e1, e2]; omega)
        · have HM : Hid (i + 1 = m) := by show i + 1 = m; omega
          rcases Nat.lt_or_ge m 1024 with hf | hf
          · have hn1 : es (i + 1) = .nilIface := by
              rcases HE.out with h | h
              · omega
              · have e : i + 1 = m := HM.out
                rw [e]; exact h
            have hun := HU.out i hlt1 (by omega)
            rw [hn1, HEI.out] at hun
            have HUN : Hid (Unwraps w0 (.iface ti vi) .nilIface) := hun
            have hl3 : 1 < lf := by omega
            clear hun hn1
            gi_wp2_with (gi_at_call 23; refine (callsIn_wide.2 (rest_nil (.iface ti vi) lf _ (by omega) (by omega) (HUN.out.later ((HEXT.out _ _ HJ3.out).trans (Ext.alloc _ _))))).mono ?_; rintro r w5 ⟨rfl, hx5⟩; have b5 := hx5.block (blk0 W3 (.cells #[.iface ti vi, .int .i64 lf] 60)); have d0 := cell_of (i := 0) b5 rfl; have d1 := cell_of (i := 1) b5 rfl; have g0 := frozen_of (i := 0) b5; have g1 := frozen_of (i := 1) b5)
            have hrelw : ∃ (i' cb : Nat) (x : Value) (lf' : Int), Value.pointer (some ⟨W3.heap.size, 0, none⟩) = .pointer (some ⟨cb, 0, none⟩) ∧ ((w5.setCell ⟨W3.heap.size, 0, none⟩ (.nilIface)).setCell ⟨W3.heap.size, 1, none⟩ (.int .i64 (lf - 1))).heap[cb]? = some (.cells #[x, .int .i64 lf'] 60) ∧ J i' ((w5.setCell ⟨W3.heap.size, 0, none⟩ (.nilIface)).setCell ⟨W3.heap.size, 1, none⟩ (.int .i64 (lf - 1))) ∧ ((i' < m ∧ Value.bool false = .bool true ∧ x = es i' ∧ lf' = 1024 - i') ∨ (i' = m ∧ Value.bool false = .bool false)) :=
              ⟨i + 1, W3.heap.size, _, _, rfl, set2 b5 _ _, HST.out (i + 1) W3 _ HJ3.out (((((Ext.alloc W3 _).trans hx5).apart _).trans (Apart.set _ _ _ _)).trans (Apart.set _ _ _ _)), .inr ⟨HM.out, rfl⟩⟩
            go_roundw
            case rel => first | exact hrelw | ((repeat apply Exists.intro); exact ⟨hrelw, rfl⟩)
            case measure =>
              have e1 := leftAt_of (set2 b5 (.nilIface) (.int .i64 (lf - 1)))
              have e2 := leftAt_of HCB.out
              first | (simp [e1, e2]; omega) | (simp only [e1, e2]; omega) | (show leftAt _ _ < leftAt _ _; rw [e1, e2]; omega)
          · have hl3 : lf ≤ 1 := by omega
            gi_wp2_with (gi_at_call 23; refine (callsIn_wide.2 (rest_end (.iface ti vi) lf _ (by omega))).mono ?_; rintro r w5 ⟨rfl, hx5⟩; have b5 := hx5.block (blk0 W3 (.cells #[.iface ti vi, .int .i64 lf] 60)); have d0 := cell_of (i := 0) b5 rfl; have d1 := cell_of (i := 1) b5 rfl; have g0 := frozen_of (i := 0) b5; have g1 := frozen_of (i := 1) b5)
            have hrelw : ∃ (i' cb : Nat) (x : Value) (lf' : Int), Value.pointer (some ⟨W3.heap.size, 0, none⟩) = .pointer (some ⟨cb, 0, none⟩) ∧ ((w5.setCell ⟨W3.heap.size, 0, none⟩ (.nilIface)).setCell ⟨W3.heap.size, 1, none⟩ (.int .i64 (0))).heap[cb]? = some (.cells #[x, .int .i64 lf'] 60) ∧ J i' ((w5.setCell ⟨W3.heap.size, 0, none⟩ (.nilIface)).setCell ⟨W3.heap.size, 1, none⟩ (.int .i64 (0))) ∧ ((i' < m ∧ Value.bool false = .bool true ∧ x = es i' ∧ lf' = 1024 - i') ∨ (i' = m ∧ Value.bool false = .bool false)) :=
              ⟨i + 1, W3.heap.size, _, _, rfl, set2 b5 _ _, HST.out (i + 1) W3 _ HJ3.out (((((Ext.alloc W3 _).trans hx5).apart _).trans (Apart.set _ _ _ _)).trans (Apart.set _ _ _ _)), .inr ⟨HM.out, rfl⟩⟩
            go_roundw
            case rel => first | exact hrelw | ((repeat apply Exists.intro); exact ⟨hrelw, rfl⟩)
            case measure =>
              have e1 := leftAt_of (set2 b5 (.nilIface) (.int .i64 (0)))
              have e2 := leftAt_of HCB.out
              first | (simp [e1, e2]; omega) | (simp only [e1, e2]; omega) | (show leftAt _ _ < leftAt _ _; rw [e1, e2]; omega)
      · gi_wp2
        go_end0
        exact ⟨⟨_, rfl⟩, HJ.out⟩
  clear hK
  go_region_with (go_at_call 15; refine (from_any t0 v0 _).mono ?_; rintro r w1 ⟨rfl, hx⟩; have hy : Ext W w1 := (by first | exact (Ext.refl W).drew.trans hx | exact ((Ext.alloc W _).drew).trans hx); have c1 := hb2 _ hy; have hl1 : B < w1.heap.size := Nat.lt_of_lt_of_le hlt hy.size; try (have hbx : w1.heap[W.heap.size]? = some (.cells #[.nilIface, .int .i64 0] 60) := Ext.block hx (show ((W.alloc (.cells #[.nilIface, .int .i64 0] 60)).drew).heap[W.heap.size]? = _ from blk0 W _); have d0 := cell_of (i := 0) hbx rfl; have d1 := cell_of (i := 1) hbx rfl; have g0 := frozen_of (i := 0) hbx; have g1 := frozen_of (i := 1) hbx))
  all_goals first
    | exact REST _ _ (blk0 _ _) (hy.more _) hy.size
    | exact REST _ _ (set2 hbx _ _) ((hy.set0 _ _).set0 _ _) (Nat.le_refl _)


end Go.Proofs.YtflcmdjekmmkkabDoor
