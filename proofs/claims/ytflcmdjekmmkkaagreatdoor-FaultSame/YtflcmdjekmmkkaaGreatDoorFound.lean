/-
  The walk of espalierlaw1.FaultFound: it returns true, in whatever memory in which errors.errorType is laid.
-/
import Derived.Test.YtflcmdjekmmkkaaGreatDoorMake
import Derived.Test.YtflcmdjekmmkkaaGreatDoorBegun
import Derived.Test.YtflcmdjekmmkkaaGreatDoorBare
import Derived.Deep.RegionWith
import Derived.Deep.RegionHeld3
import Derived.LoopTactic
namespace Go.Proofs.YtflcmdjekmmkkaaGreatDoor
open Go.RowKit Go.Shelf
attribute [local go_sem] isNCoded isNLocated isNRaised isNLacking isNUnw isNAsI isNUnws isNNoted isGCoded isGLocated isGRaised isGLacking isGUnw isGAsI isGUnws isGNoted isCCoded isCLocated isCRaised isCLacking isCUnw isCAsI isCUnws isCNoted isLCoded isLLocated isLRaised isLLacking isLUnw isLAsI isLUnws isLNoted isRCoded isRLocated isRRaised isRLacking isRUnw isRAsI isRUnws isRNoted isKCoded isKLocated isKRaised isKLacking isKUnw isKAsI isKUnws isKNoted isHCoded isHLocated isHRaised isHLacking isHUnw isHAsI isHUnws isHNoted toCodedCoded toCodedLocated toCodedRaised toCodedLacking toCodedNoted toLocatedCoded toLocatedLocated toLocatedRaised toLocatedLacking toLocatedNoted toRaisedCoded toRaisedLocated toRaisedRaised toRaisedLacking toRaisedNoted toLackingCoded toLackingLocated toLackingRaised toLackingLacking toLackingNoted toNotedCoded toNotedLocated toNotedRaised toNotedLacking toNotedNoted mNUnwrap mNError mCCode mCError mLCode mLWhere mLError mRCode mRWhere mRSaid mRError mKCode mKWhere mKLacks mKError mGUnwrap mGError mHAs mHUnwrap
/-- The slice v of strings reads as ss. -/
def Strs (w : World) (v : Value) (ss : List ByteArray) : Prop :=
  (v = .slice none 0 0 ∧ ss = []) ∨ ∃ g off cap, v = .slice (some ⟨g, off, none⟩) ss.length cap ∧ ∀ (j : Nat) (s : ByteArray), ss[j]? = some s → w.cell? ⟨g, off + j, none⟩ = some (.string s)
theorem Strs.later {w w' : World} {v : Value} {ss : List ByteArray} (h : Strs w v ss) (hx : Ext w w') : Strs w' v ss := by
  rcases h with h | ⟨g, off, cap, rfl, hc⟩
  · exact .inl h
  · exact .inr ⟨g, off, cap, rfl, fun j u hu => (Below.cell hx (lt_of_cell (hc j u hu))).trans (hc j u hu)⟩

/-- A round more: a note is laid around the error, or it has as many as may be. -/
theorem wrap_more (nt : ByteArray) (bs : Value) (k : Nat) (es : Nat → Value) (ns : Nat → Option ByteArray) (w : World) (hG : Laid w) (hk : k ≤ 64) (h : Wrapped w bs k es ns) :
    Calls Tryz.prog 13 #[es 0, .string nt] w fun r w' => ∃ k' es' ns', r = .returned (es' 0) ∧ k' ≤ 64 ∧ Wrapped w' bs k' es' ns' ∧ Ext w w' := by
  obtain ⟨t0, b0, he⟩ := h.form 0 (Nat.zero_le _)
  by_cases hlt : k < 64
  · have hw := wrap_few nt t0 (.pointer (some ⟨b0, 0, none⟩)) (k + 1) es ns w hG h.chain he (by rw [h.len]; exact hlt)
    rw [he]
    refine hw.mono ?_
    rintro r w' ⟨b, rfl, hb, hN, hx⟩
    rw [← he] at hN
    exact ⟨k + 1, _, _, rfl, hlt, h.cons hx (by omega) hN hb, hx⟩
  · have hw := wrap_full nt t0 (.pointer (some ⟨b0, 0, none⟩)) (k + 1) es ns w hG h.chain he (by rw [h.len]; omega)
    rw [he]
    refine hw.mono ?_
    rintro r w' ⟨rfl, hx⟩
    exact ⟨k, es, ns, by rw [he], hk, h.later hx, hx⟩


set_option maxRecDepth 100000 in
set_option maxHeartbeats 40000000 in
theorem found_true (kd co : Int) (fu : ByteArray) (a : Option Addr) (n c : Nat) (sa ki ab : ByteArray) (na : Option Addr) (nn nc : Nat) (oa : Option Addr) (on oc : Nat) (ss : List ByteArray) (xs : List Int) (w : World) (hG : Laid w) (hb : xs.length * 8 ≤ 140737488355328) (hsb : ss.length ≤ 140737488355328) (hI : Ints w (.slice a n c) xs) (hS : Strs w (.slice oa on oc) ss) :
    Calls Tryz.prog 6 #[.agg #[.int .i64 kd, .int .i64 co, .string fu, .slice a n c, .string sa, .string ki, .string ab, .slice na nn nc], .slice oa on oc] w fun r w' => r = .returned (.bool true) ∧ Ext w w' := by
  have HI : Hid (Ints w (.slice a n c) xs) := hI
  have HS : Hid (Strs w (.slice oa on oc) ss) := hS
  have HG : Hid (Laid w) := hG
  obtain ⟨hon⟩ : Nonempty (on = ss.length) := by
    rcases hS with ⟨hv, rfl⟩ | ⟨g, off, cap, hv, _⟩
    · injection hv with e1 e2 e3; exact ⟨e2⟩
    · injection hv with e1 e2 e3; exact ⟨e2⟩
  clear hI hG hS
  subst hon
  go_enter Tryz.func6, Tryz.ntmps6
  go_wp2_with fail
  refine (begun_true _ (HG.out.later (Ext.alloc _ _))).mono ?_
  rintro r w1 ⟨rfl, hx1⟩
  have X1 : Hid (Ext w w1) := (Ext.alloc w _).trans hx1
  have hO : w1.heap[w.heap.size]? = some (.cells #[.int .i64 kd, .int .i64 co, .string fu, .slice a n c, .string sa, .string ki, .string ab, .slice na nn nc] 36) := hx1.block (blk0 w _)

  have o0 := cell_of (i := 0) hO rfl
  have o1 := cell_of (i := 1) hO rfl
  have o2 := cell_of (i := 2) hO rfl
  have o3 := cell_of (i := 3) hO rfl
  have o4 := cell_of (i := 4) hO rfl
  have o5 := cell_of (i := 5) hO rfl
  have o6 := cell_of (i := 6) hO rfl
  have o7 := cell_of (i := 7) hO rfl
  simp only [List.getElem_toArray, List.getElem_cons_zero, List.getElem_cons_succ] at o0 o1 o2 o3 o4 o5 o6 o7
  clear hx1 hO
  go_wp2_with fail
  refine (make_any kd co fu a n c sa ki ab na nn nc xs _ hb (HI.out.later X1.out)).mono ?_
  rintro r w2 ⟨e, t, rfl, hM, hx2⟩
  have X2 : Hid (Ext w w2) := X1.out.trans hx2
  clear o0 o1 o2 o3 o4 o5 o6 o7 hx2
  have hcell : Hid (∀ (j : Nat) (W : World), j < ss.length → Ext w W → ∃ g off s, oa = some ⟨g, off, none⟩ ∧ W.cell? ⟨g, off + j, none⟩ = some (.string s)) := fun j W hj hW => by
    rcases HS.out with ⟨_, h0⟩ | ⟨g, off, cap, hv, hc⟩
    · rw [h0] at hj; exact absurd hj (Nat.not_lt_zero _)
    · injection hv with e1 e2 e3
      have hs := hc j _ (List.getElem?_eq_getElem hj)
      exact ⟨g, off, _, e1, (Below.cell hW (lt_of_cell hs)).trans hs⟩
  have hbn : (ss.length : Int) ≤ 140737488355328 := by omega
  rcases hM with ⟨rfl, rfl⟩ | ⟨b, _, rfl, hE, rfl⟩ | ⟨b, a', n', c', _, rfl, hE, hR, rfl⟩ | ⟨b, a', n', c', _, rfl, hE, hR, rfl⟩ | ⟨b, a', n', c', _, rfl, hE, hR, rfl⟩
  · go_wp2_with fail
    go_loopw [5, 7] (fun e i wr => ∃ j : Nat, j ≤ 70 ∧ e = .nilIface ∧ i = .int .i64 j ∧ wr = w2.alloc (.cells #[.bool true, .int .i64 0, .bool false, .string ⟨#[]⟩, .slice none 0 0, .bool false, .string ⟨#[]⟩, .bool false, .string ⟨#[]⟩, .string ⟨#[]⟩] 31)) (fun _ i _ => 70 - (intOf i).toNat)
    case atStart => exact ⟨0, by omega, rfl, rfl, rfl⟩
    case round =>
      obtain ⟨j, hj, rfl, rfl, rfl⟩ := hrel
      by_cases hlt : j < ss.length
      · have hlt' : (j : Int) < ss.length := by omega
        by_cases h70 : j < 70
        · have h70' : (j : Int) < 70 := by omega
          obtain ⟨g, off, s, hoa, hs⟩ := hcell.out j (w2.alloc (.cells #[.bool true, .int .i64 0, .bool false, .string ⟨#[]⟩, .slice none 0 0, .bool false, .string ⟨#[]⟩, .bool false, .string ⟨#[]⟩, .string ⟨#[]⟩] 31)) hlt (X2.out.more _)
          subst hoa
          go_wp2_with (go_at_call 13; refine (wrap_nil s _).mono ?_; rintro r w3 ⟨rfl, hw3⟩; obtain rfl := hw3.symm)
          go_roundw
          case rel => first | exact ⟨j + 1, h70, by go_num, trivial⟩ | exact ⟨j + 1, h70, rfl, by go_num, trivial⟩ | exact ⟨j + 1, h70, trivial, by go_num, trivial⟩
          case measure => simp [intOf]; omega
        · have hd1 : decide ((j : Int) < 70) = false := by simp; omega
          have hd2 : decide ((j : Int) < ss.length) = true := by simp; omega
          go_wp2
          go_ret
          exact ⟨rfl, X2.out.more _⟩
      · have hd2 : decide ((j : Int) < ss.length) = false := by simp; omega
        go_wp2
        go_ret
        exact ⟨rfl, X2.out.more _⟩

  · have HE0 : Hid (CodedAt w2 b co) := hE
    have hlt0 : b < w2.heap.size := lt_of_block hE
    clear hE
    go_wp2_with fail
    go_loopw [5, 7] (fun e i wr => ∃ (j k : Nat) (es : Nat → Value) (ns : Nat → Option ByteArray), j ≤ 70 ∧ e = es 0 ∧ i = .int .i64 j ∧ k ≤ 64 ∧ Wrapped wr (.iface 128 (.pointer (some ⟨b, 0, none⟩))) k es ns ∧ Ext (w2.alloc (.cells #[.bool false, .int .i64 co, .bool false, .string ⟨#[]⟩, .slice none 0 0, .bool false, .string ⟨#[]⟩, .bool false, .string ⟨#[]⟩, .string ⟨#[]⟩] 31)) wr) (fun _ i _ => 70 - (intOf i).toNat)
    case atStart => exact ⟨0, 0, _, _, by omega, rfl, rfl, by omega, wrapped_C b _ (Nat.lt_of_lt_of_le hlt0 (Ext.alloc w2 _).size), Ext.refl _⟩
    case round =>
      obtain ⟨j, k, es, ns, hj, rfl, rfl, hk, hW, hx⟩ := hrel
      obtain ⟨t0, b0, he⟩ := hW.form 0 (Nat.zero_le _)
      rw [he]
      by_cases hlt : j < ss.length
      · have hlt' : (j : Int) < ss.length := by omega
        by_cases h70 : j < 70
        · have h70' : (j : Int) < 70 := by omega
          obtain ⟨g, off, s, hoa, hs⟩ := hcell.out j wr hlt ((X2.out.more _).trans hx)
          subst hoa
          have HM : Hid (Calls Tryz.prog 13 #[.iface t0 (.pointer (some ⟨b0, 0, none⟩)), .string s] wr fun r w' => ∃ k' es' ns' t1 b1, r = .returned (.iface t1 (.pointer (some ⟨b1, 0, none⟩))) ∧ es' 0 = .iface t1 (.pointer (some ⟨b1, 0, none⟩)) ∧ k' ≤ 64 ∧ Wrapped w' (.iface 128 (.pointer (some ⟨b, 0, none⟩))) k' es' ns' ∧ Ext wr w') := by
            have h := wrap_more s (.iface 128 (.pointer (some ⟨b, 0, none⟩))) k es ns wr (HG.out.later ((X2.out.more _).trans hx)) hk hW
            rw [he] at h
            refine h.mono ?_
            rintro r w' ⟨k', es', ns', rfl, h1, h2, h3⟩
            obtain ⟨t1, b1, he1⟩ := h2.form 0 (Nat.zero_le _)
            exact ⟨k', es', ns', t1, b1, by rw [he1], he1, h1, h2, h3⟩
          have HX : Hid (Ext (w2.alloc (.cells #[.bool false, .int .i64 co, .bool false, .string ⟨#[]⟩, .slice none 0 0, .bool false, .string ⟨#[]⟩, .bool false, .string ⟨#[]⟩, .string ⟨#[]⟩] 31)) wr) := hx
          clear hW he hx
          go_wp2_with (go_at_call 13; refine HM.out.mono ?_; rintro r w3 ⟨k', es', ns', t1, b1, rfl, he', hk', hW', hx3⟩)
          have HR : Hid (∃ (j' k2 : Nat) (es2 : Nat → Value) (ns2 : Nat → Option ByteArray), j' ≤ 70 ∧ Value.iface t1 (.pointer (some ⟨b1, 0, none⟩)) = es2 0 ∧ Value.int .i64 ((j : Int) + 1) = .int .i64 j' ∧ k2 ≤ 64 ∧ Wrapped w3 (.iface 128 (.pointer (some ⟨b, 0, none⟩))) k2 es2 ns2 ∧ Ext (w2.alloc (.cells #[.bool false, .int .i64 co, .bool false, .string ⟨#[]⟩, .slice none 0 0, .bool false, .string ⟨#[]⟩, .bool false, .string ⟨#[]⟩, .string ⟨#[]⟩] 31)) w3) := ⟨j + 1, k', es', ns', h70, he'.symm, by go_num, hk', hW', HX.out.trans hx3⟩
          clear hW' he' hx3
          go_roundw
          case rel => first | exact HR.out | ((repeat apply Exists.intro); exact ⟨HR.out, rfl⟩)
          case measure => simp [intOf]; omega
        · have hd1 : decide ((j : Int) < 70) = false := by simp; omega
          have hd2 : decide ((j : Int) < ss.length) = true := by simp; omega
          have HX : Hid (Ext w wr) := (X2.out.more _).trans hx
          have HT : Hid (wr.heap[w2.heap.size]? = some (.cells #[.bool false, .int .i64 co, .bool false, .string ⟨#[]⟩, .slice none 0 0, .bool false, .string ⟨#[]⟩, .bool false, .string ⟨#[]⟩, .string ⟨#[]⟩] 31)) := hx.block (blk0 w2 _)
          have HE : Hid (CodedAt wr b co) := ((Ext.alloc w2 _).trans hx).block HE0.out
          have hl2 : w2.heap.size < wr.heap.size := lt_of_block HT.out
          have hlb : b < wr.heap.size := lt_of_block HE.out
          have x5 : wr.cell? ⟨w2.heap.size, 5, none⟩ = some (.bool false) := cell_of HT.out rfl
          have x6 := cell_of (i := 6) HT.out rfl
          simp only [List.getElem_toArray, List.getElem_cons_zero, List.getElem_cons_succ] at x6
          have HA : Hid (∀ W', Ext wr W' → Calls Tryz.prog 20 #[.iface t0 (.pointer (some ⟨b0, 0, none⟩)), .iface 56 (.pointer (some ⟨wr.heap.size, 0, none⟩))] W' fun r w' => r = .returned (.bool false) ∧ Ext W' w') := fun W' hx' => by
            have h := AsB_C b k es ns wr.heap.size W' (hW.later hx')
            rw [he] at h
            exact h
          clear hW hx he
          go_wp2_with fail
          first | (go_region_with (first | (go_at_call 20; refine (HA.out _ ((Ext.alloc _ _).drew)).mono ?_; rintro r w6 ⟨rfl, hx6⟩; have y5 : w6.cell? ⟨w2.heap.size, 5, none⟩ = some (.bool false) := cell_of (hx6.block (blkOld _ HT.out)) rfl))) | fail
          all_goals
            have hXX : Ext w w6 := ((HX.out.trans (Ext.alloc _ _)).trans (Ext.drew (Ext.refl _))).trans hx6
            go_wp2
            go_ret
            exact ⟨by first | rfl | simp [Act.put], hXX⟩
      · have hd2 : decide ((j : Int) < ss.length) = false := by simp; omega
        have HX : Hid (Ext w wr) := (X2.out.more _).trans hx
        have HT : Hid (wr.heap[w2.heap.size]? = some (.cells #[.bool false, .int .i64 co, .bool false, .string ⟨#[]⟩, .slice none 0 0, .bool false, .string ⟨#[]⟩, .bool false, .string ⟨#[]⟩, .string ⟨#[]⟩] 31)) := hx.block (blk0 w2 _)
        have HE : Hid (CodedAt wr b co) := ((Ext.alloc w2 _).trans hx).block HE0.out
        have hl2 : w2.heap.size < wr.heap.size := lt_of_block HT.out
        have hlb : b < wr.heap.size := lt_of_block HE.out
        have x5 : wr.cell? ⟨w2.heap.size, 5, none⟩ = some (.bool false) := cell_of HT.out rfl
        have x6 := cell_of (i := 6) HT.out rfl
        simp only [List.getElem_toArray, List.getElem_cons_zero, List.getElem_cons_succ] at x6
        have HA : Hid (∀ W', Ext wr W' → Calls Tryz.prog 20 #[.iface t0 (.pointer (some ⟨b0, 0, none⟩)), .iface 56 (.pointer (some ⟨wr.heap.size, 0, none⟩))] W' fun r w' => r = .returned (.bool false) ∧ Ext W' w') := fun W' hx' => by
          have h := AsB_C b k es ns wr.heap.size W' (hW.later hx')
          rw [he] at h
          exact h
        clear hW hx he
        go_wp2_with fail
        first | (go_region_with (first | (go_at_call 20; refine (HA.out _ ((Ext.alloc _ _).drew)).mono ?_; rintro r w6 ⟨rfl, hx6⟩; have y5 : w6.cell? ⟨w2.heap.size, 5, none⟩ = some (.bool false) := cell_of (hx6.block (blkOld _ HT.out)) rfl))) | fail
        all_goals
          have hXX : Ext w w6 := ((HX.out.trans (Ext.alloc _ _)).trans (Ext.drew (Ext.refl _))).trans hx6
          go_wp2
          go_ret
          exact ⟨by first | rfl | simp [Act.put], hXX⟩
  · have HE0 : Hid (LocatedAt w2 b co fu (.slice a' n' c')) := hE
    have hlt0 : b < w2.heap.size := lt_of_block hE
    clear hE hR
    go_wp2_with fail
    go_loopw [5, 7] (fun e i wr => ∃ (j k : Nat) (es : Nat → Value) (ns : Nat → Option ByteArray), j ≤ 70 ∧ e = es 0 ∧ i = .int .i64 j ∧ k ≤ 64 ∧ Wrapped wr (.iface 127 (.pointer (some ⟨b, 0, none⟩))) k es ns ∧ Ext (w2.alloc (.cells #[.bool false, .int .i64 co, .bool true, .string fu, .slice a n c, .bool false, .string ⟨#[]⟩, .bool false, .string ⟨#[]⟩, .string ⟨#[]⟩] 31)) wr) (fun _ i _ => 70 - (intOf i).toNat)
    case atStart => exact ⟨0, 0, _, _, by omega, rfl, rfl, by omega, wrapped_L b _ (Nat.lt_of_lt_of_le hlt0 (Ext.alloc w2 _).size), Ext.refl _⟩
    case round =>
      obtain ⟨j, k, es, ns, hj, rfl, rfl, hk, hW, hx⟩ := hrel
      obtain ⟨t0, b0, he⟩ := hW.form 0 (Nat.zero_le _)
      rw [he]
      by_cases hlt : j < ss.length
      · have hlt' : (j : Int) < ss.length := by omega
        by_cases h70 : j < 70
        · have h70' : (j : Int) < 70 := by omega
          obtain ⟨g, off, s, hoa, hs⟩ := hcell.out j wr hlt ((X2.out.more _).trans hx)
          subst hoa
          have HM : Hid (Calls Tryz.prog 13 #[.iface t0 (.pointer (some ⟨b0, 0, none⟩)), .string s] wr fun r w' => ∃ k' es' ns' t1 b1, r = .returned (.iface t1 (.pointer (some ⟨b1, 0, none⟩))) ∧ es' 0 = .iface t1 (.pointer (some ⟨b1, 0, none⟩)) ∧ k' ≤ 64 ∧ Wrapped w' (.iface 127 (.pointer (some ⟨b, 0, none⟩))) k' es' ns' ∧ Ext wr w') := by
            have h := wrap_more s (.iface 127 (.pointer (some ⟨b, 0, none⟩))) k es ns wr (HG.out.later ((X2.out.more _).trans hx)) hk hW
            rw [he] at h
            refine h.mono ?_
            rintro r w' ⟨k', es', ns', rfl, h1, h2, h3⟩
            obtain ⟨t1, b1, he1⟩ := h2.form 0 (Nat.zero_le _)
            exact ⟨k', es', ns', t1, b1, by rw [he1], he1, h1, h2, h3⟩
          have HX : Hid (Ext (w2.alloc (.cells #[.bool false, .int .i64 co, .bool true, .string fu, .slice a n c, .bool false, .string ⟨#[]⟩, .bool false, .string ⟨#[]⟩, .string ⟨#[]⟩] 31)) wr) := hx
          clear hW he hx
          go_wp2_with (go_at_call 13; refine HM.out.mono ?_; rintro r w3 ⟨k', es', ns', t1, b1, rfl, he', hk', hW', hx3⟩)
          have HR : Hid (∃ (j' k2 : Nat) (es2 : Nat → Value) (ns2 : Nat → Option ByteArray), j' ≤ 70 ∧ Value.iface t1 (.pointer (some ⟨b1, 0, none⟩)) = es2 0 ∧ Value.int .i64 ((j : Int) + 1) = .int .i64 j' ∧ k2 ≤ 64 ∧ Wrapped w3 (.iface 127 (.pointer (some ⟨b, 0, none⟩))) k2 es2 ns2 ∧ Ext (w2.alloc (.cells #[.bool false, .int .i64 co, .bool true, .string fu, .slice a n c, .bool false, .string ⟨#[]⟩, .bool false, .string ⟨#[]⟩, .string ⟨#[]⟩] 31)) w3) := ⟨j + 1, k', es', ns', h70, he'.symm, by go_num, hk', hW', HX.out.trans hx3⟩
          clear hW' he' hx3
          go_roundw
          case rel => first | exact HR.out | ((repeat apply Exists.intro); exact ⟨HR.out, rfl⟩)
          case measure => simp [intOf]; omega
        · have hd1 : decide ((j : Int) < 70) = false := by simp; omega
          have hd2 : decide ((j : Int) < ss.length) = true := by simp; omega
          have HX : Hid (Ext w wr) := (X2.out.more _).trans hx
          have HT : Hid (wr.heap[w2.heap.size]? = some (.cells #[.bool false, .int .i64 co, .bool true, .string fu, .slice a n c, .bool false, .string ⟨#[]⟩, .bool false, .string ⟨#[]⟩, .string ⟨#[]⟩] 31)) := hx.block (blk0 w2 _)
          have HE : Hid (LocatedAt wr b co fu (.slice a' n' c')) := ((Ext.alloc w2 _).trans hx).block HE0.out
          have hl2 : w2.heap.size < wr.heap.size := lt_of_block HT.out
          have hlb : b < wr.heap.size := lt_of_block HE.out
          have x5 : wr.cell? ⟨w2.heap.size, 5, none⟩ = some (.bool false) := cell_of HT.out rfl
          have x6 := cell_of (i := 6) HT.out rfl
          simp only [List.getElem_toArray, List.getElem_cons_zero, List.getElem_cons_succ] at x6
          have HA : Hid (∀ W', Ext wr W' → Calls Tryz.prog 20 #[.iface t0 (.pointer (some ⟨b0, 0, none⟩)), .iface 56 (.pointer (some ⟨wr.heap.size, 0, none⟩))] W' fun r w' => r = .returned (.bool false) ∧ Ext W' w') := fun W' hx' => by
            have h := AsB_L b k es ns wr.heap.size W' (hW.later hx')
            rw [he] at h
            exact h
          clear hW hx he
          go_wp2_with fail
          first | (go_region_with (first | (go_at_call 20; refine (HA.out _ ((Ext.alloc _ _).drew)).mono ?_; rintro r w6 ⟨rfl, hx6⟩; have y5 : w6.cell? ⟨w2.heap.size, 5, none⟩ = some (.bool false) := cell_of (hx6.block (blkOld _ HT.out)) rfl))) | fail
          all_goals
            have hXX : Ext w w6 := ((HX.out.trans (Ext.alloc _ _)).trans (Ext.drew (Ext.refl _))).trans hx6
            go_wp2
            go_ret
            exact ⟨by first | rfl | simp [Act.put], hXX⟩
      · have hd2 : decide ((j : Int) < ss.length) = false := by simp; omega
        have HX : Hid (Ext w wr) := (X2.out.more _).trans hx
        have HT : Hid (wr.heap[w2.heap.size]? = some (.cells #[.bool false, .int .i64 co, .bool true, .string fu, .slice a n c, .bool false, .string ⟨#[]⟩, .bool false, .string ⟨#[]⟩, .string ⟨#[]⟩] 31)) := hx.block (blk0 w2 _)
        have HE : Hid (LocatedAt wr b co fu (.slice a' n' c')) := ((Ext.alloc w2 _).trans hx).block HE0.out
        have hl2 : w2.heap.size < wr.heap.size := lt_of_block HT.out
        have hlb : b < wr.heap.size := lt_of_block HE.out
        have x5 : wr.cell? ⟨w2.heap.size, 5, none⟩ = some (.bool false) := cell_of HT.out rfl
        have x6 := cell_of (i := 6) HT.out rfl
        simp only [List.getElem_toArray, List.getElem_cons_zero, List.getElem_cons_succ] at x6
        have HA : Hid (∀ W', Ext wr W' → Calls Tryz.prog 20 #[.iface t0 (.pointer (some ⟨b0, 0, none⟩)), .iface 56 (.pointer (some ⟨wr.heap.size, 0, none⟩))] W' fun r w' => r = .returned (.bool false) ∧ Ext W' w') := fun W' hx' => by
          have h := AsB_L b k es ns wr.heap.size W' (hW.later hx')
          rw [he] at h
          exact h
        clear hW hx he
        go_wp2_with fail
        first | (go_region_with (first | (go_at_call 20; refine (HA.out _ ((Ext.alloc _ _).drew)).mono ?_; rintro r w6 ⟨rfl, hx6⟩; have y5 : w6.cell? ⟨w2.heap.size, 5, none⟩ = some (.bool false) := cell_of (hx6.block (blkOld _ HT.out)) rfl))) | fail
        all_goals
          have hXX : Ext w w6 := ((HX.out.trans (Ext.alloc _ _)).trans (Ext.drew (Ext.refl _))).trans hx6
          go_wp2
          go_ret
          exact ⟨by first | rfl | simp [Act.put], hXX⟩
  · have HE0 : Hid (RaisedAt w2 b 25 fu (.slice a' n' c') sa) := hE
    have hlt0 : b < w2.heap.size := lt_of_block hE
    clear hE hR
    go_wp2_with fail
    go_loopw [5, 7] (fun e i wr => ∃ (j k : Nat) (es : Nat → Value) (ns : Nat → Option ByteArray), j ≤ 70 ∧ e = es 0 ∧ i = .int .i64 j ∧ k ≤ 64 ∧ Wrapped wr (.iface 129 (.pointer (some ⟨b, 0, none⟩))) k es ns ∧ Ext (w2.alloc (.cells #[.bool false, .int .i64 25, .bool true, .string fu, .slice a n c, .bool true, .string sa, .bool false, .string ⟨#[]⟩, .string ⟨#[]⟩] 31)) wr) (fun _ i _ => 70 - (intOf i).toNat)
    case atStart => exact ⟨0, 0, _, _, by omega, rfl, rfl, by omega, wrapped_R b _ (Nat.lt_of_lt_of_le hlt0 (Ext.alloc w2 _).size), Ext.refl _⟩
    case round =>
      obtain ⟨j, k, es, ns, hj, rfl, rfl, hk, hW, hx⟩ := hrel
      obtain ⟨t0, b0, he⟩ := hW.form 0 (Nat.zero_le _)
      rw [he]
      by_cases hlt : j < ss.length
      · have hlt' : (j : Int) < ss.length := by omega
        by_cases h70 : j < 70
        · have h70' : (j : Int) < 70 := by omega
          obtain ⟨g, off, s, hoa, hs⟩ := hcell.out j wr hlt ((X2.out.more _).trans hx)
          subst hoa
          have HM : Hid (Calls Tryz.prog 13 #[.iface t0 (.pointer (some ⟨b0, 0, none⟩)), .string s] wr fun r w' => ∃ k' es' ns' t1 b1, r = .returned (.iface t1 (.pointer (some ⟨b1, 0, none⟩))) ∧ es' 0 = .iface t1 (.pointer (some ⟨b1, 0, none⟩)) ∧ k' ≤ 64 ∧ Wrapped w' (.iface 129 (.pointer (some ⟨b, 0, none⟩))) k' es' ns' ∧ Ext wr w') := by
            have h := wrap_more s (.iface 129 (.pointer (some ⟨b, 0, none⟩))) k es ns wr (HG.out.later ((X2.out.more _).trans hx)) hk hW
            rw [he] at h
            refine h.mono ?_
            rintro r w' ⟨k', es', ns', rfl, h1, h2, h3⟩
            obtain ⟨t1, b1, he1⟩ := h2.form 0 (Nat.zero_le _)
            exact ⟨k', es', ns', t1, b1, by rw [he1], he1, h1, h2, h3⟩
          have HX : Hid (Ext (w2.alloc (.cells #[.bool false, .int .i64 25, .bool true, .string fu, .slice a n c, .bool true, .string sa, .bool false, .string ⟨#[]⟩, .string ⟨#[]⟩] 31)) wr) := hx
          clear hW he hx
          go_wp2_with (go_at_call 13; refine HM.out.mono ?_; rintro r w3 ⟨k', es', ns', t1, b1, rfl, he', hk', hW', hx3⟩)
          have HR : Hid (∃ (j' k2 : Nat) (es2 : Nat → Value) (ns2 : Nat → Option ByteArray), j' ≤ 70 ∧ Value.iface t1 (.pointer (some ⟨b1, 0, none⟩)) = es2 0 ∧ Value.int .i64 ((j : Int) + 1) = .int .i64 j' ∧ k2 ≤ 64 ∧ Wrapped w3 (.iface 129 (.pointer (some ⟨b, 0, none⟩))) k2 es2 ns2 ∧ Ext (w2.alloc (.cells #[.bool false, .int .i64 25, .bool true, .string fu, .slice a n c, .bool true, .string sa, .bool false, .string ⟨#[]⟩, .string ⟨#[]⟩] 31)) w3) := ⟨j + 1, k', es', ns', h70, he'.symm, by go_num, hk', hW', HX.out.trans hx3⟩
          clear hW' he' hx3
          go_roundw
          case rel => first | exact HR.out | ((repeat apply Exists.intro); exact ⟨HR.out, rfl⟩)
          case measure => simp [intOf]; omega
        · have hd1 : decide ((j : Int) < 70) = false := by simp; omega
          have hd2 : decide ((j : Int) < ss.length) = true := by simp; omega
          have HX : Hid (Ext w wr) := (X2.out.more _).trans hx
          have HT : Hid (wr.heap[w2.heap.size]? = some (.cells #[.bool false, .int .i64 25, .bool true, .string fu, .slice a n c, .bool true, .string sa, .bool false, .string ⟨#[]⟩, .string ⟨#[]⟩] 31)) := hx.block (blk0 w2 _)
          have HE : Hid (RaisedAt wr b 25 fu (.slice a' n' c') sa) := ((Ext.alloc w2 _).trans hx).block HE0.out
          have hl2 : w2.heap.size < wr.heap.size := lt_of_block HT.out
          have hlb : b < wr.heap.size := lt_of_block HE.out
          have x5 : wr.cell? ⟨w2.heap.size, 5, none⟩ = some (.bool true) := cell_of HT.out rfl
          have x6 := cell_of (i := 6) HT.out rfl
          simp only [List.getElem_toArray, List.getElem_cons_zero, List.getElem_cons_succ] at x6
          have HA : Hid (∀ W', Ext wr W' → W'.heap[wr.heap.size]? = some (.cells #[.nilIface] 54) → Calls Tryz.prog 20 #[.iface t0 (.pointer (some ⟨b0, 0, none⟩)), .iface 56 (.pointer (some ⟨wr.heap.size, 0, none⟩))] W' fun r w' => r = .returned (.bool true) ∧ Apart wr.heap.size W' w' ∧ w'.heap[wr.heap.size]? = some (.cells #[(.iface 129 (.pointer (some ⟨b, 0, none⟩)))] 54)) := fun W' hx' hb' => by
            have h := AsB_R b k es ns wr.heap.size W' (hW.later hx') .nilIface hb'
            rw [he] at h
            exact h
          clear hW hx he
          go_wp2_with fail
          go_region_with (first | (go_at_call 20; refine (HA.out _ ((Ext.alloc _ _).drew) (blk0 wr _)).mono ?_; rintro r w6 ⟨rfl, hA6, hB6⟩; have y5 : w6.cell? ⟨w2.heap.size, 5, none⟩ = some (.bool true) := cell_of ((hA6.block _ (by simp; omega) (by omega)).trans (blkOld _ HT.out)) rfl; have y6 : w6.cell? ⟨w2.heap.size, 6, none⟩ = some (.string sa) := cell_of ((hA6.block _ (by simp; omega) (by omega)).trans (blkOld _ HT.out)) rfl; have y0 : w6.cell? ⟨wr.heap.size, 0, none⟩ = some (.iface 129 (.pointer (some ⟨b, 0, none⟩))) := cell_of hB6 rfl; have y3 : w6.cell? ⟨b, 3, none⟩ = some (.string sa) := cell_of ((hA6.block _ (by simp; omega) (by omega)).trans (blkOld _ HE.out)) rfl) | (go_at_call 122; refine (said_of b sa _ (by simpa using y3)).mono ?_; rintro r w7 ⟨rfl, hw7⟩; obtain rfl := hw7.symm))
          all_goals
            have hXX : Ext w w6 := hA6.ext (((HX.out).trans (Ext.alloc _ _)).trans (Ext.drew (Ext.refl _))) (HX.out.size)
            go_wp2
            go_ret
            exact ⟨by first | rfl | simp [Act.put], hXX⟩
      · have hd2 : decide ((j : Int) < ss.length) = false := by simp; omega
        have HX : Hid (Ext w wr) := (X2.out.more _).trans hx
        have HT : Hid (wr.heap[w2.heap.size]? = some (.cells #[.bool false, .int .i64 25, .bool true, .string fu, .slice a n c, .bool true, .string sa, .bool false, .string ⟨#[]⟩, .string ⟨#[]⟩] 31)) := hx.block (blk0 w2 _)
        have HE : Hid (RaisedAt wr b 25 fu (.slice a' n' c') sa) := ((Ext.alloc w2 _).trans hx).block HE0.out
        have hl2 : w2.heap.size < wr.heap.size := lt_of_block HT.out
        have hlb : b < wr.heap.size := lt_of_block HE.out
        have x5 : wr.cell? ⟨w2.heap.size, 5, none⟩ = some (.bool true) := cell_of HT.out rfl
        have x6 := cell_of (i := 6) HT.out rfl
        simp only [List.getElem_toArray, List.getElem_cons_zero, List.getElem_cons_succ] at x6
        have HA : Hid (∀ W', Ext wr W' → W'.heap[wr.heap.size]? = some (.cells #[.nilIface] 54) → Calls Tryz.prog 20 #[.iface t0 (.pointer (some ⟨b0, 0, none⟩)), .iface 56 (.pointer (some ⟨wr.heap.size, 0, none⟩))] W' fun r w' => r = .returned (.bool true) ∧ Apart wr.heap.size W' w' ∧ w'.heap[wr.heap.size]? = some (.cells #[(.iface 129 (.pointer (some ⟨b, 0, none⟩)))] 54)) := fun W' hx' hb' => by
          have h := AsB_R b k es ns wr.heap.size W' (hW.later hx') .nilIface hb'
          rw [he] at h
          exact h
        clear hW hx he
        go_wp2_with fail
        go_region_with (first | (go_at_call 20; refine (HA.out _ ((Ext.alloc _ _).drew) (blk0 wr _)).mono ?_; rintro r w6 ⟨rfl, hA6, hB6⟩; have y5 : w6.cell? ⟨w2.heap.size, 5, none⟩ = some (.bool true) := cell_of ((hA6.block _ (by simp; omega) (by omega)).trans (blkOld _ HT.out)) rfl; have y6 : w6.cell? ⟨w2.heap.size, 6, none⟩ = some (.string sa) := cell_of ((hA6.block _ (by simp; omega) (by omega)).trans (blkOld _ HT.out)) rfl; have y0 : w6.cell? ⟨wr.heap.size, 0, none⟩ = some (.iface 129 (.pointer (some ⟨b, 0, none⟩))) := cell_of hB6 rfl; have y3 : w6.cell? ⟨b, 3, none⟩ = some (.string sa) := cell_of ((hA6.block _ (by simp; omega) (by omega)).trans (blkOld _ HE.out)) rfl) | (go_at_call 122; refine (said_of b sa _ (by simpa using y3)).mono ?_; rintro r w7 ⟨rfl, hw7⟩; obtain rfl := hw7.symm))
        all_goals
          have hXX : Ext w w6 := hA6.ext (((HX.out).trans (Ext.alloc _ _)).trans (Ext.drew (Ext.refl _))) (HX.out.size)
          go_wp2
          go_ret
          exact ⟨by first | rfl | simp [Act.put], hXX⟩
  · have HE0 : Hid (LackingAt w2 b 13 fu (.slice a' n' c') ki ab) := hE
    have hlt0 : b < w2.heap.size := lt_of_block hE
    clear hE hR
    go_wp2_with fail
    go_loopw [5, 7] (fun e i wr => ∃ (j k : Nat) (es : Nat → Value) (ns : Nat → Option ByteArray), j ≤ 70 ∧ e = es 0 ∧ i = .int .i64 j ∧ k ≤ 64 ∧ Wrapped wr (.iface 132 (.pointer (some ⟨b, 0, none⟩))) k es ns ∧ Ext (w2.alloc (.cells #[.bool false, .int .i64 13, .bool true, .string fu, .slice a n c, .bool false, .string ⟨#[]⟩, .bool true, .string ki, .string ab] 31)) wr) (fun _ i _ => 70 - (intOf i).toNat)
    case atStart => exact ⟨0, 0, _, _, by omega, rfl, rfl, by omega, wrapped_K b _ (Nat.lt_of_lt_of_le hlt0 (Ext.alloc w2 _).size), Ext.refl _⟩
    case round =>
      obtain ⟨j, k, es, ns, hj, rfl, rfl, hk, hW, hx⟩ := hrel
      obtain ⟨t0, b0, he⟩ := hW.form 0 (Nat.zero_le _)
      rw [he]
      by_cases hlt : j < ss.length
      · have hlt' : (j : Int) < ss.length := by omega
        by_cases h70 : j < 70
        · have h70' : (j : Int) < 70 := by omega
          obtain ⟨g, off, s, hoa, hs⟩ := hcell.out j wr hlt ((X2.out.more _).trans hx)
          subst hoa
          have HM : Hid (Calls Tryz.prog 13 #[.iface t0 (.pointer (some ⟨b0, 0, none⟩)), .string s] wr fun r w' => ∃ k' es' ns' t1 b1, r = .returned (.iface t1 (.pointer (some ⟨b1, 0, none⟩))) ∧ es' 0 = .iface t1 (.pointer (some ⟨b1, 0, none⟩)) ∧ k' ≤ 64 ∧ Wrapped w' (.iface 132 (.pointer (some ⟨b, 0, none⟩))) k' es' ns' ∧ Ext wr w') := by
            have h := wrap_more s (.iface 132 (.pointer (some ⟨b, 0, none⟩))) k es ns wr (HG.out.later ((X2.out.more _).trans hx)) hk hW
            rw [he] at h
            refine h.mono ?_
            rintro r w' ⟨k', es', ns', rfl, h1, h2, h3⟩
            obtain ⟨t1, b1, he1⟩ := h2.form 0 (Nat.zero_le _)
            exact ⟨k', es', ns', t1, b1, by rw [he1], he1, h1, h2, h3⟩
          have HX : Hid (Ext (w2.alloc (.cells #[.bool false, .int .i64 13, .bool true, .string fu, .slice a n c, .bool false, .string ⟨#[]⟩, .bool true, .string ki, .string ab] 31)) wr) := hx
          clear hW he hx
          go_wp2_with (go_at_call 13; refine HM.out.mono ?_; rintro r w3 ⟨k', es', ns', t1, b1, rfl, he', hk', hW', hx3⟩)
          have HR : Hid (∃ (j' k2 : Nat) (es2 : Nat → Value) (ns2 : Nat → Option ByteArray), j' ≤ 70 ∧ Value.iface t1 (.pointer (some ⟨b1, 0, none⟩)) = es2 0 ∧ Value.int .i64 ((j : Int) + 1) = .int .i64 j' ∧ k2 ≤ 64 ∧ Wrapped w3 (.iface 132 (.pointer (some ⟨b, 0, none⟩))) k2 es2 ns2 ∧ Ext (w2.alloc (.cells #[.bool false, .int .i64 13, .bool true, .string fu, .slice a n c, .bool false, .string ⟨#[]⟩, .bool true, .string ki, .string ab] 31)) w3) := ⟨j + 1, k', es', ns', h70, he'.symm, by go_num, hk', hW', HX.out.trans hx3⟩
          clear hW' he' hx3
          go_roundw
          case rel => first | exact HR.out | ((repeat apply Exists.intro); exact ⟨HR.out, rfl⟩)
          case measure => simp [intOf]; omega
        · have hd1 : decide ((j : Int) < 70) = false := by simp; omega
          have hd2 : decide ((j : Int) < ss.length) = true := by simp; omega
          have HX : Hid (Ext w wr) := (X2.out.more _).trans hx
          have HT : Hid (wr.heap[w2.heap.size]? = some (.cells #[.bool false, .int .i64 13, .bool true, .string fu, .slice a n c, .bool false, .string ⟨#[]⟩, .bool true, .string ki, .string ab] 31)) := hx.block (blk0 w2 _)
          have HE : Hid (LackingAt wr b 13 fu (.slice a' n' c') ki ab) := ((Ext.alloc w2 _).trans hx).block HE0.out
          have hl2 : w2.heap.size < wr.heap.size := lt_of_block HT.out
          have hlb : b < wr.heap.size := lt_of_block HE.out
          have x5 : wr.cell? ⟨w2.heap.size, 5, none⟩ = some (.bool false) := cell_of HT.out rfl
          have x6 := cell_of (i := 6) HT.out rfl
          simp only [List.getElem_toArray, List.getElem_cons_zero, List.getElem_cons_succ] at x6
          have HA : Hid (∀ W', Ext wr W' → Calls Tryz.prog 20 #[.iface t0 (.pointer (some ⟨b0, 0, none⟩)), .iface 56 (.pointer (some ⟨wr.heap.size, 0, none⟩))] W' fun r w' => r = .returned (.bool false) ∧ Ext W' w') := fun W' hx' => by
            have h := AsB_K b k es ns wr.heap.size W' (hW.later hx')
            rw [he] at h
            exact h
          clear hW hx he
          go_wp2_with fail
          first | (go_region_with (first | (go_at_call 20; refine (HA.out _ ((Ext.alloc _ _).drew)).mono ?_; rintro r w6 ⟨rfl, hx6⟩; have y5 : w6.cell? ⟨w2.heap.size, 5, none⟩ = some (.bool false) := cell_of (hx6.block (blkOld _ HT.out)) rfl))) | fail
          all_goals
            have hXX : Ext w w6 := ((HX.out.trans (Ext.alloc _ _)).trans (Ext.drew (Ext.refl _))).trans hx6
            go_wp2
            go_ret
            exact ⟨by first | rfl | simp [Act.put], hXX⟩
      · have hd2 : decide ((j : Int) < ss.length) = false := by simp; omega
        have HX : Hid (Ext w wr) := (X2.out.more _).trans hx
        have HT : Hid (wr.heap[w2.heap.size]? = some (.cells #[.bool false, .int .i64 13, .bool true, .string fu, .slice a n c, .bool false, .string ⟨#[]⟩, .bool true, .string ki, .string ab] 31)) := hx.block (blk0 w2 _)
        have HE : Hid (LackingAt wr b 13 fu (.slice a' n' c') ki ab) := ((Ext.alloc w2 _).trans hx).block HE0.out
        have hl2 : w2.heap.size < wr.heap.size := lt_of_block HT.out
        have hlb : b < wr.heap.size := lt_of_block HE.out
        have x5 : wr.cell? ⟨w2.heap.size, 5, none⟩ = some (.bool false) := cell_of HT.out rfl
        have x6 := cell_of (i := 6) HT.out rfl
        simp only [List.getElem_toArray, List.getElem_cons_zero, List.getElem_cons_succ] at x6
        have HA : Hid (∀ W', Ext wr W' → Calls Tryz.prog 20 #[.iface t0 (.pointer (some ⟨b0, 0, none⟩)), .iface 56 (.pointer (some ⟨wr.heap.size, 0, none⟩))] W' fun r w' => r = .returned (.bool false) ∧ Ext W' w') := fun W' hx' => by
          have h := AsB_K b k es ns wr.heap.size W' (hW.later hx')
          rw [he] at h
          exact h
        clear hW hx he
        go_wp2_with fail
        first | (go_region_with (first | (go_at_call 20; refine (HA.out _ ((Ext.alloc _ _).drew)).mono ?_; rintro r w6 ⟨rfl, hx6⟩; have y5 : w6.cell? ⟨w2.heap.size, 5, none⟩ = some (.bool false) := cell_of (hx6.block (blkOld _ HT.out)) rfl))) | fail
        all_goals
          have hXX : Ext w w6 := ((HX.out.trans (Ext.alloc _ _)).trans (Ext.drew (Ext.refl _))).trans hx6
          go_wp2
          go_ret
          exact ⟨by first | rfl | simp [Act.put], hXX⟩

end Go.Proofs.YtflcmdjekmmkkaaGreatDoor
