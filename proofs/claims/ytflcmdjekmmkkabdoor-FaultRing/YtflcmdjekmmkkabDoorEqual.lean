/-
  slices.Equal of two slices of ints: whether the numbers are the same.
-/
import Derived.Test.YtflcmdjekmmkkabDoorMade
import Derived.LoopTactic
import Derived.Deep.QuietTactic
import Derived.BigQuiet
namespace Go.Proofs.YtflcmdjekmmkkabDoor
open Go.RowKit
attribute [local go_sem] isNCoded isNLocated isNRaised isNLacking isNUnw isNAsI isNUnws isNNoted isGCoded isGLocated isGRaised isGLacking isGUnw isGAsI isGUnws isGNoted isCCoded isCLocated isCRaised isCLacking isCUnw isCAsI isCUnws isCNoted isLCoded isLLocated isLRaised isLLacking isLUnw isLAsI isLUnws isLNoted isRCoded isRLocated isRRaised isRLacking isRUnw isRAsI isRUnws isRNoted isHCoded isHLocated isHRaised isHLacking isHUnw isHAsI isHUnws isHNoted isOCoded isOLocated isORaised isOLacking isOUnw isOAsI isOUnws isONoted toCodedCoded toCodedLocated toCodedRaised toCodedLacking toCodedNoted toLocatedCoded toLocatedLocated toLocatedRaised toLocatedLacking toLocatedNoted toRaisedCoded toRaisedLocated toRaisedRaised toRaisedLacking toRaisedNoted toLackingCoded toLackingLocated toLackingRaised toLackingLacking toLackingNoted toNotedCoded toNotedLocated toNotedRaised toNotedLacking toNotedNoted mNUnwrap mNError mCCode mCError mLCode mLWhere mLError mRCode mRWhere mRSaid mRError mOUnwrap mGUnwrap mGError mHAs mHUnwrap

theorem equal_len (a1 a2 : Option Addr) (n1 n2 c1 c2 : Nat) (w : World) (h : ((n1 : Int) != (n2 : Int)) = true) :
    Calls Tryd.prog 35 #[.slice a1 n1 c1, .slice a2 n2 c2] w fun r w' => r = .returned (.bool false) ∧ w' = w := by
  go_enter Tryd.func35, Tryd.ntmps35
  go_wp2
  go_ret
  exact ⟨rfl, rfl⟩
theorem equal_none (a1 a2 : Option Addr) (c1 c2 : Nat) (w : World) :
    Calls Tryd.prog 35 #[.slice a1 0 c1, .slice a2 0 c2] w fun r w' => r = .returned (.bool true) ∧ w' = w := by
  go_enter Tryd.func35, Tryd.ntmps35
  go_wp2
  refine wp_loop_rounds 1 ?_
  rw [rounds_succ]
  go_wp2
  go_ret
  exact ⟨rfl, rfl⟩
set_option maxRecDepth 100000 in
set_option maxHeartbeats 2000000 in
theorem equal_some (g1 o1 c1 g2 o2 c2 : Nat) (xs ys : List Int) (w : World) (hl : xs.length = ys.length) (hb : xs.length * 8 ≤ 140737488355328)
    (h1 : ∀ (j : Nat) (u : Int), xs[j]? = some u → w.cell? ⟨g1, o1 + j, none⟩ = some (.int .i64 u)) (h2 : ∀ (j : Nat) (u : Int), ys[j]? = some u → w.cell? ⟨g2, o2 + j, none⟩ = some (.int .i64 u)) :
    Calls Tryd.prog 35 #[.slice (some ⟨g1, o1, none⟩) xs.length c1, .slice (some ⟨g2, o2, none⟩) xs.length c2] w fun r w' => r = .returned (.bool (decide (xs = ys))) ∧ Ext w w' := by
  have H1 : Hid (∀ (j : Nat) (u : Int), xs[j]? = some u → w.cell? ⟨g1, o1 + j, none⟩ = some (.int .i64 u)) := h1
  have H2 : Hid (∀ (j : Nat) (u : Int), ys[j]? = some u → w.cell? ⟨g2, o2 + j, none⟩ = some (.int .i64 u)) := h2
  have HL : Hid (xs.length = ys.length) := hl
  clear h1 h2 hl
  have hbn : (xs.length : Int) ≤ 17592186044416 := by omega
  have hnn : ((xs.length : Int) != (xs.length : Int)) = false := by simp
  go_enter Tryd.func35, Tryd.ntmps35
  go_wp2
  go_loopw [13] (fun i wr => ∃ k : Nat, k ≤ xs.length ∧ i = .int .i64 k ∧ (∀ j, j < k → xs[j]? = ys[j]?) ∧ Ext w wr) (fun i _ => xs.length - (intOf i).toNat)
  case atStart => exact ⟨0, Nat.zero_le _, rfl, fun j h => absurd h (Nat.not_lt_zero _), Ext.refl _⟩
  case round =>
    obtain ⟨k, hk, rfl, hall, hx⟩ := hrel
    have HALL : Hid (∀ j, j < k → xs[j]? = ys[j]?) := hall
    have HX : Hid (Ext w wr) := hx
    clear hall hx
    by_cases hlt : k < xs.length
    · have hlty : k < ys.length := by rw [← HL.out]; exact hlt
      obtain ⟨x, hxk⟩ : ∃ x, xs[k]? = some x := ⟨_, List.getElem?_eq_getElem hlt⟩
      obtain ⟨y, hyk⟩ : ∃ y, ys[k]? = some y := ⟨_, List.getElem?_eq_getElem hlty⟩
      have e1 := H1.out k x hxk
      have e2 := H2.out k y hyk
      have cx : wr.cell? ⟨g1, o1 + k, none⟩ = some (.int .i64 x) := (Below.cell HX.out (lt_of_cell e1)).trans e1
      have cy : wr.cell? ⟨g2, o2 + k, none⟩ = some (.int .i64 y) := (Below.cell HX.out (lt_of_cell e2)).trans e2
      have HXK : Hid (xs[k]? = some x) := hxk
      have HYK : Hid (ys[k]? = some y) := hyk
      have hlt' : (k : Int) < xs.length := by omega
      clear e1 e2 hxk hyk
      by_cases hxy : x = y
      · have hq : (x != y) = false := by simp [hxy]
        have HXY : Hid (x = y) := hxy
        clear hxy
        go_wp2
        go_quiet (fail)
        go_wp2
        have hrelw : ∃ k' : Nat, k' ≤ xs.length ∧ Value.int .i64 ((k : Int) + 1) = .int .i64 k' ∧ (∀ j, j < k' → xs[j]? = ys[j]?) ∧ Ext w (wr.drewN nq) := ⟨k + 1, hlt, by go_num, fun j hj => by
          rcases Nat.lt_or_eq_of_le (Nat.le_of_lt_succ hj) with h | h
          · exact HALL.out j h
          · rw [h, HXK.out, HYK.out, HXY.out], HX.out.trans (by exact below_drewN (Below.refl _ _) _)⟩
        go_roundw
        case rel => first | exact hrelw | ((repeat apply Exists.intro); exact ⟨hrelw, rfl⟩)
        case measure => simp [intOf]; omega
      · have hq : (x != y) = true := by simp [hxy]
        have HXY : Hid (¬ x = y) := hxy
        clear hxy
        go_wp2
        go_quiet (fail)
        go_wp2
        go_ret
        refine ⟨?_, HX.out.trans (by exact below_drewN (Below.refl _ _) _)⟩
        have hd : decide (xs = ys) = false := by
          rw [decide_eq_false_iff_not]
          intro e
          have := HXK.out
          rw [e, HYK.out] at this
          exact HXY.out (Option.some.inj this).symm
        rw [hd]; rfl
    · go_wp2
      go_ret
      refine ⟨?_, HX.out⟩
      have hd : decide (xs = ys) = true := by
        rw [decide_eq_true_iff]
        refine List.ext_getElem? (fun j => ?_)
        rcases Nat.lt_or_ge j k with h | h
        · exact HALL.out j h
        · have hl := HL.out
          rw [List.getElem?_eq_none (by omega), List.getElem?_eq_none (by omega)]
      rw [hd]; rfl
theorem equal_any (v1 v2 : Value) (xs ys : List Int) (w : World) (hb : xs.length * 8 ≤ 140737488355328) (h1 : Ints w v1 xs) (h2 : Ints w v2 ys) :
    Calls Tryd.prog 35 #[v1, v2] w fun r w' => r = .returned (.bool (decide (xs = ys))) ∧ Ext w w' := by
  have sh : ∀ (v : Value) (zs : List Int), Ints w v zs → ∃ a c, v = .slice a zs.length c := fun v zs h => by
    rcases h with ⟨rfl, rfl⟩ | ⟨g, off, cap, rfl, _⟩
    · exact ⟨_, _, rfl⟩
    · exact ⟨_, _, rfl⟩
  by_cases hl : xs.length = ys.length
  · rcases h1 with ⟨rfl, rfl⟩ | ⟨g1, o1, c1, rfl, hc1⟩
    · obtain rfl : ys = [] := List.eq_nil_of_length_eq_zero hl.symm
      obtain ⟨a, c, rfl⟩ := sh _ _ h2
      exact (equal_none _ _ _ _ w).mono (by rintro r w' ⟨rfl, rfl⟩; exact ⟨rfl, Ext.refl _⟩)
    · rcases h2 with ⟨rfl, rfl⟩ | ⟨g2, o2, c2, rfl, hc2⟩
      · obtain rfl : xs = [] := List.eq_nil_of_length_eq_zero hl
        exact (equal_none _ _ _ _ w).mono (by rintro r w' ⟨rfl, rfl⟩; exact ⟨rfl, Ext.refl _⟩)
      · rw [← hl]
        exact equal_some g1 o1 c1 g2 o2 c2 xs ys w hl hb hc1 hc2
  · obtain ⟨a1, c1, rfl⟩ := sh _ _ h1
    obtain ⟨a2, c2, rfl⟩ := sh _ _ h2
    refine (equal_len a1 a2 xs.length ys.length c1 c2 w (by rw [bne_iff_ne]; omega)).mono ?_
    rintro r w' ⟨rfl, rfl⟩
    have hd : decide (xs = ys) = false := by
      rw [decide_eq_false_iff_not]
      intro e; exact hl (by rw [e])
    exact ⟨by rw [hd], Ext.refl _⟩


end Go.Proofs.YtflcmdjekmmkkabDoor
