/-
  The reference's left, May and Size, each by a contract.
-/
import Derived.Test.YtecabbifkcnbeaaGreatDoorCIn
import Derived.Test.YtecabbifkcnbeaaGreatDoorKKit
import Derived.Deep.RegionHeld3
namespace Go.Proofs.YtecabbifkcnbeaaGreatDoor
open Go.RowKit
/-- What is left of sz behind a value with so many lists around it; -1: it may not be. -/
def leftN (sz nest : Nat) (t : T) : Int := if T.ok sz nest t then ((sz - t.size : Nat) : Int) else -1
theorem leftN_range (sz nest : Nat) (t : T) : -1 ≤ leftN sz nest t ∧ leftN sz nest t ≤ sz := by unfold leftN; split <;> omega
def goodP (k n : Int) (s l dp : Nat) : Prop := T.wfP k n s l ∧ (k = 5 → dp < 64)
instance (k n : Int) (s l dp : Nat) : Decidable (goodP k n s l dp) := by unfold goodP; exact inferInstance
/-- What the loop over the kids has left. -/
def kidsN (sz nest : Nat) (ks : List T) : Int := if T.goodL ks ∧ T.sizeL ks ≤ sz ∧ T.deepL ks ≤ nest then ((sz - T.sizeL ks : Nat) : Int) else -1
theorem kidsN_range (sz nest : Nat) (ks : List T) : -1 ≤ kidsN sz nest ks ∧ kidsN sz nest ks ≤ sz := by unfold kidsN; split <;> omega
theorem kidsN_nil (sz nest : Nat) : kidsN sz nest [] = sz := by simp [kidsN, T.goodL, T.sizeL, T.deepL]
theorem kidsN_next (sz nest : Nat) (ks : List T) (j : Nat) (h : j < ks.length) (h0 : 0 ≤ kidsN sz nest (ks.take j)) : kidsN sz nest (ks.take (j + 1)) = leftN (kidsN sz nest (ks.take j)).toNat nest ks[j] := by
  have s1 := T.sizeL_take ks j h
  have s2 := T.deepL_take ks j h
  have s3 := T.goodL_take ks j h
  unfold kidsN at h0 ⊢
  unfold leftN
  split at h0
  · next hh =>
    rw [if_pos hh]
    obtain ⟨h1, h2, h3⟩ := hh
    rw [Int.toNat_natCast]
    by_cases g : T.ok (sz - T.sizeL (ks.take j)) nest ks[j]
    · have g1 := g.2.1
      have g2 := g.2.2
      rw [if_pos g, if_pos ⟨s3.2 ⟨h1, g.1⟩, by omega, by omega⟩]
      congr 1
      omega
    · rw [if_neg g, if_neg]
      rintro ⟨q1, q2, q3⟩
      exact g ⟨(s3.1 q1).2, by omega, by omega⟩
  · omega
theorem kidsN_stop (sz nest : Nat) (ks : List T) (j : Nat) (h0 : kidsN sz nest (ks.take j) < 0) : kidsN sz nest ks = -1 := by
  unfold kidsN at h0 ⊢
  split at h0
  · omega
  · next hh =>
    rw [if_neg]
    rintro ⟨q1, q2, q3⟩
    have s4 := T.sizeL_split ks j
    have s5 := T.deepL_split ks j
    exact hh ⟨((T.goodL_split ks j).1 q1).1, by omega, by omega⟩
theorem leftN_bad {sz dp : Nat} {k n : Int} {x : ByteArray} {ks : List T} (h : ¬ goodP k n x.size ks.length dp) (hd : dp ≤ 64) : leftN sz (64 - dp) (.node k n x ks) = -1 := by
  unfold leftN
  rw [if_neg]
  rintro ⟨q1, q2, q3⟩
  refine h ⟨q1.1, fun e => ?_⟩
  subst e
  simp only [T.deep, if_pos] at q3
  omega
theorem leftN_short {sz nest : Nat} {k n : Int} {x : ByteArray} {ks : List T} (h : (sz : Int) - 1 - x.size < 0) : leftN sz nest (.node k n x ks) = -1 := by
  unfold leftN
  rw [if_neg]
  rintro ⟨q1, q2, q3⟩
  simp only [T.size] at q2
  omega
theorem leftN_kids {sz dp S : Nat} {k n : Int} {x : ByteArray} {ks : List T} (h : goodP k n x.size ks.length dp) (hS : (S : Int) = (sz : Int) - 1 - x.size) : leftN sz (64 - dp) (.node k n x ks) = kidsN S (64 - (dp + 1)) ks := by
  obtain ⟨hw, hd⟩ := h
  unfold leftN kidsN
  by_cases k5 : k = 5
  · subst k5
    have := hd rfl
    by_cases g : T.goodL ks ∧ T.sizeL ks ≤ S ∧ T.deepL ks ≤ 64 - (dp + 1)
    · rw [if_pos g, if_pos (show T.ok sz (64 - dp) (.node 5 n x ks) from ⟨⟨hw, g.1⟩, by simp only [T.size]; omega, by simp only [T.deep, if_pos]; omega⟩)]
      simp only [T.size]
      congr 1
      omega
    · rw [if_neg g, if_neg]
      rintro ⟨q1, q2, q3⟩
      simp only [T.size] at q2
      simp only [T.deep, if_pos] at q3
      exact g ⟨q1.2, by omega, by omega⟩
  · have l0 : ks = [] := List.eq_nil_of_length_eq_zero (T.wf_leaf hw k5)
    subst l0
    rw [if_pos (show T.ok sz (64 - dp) (.node k n x []) from ⟨⟨hw, trivial⟩, by simp only [T.size, T.sizeL]; omega, by simp only [T.deep, if_neg k5]; omega⟩), if_pos ⟨trivial, by simp [T.sizeL], by simp [T.deepL]⟩]
    simp only [T.size, T.sizeL]
    congr 1
    omega
theorem size0 : (⟨#[]⟩ : ByteArray).size = 0 := rfl
theorem bool_of {p : Prop} [Decidable p] {b : Bool} (h : decide p = b) : Value.bool b = .bool (decide p) := by rw [h]
set_option maxRecDepth 100000 in
set_option maxHeartbeats 4000000 in
theorem left_any : ∀ (d : Nat) (v : Value) (t : T) (K : Nat → Prop) (w : World) (sz dp : Nat), Rd K w d v t → sz ≤ 65536 → dp ≤ 64 →
    Calls Tryz.prog 112 #[v, .int .i64 sz, .int .i64 dp] w fun e w' => e = .returned (.int .i64 (leftN sz (64 - dp) t)) ∧ Ext w w' := by
  intro d
  induction d with
  | zero => intro v t K w sz dp h; exact h.elim
  | succ d ih =>
    intro v t K w sz dp hr hS hD
    obtain ⟨k, n, x, ks⟩ := t
    obtain ⟨a, c, rfl, hkl⟩ := hr.kidsL
    have hx : x.size ≤ 140737488351232 := by obtain ⟨_, _, _, h2, _⟩ := hr; exact h2
    have HK := hid hkl
    have HIH := hid ih
    have hl' : (ks.length : Int) ≤ 140737488355328 := by have := hkl.1; omega
    have hx' : (x.size : Int) ≤ 140737488355328 := by omega
    clear hr hkl ih
    go_enter Tryz.func112, Tryz.ntmps112
    go_upto_block 0 with fail
    go_cut [7] from 9 (fun g wx => g = .bool (decide (goodP k n x.size ks.length dp)) ∧ wx = w.alloc (.cells #[.int .i64 k, .int .i64 n, .string x, .slice a ks.length c] 34))
    case first =>
      have x1 : ¬ x.size = 0 → ¬ x.toList = [] := fun h h' => h (toList_nil.1 h')
      clear hl' hx'
      by_cases k1 : k = 1
      · subst k1
        by_cases n0 : n = 0
        · subst n0
          by_cases x0 : x.size = 0
          · obtain rfl := empty_of x0
            clear x1 x0
            by_cases l0 : ks.length = 0
            · have l1 : ((ks.length : Int) == 0) = true := by simpa using l0
              go_wp2_with fail
              go_meet
              case rel => exact ⟨bool_of (decide_eq_true (by have := size0; unfold goodP T.wfP; omega)), by first | rfl | rw [l0]⟩
            · have l1 : ((ks.length : Int) == 0) = false := by simpa using l0
              go_wp2_with fail
              go_meet
              case rel => exact ⟨bool_of (decide_eq_false (by have := size0; unfold goodP T.wfP; omega)), by first | rfl | rw [l0]⟩
          · have x2 := x1 x0
            go_wp2_with fail
            go_meet
            case rel => exact ⟨bool_of (decide_eq_false (by have := size0; unfold goodP T.wfP; omega)), by first | rfl | rw [l0]⟩
        · have n1 : (n == 0) = false := by simpa using n0
          go_wp2_with fail
          go_meet
          case rel => exact ⟨bool_of (decide_eq_false (by have := size0; unfold goodP T.wfP; omega)), by first | rfl | rw [l0]⟩
      by_cases k2 : k = 2
      · subst k2
        by_cases n0 : n = 0
        · subst n0
          by_cases x0 : x.size = 0
          · obtain rfl := empty_of x0
            clear x1 x0
            by_cases l0 : ks.length = 0
            · have l1 : ((ks.length : Int) == 0) = true := by simpa using l0
              go_wp2_with fail
              go_meet
              case rel => exact ⟨bool_of (decide_eq_true (by have := size0; unfold goodP T.wfP; omega)), by first | rfl | rw [l0]⟩
            · have l1 : ((ks.length : Int) == 0) = false := by simpa using l0
              go_wp2_with fail
              go_meet
              case rel => exact ⟨bool_of (decide_eq_false (by have := size0; unfold goodP T.wfP; omega)), by first | rfl | rw [l0]⟩
          · have x2 := x1 x0
            go_wp2_with fail
            go_meet
            case rel => exact ⟨bool_of (decide_eq_false (by have := size0; unfold goodP T.wfP; omega)), by first | rfl | rw [l0]⟩
        by_cases n2 : n = 1
        · subst n2
          clear n0
          by_cases x0 : x.size = 0
          · obtain rfl := empty_of x0
            clear x1 x0
            by_cases l0 : ks.length = 0
            · have l1 : ((ks.length : Int) == 0) = true := by simpa using l0
              go_wp2_with fail
              go_meet
              case rel => exact ⟨bool_of (decide_eq_true (by have := size0; unfold goodP T.wfP; omega)), by first | rfl | rw [l0]⟩
            · have l1 : ((ks.length : Int) == 0) = false := by simpa using l0
              go_wp2_with fail
              go_meet
              case rel => exact ⟨bool_of (decide_eq_false (by have := size0; unfold goodP T.wfP; omega)), by first | rfl | rw [l0]⟩
          · have x2 := x1 x0
            go_wp2_with fail
            go_meet
            case rel => exact ⟨bool_of (decide_eq_false (by have := size0; unfold goodP T.wfP; omega)), by first | rfl | rw [l0]⟩
        have n1 : (n == 0) = false := by simpa using n0
        have n3 : (n == 1) = false := by simpa using n2
        go_wp2_with fail
        go_meet
        case rel => exact ⟨bool_of (decide_eq_false (by have := size0; unfold goodP T.wfP; omega)), by first | rfl | rw [l0]⟩
      by_cases k3 : k = 3
      · subst k3
        by_cases x0 : x.size = 0
        · obtain rfl := empty_of x0
          clear x1 x0
          by_cases l0 : ks.length = 0
          · have l1 : ((ks.length : Int) == 0) = true := by simpa using l0
            go_wp2_with fail
            go_meet
            case rel => exact ⟨bool_of (decide_eq_true (by have := size0; unfold goodP T.wfP; omega)), by first | rfl | rw [l0]⟩
          · have l1 : ((ks.length : Int) == 0) = false := by simpa using l0
            go_wp2_with fail
            go_meet
            case rel => exact ⟨bool_of (decide_eq_false (by have := size0; unfold goodP T.wfP; omega)), by first | rfl | rw [l0]⟩
        · have x2 := x1 x0
          go_wp2_with fail
          go_meet
          case rel => exact ⟨bool_of (decide_eq_false (by have := size0; unfold goodP T.wfP; omega)), by first | rfl | rw [l0]⟩
      by_cases k4 : k = 4
      · subst k4
        by_cases n0 : n = 0
        · subst n0
          by_cases l0 : ks.length = 0
          · have l1 : ((ks.length : Int) == 0) = true := by simpa using l0
            go_wp2_with fail
            go_meet
            case rel => exact ⟨bool_of (decide_eq_true (by have := size0; unfold goodP T.wfP; omega)), by first | rfl | rw [l0]⟩
          · have l1 : ((ks.length : Int) == 0) = false := by simpa using l0
            go_wp2_with fail
            go_meet
            case rel => exact ⟨bool_of (decide_eq_false (by have := size0; unfold goodP T.wfP; omega)), by first | rfl | rw [l0]⟩
        · have n1 : (n == 0) = false := by simpa using n0
          go_wp2_with fail
          go_meet
          case rel => exact ⟨bool_of (decide_eq_false (by have := size0; unfold goodP T.wfP; omega)), by first | rfl | rw [l0]⟩
      by_cases k5 : k = 5
      · subst k5
        by_cases n0 : n = 0
        · subst n0
          by_cases x0 : x.size = 0
          · obtain rfl := empty_of x0
            clear x1 x0
            by_cases d0 : dp < 64
            · have d1 : decide ((dp : Int) < 64) = true := decide_eq_true (by omega)
              go_wp2_with fail
              go_meet
              case rel => exact ⟨bool_of (decide_eq_true (by have := size0; unfold goodP T.wfP; omega)), by first | rfl | rw [l0]⟩
            · have d1 : decide ((dp : Int) < 64) = false := decide_eq_false (by omega)
              go_wp2_with fail
              go_meet
              case rel => exact ⟨bool_of (decide_eq_false (by have := size0; unfold goodP T.wfP; omega)), by first | rfl | rw [l0]⟩
          · have x2 := x1 x0
            go_wp2_with fail
            go_meet
            case rel => exact ⟨bool_of (decide_eq_false (by have := size0; unfold goodP T.wfP; omega)), by first | rfl | rw [l0]⟩
        · have n1 : (n == 0) = false := by simpa using n0
          go_wp2_with fail
          go_meet
          case rel => exact ⟨bool_of (decide_eq_false (by have := size0; unfold goodP T.wfP; omega)), by first | rfl | rw [l0]⟩
      go_wp2_with fail
      go_meet
      case rel => exact ⟨bool_of (decide_eq_false (by have := size0; unfold goodP T.wfP; omega)), by first | rfl | rw [l0]⟩
    case rest =>
      obtain ⟨rfl, rfl⟩ := hcut
      have hb0 := blk0 w (.cells #[.int .i64 k, .int .i64 n, .string x, .slice a ks.length c] 34)
      obtain ⟨q0, q1, q2, q3⟩ := four_of hb0
      by_cases hg : goodP k n x.size ks.length dp
      · have hgd : decide (goodP k n x.size ks.length dp) = true := decide_eq_true hg
        rw [hgd]
        clear hgd
        have HG := hid hg
        clear hg
        by_cases hs : (sz : Int) - 1 - x.size < 0
        · have hs' : decide ((sz : Int) - 1 - x.size < 0) = true := decide_eq_true hs
          have HE := hid (leftN_short (nest := 64 - dp) (k := k) (n := n) (ks := ks) hs)
          clear hs
          go_wp2_with fail
          go_ret
          exact ⟨ret_int' HE.out.symm, Ext.alloc _ _⟩
        · have hs' : decide ((sz : Int) - 1 - x.size < 0) = false := decide_eq_false hs
          obtain ⟨S, hSe⟩ : ∃ S : Nat, (S : Int) = (sz : Int) - 1 - x.size := ⟨((sz : Int) - 1 - x.size).toNat, by omega⟩
          have HE := hid (leftN_kids HG.out hSe)
          have HSZ := hid (show S ≤ 65536 by omega)
          rw [← hSe] at hs'
          have HSE := hid hSe
          clear hs hSe
          have hs2 : decide ((sz : Int) - 1 - x.size < 0) = false := decide_eq_false (by have := HSE.out; omega)
          go_wp2_with fail
          rw [← HSE.out]
          have hS1 : S ≤ 65536 := HSZ.out
          clear hs' hs2 q0 q1 q2 q3
          go_loopw [1, 8] (fun s i wr => ∃ j : Nat, j ≤ ks.length ∧ i = .int .i64 j ∧ s = .int .i64 (kidsN S (64 - (dp + 1)) (ks.take j)) ∧ Ext (w.alloc (.cells #[.int .i64 k, .int .i64 n, .string x, .slice a ks.length c] 34)) wr) (fun _ i _ => ks.length - (intOf i).toNat)
          case atStart => exact ⟨0, Nat.zero_le _, rfl, by rw [List.take_zero, kidsN_nil], Ext.refl _⟩
          case round =>
            obtain ⟨j, hj, rfl, rfl, hx1⟩ := hrel
            have HX1 := hid hx1
            obtain ⟨q0, q1, q2, q3⟩ := four_of (hx1.block hb0)
            clear hx1
            have hr1 := kidsN_range S (64 - (dp + 1)) (ks.take j)
            have HNX := hid (kidsN_next S (64 - (dp + 1)) ks j)
            have HST := hid (kidsN_stop S (64 - (dp + 1)) ks j)
            have HTK := hid (show j = ks.length → ks.take j = ks from fun e => by rw [e, List.take_length])
            generalize hM : kidsN S (64 - (dp + 1)) (ks.take j) = M at hr1 HNX HST ⊢
            have HM := hid hM
            clear hM
            by_cases hlt : j < ks.length
            · have hlt' : (j : Int) < ks.length := by omega
              by_cases hM0 : 0 ≤ M
              · obtain ⟨g, off, k', n', x', a', l', c', rfl, hg, h4, hrd⟩ := HK.out.kid hlt
                have hd : dp < 64 := by
                  have h1 := HG.out
                  rcases h1.1 with h | h | h | h | h
                  · omega
                  · omega
                  · omega
                  · omega
                  · exact h1.2 h.1
                have HXw := hid ((Ext.alloc w _).trans HX1.out)
                obtain ⟨m0, m1, m2, m3⟩ := h4.keep (HXw.out.kp K) hg
                have hgl := lt_of_cell m0
                obtain ⟨M', rfl⟩ : ∃ M' : Nat, M = M' := ⟨M.toNat, by omega⟩
                have hge : decide (0 ≤ (M' : Int)) = true := decide_eq_true hM0
                have HC := hid (HIH.out _ ks[j] K wr M' (dp + 1) (hrd.later HXw.out) (by omega) (by omega))
                have hN := HNX.out hlt hM0
                rw [Int.toNat_natCast] at hN
                have HN := hid hN
                have hdI : (dp : Int) < 64 := by omega
                rw [show ((dp + 1 : Nat) : Int) = (dp : Int) + 1 by omega] at HC
                clear h4 hrd hg hN
                generalize leftN M' (64 - (dp + 1)) ks[j] = V at HC HN
                go_wp2_with fail
                refine HC.out.mono ?_
                rintro e w2 ⟨rfl, hx2⟩
                have HX2 := hid (HX1.out.trans hx2)
                clear hx2 HC m0 m1 m2 m3 q0 q1 q2 q3
                go_wp2_with fail
                go_roundw
                case rel =>
                  have REL : ∃ j' : Nat, j' ≤ ks.length ∧ Value.int .i64 ((j : Int) + 1) = .int .i64 j' ∧ Value.int .i64 V = .int .i64 (kidsN S (64 - (dp + 1)) (ks.take j')) ∧ Ext (w.alloc (.cells #[.int .i64 k, .int .i64 n, .string x, .slice (some ⟨g, off, none⟩) ks.length c] 34)) w2 :=
                    ⟨j + 1, hlt, by go_num, by rw [HN.out], HX2.out⟩
                  first | exact REL | ((repeat apply Exists.intro); exact ⟨REL, rfl⟩)
                case measure => simp [intOf]; omega
              · have hge : decide (0 ≤ M) = false := decide_eq_false hM0
                have HE2 := hid (HST.out (by omega))
                have hM1 : M = -1 := by omega
                subst hM1
                go_wp2_with fail
                go_ret
                exact ⟨ret_int' (HE.out.trans HE2.out).symm, (Ext.alloc w _).trans HX1.out⟩
            · have hje : j = ks.length := by omega
              have HE2 := hid (show M = kidsN S (64 - (dp + 1)) ks by rw [← HM.out, HTK.out hje])
              clear hje
              go_wp2_with fail
              go_ret
              exact ⟨ret_int' (HE2.out.trans HE.out.symm), (Ext.alloc w _).trans HX1.out⟩
      · have hgd : decide (goodP k n x.size ks.length dp) = false := decide_eq_false hg
        rw [hgd]
        have HE := hid (leftN_bad (sz := sz) hg hD)
        clear hgd hg
        go_wp2_with fail
        go_ret
        exact ⟨ret_int' HE.out.symm, Ext.alloc _ _⟩
set_option maxRecDepth 100000 in
theorem rmay_any {K : Nat → Prop} {d : Nat} {v : Value} {t : T} (w : World) (hr : Rd K w d v t) :
    Calls Tryz.prog 60 #[v] w fun e w' => e = .returned (.bool (decide t.may)) ∧ Ext w w' := by
  obtain ⟨u0, u1, u2, u3, rfl⟩ := hr.agg
  obtain ⟨k, n, x, a, c, rfl, rfl, rfl, rfl⟩ := hr.shape
  have HC := hid (fun w1 (h : Ext w w1) => left_any d _ t K w1 65536 0 (hr.later h) (by omega) (by omega))
  have HR := leftN_range 65536 (64 - 0) t
  have HE := hid (show decide (0 ≤ leftN 65536 (64 - 0) t) = decide t.may by
    unfold leftN
    by_cases h : T.ok 65536 (64 - 0) t
    · rw [if_pos h, decide_eq_true (show t.may from h)]; exact decide_eq_true (by omega)
    · rw [if_neg h, decide_eq_false (show ¬ t.may from h)]; rfl)
  clear hr
  generalize leftN 65536 (64 - 0) t = M at *
  generalize (T.kids t).length = kt at *
  go_enter Tryz.func60, Tryz.ntmps60
  go_wp2_with fail
  refine (HC.out _ (Ext.alloc _ _)).mono ?_
  rintro e w1 ⟨rfl, hx1⟩
  have HX := hid ((Ext.alloc w _).trans hx1)
  clear hx1
  go_wp2_with fail
  go_ret
  exact ⟨ret_bool HE.out, HX.out⟩
end Go.Proofs.YtecabbifkcnbeaaGreatDoor
/-
  (*Kit).Rows, (*Kit).Row, EqNames and EqRow of rows that are the same: by contracts.
-/
namespace Go.Proofs.YtecabbifkcnbeaaGreatDoor
open Go.RowKit
theorem app_ritem {ops : Array Oper} {rest : List Oper} {o : Oper} {ac : Act} {Q : Exit → Act → World → Prop} {ty : TypeId} (w : World) (hgd : o.guard = none) (x y : Operand)
    (ho : o.op = .call { callee := .builtin .append, args := #[x, y], argTypes := #[102, 102] }) (hty : o.type = 102)
    (base g : Nat) (lv : Value) (acc : List Rw) (r : Rw) (a : Option Addr) (c : Nat) (hx : ac.eval x = lv) (hy : ac.eval y = .slice (some ⟨g, 0, none⟩) 1 1) (hB : base ≤ w.heap.size)
    (hit : RItems w base lv acc) (hg : w.heap[g]? = some (.cells (r.cells a c).toArray ty)) (htb : TB w a r.abs) (hlim : acc.length ≤ 2000000)
    (h : ∀ ao c' w', RItems w' base (.slice ao (acc.length + 1) c') (acc ++ [r]) → w.grownBy w' lv.ownBlock → wpList Tryz.prog ops Q rest (ac.put o.dst (.slice ao (acc.length + 1) c')) w') :
    wpList Tryz.prog ops Q (o :: rest) ac w := by
  refine wpList_plain hgd fun K hK => ?_
  obtain ⟨ao, c', w', hr, h2, h3⟩ := run_ritem (ty := ty) base g lv acc r a c hB hit hg htb hlim
  unfold Oper.wp execOp
  rw [List.length_append] at hr h2
  simp only [ho, hty, resolve, invoke, builtin, Sem.run_bind, Sem.run_pure, Result.andThen_ok, List.map_toArray, List.map_cons, List.map_nil, hx, hy, hr]
  exact hK _ _ (h ao c' w' h2 h3)
/-- The rows told so far. -/
def RowsLp (w : World) (acc : List Rw) (j : Nat) (ao : Option Addr) (c : Nat) (wr : World) : Prop := RItems wr w.heap.size (.slice ao j c) (acc.take j) ∧ Ext w wr
/-- What Rows tells. -/
def RowsR (w : World) (acc : List Rw) (e : Ending) (w' : World) : Prop := ∃ ao c, e = .returned (.slice ao acc.length c) ∧ RItems w' w.heap.size (.slice ao acc.length c) acc ∧ Ext w w'
/-- What Row tells. -/
def RowR (w : World) (r : Rw) (e : Ending) (w' : World) : Prop := ∃ a c, e = .returned (.tuple #[r.val a c, .bool true]) ∧ TB w' a r.abs ∧ Ext w w'
end Go.Proofs.YtecabbifkcnbeaaGreatDoor
/-
  espalierlaw8.Rows of a kit and the rows that it bears, in general.
-/
namespace Go.Proofs.YtecabbifkcnbeaaGreatDoor
open Go.RowKit
/-- A block of rows, new and full. -/
theorem ritems_new {w : World} {base g n : Nat} {cur : Array Value} {acc : List Rw} (hn : acc.length = n) (hb : base ≤ g) (hg : w.heap[g]? = some (.cells cur 118)) (hs : cur.size = n * 6) (hlim : n ≤ 1000) (hall : ∀ j, (h : j < acc.length) → ∃ a c, RAt cur.toList (j * 6) acc[j] a c ∧ TB w a acc[j].abs) : RItems w base (.slice (some ⟨g, 0, none⟩) n n) acc := by
  subst hn
  refine ⟨cur.toList, ⟨by simpa using hs, .inr ⟨g, acc.length, cur, rfl, hb, hg, Nat.le_refl _, ?_, hs, ?_⟩⟩, hall⟩
  · unfold maxLen; omega
  · exact List.take_of_length_le (Nat.le_of_eq (by simpa using hs))
theorem tb_new {w : World} {g : Nat} {cur : Array Value} {xs : List ByteArray} (hb : w.heap[g]? = some (.cells cur 9)) (h : cur = (xs.map Value.string).toArray) : TB w (some ⟨g, 0, none⟩) xs := by
  subst h
  exact .inr ⟨g, _, rfl, hb, fun j hj => by simp [hj]⟩
end Go.Proofs.YtecabbifkcnbeaaGreatDoor
