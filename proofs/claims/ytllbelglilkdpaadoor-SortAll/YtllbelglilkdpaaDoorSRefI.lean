/-
  The reference's left, May and Size, each by a contract.
-/
import Derived.Test.YtllbelglilkdpaaDoorHolds
import Derived.Deep.RegionHeld3
import Derived.Deep.Cut
import Derived.Deep.DeepCutAuto
import Derived.Test.YtllbelglilkdpaaDoorSRefG
namespace Go.Proofs.YtllbelglilkdpaaDoor
open Go.RowKit
def RdL (K : Nat → Prop) (w : World) (d : Nat) (a : Option Addr) (ks : List T) : Prop := ks.length * 56 ≤ 140737488351232 ∧
  (ks = [] ∨ ∃ g off, a = some ⟨g, off, none⟩ ∧ K g ∧ ∀ j, (h : j < ks.length) → ∃ u0 u1 u2 u3, Four w g (off + j * 4) u0 u1 u2 u3 ∧ Rd K w d (.agg #[u0, u1, u2, u3]) ks[j])
theorem Rd.kidsL {K : Nat → Prop} {w : World} {d : Nat} {v : Value} {k n : Int} {x : ByteArray} {ks : List T} (h : Rd K w (d + 1) v (.node k n x ks)) :
    ∃ a c, v = .agg #[.int .i64 k, .int .i64 n, .string x, .slice a ks.length c] ∧ RdL K w d a ks := by
  obtain ⟨a, c, h1, h3, h4, h5⟩ := h
  exact ⟨a, c, h1, h4, h5⟩
theorem RdL.kid {K : Nat → Prop} {w : World} {d : Nat} {a : Option Addr} {ks : List T} (h : RdL K w d a ks) {j : Nat} (hj : j < ks.length) :
    ∃ g off k n x a' l c, a = some ⟨g, off, none⟩ ∧ K g ∧ Four w g (off + j * 4) (.int .i64 k) (.int .i64 n) (.string x) (.slice a' l c) ∧ Rd K w d (.agg #[.int .i64 k, .int .i64 n, .string x, .slice a' l c]) ks[j] := by
  rcases h.2 with h0 | ⟨g, off, rfl, hg, hc⟩
  · subst h0; exact absurd hj (Nat.not_lt_zero _)
  · obtain ⟨u0, u1, u2, u3, h4, hr⟩ := hc j hj
    obtain ⟨k, n, x, a', c', rfl, rfl, rfl, rfl⟩ := hr.shape
    exact ⟨g, off, k, n, x, a', _, c', rfl, hg, h4, hr⟩
theorem RdL.keep {K : Nat → Prop} {w w' : World} {d : Nat} {a : Option Addr} {ks : List T} (h : RdL K w d a ks) (hk : Kp K w w') : RdL K w' d a ks :=
  ⟨h.1, h.2.imp id fun ⟨g, off, ha, hg, hc⟩ => ⟨g, off, ha, hg, fun j hj => by
      obtain ⟨u0, u1, u2, u3, hf, hr⟩ := hc j hj
      exact ⟨u0, u1, u2, u3, hf.keep hk hg, Rd.keep hk hr⟩⟩⟩
theorem four_of {w : World} {b : Nat} {v0 v1 v2 v3 : Value} {t : TypeId} (h : w.heap[b]? = some (.cells #[v0, v1, v2, v3] t)) : Four w b 0 v0 v1 v2 v3 := ⟨cell_of h rfl, cell_of h rfl, cell_of h rfl, cell_of h rfl⟩
theorem ret_int' {a b : Int} (h : a = b) : Ending.returned (.int .i64 a) = .returned (.int .i64 b) := by rw [h]
/-- What is left of sz behind a value with so many lists around it; -1: it may not be. -/
def leftN (sz nest : Nat) (t : T) : Int := if T.ok sz nest t then ((sz - t.size : Nat) : Int) else -1
theorem leftN_range (sz nest : Nat) (t : T) : -1 ≤ leftN sz nest t ∧ leftN sz nest t ≤ sz := by unfold leftN; split <;> omega
def goodP (k n : Int) (s l dp : Nat) : Prop := T.wfP k n s l ∧ (k = 5 → dp < 64)
instance (k n : Int) (s l dp : Nat) : Decidable (goodP k n s l dp) := by unfold goodP; exact inferInstance
/-- What the loop over the kids has left. -/
def kidsN (sz nest : Nat) (ks : List T) : Int := if T.goodL ks ∧ T.sizeL ks ≤ sz ∧ T.deepL ks ≤ nest then ((sz - T.sizeL ks : Nat) : Int) else -1
theorem kidsN_range (sz nest : Nat) (ks : List T) : -1 ≤ kidsN sz nest ks ∧ kidsN sz nest ks ≤ sz := by unfold kidsN; split <;> omega
theorem kidsN_nil (sz nest : Nat) : kidsN sz nest [] = sz := by simp [kidsN, T.goodL, T.sizeL, T.deepL]
theorem kidsN_next (sz nest : Nat) (ks : List T) (j : Nat) (h : j < ks.length) (h0 : 0 ≤ kidsN sz nest (ks.take j)) : kidsN sz nest (ks.take (j + 1)) = leftN (kidsN sz nest (ks.take j)).toNat nest ks[j] := by
  have s1 := T.sizeL_take ks j h
  have s2 := T.deepL_take ks j h
  have s3 := T.goodL_take ks j h
  unfold kidsN at h0 ⊢
  unfold leftN
  split at h0
  · next hh =>
    rw [if_pos hh]
    obtain ⟨h1, h2, h3⟩ := hh
    rw [Int.toNat_natCast]
    by_cases g : T.ok (sz - T.sizeL (ks.take j)) nest ks[j]
    · have g1 := g.2.1
      have g2 := g.2.2
      rw [if_pos g, if_pos ⟨s3.2 ⟨h1, g.1⟩, by omega, by omega⟩]
      congr 1
      omega
    · rw [if_neg g, if_neg]
      rintro ⟨q1, q2, q3⟩
      exact g ⟨(s3.1 q1).2, by omega, by omega⟩
  · omega
theorem kidsN_stop (sz nest : Nat) (ks : List T) (j : Nat) (h0 : kidsN sz nest (ks.take j) < 0) : kidsN sz nest ks = -1 := by
  unfold kidsN at h0 ⊢
  split at h0
  · omega
  · next hh =>
    rw [if_neg]
    rintro ⟨q1, q2, q3⟩
    have s4 := T.sizeL_split ks j
    have s5 := T.deepL_split ks j
    exact hh ⟨((T.goodL_split ks j).1 q1).1, by omega, by omega⟩
theorem leftN_bad {sz dp : Nat} {k n : Int} {x : ByteArray} {ks : List T} (h : ¬ goodP k n x.size ks.length dp) (hd : dp ≤ 64) : leftN sz (64 - dp) (.node k n x ks) = -1 := by
  unfold leftN
  rw [if_neg]
  rintro ⟨q1, q2, q3⟩
  refine h ⟨q1.1, fun e => ?_⟩
  subst e
  simp only [T.deep, if_pos] at q3
  omega
theorem leftN_short {sz nest : Nat} {k n : Int} {x : ByteArray} {ks : List T} (h : (sz : Int) - 1 - x.size < 0) : leftN sz nest (.node k n x ks) = -1 := by
  unfold leftN
  rw [if_neg]
  rintro ⟨q1, q2, q3⟩
  simp only [T.size] at q2
  omega
theorem leftN_kids {sz dp S : Nat} {k n : Int} {x : ByteArray} {ks : List T} (h : goodP k n x.size ks.length dp) (hS : (S : Int) = (sz : Int) - 1 - x.size) : leftN sz (64 - dp) (.node k n x ks) = kidsN S (64 - (dp + 1)) ks := by
  obtain ⟨hw, hd⟩ := h
  unfold leftN kidsN
  by_cases k5 : k = 5
  · subst k5
    have := hd rfl
    by_cases g : T.goodL ks ∧ T.sizeL ks ≤ S ∧ T.deepL ks ≤ 64 - (dp + 1)
    · rw [if_pos g, if_pos (show T.ok sz (64 - dp) (.node 5 n x ks) from ⟨⟨hw, g.1⟩, by simp only [T.size]; omega, by simp only [T.deep, if_pos]; omega⟩)]
      simp only [T.size]
      congr 1
      omega
    · rw [if_neg g, if_neg]
      rintro ⟨q1, q2, q3⟩
      simp only [T.size] at q2
      simp only [T.deep, if_pos] at q3
      exact g ⟨q1.2, by omega, by omega⟩
  · have l0 : ks = [] := List.eq_nil_of_length_eq_zero (T.wf_leaf hw k5)
    subst l0
    rw [if_pos (show T.ok sz (64 - dp) (.node k n x []) from ⟨⟨hw, trivial⟩, by simp only [T.size, T.sizeL]; omega, by simp only [T.deep, if_neg k5]; omega⟩), if_pos ⟨trivial, by simp [T.sizeL], by simp [T.deepL]⟩]
    simp only [T.size, T.sizeL]
    congr 1
    omega
theorem size0 : (⟨#[]⟩ : ByteArray).size = 0 := rfl
theorem bool_of {p : Prop} [Decidable p] {b : Bool} (h : decide p = b) : Value.bool b = .bool (decide p) := by rw [h]
set_option maxRecDepth 100000 in
set_option maxHeartbeats 4000000 in
theorem left_any : ∀ (d : Nat) (v : Value) (t : T) (K : Nat → Prop) (w : World) (sz dp : Nat), Rd K w d v t → sz ≤ 65536 → dp ≤ 64 →
    Calls Tryd.prog 67 #[v, .int .i64 sz, .int .i64 dp] w fun e w' => e = .returned (.int .i64 (leftN sz (64 - dp) t)) ∧ Ext w w' := by
  intro d
  induction d with
  | zero => intro v t K w sz dp h; exact h.elim
  | succ d ih =>
    intro v t K w sz dp hr hS hD
    obtain ⟨k, n, x, ks⟩ := t
    obtain ⟨a, c, rfl, hkl⟩ := hr.kidsL
    have hx : x.size ≤ 140737488351232 := by obtain ⟨_, _, _, h2, _⟩ := hr; exact h2
    have HK := hid hkl
    have HIH := hid ih
    have hl' : (ks.length : Int) ≤ 140737488355328 := by have := hkl.1; omega
    have hx' : (x.size : Int) ≤ 140737488355328 := by omega
    clear hr hkl ih
    go_enter Tryd.func67, Tryd.ntmps67
    go_upto_block 0 with fail
    go_cut [7] from 9 (fun g wx => g = .bool (decide (goodP k n x.size ks.length dp)) ∧ wx = w.alloc (.cells #[.int .i64 k, .int .i64 n, .string x, .slice a ks.length c] 31))
    case first =>
      have x1 : ¬ x.size = 0 → ¬ x.toList = [] := fun h h' => h (toList_nil.1 h')
      clear hl' hx'
      by_cases k1 : k = 1
      · subst k1
        by_cases n0 : n = 0
        · subst n0
          by_cases x0 : x.size = 0
          · obtain rfl := empty_of x0
            clear x1 x0
            by_cases l0 : ks.length = 0
            · have l1 : ((ks.length : Int) == 0) = true := by simpa using l0
              go_wp2_with fail
              go_meet
              case rel => exact ⟨bool_of (decide_eq_true (by have := size0; unfold goodP T.wfP; omega)), by first | rfl | rw [l0]⟩
            · have l1 : ((ks.length : Int) == 0) = false := by simpa using l0
              go_wp2_with fail
              go_meet
              case rel => exact ⟨bool_of (decide_eq_false (by have := size0; unfold goodP T.wfP; omega)), by first | rfl | rw [l0]⟩
          · have x2 := x1 x0
            go_wp2_with fail
            go_meet
            case rel => exact ⟨bool_of (decide_eq_false (by have := size0; unfold goodP T.wfP; omega)), by first | rfl | rw [l0]⟩
        · have n1 : (n == 0) = false := by simpa using n0
          go_wp2_with fail
          go_meet
          case rel => exact ⟨bool_of (decide_eq_false (by have := size0; unfold goodP T.wfP; omega)), by first | rfl | rw [l0]⟩
      by_cases k2 : k = 2
      · subst k2
        by_cases n0 : n = 0
        · subst n0
          by_cases x0 : x.size = 0
          · obtain rfl := empty_of x0
            clear x1 x0
            by_cases l0 : ks.length = 0
            · have l1 : ((ks.length : Int) == 0) = true := by simpa using l0
              go_wp2_with fail
              go_meet
              case rel => exact ⟨bool_of (decide_eq_true (by have := size0; unfold goodP T.wfP; omega)), by first | rfl | rw [l0]⟩
            · have l1 : ((ks.length : Int) == 0) = false := by simpa using l0
              go_wp2_with fail
              go_meet
              case rel => exact ⟨bool_of (decide_eq_false (by have := size0; unfold goodP T.wfP; omega)), by first | rfl | rw [l0]⟩
          · have x2 := x1 x0
            go_wp2_with fail
            go_meet
            case rel => exact ⟨bool_of (decide_eq_false (by have := size0; unfold goodP T.wfP; omega)), by first | rfl | rw [l0]⟩
        by_cases n2 : n = 1
        · subst n2
          clear n0
          by_cases x0 : x.size = 0
          · obtain rfl := empty_of x0
            clear x1 x0
            by_cases l0 : ks.length = 0
            · have l1 : ((ks.length : Int) == 0) = true := by simpa using l0
              go_wp2_with fail
              go_meet
              case rel => exact ⟨bool_of (decide_eq_true (by have := size0; unfold goodP T.wfP; omega)), by first | rfl | rw [l0]⟩
            · have l1 : ((ks.length : Int) == 0) = false := by simpa using l0
              go_wp2_with fail
              go_meet
              case rel => exact ⟨bool_of (decide_eq_false (by have := size0; unfold goodP T.wfP; omega)), by first | rfl | rw [l0]⟩
          · have x2 := x1 x0
            go_wp2_with fail
            go_meet
            case rel => exact ⟨bool_of (decide_eq_false (by have := size0; unfold goodP T.wfP; omega)), by first | rfl | rw [l0]⟩
        have n1 : (n == 0) = false := by simpa using n0
        have n3 : (n == 1) = false := by simpa using n2
        go_wp2_with fail
        go_meet
        case rel => exact ⟨bool_of (decide_eq_false (by have := size0; unfold goodP T.wfP; omega)), by first | rfl | rw [l0]⟩
      by_cases k3 : k = 3
      · subst k3
        by_cases x0 : x.size = 0
        · obtain rfl := empty_of x0
          clear x1 x0
          by_cases l0 : ks.length = 0
          · have l1 : ((ks.length : Int) == 0) = true := by simpa using l0
            go_wp2_with fail
            go_meet
            case rel => exact ⟨bool_of (decide_eq_true (by have := size0; unfold goodP T.wfP; omega)), by first | rfl | rw [l0]⟩
          · have l1 : ((ks.length : Int) == 0) = false := by simpa using l0
            go_wp2_with fail
            go_meet
            case rel => exact ⟨bool_of (decide_eq_false (by have := size0; unfold goodP T.wfP; omega)), by first | rfl | rw [l0]⟩
        · have x2 := x1 x0
          go_wp2_with fail
          go_meet
          case rel => exact ⟨bool_of (decide_eq_false (by have := size0; unfold goodP T.wfP; omega)), by first | rfl | rw [l0]⟩
      by_cases k4 : k = 4
      · subst k4
        by_cases n0 : n = 0
        · subst n0
          by_cases l0 : ks.length = 0
          · have l1 : ((ks.length : Int) == 0) = true := by simpa using l0
            go_wp2_with fail
            go_meet
            case rel => exact ⟨bool_of (decide_eq_true (by have := size0; unfold goodP T.wfP; omega)), by first | rfl | rw [l0]⟩
          · have l1 : ((ks.length : Int) == 0) = false := by simpa using l0
            go_wp2_with fail
            go_meet
            case rel => exact ⟨bool_of (decide_eq_false (by have := size0; unfold goodP T.wfP; omega)), by first | rfl | rw [l0]⟩
        · have n1 : (n == 0) = false := by simpa using n0
          go_wp2_with fail
          go_meet
          case rel => exact ⟨bool_of (decide_eq_false (by have := size0; unfold goodP T.wfP; omega)), by first | rfl | rw [l0]⟩
      by_cases k5 : k = 5
      · subst k5
        by_cases n0 : n = 0
        · subst n0
          by_cases x0 : x.size = 0
          · obtain rfl := empty_of x0
            clear x1 x0
            by_cases d0 : dp < 64
            · have d1 : decide ((dp : Int) < 64) = true := decide_eq_true (by omega)
              go_wp2_with fail
              go_meet
              case rel => exact ⟨bool_of (decide_eq_true (by have := size0; unfold goodP T.wfP; omega)), by first | rfl | rw [l0]⟩
            · have d1 : decide ((dp : Int) < 64) = false := decide_eq_false (by omega)
              go_wp2_with fail
              go_meet
              case rel => exact ⟨bool_of (decide_eq_false (by have := size0; unfold goodP T.wfP; omega)), by first | rfl | rw [l0]⟩
          · have x2 := x1 x0
            go_wp2_with fail
            go_meet
            case rel => exact ⟨bool_of (decide_eq_false (by have := size0; unfold goodP T.wfP; omega)), by first | rfl | rw [l0]⟩
        · have n1 : (n == 0) = false := by simpa using n0
          go_wp2_with fail
          go_meet
          case rel => exact ⟨bool_of (decide_eq_false (by have := size0; unfold goodP T.wfP; omega)), by first | rfl | rw [l0]⟩
      go_wp2_with fail
      go_meet
      case rel => exact ⟨bool_of (decide_eq_false (by have := size0; unfold goodP T.wfP; omega)), by first | rfl | rw [l0]⟩
    case rest =>
      obtain ⟨rfl, rfl⟩ := hcut
      have hb0 := blk0 w (.cells #[.int .i64 k, .int .i64 n, .string x, .slice a ks.length c] 31)
      obtain ⟨q0, q1, q2, q3⟩ := four_of hb0
      by_cases hg : goodP k n x.size ks.length dp
      · have hgd : decide (goodP k n x.size ks.length dp) = true := decide_eq_true hg
        rw [hgd]
        clear hgd
        have HG := hid hg
        clear hg
        by_cases hs : (sz : Int) - 1 - x.size < 0
        · have hs' : decide ((sz : Int) - 1 - x.size < 0) = true := decide_eq_true hs
          have HE := hid (leftN_short (nest := 64 - dp) (k := k) (n := n) (ks := ks) hs)
          clear hs
          go_wp2_with fail
          go_ret
          exact ⟨ret_int' HE.out.symm, Ext.alloc _ _⟩
        · have hs' : decide ((sz : Int) - 1 - x.size < 0) = false := decide_eq_false hs
          obtain ⟨S, hSe⟩ : ∃ S : Nat, (S : Int) = (sz : Int) - 1 - x.size := ⟨((sz : Int) - 1 - x.size).toNat, by omega⟩
          have HE := hid (leftN_kids HG.out hSe)
          have HSZ := hid (show S ≤ 65536 by omega)
          rw [← hSe] at hs'
          have HSE := hid hSe
          clear hs hSe
          have hs2 : decide ((sz : Int) - 1 - x.size < 0) = false := decide_eq_false (by have := HSE.out; omega)
          go_wp2_with fail
          rw [← HSE.out]
          have hS1 : S ≤ 65536 := HSZ.out
          clear hs' hs2 q0 q1 q2 q3
          go_loopw [1, 8] (fun s i wr => ∃ j : Nat, j ≤ ks.length ∧ i = .int .i64 j ∧ s = .int .i64 (kidsN S (64 - (dp + 1)) (ks.take j)) ∧ Ext (w.alloc (.cells #[.int .i64 k, .int .i64 n, .string x, .slice a ks.length c] 31)) wr) (fun _ i _ => ks.length - (intOf i).toNat)
          case atStart => exact ⟨0, Nat.zero_le _, rfl, by rw [List.take_zero, kidsN_nil], Ext.refl _⟩
          case round =>
            obtain ⟨j, hj, rfl, rfl, hx1⟩ := hrel
            have HX1 := hid hx1
            obtain ⟨q0, q1, q2, q3⟩ := four_of (hx1.block hb0)
            clear hx1
            have hr1 := kidsN_range S (64 - (dp + 1)) (ks.take j)
            have HNX := hid (kidsN_next S (64 - (dp + 1)) ks j)
            have HST := hid (kidsN_stop S (64 - (dp + 1)) ks j)
            have HTK := hid (show j = ks.length → ks.take j = ks from fun e => by rw [e, List.take_length])
            generalize hM : kidsN S (64 - (dp + 1)) (ks.take j) = M at hr1 HNX HST ⊢
            have HM := hid hM
            clear hM
            by_cases hlt : j < ks.length
            · have hlt' : (j : Int) < ks.length := by omega
              by_cases hM0 : 0 ≤ M
              · obtain ⟨g, off, k', n', x', a', l', c', rfl, hg, h4, hrd⟩ := HK.out.kid hlt
                have hd : dp < 64 := by
                  have h1 := HG.out
                  rcases h1.1 with h | h | h | h | h
                  · omega
                  · omega
                  · omega
                  · omega
                  · exact h1.2 h.1
                have HXw := hid ((Ext.alloc w _).trans HX1.out)
                obtain ⟨m0, m1, m2, m3⟩ := h4.keep (HXw.out.kp K) hg
                have hgl := lt_of_cell m0
                obtain ⟨M', rfl⟩ : ∃ M' : Nat, M = M' := ⟨M.toNat, by omega⟩
                have hge : decide (0 ≤ (M' : Int)) = true := decide_eq_true hM0
                have HC := hid (HIH.out _ ks[j] K wr M' (dp + 1) (hrd.later HXw.out) (by omega) (by omega))
                have hN := HNX.out hlt hM0
                rw [Int.toNat_natCast] at hN
                have HN := hid hN
                have hdI : (dp : Int) < 64 := by omega
                rw [show ((dp + 1 : Nat) : Int) = (dp : Int) + 1 by omega] at HC
                clear h4 hrd hg hN
                generalize leftN M' (64 - (dp + 1)) ks[j] = V at HC HN
                go_wp2_with fail
                refine HC.out.mono ?_
                rintro e w2 ⟨rfl, hx2⟩
                have HX2 := hid (HX1.out.trans hx2)
                clear hx2 HC m0 m1 m2 m3 q0 q1 q2 q3
                go_wp2_with fail
                go_roundw
                case rel =>
                  have REL : ∃ j' : Nat, j' ≤ ks.length ∧ Value.int .i64 ((j : Int) + 1) = .int .i64 j' ∧ Value.int .i64 V = .int .i64 (kidsN S (64 - (dp + 1)) (ks.take j')) ∧ Ext (w.alloc (.cells #[.int .i64 k, .int .i64 n, .string x, .slice (some ⟨g, off, none⟩) ks.length c] 31)) w2 :=
                    ⟨j + 1, hlt, by go_num, by rw [HN.out], HX2.out⟩
                  first | exact REL | ((repeat apply Exists.intro); exact ⟨REL, rfl⟩)
                case measure => simp [intOf]; omega
              · have hge : decide (0 ≤ M) = false := decide_eq_false hM0
                have HE2 := hid (HST.out (by omega))
                have hM1 : M = -1 := by omega
                subst hM1
                go_wp2_with fail
                go_ret
                exact ⟨ret_int' (HE.out.trans HE2.out).symm, (Ext.alloc w _).trans HX1.out⟩
            · have hje : j = ks.length := by omega
              have HE2 := hid (show M = kidsN S (64 - (dp + 1)) ks by rw [← HM.out, HTK.out hje])
              clear hje
              go_wp2_with fail
              go_ret
              exact ⟨ret_int' (HE2.out.trans HE.out.symm), (Ext.alloc w _).trans HX1.out⟩
      · have hgd : decide (goodP k n x.size ks.length dp) = false := decide_eq_false hg
        rw [hgd]
        have HE := hid (leftN_bad (sz := sz) hg hD)
        clear hgd hg
        go_wp2_with fail
        go_ret
        exact ⟨ret_int' HE.out.symm, Ext.alloc _ _⟩
set_option maxRecDepth 100000 in
theorem r2may_any {K : Nat → Prop} {d : Nat} {v : Value} {t : T} (w : World) (hr : Rd K w d v t) :
    Calls Tryd.prog 48 #[v] w fun e w' => e = .returned (.bool (decide t.may)) ∧ Ext w w' := by
  obtain ⟨u0, u1, u2, u3, rfl⟩ := hr.agg
  obtain ⟨k, n, x, a, c, rfl, rfl, rfl, rfl⟩ := hr.shape
  have HC := hid (fun w1 (h : Ext w w1) => left_any d _ t K w1 65536 0 (hr.later h) (by omega) (by omega))
  have HR := leftN_range 65536 (64 - 0) t
  have HE := hid (show decide (0 ≤ leftN 65536 (64 - 0) t) = decide t.may by
    unfold leftN
    by_cases h : T.ok 65536 (64 - 0) t
    · rw [if_pos h, decide_eq_true (show t.may from h)]; exact decide_eq_true (by omega)
    · rw [if_neg h, decide_eq_false (show ¬ t.may from h)]; rfl)
  clear hr
  generalize leftN 65536 (64 - 0) t = M at *
  generalize (T.kids t).length = kt at *
  go_enter Tryd.func48, Tryd.ntmps48
  go_wp2_with fail
  refine (HC.out _ (Ext.alloc _ _)).mono ?_
  rintro e w1 ⟨rfl, hx1⟩
  have HX := hid ((Ext.alloc w _).trans hx1)
  clear hx1
  go_wp2_with fail
  go_ret
  exact ⟨ret_bool HE.out, HX.out⟩
end Go.Proofs.YtllbelglilkdpaaDoor
/-
  The document's own Of (package espalierref5), by a contract.
-/
namespace Go.Proofs.YtllbelglilkdpaaDoor
open Go.RowKit
set_option maxRecDepth 100000 in
set_option maxHeartbeats 4000000 in
theorem rofS_any {K : Nat → Prop} {d : Nat} {v : Value} {t : T} (w : World) (hr : Rd K w d v t) : Calls Tryd.prog 30 #[v] w (ApR w (ofS t)) := by
  obtain ⟨p0, p1, p2, p3, rfl⟩ := hr.agg
  obtain ⟨k, n, x, a, c, rfl, rfl, rfl, rfl⟩ := hr.shape
  have HRL := hid hr
  have HMAY := hid (fun w1 (hx : Ext w w1) => r2may_any w1 (hr.later hx))
  clear hr
  generalize t.kids.length = kl at *
  obtain ⟨M, hM⟩ : ∃ M, (w.alloc (.cells #[.int .i64 k, .int .i64 n, .string x, .slice a kl c] 31)).alloc (.cells #[.string ⟨#[]⟩, .slice none 0 0] 27) = M := ⟨_, rfl⟩
  have XM := hid (show Ext w M from hM ▸ Ext.alloc2 _ _ _)
  have HM0 := hid (show M.heap[w.heap.size]? = some (.cells #[.int .i64 k, .int .i64 n, .string x, .slice a kl c] 31) from hM ▸ blkOld _ (blk0 _ _))
  have HM1 := hid (show M.heap[w.heap.size + 1]? = some (.cells #[.string ⟨#[]⟩, .slice none 0 0] 27) from hM ▸ blk1 _ _ _)
  have HC := hid (show ∀ W', Ext M W' → (W'.cell? ⟨w.heap.size, 0, none⟩ = some (.int .i64 k) ∧ W'.cell? ⟨w.heap.size, 1, none⟩ = some (.int .i64 n) ∧ W'.cell? ⟨w.heap.size, 2, none⟩ = some (.string x) ∧ W'.cell? ⟨w.heap.size, 3, none⟩ = some (.slice a kl c)) from fun W' X => ⟨cell_of (X.block HM0.out) rfl, cell_of (X.block HM0.out) rfl, cell_of (X.block HM0.out) rfl, cell_of (X.block HM0.out) rfl⟩)
  obtain ⟨a0, a1, a2, a3⟩ := HC.out M (Ext.refl _)
  obtain ⟨B, hB⟩ : ∃ B, decide t.may = B := ⟨_, rfl⟩
  rw [hB] at HMAY
  go_enter Tryd.func30, Tryd.ntmps30
  go_wp2_with fail
  clear hM
  go_at_call 48
  refine (HMAY.out M XM.out).mono ?_
  rintro e w1 ⟨rfl, hx1⟩
  have X1 := hid hx1
  clear hx1 a0 a1 a2 a3
  cases B with
  | false =>
    have HO := hid (show ofS t = (1, .node ⟨#[]⟩ []) by unfold ofS; rw [if_neg (of_decide_eq_false hB)])
    clear hB
    have HR1 := hid (X1.out.block HM1.out)
    obtain ⟨f0, f1⟩ := two_free HR1.out
    obtain ⟨r0, r1⟩ := two_of HR1.out
    go_wp2_with fail
    obtain ⟨z0, z1⟩ := two_of (two_set (u0 := .string ⟨#[]⟩) (u1 := .slice none 0 0) HR1.out)
    refine bodyPost_ret (v := .tuple #[.agg #[.string ⟨#[]⟩, .slice none 0 0], .int .i64 1]) (by simp [results, Tryd.results30, go_sem, z0, z1]) rfl ?_
    rw [HO.out]
    exact ⟨_, 1, rfl, srd_nil _, Kp.extOf (XM.out.trans X1.out) (Kp.set2 w1 (w.heap.size + 1) 0 _ _) (by omega)⟩
  | true =>
  have HT := hid (of_decide_eq_true hB)
  clear hB
  have HO := hid (show ofS t = match srt t with
      | none => ((14 : Int), .node ⟨#[]⟩ [])
      | some a => ((0 : Int), chain a.1 (a.2.getD ⟨#[97]⟩)) by unfold ofS; rw [if_pos HT.out]; rfl)
  have C4 := hid (rof_any d _ t K w1 (HRL.out.later (XM.out.trans X1.out)) HT.out.1 HT.out.2.2)
  obtain ⟨a0, a1, a2, a3⟩ := HC.out w1 X1.out
  go_wp2_with fail
  go_at_call 49
  refine C4.out.mono ?_
  rintro e w2 ⟨nn, z, rfl, hx2, hac⟩
  clear a0 a1 a2 a3
  obtain ⟨V, hV⟩ : ∃ V, w2.alloc (.cells #[.int .i64 (nn : Int), .string z] 83) = V := ⟨_, rfl⟩
  have XV := hid (show Ext M V from hV ▸ X1.out.trans (hx2.trans (Ext.alloc _ _)))
  obtain ⟨v0, v1⟩ := two_of (show V.heap[w2.heap.size]? = some (.cells #[.int .i64 (nn : Int), .string z] 83) from hV ▸ blk0 _ _)
  have HR1 := hid (XV.out.block HM1.out)
  clear hx2
  cases hs : srt t with
  | none =>
    rw [hs] at HO
    clear hs hac
    obtain ⟨f0, f1⟩ := two_free HR1.out
    obtain ⟨r0, r1⟩ := two_of HR1.out
    go_wp2_with fail
    obtain ⟨z0, z1⟩ := two_of (two_set (u0 := .string ⟨#[]⟩) (u1 := .slice none 0 0) HR1.out)
    refine bodyPost_ret (v := .tuple #[.agg #[.string ⟨#[]⟩, .slice none 0 0], .int .i64 14]) (by simp [results, Tryd.results30, go_sem, z0, z1]) rfl ?_
    rw [HO.out]
    exact ⟨_, 1, rfl, srd_nil _, Kp.extOf (XM.out.trans XV.out) (Kp.set2 V (w.heap.size + 1) 0 _ _) (by omega)⟩
  | some ag =>
    rw [hs] at HO
    obtain ⟨h1, h2⟩ := hac ag hs
    have hok := srt_ok t ag hs
    have HNN := hid (show nn ≤ 64 by have := hok.1; have := HT.out.2.2; omega)
    have HZS := hid (show z.size ≤ 5 by
      rw [h2]
      cases hg : ag.2 with
      | none => decide
      | some y => exact (hok.2 y hg).2)
    have HO2 := hid (show ofS t = (0, chain nn z) by rw [HO.out, h1, h2])
    clear hs hac h1 h2 hok HO
    go_wp2_with fail
    go_at_call 47
    refine (whole_any nn z V (by have := HNN.out; omega) (Nat.le_trans HZS.out (by decide))).mono ?_
    rintro e w6 ⟨v', rfl, hr6, hx6⟩
    obtain ⟨a9, c9, rfl⟩ := hr6.shape
    obtain ⟨nm, hnm⟩ : ∃ nm, (chain nn z).name = nm := ⟨_, rfl⟩
    obtain ⟨kk, hkk⟩ : ∃ kk, (chain nn z).kids.length = kk := ⟨_, rfl⟩
    rw [hnm, hkk] at hr6 ⊢
    have R6 := hid hr6
    have X6 := hid hx6
    have H6 := hid (hx6.block HR1.out)
    clear hnm hkk hr6 hx6 v0 v1 hV
    obtain ⟨d0, d1⟩ := two_of H6.out
    obtain ⟨d2, d3⟩ := two_free H6.out
    go_wp2_with fail
    obtain ⟨z0, z1⟩ := two_of (two_set (u0 := .string nm) (u1 := .slice a9 kk c9) H6.out)
    refine bodyPost_ret (v := .tuple #[.agg #[.string nm, .slice a9 kk c9], .int .i64 0]) (by simp [results, Tryd.results30, go_sem, z0, z1]) rfl ?_
    rw [HO2.out]
    have hlt := lt_of_block HR1.out
    refine ⟨_, nn + 1, rfl, ?_, Kp.extOf (XM.out.trans (XV.out.trans X6.out)) (Kp.set2 w6 (w.heap.size + 1) 0 _ _) (by omega)⟩
    exact (R6.out.keep ((Kp.set2 w6 (w.heap.size + 1) 0 (.string nm) (.slice a9 kk c9)).mono (fun k _ (hk : V.heap.size ≤ k) => by show k ≠ _; omega))).mono (fun k _ (hk : V.heap.size ≤ k) => Nat.le_trans (XM.out.trans XV.out).size hk)
end Go.Proofs.YtllbelglilkdpaaDoor
/-
  The document's own Is (package espalierref5), by a contract.
-/
namespace Go.Proofs.YtllbelglilkdpaaDoor
open Go.RowKit
/-- What Is comes to, by chains. -/
def isB (cn dn : Nat) (cx dz : ByteArray) : Bool := (decide (cx = dz) && decide (cn = dn)) || (vrbL cx.data.toList && decide (cn ≤ dn)) || (decide (dz = yA) && decide (dn ≤ cn))
theorem isB_eq {a : Nat × Option ByteArray} {cn : Nat} {cx : ByteArray} (ha : ∀ y, a.2 = some y → grdL y.data.toList = true) (hc : leafL cx.data.toList = true) : isB cn a.1 cx (a.2.getD yA) = (uniA a (cn, grO cx)).isSome := by
  obtain ⟨n, g⟩ := a
  cases hg : grdL cx.data.toList with
  | true =>
    have hgo : grO cx = some cx := if_pos hg
    have hvf : vrbL cx.data.toList = false := by
      cases h : vrbL cx.data.toList with
      | false => rfl
      | true => exact absurd rfl (grd_ne hg h)
    rw [hgo]
    cases g with
    | none =>
      have hne : cx ≠ yA := grd_ne hg vA
      show isB cn n cx yA = (if n ≤ cn then some (cn, some cx) else none).isSome
      unfold isB
      rw [hvf, decide_eq_false hne]
      by_cases h : n ≤ cn
      · rw [if_pos h, decide_eq_true h]; rfl
      · rw [if_neg h, decide_eq_false h]; rfl
    | some y =>
      have hya : y ≠ yA := grd_ne (ha y rfl) vA
      show isB cn n cx y = (if n = cn ∧ y = cx then some (n, some y) else none).isSome
      unfold isB
      rw [hvf, decide_eq_false hya]
      by_cases h : n = cn ∧ y = cx
      · rw [if_pos h, decide_eq_true h.2.symm, decide_eq_true h.1.symm]; rfl
      · rw [if_neg h]
        have : (decide (cx = y) && decide (cn = n)) = false := by
          rw [← Bool.decide_and]
          exact decide_eq_false (fun e => h ⟨e.2.symm, e.1.symm⟩)
        rw [this]
        rfl
  | false =>
    have hgo : grO cx = none := if_neg (by rw [hg]; intro h; cases h)
    have hvt : vrbL cx.data.toList = true := by unfold leafL at hc; rw [hg, Bool.false_or] at hc; exact hc
    rw [hgo]
    cases g with
    | none =>
      show isB cn n cx yA = true
      unfold isB
      rw [hvt]
      by_cases h : cn ≤ n
      · rw [decide_eq_true h]; simp
      · rw [decide_eq_true (show n ≤ cn by omega)]; simp
    | some y =>
      have hya : y ≠ yA := grd_ne (ha y rfl) vA
      have hcy : cx ≠ y := fun e => by rw [e, ha y rfl] at hg; cases hg
      show isB cn n cx y = (if cn ≤ n then some (n, some y) else none).isSome
      unfold isB
      rw [hvt, decide_eq_false hya, decide_eq_false hcy]
      by_cases h : cn ≤ n
      · rw [if_pos h, decide_eq_true h]; rfl
      · rw [if_neg h, decide_eq_false h]; rfl
set_option maxRecDepth 100000 in
set_option maxHeartbeats 4000000 in
theorem risS_any {K K' : Nat → Prop} {d d' : Nat} {v v' : Value} {t : T} {u : S} (w : World) (hr : Rd K w d v t) (hs : SRd K' w d' v' u) : Calls Tryd.prog 31 #[v, v'] w (IsR w (isS t u)) := by
  obtain ⟨p0, p1, p2, p3, rfl⟩ := hr.agg
  obtain ⟨k, n, x, a, c, rfl, rfl, rfl, rfl⟩ := hr.shape
  obtain ⟨a', c', rfl⟩ := hs.shape
  have HRL := hid hr
  have HMAY := hid (fun w1 (hx : Ext w w1) => r2may_any w1 (hr.later hx))
  have HCUT := hid (fun w1 (hx : Ext w w1) => cut_any w1 (hs.later hx))
  rw [cutV_O] at HCUT
  clear hr hs
  generalize t.kids.length = kl at *
  generalize u.name = nu at *
  generalize u.kids.length = ku at *
  obtain ⟨R, hR⟩ : ∃ R, isS t u = R := ⟨_, rfl⟩
  rw [hR]
  have HRR := hid hR
  clear hR
  obtain ⟨cn0, hcn0⟩ : ∃ z, (shO u).1 = z := ⟨_, rfl⟩
  obtain ⟨cx, hcx⟩ : ∃ z, (shO u).2 = z := ⟨_, rfl⟩
  obtain ⟨B2, hB2⟩ : ∃ z, (shp u).isSome = z := ⟨_, rfl⟩
  obtain ⟨B, hB⟩ : ∃ B, decide t.may = B := ⟨_, rfl⟩
  rw [hcn0, hcx, hB2] at HCUT
  rw [hB] at HMAY
  have HCN := hid hcn0
  have HCX := hid hcx
  clear hcn0 hcx
  obtain ⟨M, hM⟩ : ∃ M, (w.alloc (.cells #[.int .i64 k, .int .i64 n, .string x, .slice a kl c] 31)).alloc (.cells #[.string nu, .slice a' ku c'] 27) = M := ⟨_, rfl⟩
  have XM := hid (show Ext w M from hM ▸ Ext.alloc2 _ _ _)
  have HM0 := hid (show M.heap[w.heap.size]? = some (.cells #[.int .i64 k, .int .i64 n, .string x, .slice a kl c] 31) from hM ▸ blkOld _ (blk0 _ _))
  have HM1 := hid (show M.heap[w.heap.size + 1]? = some (.cells #[.string nu, .slice a' ku c'] 27) from hM ▸ blk1 _ _ _)
  have HC := hid (show ∀ W', Ext M W' → (W'.cell? ⟨w.heap.size, 0, none⟩ = some (.int .i64 k) ∧ W'.cell? ⟨w.heap.size, 1, none⟩ = some (.int .i64 n) ∧ W'.cell? ⟨w.heap.size, 2, none⟩ = some (.string x) ∧ W'.cell? ⟨w.heap.size, 3, none⟩ = some (.slice a kl c)) from fun W' X => ⟨cell_of (X.block HM0.out) rfl, cell_of (X.block HM0.out) rfl, cell_of (X.block HM0.out) rfl, cell_of (X.block HM0.out) rfl⟩)
  obtain ⟨a0, a1, a2, a3⟩ := HC.out M (Ext.refl _)
  have HB := hid hB
  have HB2 := hid hB2
  clear hB hB2
  go_enter Tryd.func31, Tryd.ntmps31
  go_wp2_with fail
  clear hM
  go_at_call 48
  refine (HMAY.out M XM.out).mono ?_
  rintro e w1 ⟨rfl, hx1⟩
  have X1 := hid hx1
  clear hx1 a0 a1 a2 a3
  obtain ⟨s0, s1⟩ := two_of (X1.out.block HM1.out)
  go_wp2_with fail
  go_at_call 44
  refine (HCUT.out w1 (XM.out.trans X1.out)).mono ?_
  rintro e w2 ⟨rfl, hx2⟩
  clear s0 s1
  obtain ⟨V2, hV2⟩ : ∃ V, w2.alloc (.cells #[.int .i64 cn0, .string cx] 83) = V := ⟨_, rfl⟩
  have X2 := hid (show Ext M V2 from hV2 ▸ X1.out.trans (hx2.trans (Ext.alloc _ _)))
  have HCB := hid (show V2.heap[w2.heap.size]? = some (.cells #[.int .i64 cn0, .string cx] 83) from hV2 ▸ blk0 _ _)
  clear hx2
  cases B with
  | false =>
    have HR0 := hid (show R = false by
      rw [← HRR.out]
      unfold isS
      cases shp u with
      | none => rfl
      | some b => show (if t.may then _ else false) = false; rw [if_neg (of_decide_eq_false HB.out)])
    go_wp2_with fail
    go_ret
    exact ⟨by rw [HR0.out]; rfl, XM.out.trans X2.out⟩
  | true =>
  cases B2 with
  | false =>
    have HR0 := hid (show R = false by
      rw [← HRR.out]
      unfold isS
      cases hsu : shp u with
      | none => rfl
      | some b => have h := HB2.out; rw [hsu] at h; cases h)
    go_wp2_with fail
    go_ret
    exact ⟨by rw [HR0.out]; rfl, XM.out.trans X2.out⟩
  | true =>
  obtain ⟨b, hsu⟩ := Option.isSome_iff_exists.1 HB2.out
  obtain ⟨cn, cx'⟩ := b
  have hcc : cn0 = (cn : Int) ∧ cx = cx' := by
    rw [← HCN.out, ← HCX.out]
    unfold shO
    rw [hsu]
    exact ⟨rfl, rfl⟩
  obtain ⟨rfl, rfl⟩ := hcc
  have HLE := hid (shp_le hsu)
  have HT := hid (of_decide_eq_true HB.out)
  have HR0 := hid (show R = match srt t with
      | none => false
      | some a => (uniA a (cn, grO cx)).isSome by
    rw [← HRR.out]
    unfold isS
    rw [hsu]
    show (if t.may then _ else false) = _
    rw [if_pos HT.out]
    rfl)
  clear hsu
  have C4 := hid (rof_any d _ t K V2 (HRL.out.later (XM.out.trans X2.out)) HT.out.1 HT.out.2.2)
  obtain ⟨a0, a1, a2, a3⟩ := HC.out V2 X2.out
  go_wp2_with fail
  clear hV2
  go_at_call 49
  refine C4.out.mono ?_
  rintro e w4 ⟨dn, dz, rfl, hx4, hac⟩
  clear a0 a1 a2 a3
  obtain ⟨V4, hV4⟩ : ∃ V, w4.alloc (.cells #[.int .i64 (dn : Int), .string dz] 83) = V := ⟨_, rfl⟩
  have Y4 := hid (show Ext V2 V4 from hV4 ▸ hx4.trans (Ext.alloc _ _))
  have X4 := hid (XM.out.trans (X2.out.trans Y4.out))
  have HDB := hid (show V4.heap[w4.heap.size]? = some (.cells #[.int .i64 (dn : Int), .string dz] 83) from hV4 ▸ blk0 _ _)
  clear hx4
  cases hs : srt t with
  | none =>
    have HR1 := hid (show R = false by rw [HR0.out, hs])
    clear hs hac
    go_wp2_with fail
    go_ret
    exact ⟨by rw [HR1.out]; rfl, X4.out⟩
  | some ag =>
    obtain ⟨h1, h2⟩ := hac ag hs
    have hok := srt_ok t ag hs
    have HR1 := hid (show R = isB cn dn cx dz by rw [HR0.out, hs, h1, h2]; exact (isB_eq (fun y hy => (hok.2 y hy).1) HLE.out.2).symm)
    have HVA := hid (fun w1 => rvar_any cx w1 (Nat.le_trans (leaf_size HLE.out.2) (by decide)))
    clear hs hac h1 h2 hok
    obtain ⟨b1, hb1⟩ : ∃ z, (cx.toList == dz.toList) = z := ⟨_, rfl⟩
    obtain ⟨b2, hb2⟩ : ∃ z, ((cn : Int) == (dn : Int)) = z := ⟨_, rfl⟩
    obtain ⟨b3, hb3⟩ : ∃ z, vrbL cx.data.toList = z := ⟨_, rfl⟩
    obtain ⟨b4, hb4⟩ : ∃ z, decide ((cn : Int) ≤ (dn : Int)) = z := ⟨_, rfl⟩
    obtain ⟨b5, hb5⟩ : ∃ z, (dz.toList == [97]) = z := ⟨_, rfl⟩
    obtain ⟨b6, hb6⟩ : ∃ z, decide ((dn : Int) ≤ (cn : Int)) = z := ⟨_, rfl⟩
    rw [hb3] at HVA
    have HF := hid (show R = ((b1 && b2) || (b3 && b4) || (b5 && b6)) by
      rw [HR1.out, ← hb1, ← hb2, ← hb3, ← hb4, ← hb5, ← hb6, str_beq, nat_beq, lit_a]
      unfold isB
      have e1 : decide ((cn : Int) ≤ (dn : Int)) = decide (cn ≤ dn) := by simp
      have e2 : decide ((dn : Int) ≤ (cn : Int)) = decide (dn ≤ cn) := by simp
      rw [e1, e2])
    have hb4' : decide (cn ≤ dn) = b4 := by rw [← hb4]; simp
    have hb6' : decide (dn ≤ cn) = b6 := by rw [← hb6]; simp
    obtain ⟨c0, c1⟩ := two_of (Y4.out.block HCB.out)
    obtain ⟨d0, d1⟩ := two_of HDB.out
    clear hb3
    cases b1 <;> cases b2
    case true.true =>
      go_wp2_with fail
      go_ret
      exact ⟨by rw [HF.out]; rfl, X4.out⟩
    all_goals
      cases b3 <;> cases b4 <;> cases b5 <;> cases b6
      all_goals
        go_wp2_with fail
        go_at_call 46
        refine (HVA.out V4).mono ?_
        rintro e w9 ⟨rfl, hw9⟩
        rw [hw9]
        clear hw9 w9
        go_wp2_with fail
        go_ret
        exact ⟨by rw [HF.out]; rfl, X4.out⟩
end Go.Proofs.YtllbelglilkdpaaDoor
