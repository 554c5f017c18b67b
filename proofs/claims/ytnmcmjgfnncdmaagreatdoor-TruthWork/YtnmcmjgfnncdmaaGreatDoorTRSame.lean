/-
  The order of bytes as the model tells it.
-/
import Derived.Test.YtnmcmjgfnncdmaaGreatDoorBase
import Derived.Test.YtnmcmjgfnncdmaaGreatDoorRLeft
import Derived.Test.YtnmcmjgfnncdmaaGreatDoorCFits
namespace Go.Proofs.YtnmcmjgfnncdmaaGreatDoor
open Go.RowKit
theorem less_cmp : ∀ a b : List UInt8, Op.bytesLess a b = decide (Lib.compareBytes a b = -1)
  | [], [] => by simp [Op.bytesLess, Lib.compareBytes]
  | _ :: _, [] => by simp [Op.bytesLess, Lib.compareBytes]
  | [], _ :: _ => by simp [Op.bytesLess, Lib.compareBytes]
  | a :: x, b :: y => by
    have ih := less_cmp x y
    simp only [Op.bytesLess, Lib.compareBytes]
    by_cases h1 : a < b
    · simp [h1]
    · by_cases h2 : b < a
      · have h3 : ¬ a = b := fun e => by subst e; exact h1 h2
        simp [h1, h2, h3]
      · have h3 : a = b := by
          rw [UInt8.lt_iff_toNat_lt] at h1 h2
          exact UInt8.toNat_inj.1 (by omega)
        subst h3
        simp [h1, ih]
end Go.Proofs.YtnmcmjgfnncdmaaGreatDoor
/-
  The reference's order of plain values, Compare and Same, each by a contract.
-/
namespace Go.Proofs.YtnmcmjgfnncdmaaGreatDoor
open Go.RowKit
theorem sign_any (a b : Bool) (w : World) : Calls Tryz.prog 206 #[.bool a, .bool b] w fun e w' => e = .returned (.int .i64 (if a then -1 else if b then 1 else 0)) ∧ w' = w := by
  cases a <;> cases b <;>
  · go_enter Tryz.func206, Tryz.ntmps206
    go_wp2
    go_ret
    exact ⟨rfl, rfl⟩
theorem cmpL_at (ks ks' : List T) (j : Nat) (h : j < ks.length) (h' : j < ks'.length) : T.cmpL (ks.drop j) (ks'.drop j) = if T.cmp ks[j] ks'[j] = 0 then T.cmpL (ks.drop (j + 1)) (ks'.drop (j + 1)) else T.cmp ks[j] ks'[j] := by
  rw [List.drop_eq_getElem_cons h, List.drop_eq_getElem_cons h']
  rfl
theorem cmpL_end (ks ks' : List T) (j : Nat) (hj : j ≤ ks.length) (hj' : j ≤ ks'.length) (h : ¬ (j < ks.length ∧ j < ks'.length)) : T.cmpL (ks.drop j) (ks'.drop j) = if ks.length < ks'.length then -1 else if ks'.length < ks.length then 1 else 0 := by
  rcases Nat.lt_trichotomy ks.length ks'.length with e | e | e
  · have h1 : j = ks.length := by omega
    rw [if_pos e, h1, List.drop_length, List.drop_eq_getElem_cons e]; rfl
  · have h1 : j = ks.length := by omega
    have h2 : j = ks'.length := by omega
    rw [if_neg (by omega), if_neg (by omega)]
    rw [show ks.drop j = [] by rw [h1, List.drop_length], show ks'.drop j = [] by rw [h2, List.drop_length]]; rfl
  · have h1 : j = ks'.length := by omega
    rw [if_neg (by omega), if_pos e, h1, List.drop_length, List.drop_eq_getElem_cons e]; rfl
theorem byC_less (x y : ByteArray) : Op.bytesLess x.toList y.toList = decide (T.byC x y = -1) := by rw [less_cmp, ByteArray.toList_eq, ByteArray.toList_eq]; rfl
def OrdTo (d : Nat) : Prop := ∀ (v v' : Value) (t t' : T) (K K' : Nat → Prop) (w : World) (d' : Nat), Rd K w d v t → Rd K' w d' v' t' →
  Calls Tryz.prog 147 #[v, v'] w fun e w' => e = .returned (.int .i64 (T.cmp t t')) ∧ Ext w w'
set_option maxRecDepth 100000 in
set_option maxHeartbeats 8000000 in
theorem order_any : ∀ d, OrdTo d := by
  intro d
  induction d with
  | zero => intro v v' t t' K K' w d' h; exact h.elim
  | succ d ih =>
    intro v v' t t' K K' w d' h h'
    obtain ⟨k, n, x, ks⟩ := t
    obtain ⟨k', n', x', ks'⟩ := t'
    cases d' with
    | zero => exact h'.elim
    | succ d' =>
    obtain ⟨a, c, rfl, hl⟩ := h.kidsL
    obtain ⟨a', c', rfl, hl'⟩ := h'.kidsL
    have HA := hid hl
    have HB := hid hl'
    have hz1 : (ks.length : Int) ≤ 140737488355328 := by have := hl.1; omega
    have hz2 : (ks'.length : Int) ≤ 140737488355328 := by have := hl'.1; omega
    have HIH := hid ih
    clear h h' hl hl' ih
    have HR := hid (show T.cmp (.node k n x ks) (.node k' n' x' ks') = T.cmp3 (Lib.compareInt k k') (Lib.compareInt n n') (T.byC x x') (T.cmpL ks ks') from by simp only [T.cmp])
    rcases Int.lt_trichotomy k k' with q1 | q1 | q1
    · have r1 : decide (k < k') = true := decide_eq_true q1
      have r2 : decide (k' < k) = false := decide_eq_false (by omega)
      have HE := hid (show T.cmp (.node k n x ks) (.node k' n' x' ks') = -1 by rw [HR.out]; unfold T.cmp3 Lib.compareInt; rw [if_pos q1]; rfl)
      clear q1 HR HA HB HIH
      go_enter Tryz.func147, Tryz.ntmps147
      go_wp2_with (go_at_call 206; refine (sign_any _ _ _).mono ?_; rintro e w9 ⟨rfl, rfl⟩)
      go_loopw [5, 6] (fun s i wr => i = .int .i64 0 ∧ s = .int .i64 (-1) ∧ Ext ((w.alloc (.cells #[.int .i64 k, .int .i64 n, .string x, .slice a ks.length c] 38)).alloc (.cells #[.int .i64 k', .int .i64 n', .string x', .slice a' ks'.length c'] 38)) wr) (fun _ _ _ => 0)
      case atStart => exact ⟨rfl, rfl, Ext.refl _⟩
      case round =>
        obtain ⟨rfl, rfl, hx⟩ := hrel
        obtain ⟨p0, p1, p2, p3⟩ := four_of (hx.block (blkOld _ (blk0 w _)))
        obtain ⟨s0, s1, s2, s3⟩ := four_of (hx.block (blk1 w _ _))
        have HX := hid ((Ext.alloc2 w _ _).trans hx)
        clear hx
        by_cases ha : 0 < ks.length
        · have ha' : decide ((0 : Int) < ks.length) = true := decide_eq_true (by omega)
          by_cases hb : 0 < ks'.length
          · have hb' : decide ((0 : Int) < ks'.length) = true := decide_eq_true (by omega)
            go_wp2_with fail
            go_ret
            exact ⟨ret_int' HE.out.symm, HX.out⟩
          · have hb' : decide ((0 : Int) < ks'.length) = false := decide_eq_false (by omega)
            go_wp2_with fail
            go_ret
            exact ⟨ret_int' HE.out.symm, HX.out⟩
        · have ha' : decide ((0 : Int) < ks.length) = false := decide_eq_false (by omega)
          go_wp2_with fail
          go_ret
          exact ⟨ret_int' HE.out.symm, HX.out⟩
    · subst q1
      have HK0 := hid (show Lib.compareInt k k = 0 by unfold Lib.compareInt; rw [if_neg (Int.lt_irrefl _)]; simp)
      rcases Int.lt_trichotomy n n' with q2 | q2 | q2
      · have r1 : decide (n < n') = true := decide_eq_true q2
        have r2 : decide (n' < n) = false := decide_eq_false (by omega)
        have HE := hid (show T.cmp (.node k n x ks) (.node k n' x' ks') = -1 by rw [HR.out]; rw [HK0.out]; unfold T.cmp3 Lib.compareInt; rw [if_pos q2]; rfl)
        clear q2 HR HA HB HIH
        go_enter Tryz.func147, Tryz.ntmps147
        go_wp2_with (go_at_call 206; refine (sign_any _ _ _).mono ?_; rintro e w9 ⟨rfl, rfl⟩)
        go_loopw [5, 6] (fun s i wr => i = .int .i64 0 ∧ s = .int .i64 (-1) ∧ Ext ((w.alloc (.cells #[.int .i64 k, .int .i64 n, .string x, .slice a ks.length c] 38)).alloc (.cells #[.int .i64 k, .int .i64 n', .string x', .slice a' ks'.length c'] 38)) wr) (fun _ _ _ => 0)
        case atStart => exact ⟨rfl, rfl, Ext.refl _⟩
        case round =>
          obtain ⟨rfl, rfl, hx⟩ := hrel
          obtain ⟨p0, p1, p2, p3⟩ := four_of (hx.block (blkOld _ (blk0 w _)))
          obtain ⟨s0, s1, s2, s3⟩ := four_of (hx.block (blk1 w _ _))
          have HX := hid ((Ext.alloc2 w _ _).trans hx)
          clear hx
          by_cases ha : 0 < ks.length
          · have ha' : decide ((0 : Int) < ks.length) = true := decide_eq_true (by omega)
            by_cases hb : 0 < ks'.length
            · have hb' : decide ((0 : Int) < ks'.length) = true := decide_eq_true (by omega)
              go_wp2_with fail
              go_ret
              exact ⟨ret_int' HE.out.symm, HX.out⟩
            · have hb' : decide ((0 : Int) < ks'.length) = false := decide_eq_false (by omega)
              go_wp2_with fail
              go_ret
              exact ⟨ret_int' HE.out.symm, HX.out⟩
          · have ha' : decide ((0 : Int) < ks.length) = false := decide_eq_false (by omega)
            go_wp2_with fail
            go_ret
            exact ⟨ret_int' HE.out.symm, HX.out⟩
      · subst q2
        have HN0 := hid (show Lib.compareInt n n = 0 by unfold Lib.compareInt; rw [if_neg (Int.lt_irrefl _)]; simp)
        have t1 := T.byC_three.turn x x'
        have t2 := T.byC_three.low x x'
        have t3 := T.byC_three.high x x'
        have HL1 := hid (byC_less x x')
        have HL2 := hid (byC_less x' x)
        by_cases q3 : T.byC x x' = -1
        · have r1 : Op.bytesLess x.toList x'.toList = true := by rw [HL1.out]; exact decide_eq_true q3
          have r2 : Op.bytesLess x'.toList x.toList = false := by rw [HL2.out]; exact decide_eq_false (by omega)
          have HE := hid (show T.cmp (.node k n x ks) (.node k n x' ks') = -1 by rw [HR.out]; rw [HK0.out, HN0.out, q3]; rfl)
          clear q3 t1 t2 t3 HL1 HL2 HR HA HB HIH
          go_enter Tryz.func147, Tryz.ntmps147
          go_wp2_with (go_at_call 206; refine (sign_any _ _ _).mono ?_; rintro e w9 ⟨rfl, rfl⟩)
          go_loopw [5, 6] (fun s i wr => i = .int .i64 0 ∧ s = .int .i64 (-1) ∧ Ext ((w.alloc (.cells #[.int .i64 k, .int .i64 n, .string x, .slice a ks.length c] 38)).alloc (.cells #[.int .i64 k, .int .i64 n, .string x', .slice a' ks'.length c'] 38)) wr) (fun _ _ _ => 0)
          case atStart => exact ⟨rfl, rfl, Ext.refl _⟩
          case round =>
            obtain ⟨rfl, rfl, hx⟩ := hrel
            obtain ⟨p0, p1, p2, p3⟩ := four_of (hx.block (blkOld _ (blk0 w _)))
            obtain ⟨s0, s1, s2, s3⟩ := four_of (hx.block (blk1 w _ _))
            have HX := hid ((Ext.alloc2 w _ _).trans hx)
            clear hx
            by_cases ha : 0 < ks.length
            · have ha' : decide ((0 : Int) < ks.length) = true := decide_eq_true (by omega)
              by_cases hb : 0 < ks'.length
              · have hb' : decide ((0 : Int) < ks'.length) = true := decide_eq_true (by omega)
                go_wp2_with fail
                go_ret
                exact ⟨ret_int' HE.out.symm, HX.out⟩
              · have hb' : decide ((0 : Int) < ks'.length) = false := decide_eq_false (by omega)
                go_wp2_with fail
                go_ret
                exact ⟨ret_int' HE.out.symm, HX.out⟩
            · have ha' : decide ((0 : Int) < ks.length) = false := decide_eq_false (by omega)
              go_wp2_with fail
              go_ret
              exact ⟨ret_int' HE.out.symm, HX.out⟩
        by_cases q4 : T.byC x x' = 1
        · have r1 : Op.bytesLess x.toList x'.toList = false := by rw [HL1.out]; exact decide_eq_false q3
          have r2 : Op.bytesLess x'.toList x.toList = true := by rw [HL2.out]; exact decide_eq_true (by omega)
          have r3 : (x.toList == x'.toList) = false := by rw [beq_eq_false_iff_ne]; exact fun h => by have := (T.byC_three.zero x x').2 (toList_inj h); omega
          have HE := hid (show T.cmp (.node k n x ks) (.node k n x' ks') = 1 by rw [HR.out]; rw [HK0.out, HN0.out, q4]; rfl)
          clear q3 q4 t1 t2 t3 HL1 HL2 HR HA HB HIH
          go_enter Tryz.func147, Tryz.ntmps147
          go_wp2_with (go_at_call 206; refine (sign_any _ _ _).mono ?_; rintro e w9 ⟨rfl, rfl⟩)
          go_loopw [5, 6] (fun s i wr => i = .int .i64 0 ∧ s = .int .i64 (1) ∧ Ext ((w.alloc (.cells #[.int .i64 k, .int .i64 n, .string x, .slice a ks.length c] 38)).alloc (.cells #[.int .i64 k, .int .i64 n, .string x', .slice a' ks'.length c'] 38)) wr) (fun _ _ _ => 0)
          case atStart => exact ⟨rfl, rfl, Ext.refl _⟩
          case round =>
            obtain ⟨rfl, rfl, hx⟩ := hrel
            obtain ⟨p0, p1, p2, p3⟩ := four_of (hx.block (blkOld _ (blk0 w _)))
            obtain ⟨s0, s1, s2, s3⟩ := four_of (hx.block (blk1 w _ _))
            have HX := hid ((Ext.alloc2 w _ _).trans hx)
            clear hx
            by_cases ha : 0 < ks.length
            · have ha' : decide ((0 : Int) < ks.length) = true := decide_eq_true (by omega)
              by_cases hb : 0 < ks'.length
              · have hb' : decide ((0 : Int) < ks'.length) = true := decide_eq_true (by omega)
                go_wp2_with fail
                go_ret
                exact ⟨ret_int' HE.out.symm, HX.out⟩
              · have hb' : decide ((0 : Int) < ks'.length) = false := decide_eq_false (by omega)
                go_wp2_with fail
                go_ret
                exact ⟨ret_int' HE.out.symm, HX.out⟩
            · have ha' : decide ((0 : Int) < ks.length) = false := decide_eq_false (by omega)
              go_wp2_with fail
              go_ret
              exact ⟨ret_int' HE.out.symm, HX.out⟩
        have r1 : Op.bytesLess x.toList x'.toList = false := by rw [HL1.out]; exact decide_eq_false q3
        have r2 : Op.bytesLess x'.toList x.toList = false := by rw [HL2.out]; exact decide_eq_false (by omega)
        have q5 : T.byC x x' = 0 := by omega
        have HE := hid (show T.cmp (.node k n x ks) (.node k n x' ks') = T.cmpL ks ks' by rw [HR.out, HK0.out, HN0.out, q5]; rfl)
        have q6 := (T.byC_three.zero x x').1 q5
        subst q6
        clear q3 q4 q5 t1 t2 t3 HL1 HL2 HR HK0 HN0
        go_enter Tryz.func147, Tryz.ntmps147
        go_wp2_with (go_at_call 206; refine (sign_any _ _ _).mono ?_; rintro e w9 ⟨rfl, rfl⟩)
        go_loopw [5, 6] (fun s i wr => ∃ (j : Nat) (kv : Int), j ≤ ks.length ∧ j ≤ ks'.length ∧ i = .int .i64 j ∧ s = .int .i64 kv ∧ ((kv = 0 ∧ T.cmpL ks ks' = T.cmpL (ks.drop j) (ks'.drop j)) ∨ (kv ≠ 0 ∧ T.cmpL ks ks' = kv)) ∧ Ext ((w.alloc (.cells #[.int .i64 k, .int .i64 n, .string x, .slice a ks.length c] 38)).alloc (.cells #[.int .i64 k, .int .i64 n, .string x, .slice a' ks'.length c'] 38)) wr) (fun _ i _ => ks.length - (intOf i).toNat)
        case atStart => exact ⟨0, 0, Nat.zero_le _, Nat.zero_le _, rfl, rfl, .inl ⟨rfl, by rw [List.drop_zero, List.drop_zero]⟩, Ext.refl _⟩
        case round =>
          obtain ⟨j, kv, hj, hj', rfl, rfl, hcase, hx⟩ := hrel
          have HX := hid hx
          have HC := hid hcase
          obtain ⟨p0, p1, p2, p3⟩ := four_of (hx.block (blkOld _ (blk0 w _)))
          obtain ⟨s0, s1, s2, s3⟩ := four_of (hx.block (blk1 w _ _))
          have hbl := lt_of_cell p0
          have hbl' := lt_of_cell s0
          have HXW := hid ((Ext.alloc2 w _ _).trans hx)
          clear hx hcase
          by_cases hend : j < ks.length ∧ j < ks'.length
          · obtain ⟨hlt, hlt2⟩ := hend
            have hlt' : decide ((j : Int) < ks.length) = true := decide_eq_true (by omega)
            have hlt2' : decide ((j : Int) < ks'.length) = true := decide_eq_true (by omega)
            have hlti : (j : Int) < ks.length := by omega
            have hlti2 : (j : Int) < ks'.length := by omega
            by_cases hkv : kv = 0
            · subst hkv
              obtain ⟨g, off, k1, n1, x1, b1, l1, c1, rfl, hg, h4, hr⟩ := HA.out.kid hlt
              obtain ⟨g', off', k2, n2, x2, b2, l2, c2, rfl, hg', h4', hr'⟩ := HB.out.kid hlt2
              obtain ⟨m0, m1, m2, m3⟩ := h4.keep (HXW.out.kp K) hg
              obtain ⟨o0, o1, o2, o3⟩ := h4'.keep (HXW.out.kp K') hg'
              have hgl := lt_of_cell m0
              have hgl' := lt_of_cell o0
              have HCC := hid (fun w2 (hy : Ext wr w2) => HIH.out _ _ ks[j] ks'[j] K K' w2 d' (hr.later (HXW.out.trans hy)) (hr'.later (HXW.out.trans hy)))
              have HAT := hid (cmpL_at ks ks' j hlt hlt2)
              have HCF := hid (T.cmp_facts ks[j] ks'[j]).2.2
              generalize T.cmp ks[j] ks'[j] = cv at HCC HAT HCF
              clear h4 h4' hr hr' hg hg' p0 p1 p2 s0 s1 s2
              have HSK := hid (show ∀ W', Ext wr W' → W'.cell? ⟨w.heap.size, 3, none⟩ = some (.slice (some ⟨g, off, none⟩) ks.length c) ∧ W'.cell? ⟨w.heap.size + 1, 3, none⟩ = some (.slice (some ⟨g', off', none⟩) ks'.length c') ∧ W'.cell? ⟨g, off + j * 4, none⟩ = some (.int .i64 k1) ∧ W'.cell? ⟨g, off + j * 4 + 1, none⟩ = some (.int .i64 n1) ∧ W'.cell? ⟨g, off + j * 4 + 2, none⟩ = some (.string x1) ∧ W'.cell? ⟨g, off + j * 4 + 3, none⟩ = some (.slice b1 l1 c1) ∧ W'.cell? ⟨g', off' + j * 4, none⟩ = some (.int .i64 k2) ∧ W'.cell? ⟨g', off' + j * 4 + 1, none⟩ = some (.int .i64 n2) ∧ W'.cell? ⟨g', off' + j * 4 + 2, none⟩ = some (.string x2) ∧ W'.cell? ⟨g', off' + j * 4 + 3, none⟩ = some (.slice b2 l2 c2) from fun W' Y => ⟨(Y.kp (fun _ => True)).cell p3 trivial, (Y.kp (fun _ => True)).cell s3 trivial, (Y.kp (fun _ => True)).cell m0 trivial, (Y.kp (fun _ => True)).cell m1 trivial, (Y.kp (fun _ => True)).cell m2 trivial, (Y.kp (fun _ => True)).cell m3 trivial, (Y.kp (fun _ => True)).cell o0 trivial, (Y.kp (fun _ => True)).cell o1 trivial, (Y.kp (fun _ => True)).cell o2 trivial, (Y.kp (fun _ => True)).cell o3 trivial⟩)
              go_upto_region 9 with fail
              go_region_held3 (fun W' => W'.cell? ⟨w.heap.size, 3, none⟩ = some (.slice (some ⟨g, off, none⟩) ks.length c) ∧ W'.cell? ⟨w.heap.size + 1, 3, none⟩ = some (.slice (some ⟨g', off', none⟩) ks'.length c') ∧ W'.cell? ⟨g, off + j * 4, none⟩ = some (.int .i64 k1) ∧ W'.cell? ⟨g, off + j * 4 + 1, none⟩ = some (.int .i64 n1) ∧ W'.cell? ⟨g, off + j * 4 + 2, none⟩ = some (.string x1) ∧ W'.cell? ⟨g, off + j * 4 + 3, none⟩ = some (.slice b1 l1 c1) ∧ W'.cell? ⟨g', off' + j * 4, none⟩ = some (.int .i64 k2) ∧ W'.cell? ⟨g', off' + j * 4 + 1, none⟩ = some (.int .i64 n2) ∧ W'.cell? ⟨g', off' + j * 4 + 2, none⟩ = some (.string x2) ∧ W'.cell? ⟨g', off' + j * 4 + 3, none⟩ = some (.slice b2 l2 c2))
                (first | exact SK | exact ⟨p3, s3, m0, m1, m2, m3, o0, o1, o2, o3⟩ | go_keep)
                (first | (go_at_call 147; refine (HCC.out _ ((Ext.refl wr).drew)).mono ?_; rintro r v3 ⟨rfl, hy⟩; have Y : Ext wr v3 := Ext.trans ((Ext.refl wr).drew) hy; have SK := HSK.out v3 Y))
              all_goals
                go_wp2_with fail
                go_roundw
                case rel =>
                  refine ⟨j + 1, cv, hlt, hlt2, by go_num, rfl, ?_, HX.out.trans Y⟩
                  rcases HC.out with ⟨_, h0⟩ | ⟨h0, _⟩
                  · have h1 := HAT.out
                    by_cases hc : cv = 0
                    · rw [if_pos hc] at h1
                      exact .inl ⟨hc, h0.trans h1⟩
                    · rw [if_neg hc] at h1
                      exact .inr ⟨hc, h0.trans h1⟩
                  · exact absurd rfl h0
                case measure => simp [intOf]; omega
            · have hkb : (kv == 0) = false := by simpa using hkv
              have HV := hid (show T.cmpL ks ks' = kv by
                rcases HC.out with ⟨h0, _⟩ | ⟨_, h0⟩
                · exact absurd h0 hkv
                · exact h0)
              go_wp2_with fail
              go_ret
              exact ⟨ret_int' (by rw [HE.out, HV.out]), HXW.out⟩
          · have HND := hid (cmpL_end ks ks' j hj hj' hend)
            by_cases hkv : kv = 0
            · subst hkv
              have HV := hid (show T.cmpL ks ks' = if ks.length < ks'.length then -1 else if ks'.length < ks.length then 1 else 0 by
                rcases HC.out with ⟨_, h0⟩ | ⟨h0, _⟩
                · rw [h0]; exact HND.out
                · exact absurd rfl h0)
              by_cases hlt : j < ks.length
              · have hl2 : ¬ j < ks'.length := fun h => hend ⟨hlt, h⟩
                clear hend
                have HF := hid (show T.cmp (.node k n x ks) (.node k n x ks') = 1 by rw [HE.out, HV.out, if_neg (by omega), if_pos (by omega)])
                have y1 : ¬ ks.length < ks'.length := by omega
                have y2 : ks'.length < ks.length := by omega
                go_wp2_with (go_at_call 206; refine (sign_any _ _ _).mono ?_; rintro e w9 ⟨rfl, rfl⟩)
                go_ret
                exact ⟨ret_int' HF.out.symm, HXW.out⟩
              · clear hend
                by_cases e1 : ks.length < ks'.length
                · have HE1 := hid e1
                  have HF := hid (show T.cmp (.node k n x ks) (.node k n x ks') = -1 by rw [HE.out, HV.out, if_pos e1])
                  have y1 : ks.length < ks'.length := by omega
                  have y2 : ¬ ks'.length < ks.length := by omega
                  go_wp2_with (go_at_call 206; refine (sign_any _ _ _).mono ?_; rintro e w9 ⟨rfl, rfl⟩)
                  go_ret
                  exact ⟨ret_int' HF.out.symm, HXW.out⟩
                · have HE1 := hid e1
                  have HF := hid (show T.cmp (.node k n x ks) (.node k n x ks') = 0 by rw [HE.out, HV.out, if_neg (by omega), if_neg (by omega)])
                  have y1 : ¬ ks.length < ks'.length := by omega
                  have y2 : ¬ ks'.length < ks.length := by omega
                  clear e1
                  go_wp2_with (go_at_call 206; refine (sign_any _ _ _).mono ?_; rintro e w9 ⟨rfl, rfl⟩)
                  go_ret
                  exact ⟨ret_int' HF.out.symm, HXW.out⟩
            · have hkb : (kv == 0) = false := by simpa using hkv
              have HV := hid (show T.cmpL ks ks' = kv by
                rcases HC.out with ⟨h0, _⟩ | ⟨_, h0⟩
                · exact absurd h0 hkv
                · exact h0)
              by_cases hlt : j < ks.length
              · have hl2 : ¬ j < ks'.length := fun h => hend ⟨hlt, h⟩
                clear hend
                go_wp2_with fail
                go_ret
                exact ⟨ret_int' (by rw [HE.out, HV.out]), HXW.out⟩
              · clear hend
                go_wp2_with fail
                go_ret
                exact ⟨ret_int' (by rw [HE.out, HV.out]), HXW.out⟩
      · have r1 : decide (n < n') = false := decide_eq_false (by omega)
        have r2 : decide (n' < n) = true := decide_eq_true q2
        have HE := hid (show T.cmp (.node k n x ks) (.node k n' x' ks') = 1 by rw [HR.out]; rw [HK0.out]; unfold T.cmp3 Lib.compareInt; rw [if_neg (show ¬ n < n' by omega), if_pos q2]; rfl)
        clear q2 HR HA HB HIH
        go_enter Tryz.func147, Tryz.ntmps147
        go_wp2_with (go_at_call 206; refine (sign_any _ _ _).mono ?_; rintro e w9 ⟨rfl, rfl⟩)
        go_loopw [5, 6] (fun s i wr => i = .int .i64 0 ∧ s = .int .i64 (1) ∧ Ext ((w.alloc (.cells #[.int .i64 k, .int .i64 n, .string x, .slice a ks.length c] 38)).alloc (.cells #[.int .i64 k, .int .i64 n', .string x', .slice a' ks'.length c'] 38)) wr) (fun _ _ _ => 0)
        case atStart => exact ⟨rfl, rfl, Ext.refl _⟩
        case round =>
          obtain ⟨rfl, rfl, hx⟩ := hrel
          obtain ⟨p0, p1, p2, p3⟩ := four_of (hx.block (blkOld _ (blk0 w _)))
          obtain ⟨s0, s1, s2, s3⟩ := four_of (hx.block (blk1 w _ _))
          have HX := hid ((Ext.alloc2 w _ _).trans hx)
          clear hx
          by_cases ha : 0 < ks.length
          · have ha' : decide ((0 : Int) < ks.length) = true := decide_eq_true (by omega)
            by_cases hb : 0 < ks'.length
            · have hb' : decide ((0 : Int) < ks'.length) = true := decide_eq_true (by omega)
              go_wp2_with fail
              go_ret
              exact ⟨ret_int' HE.out.symm, HX.out⟩
            · have hb' : decide ((0 : Int) < ks'.length) = false := decide_eq_false (by omega)
              go_wp2_with fail
              go_ret
              exact ⟨ret_int' HE.out.symm, HX.out⟩
          · have ha' : decide ((0 : Int) < ks.length) = false := decide_eq_false (by omega)
            go_wp2_with fail
            go_ret
            exact ⟨ret_int' HE.out.symm, HX.out⟩
    · have r1 : decide (k < k') = false := decide_eq_false (by omega)
      have r2 : decide (k' < k) = true := decide_eq_true q1
      have HE := hid (show T.cmp (.node k n x ks) (.node k' n' x' ks') = 1 by rw [HR.out]; unfold T.cmp3 Lib.compareInt; rw [if_neg (show ¬ k < k' by omega), if_pos q1]; rfl)
      clear q1 HR HA HB HIH
      go_enter Tryz.func147, Tryz.ntmps147
      go_wp2_with (go_at_call 206; refine (sign_any _ _ _).mono ?_; rintro e w9 ⟨rfl, rfl⟩)
      go_loopw [5, 6] (fun s i wr => i = .int .i64 0 ∧ s = .int .i64 (1) ∧ Ext ((w.alloc (.cells #[.int .i64 k, .int .i64 n, .string x, .slice a ks.length c] 38)).alloc (.cells #[.int .i64 k', .int .i64 n', .string x', .slice a' ks'.length c'] 38)) wr) (fun _ _ _ => 0)
      case atStart => exact ⟨rfl, rfl, Ext.refl _⟩
      case round =>
        obtain ⟨rfl, rfl, hx⟩ := hrel
        obtain ⟨p0, p1, p2, p3⟩ := four_of (hx.block (blkOld _ (blk0 w _)))
        obtain ⟨s0, s1, s2, s3⟩ := four_of (hx.block (blk1 w _ _))
        have HX := hid ((Ext.alloc2 w _ _).trans hx)
        clear hx
        by_cases ha : 0 < ks.length
        · have ha' : decide ((0 : Int) < ks.length) = true := decide_eq_true (by omega)
          by_cases hb : 0 < ks'.length
          · have hb' : decide ((0 : Int) < ks'.length) = true := decide_eq_true (by omega)
            go_wp2_with fail
            go_ret
            exact ⟨ret_int' HE.out.symm, HX.out⟩
          · have hb' : decide ((0 : Int) < ks'.length) = false := decide_eq_false (by omega)
            go_wp2_with fail
            go_ret
            exact ⟨ret_int' HE.out.symm, HX.out⟩
        · have ha' : decide ((0 : Int) < ks.length) = false := decide_eq_false (by omega)
          go_wp2_with fail
          go_ret
          exact ⟨ret_int' HE.out.symm, HX.out⟩
end Go.Proofs.YtnmcmjgfnncdmaaGreatDoor
/-
  The document's Same of two values that may be, by a contract.
-/
namespace Go.Proofs.YtnmcmjgfnncdmaaGreatDoor
open Go.RowKit
set_option maxRecDepth 100000 in
set_option maxHeartbeats 2000000 in
theorem rsameT_any {K K' : Nat → Prop} {d d' : Nat} {v v' : Value} {t t' : T} (w : World) (hr : Rd K w d v t) (hr' : Rd K' w d' v' t') (hm : t.may) (hm' : t'.may) : Calls Tryz.prog 76 #[v, v'] w fun e w' => e = .returned (.bool (T.beq t t')) ∧ Ext w w' := by
  obtain ⟨u0, u1, u2, u3, rfl⟩ := hr.agg
  obtain ⟨k, n, x, a, c, rfl, rfl, rfl, rfl⟩ := hr.shape
  obtain ⟨u0, u1, u2, u3, rfl⟩ := hr'.agg
  obtain ⟨k', n', x', a', c', rfl, rfl, rfl, rfl⟩ := hr'.shape
  have HM := hid (show ∀ w1, Ext w w1 → Calls Tryz.prog 96 #[.agg #[.int .i64 k, .int .i64 n, .string x, .slice a t.kids.length c]] w1 fun e w' => e = .returned (.bool true) ∧ Ext w1 w' from fun w1 hx => by
    have := rmay_any w1 (hr.later hx)
    rwa [decide_eq_true hm] at this)
  have HM' := hid (show ∀ w1, Ext w w1 → Calls Tryz.prog 96 #[.agg #[.int .i64 k', .int .i64 n', .string x', .slice a' t'.kids.length c']] w1 fun e w' => e = .returned (.bool true) ∧ Ext w1 w' from fun w1 hx => by
    have := rmay_any w1 (hr'.later hx)
    rwa [decide_eq_true hm'] at this)
  have HO := hid (fun w1 (hx : Ext w w1) => order_any d _ _ t t' K K' w1 d' (hr.later hx) (hr'.later hx))
  have HB := hid (show (T.cmp t t' = 0 → T.beq t t' = true) ∧ (¬ T.cmp t t' = 0 → T.beq t t' = false) from ⟨fun h => (T.beq_eq _ _).2 ((T.cmp_facts t t').2.1.1 h), fun h => by
    cases hb : T.beq t t' with
    | false => rfl
    | true => exact absurd ((T.cmp_facts t t').2.1.2 ((T.beq_eq _ _).1 hb)) h⟩)
  clear hr hr' hm hm'
  generalize T.cmp t t' = q at *
  generalize T.beq t t' = bq at *
  generalize (T.kids t).length = kt at *
  generalize (T.kids t').length = kt' at *
  obtain ⟨M, hM⟩ : ∃ M, (w.alloc (.cells #[.int .i64 k, .int .i64 n, .string x, .slice a kt c] 38)).alloc (.cells #[.int .i64 k', .int .i64 n', .string x', .slice a' kt' c'] 38) = M := ⟨_, rfl⟩
  have XM := hid (show Ext w M from hM ▸ Ext.alloc2 _ _ _)
  have HM0 := hid (show M.heap[w.heap.size]? = some (.cells #[.int .i64 k, .int .i64 n, .string x, .slice a kt c] 38) from hM ▸ blkOld _ (blk0 w _))
  have HM1 := hid (show M.heap[w.heap.size + 1]? = some (.cells #[.int .i64 k', .int .i64 n', .string x', .slice a' kt' c'] 38) from hM ▸ blk1 w _ _)
  obtain ⟨p0, p1, p2, p3⟩ := four_of HM0.out
  obtain ⟨s0, s1, s2, s3⟩ := four_of HM1.out
  go_enter Tryz.func76, Tryz.ntmps76
  go_wp2_with fail
  first | rw [hM] | skip
  clear hM
  refine (HM.out _ XM.out).mono ?_
  rintro e w1 ⟨rfl, hx1⟩
  have X1 := hid hx1
  clear p0 p1 p2 p3 s0 s1 s2 s3
  obtain ⟨p0, p1, p2, p3⟩ := four_of (hx1.block HM0.out)
  obtain ⟨s0, s1, s2, s3⟩ := four_of (hx1.block HM1.out)
  clear hx1
  go_wp2_with fail
  refine (HM'.out _ (XM.out.trans X1.out)).mono ?_
  rintro e w2 ⟨rfl, hx2⟩
  have X2 := hid (X1.out.trans hx2)
  clear p0 p1 p2 p3 s0 s1 s2 s3
  obtain ⟨p0, p1, p2, p3⟩ := four_of (X2.out.block HM0.out)
  obtain ⟨s0, s1, s2, s3⟩ := four_of (X2.out.block HM1.out)
  clear hx2
  go_wp2_with fail
  refine (HO.out _ (XM.out.trans X2.out)).mono ?_
  rintro e w3 ⟨rfl, hx3⟩
  have X3 := hid (X2.out.trans hx3)
  clear p0 p1 p2 p3 s0 s1 s2 s3 hx3
  by_cases h : q = 0
  · have e1 : (q == 0) = true := by rw [beq_iff_eq]; exact h
    have HV := hid (HB.out.1 h)
    clear h
    go_wp2_with fail
    go_ret
    exact ⟨by rw [HV.out]; rfl, XM.out.trans X3.out⟩
  · have e1 : (q == 0) = false := by rw [beq_eq_false_iff_ne]; exact h
    have HV := hid (HB.out.2 h)
    clear h
    go_wp2_with fail
    go_ret
    exact ⟨by rw [HV.out]; rfl, XM.out.trans X3.out⟩
end Go.Proofs.YtnmcmjgfnncdmaaGreatDoor
