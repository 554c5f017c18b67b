/-
  espalierref3.Compare by a contract.
-/
import Derived.Test.YtfafnmfgiclanaaDoorEqp
import Derived.WalkMore
import Derived.LoopTactic
namespace Go.Proofs.YtfafnmfgiclanaaDoor
open Go.RowKit Go.Shelf
theorem less_lex : ∀ a b : List UInt8, Op.bytesLess a b = true ↔ lexC byteC a b = -1
  | [], [] => by simp [Op.bytesLess, lexC]
  | [], _ :: _ => by simp [Op.bytesLess, lexC]
  | _ :: _, [] => by simp [Op.bytesLess, lexC]
  | x :: a, y :: b => by
    have ih := less_lex a b
    have hv : byteC x y = if x.toNat < y.toNat then -1 else if y.toNat < x.toNat then 1 else 0 := by
      unfold byteC Lib.compareInt
      split <;> split <;> (try split) <;> (try split) <;> omega
    simp only [Op.bytesLess, lexC, Bool.or_eq_true, decide_eq_true_eq, Bool.and_eq_true, beq_iff_eq, UInt8.lt_iff_toNat_lt]
    by_cases h1 : x.toNat < y.toNat
    · rw [if_pos h1] at hv
      rw [hv, if_neg (by decide)]
      simp [h1]
    · rw [if_neg h1] at hv
      by_cases h2 : y.toNat < x.toNat
      · rw [if_pos h2] at hv
        rw [hv, if_neg (by decide)]
        constructor
        · rintro (h | ⟨h, _⟩)
          · exact absurd h h1
          · rw [h] at h2; omega
        · intro h; exact absurd h (by decide)
      · rw [if_neg h2] at hv
        have e : x = y := UInt8.toNat_inj.1 (by omega)
        rw [hv, if_pos rfl, ← ih]
        simp [e]
theorem lex_cases (a b : List UInt8) : lexC byteC a b = -1 ∨ lexC byteC a b = 0 ∨ lexC byteC a b = 1 := by
  have h1 := (lexC_three byteC_three).low a b
  have h2 := (lexC_three byteC_three).high a b
  omega
set_option maxRecDepth 100000 in
set_option maxHeartbeats 4000000 in
theorem compare_ref (f1 f2 : ByteArray) (a1 a2 : Option Addr) (c1 c2 : Nat) (xs ys : List Int) (w : World) (hb1 : xs.length * 8 ≤ 140737488355328) (hb2 : ys.length * 8 ≤ 140737488355328)
    (h1 : Ints w (.slice a1 xs.length c1) xs) (h2 : Ints w (.slice a2 ys.length c2) ys) :
    Calls Tryd.prog 29 #[.agg #[.string f1, .slice a1 xs.length c1], .agg #[.string f2, .slice a2 ys.length c2]] w fun r w' => r = .returned (.int .i64 (cmpP (f1.data.toList, xs) (f2.data.toList, ys))) ∧ Ext w w' := by
  have H1 := hid h1.cell.2
  have H2 := hid h2.cell.2
  clear h1 h2
  have hbn : (xs.length : Int) ≤ 17592186044416 := by omega
  have hbm : (ys.length : Int) ≤ 17592186044416 := by omega
  rcases lex_cases f1.data.toList f2.data.toList with hl | hl | hl
  · have ha : Op.bytesLess f1.toList f2.toList = true := by rw [ByteArray.toList_eq, ByteArray.toList_eq]; exact (less_lex _ _).2 hl
    have HR := hid (show cmpP (f1.data.toList, xs) (f2.data.toList, ys) = -1 by unfold cmpP; rw [compareBytes_lex, hl, if_neg (by decide)])
    clear hl
    go_enter Tryd.func29, Tryd.ntmps29
    go_wp2
    go_ret
    exact ⟨ret_int HR.out.symm, Ext.alloc2 _ _ _⟩
  · have e : f1 = f2 := data_inj (((lexC_three byteC_three).zero _ _).1 hl)
    subst e
    have ha : Op.bytesLess f1.toList f1.toList = false := by
      cases h : Op.bytesLess f1.toList f1.toList with
      | false => rfl
      | true =>
        rw [ByteArray.toList_eq] at h
        have := (less_lex _ _).1 h
        rw [hl] at this
        cases this
    have HR := hid (show cmpP (f1.data.toList, xs) (f1.data.toList, ys) = lexC Lib.compareInt xs ys by unfold cmpP; rw [compareBytes_lex, hl, if_pos rfl])
    clear hl
    go_enter Tryd.func29, Tryd.ntmps29
    go_wp2_with fail
    go_loopw [5] (fun i wr => ∃ k : Nat, k ≤ xs.length ∧ k ≤ ys.length ∧ i = .int .i64 k ∧ lexC Lib.compareInt xs ys = lexC Lib.compareInt (xs.drop k) (ys.drop k) ∧ Ext ((w.alloc (.cells #[.string f1, .slice a1 xs.length c1] 27)).alloc (.cells #[.string f1, .slice a2 ys.length c2] 27)) wr) (fun i _ => xs.length - (intOf i).toNat)
    case atStart => exact ⟨0, Nat.zero_le _, Nat.zero_le _, rfl, rfl, Ext.refl _⟩
    case round =>
      obtain ⟨k, hk1, hk2, rfl, hinv, hx⟩ := hrel
      have HI := hid hinv
      have b0 := hx.block (blkOld _ (blk0 _ _))
      have b1 := hx.block (blk1 _ _ _)
      have c01 := cell_of (i := 1) b0 rfl
      have c11 := cell_of (i := 1) b1 rfl
      simp only [List.getElem_toArray, List.getElem_cons_zero, List.getElem_cons_succ] at c01 c11
      have HX := hid ((Ext.alloc2 _ _ _).trans hx)
      have HX2 := hid hx
      clear hinv hx b0 b1
      by_cases hlt : k < xs.length
      · have hlt' : (k : Int) < xs.length := by omega
        by_cases hly : k < ys.length
        · have hly' : (k : Int) < ys.length := by omega
          obtain ⟨g1, o1, rfl, e1⟩ := H1.out k hlt
          obtain ⟨g2, o2, rfl, e2⟩ := H2.out k hly
          have cx := (Below.cell HX.out (lt_of_cell e1)).trans e1
          have cy := (Below.cell HX.out (lt_of_cell e2)).trans e2
          have HL := hid (lexC_drop xs ys k hlt hly)
          clear e1 e2
          generalize xs[k] = x at cx HL
          generalize ys[k] = y at cy HL
          by_cases hxy : x < y
          · have hd1 : decide (x < y) = true := by simpa using hxy
            have HF := hid (show lexC Lib.compareInt xs ys = -1 by rw [HI.out, HL.out]; unfold Lib.compareInt; split <;> (try split) <;> omega)
            clear hxy
            go_wp2
            go_quiet (fail)
            go_wp2
            go_ret
            exact ⟨ret_int (by rw [HR.out, HF.out]), HX.out.drewN _⟩
          · have hd1 : decide (x < y) = false := by simpa using hxy
            by_cases hyx : y < x
            · have hd2 : decide (y < x) = true := by simpa using hyx
              have HF := hid (show lexC Lib.compareInt xs ys = 1 by rw [HI.out, HL.out]; unfold Lib.compareInt; split <;> (try split) <;> omega)
              clear hxy hyx
              go_wp2
              go_quiet (fail)
              go_wp2
              go_quiet (fail)
              go_wp2
              go_ret
              exact ⟨ret_int (by rw [HR.out, HF.out]), (HX.out.drewN _).drewN _⟩
            · have hd2 : decide (y < x) = false := by simpa using hyx
              have HF := hid (show Lib.compareInt x y = 0 by unfold Lib.compareInt; split <;> (try split) <;> omega)
              clear hxy hyx
              go_wp2
              go_quiet (fail)
              go_wp2
              go_quiet (fail)
              go_wp2
              go_roundw
              case rel => exact ⟨k + 1, hlt, hly, by go_num, by rw [HI.out, HL.out, if_pos HF.out], HX2.out.drewN _⟩
              case measure => simp [intOf]; omega
        · have hly' : ¬ (k : Int) < ys.length := by omega
          obtain rfl : k = ys.length := by omega
          have HL := hid (lexC_over xs ys ys.length hlt (Nat.le_refl _))
          have hn1 : ¬ (xs.length : Int) < ys.length := by omega
          go_wp2
          go_ret
          exact ⟨ret_int (by rw [HR.out, HI.out, HL.out]), HX.out⟩
      · obtain rfl : k = xs.length := by omega
        by_cases hly : xs.length < ys.length
        · have hly' : (xs.length : Int) < ys.length := by omega
          have HL := hid (lexC_under xs ys xs.length (Nat.le_refl _) hly)
          go_wp2
          go_ret
          exact ⟨ret_int (by rw [HR.out, HI.out, HL.out]), HX.out⟩
        · have hly' : ¬ (xs.length : Int) < ys.length := by omega
          have hlz' : ¬ (ys.length : Int) < xs.length := by omega
          have HL := hid (lexC_both xs ys xs.length (Nat.le_refl _) (by omega))
          go_wp2
          go_ret
          exact ⟨ret_int (by rw [HR.out, HI.out, HL.out]), HX.out⟩
  · have ha : Op.bytesLess f1.toList f2.toList = false := by
      cases h : Op.bytesLess f1.toList f2.toList with
      | false => rfl
      | true =>
        rw [ByteArray.toList_eq, ByteArray.toList_eq] at h
        have := (less_lex _ _).1 h
        rw [hl] at this
        cases this
    have hq : (f1.toList == f2.toList) = false := by
      rw [beq_eq_false_iff_ne]
      intro e
      rw [ByteArray.toList_eq, ByteArray.toList_eq] at e
      have := ((lexC_three byteC_three).zero f1.data.toList f2.data.toList).2 e
      rw [hl] at this
      cases this
    have HR := hid (show cmpP (f1.data.toList, xs) (f2.data.toList, ys) = 1 by unfold cmpP; rw [compareBytes_lex, hl, if_neg (by decide)])
    clear hl
    go_enter Tryd.func29, Tryd.ntmps29
    go_wp2
    go_ret
    exact ⟨ret_int HR.out.symm, Ext.alloc2 _ _ _⟩
end Go.Proofs.YtfafnmfgiclanaaDoor
