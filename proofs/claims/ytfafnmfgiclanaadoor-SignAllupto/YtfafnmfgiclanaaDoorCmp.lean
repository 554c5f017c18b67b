/-
  slices.Compare of ints, sign.Compare, espalierref1.EqPlace, each by a contract.
-/
import Derived.Test.YtfafnmfgiclanaaDoorHold
import Derived.Test.YtfafnmfgiclanaaDoorOrder
import Derived.Test.YtfafnmfgiclanaaDoorShelf
namespace Go.Proofs.YtfafnmfgiclanaaDoor
open Go.RowKit

theorem lexC_drop (xs ys : List Int) (k : Nat) (h1 : k < xs.length) (h2 : k < ys.length) :
    lexC Lib.compareInt (xs.drop k) (ys.drop k) = if Lib.compareInt xs[k] ys[k] = 0 then lexC Lib.compareInt (xs.drop (k + 1)) (ys.drop (k + 1)) else Lib.compareInt xs[k] ys[k] := by
  rw [List.drop_eq_getElem_cons h1, List.drop_eq_getElem_cons h2]
  rfl
theorem lexC_over (xs ys : List Int) (k : Nat) (h1 : k < xs.length) (h2 : ys.length ≤ k) : lexC Lib.compareInt (xs.drop k) (ys.drop k) = 1 := by
  rw [List.drop_eq_getElem_cons h1, List.drop_eq_nil_of_le h2]
  rfl
theorem lexC_under (xs ys : List Int) (k : Nat) (h1 : xs.length ≤ k) (h2 : k < ys.length) : lexC Lib.compareInt (xs.drop k) (ys.drop k) = -1 := by
  rw [List.drop_eq_getElem_cons h2, List.drop_eq_nil_of_le h1]
  rfl
theorem lexC_both (xs ys : List Int) (k : Nat) (h1 : xs.length ≤ k) (h2 : ys.length ≤ k) : lexC Lib.compareInt (xs.drop k) (ys.drop k) = 0 := by
  rw [List.drop_eq_nil_of_le h2, List.drop_eq_nil_of_le h1]
  rfl

set_option maxRecDepth 100000 in
set_option maxHeartbeats 2000000 in
theorem slicesCompare (a1 a2 : Option Addr) (c1 c2 : Nat) (xs ys : List Int) (w : World) (hb1 : xs.length * 8 ≤ 140737488355328) (hb2 : ys.length * 8 ≤ 140737488355328)
    (h1 : Ints w (.slice a1 xs.length c1) xs) (h2 : Ints w (.slice a2 ys.length c2) ys) :
    Calls Tryd.prog 33 #[.slice a1 xs.length c1, .slice a2 ys.length c2] w fun r w' => r = .returned (.int .i64 (lexC Lib.compareInt xs ys)) ∧ w' = w := by
  have H1 := hid h1.cell.2
  have H2 := hid h2.cell.2
  clear h1 h2
  have hbn : (xs.length : Int) ≤ 17592186044416 := by omega
  have hbm : (ys.length : Int) ≤ 17592186044416 := by omega
  go_enter Tryd.func33, Tryd.ntmps33
  go_wp2
  go_loop [11] (fun i => ∃ k : Nat, k ≤ xs.length ∧ i = .int .i64 k ∧ lexC Lib.compareInt xs ys = lexC Lib.compareInt (xs.drop k) (ys.drop k)) (fun i => xs.length - (intOf i).toNat)
  case atStart => exact ⟨0, Nat.zero_le _, rfl, rfl⟩
  case round =>
    obtain ⟨k, hk, rfl, hinv⟩ := hrel
    have HI := hid hinv
    clear hinv
    by_cases hlt : k < xs.length
    · obtain ⟨g1, o1, rfl, e1⟩ := H1.out k hlt
      have hlt' : (k : Int) < xs.length := by omega
      by_cases hly : k < ys.length
      · obtain ⟨g2, o2, rfl, e2⟩ := H2.out k hly
        have hly' : (k : Int) < ys.length := by omega
        have HL := hid (lexC_drop xs ys k hlt hly)
        generalize xs[k] = x at e1 HL
        generalize ys[k] = y at e2 HL
        by_cases hz : Lib.compareInt x y = 0
        · have hzz : (Lib.compareInt x y != 0) = false := by simp [hz]
          have HZ := hid hz
          clear hz
          go_wp2_with (go_at_call 53; refine (Tryd.cmp_Compare_int x y _).mono ?_; rintro e w' ⟨rfl, rfl⟩)
          go_round
          case rel => exact ⟨k + 1, hlt, by go_num, by rw [HI.out, HL.out, if_pos HZ.out]⟩
          case measure => simp [intOf]; omega
        · have hzz : (Lib.compareInt x y != 0) = true := by simp [hz]
          have HZ := hid hz
          clear hz
          go_wp2_with (go_at_call 53; refine (Tryd.cmp_Compare_int x y _).mono ?_; rintro e w' ⟨rfl, rfl⟩)
          go_ret
          exact ⟨ret_int (by rw [HI.out, HL.out, if_neg HZ.out]), rfl⟩
      · have HL := hid (lexC_over xs ys k hlt (by omega))
        go_wp2
        go_ret
        exact ⟨ret_int (by rw [HI.out, HL.out]), rfl⟩
    · by_cases hly : xs.length < ys.length
      · have HL := hid (lexC_under xs ys k (by omega) (by omega))
        go_wp2
        go_ret
        exact ⟨ret_int (by rw [HI.out, HL.out]), rfl⟩
      · have HL := hid (lexC_both xs ys k (by omega) (by omega))
        go_wp2
        go_ret
        exact ⟨ret_int (by rw [HI.out, HL.out]), rfl⟩

set_option maxRecDepth 100000 in
set_option maxHeartbeats 2000000 in
theorem signCompare (f1 f2 : ByteArray) (a1 a2 : Option Addr) (c1 c2 : Nat) (xs ys : List Int) (w : World) (hb1 : xs.length * 8 ≤ 140737488355328) (hb2 : ys.length * 8 ≤ 140737488355328)
    (h1 : Ints w (.slice a1 xs.length c1) xs) (h2 : Ints w (.slice a2 ys.length c2) ys) :
    Calls Tryd.prog 13 #[.agg #[.string f1, .slice a1 xs.length c1], .agg #[.string f2, .slice a2 ys.length c2]] w fun r w' => r = .returned (.int .i64 (cmpP (f1.data.toList, xs) (f2.data.toList, ys))) ∧ Ext w w' := by
  have H1 := hid h1
  have H2 := hid h2
  clear h1 h2
  by_cases hz : Lib.compareBytes f1.data.toList f2.data.toList = 0
  · have hzz : (Lib.compareBytes f1.data.toList f2.data.toList != 0) = false := by simp [hz]
    have HZ := hid hz
    clear hz
    go_enter Tryd.func13, Tryd.ntmps13
    go_wp2_with (first | (go_at_call 32; refine (Tryd.strings_Compare f1 f2 _).mono ?_; rintro e w' ⟨rfl, rfl⟩) | (go_at_call 33; refine (slicesCompare a1 a2 c1 c2 xs ys _ hb1 hb2 (H1.out.later (Ext.alloc2 _ _ _)) (H2.out.later (Ext.alloc2 _ _ _))).mono ?_; rintro e w' ⟨rfl, rfl⟩))
    go_ret
    exact ⟨ret_int (by unfold cmpP; rw [if_pos HZ.out]), Ext.alloc2 _ _ _⟩
  · have hzz : (Lib.compareBytes f1.data.toList f2.data.toList != 0) = true := by simp [hz]
    have HZ := hid hz
    clear hz
    go_enter Tryd.func13, Tryd.ntmps13
    go_wp2_with (first | (go_at_call 32; refine (Tryd.strings_Compare f1 f2 _).mono ?_; rintro e w' ⟨rfl, rfl⟩))
    go_ret
    exact ⟨ret_int (by unfold cmpP; rw [if_neg HZ.out]), Ext.alloc2 _ _ _⟩
end Go.Proofs.YtfafnmfgiclanaaDoor
