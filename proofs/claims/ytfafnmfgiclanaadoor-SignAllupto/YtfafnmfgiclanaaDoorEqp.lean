/-
  espalierref1.EqPlace by a contract: whether two places are the same.
-/
import Derived.Test.YtfafnmfgiclanaaDoorCmp
namespace Go.Proofs.YtfafnmfgiclanaaDoor
open Go.RowKit

theorem toList_inj {a b : ByteArray} (e : a.toList = b.toList) : a = b := by
  rw [ByteArray.toList_eq, ByteArray.toList_eq] at e
  exact ByteArray.ext (Array.toList_inj.1 e)
theorem data_inj {a b : ByteArray} (e : a.data.toList = b.data.toList) : a = b := ByteArray.ext (Array.toList_inj.1 e)
theorem eqPlace_fun (f1 f2 : ByteArray) (v1 v2 : Value) (w : World) (hf : ¬ f1.toList = f2.toList) :
    Calls Tryd.prog 12 #[.agg #[.string f1, v1], .agg #[.string f2, v2]] w fun r w' => r = .returned (.bool false) ∧ Ext w w' := by
  go_enter Tryd.func12, Tryd.ntmps12
  go_wp2
  go_ret
  exact ⟨rfl, Ext.alloc2 _ _ _⟩
theorem eqPlace_len (f : ByteArray) (a1 a2 : Option Addr) (n1 n2 c1 c2 : Nat) (w : World) (hn : ((n1 : Int) != n2) = true) :
    Calls Tryd.prog 12 #[.agg #[.string f, .slice a1 n1 c1], .agg #[.string f, .slice a2 n2 c2]] w fun r w' => r = .returned (.bool false) ∧ Ext w w' := by
  go_enter Tryd.func12, Tryd.ntmps12
  go_wp2
  go_ret
  exact ⟨rfl, Ext.alloc2 _ _ _⟩
set_option maxRecDepth 100000 in
set_option maxHeartbeats 2000000 in
theorem eqPlace_same (f : ByteArray) (a1 a2 : Option Addr) (c1 c2 : Nat) (xs ys : List Int) (w : World) (hl : xs.length = ys.length) (hb : xs.length * 8 ≤ 140737488355328)
    (h1 : Ints w (.slice a1 xs.length c1) xs) (h2 : Ints w (.slice a2 ys.length c2) ys) :
    Calls Tryd.prog 12 #[.agg #[.string f, .slice a1 xs.length c1], .agg #[.string f, .slice a2 xs.length c2]] w fun r w' => r = .returned (.bool (decide (xs = ys))) ∧ Ext w w' := by
  have H1 := hid h1.cell.2
  have H2 := hid h2.cell.2
  have HL := hid hl
  clear h1 h2 hl
  have hbn : (xs.length : Int) ≤ 17592186044416 := by omega
  have hnn : ((xs.length : Int) != (xs.length : Int)) = false := by simp
  go_enter Tryd.func12, Tryd.ntmps12
  go_wp2
  go_loopw [5] (fun i wr => ∃ k : Nat, k ≤ xs.length ∧ i = .int .i64 k ∧ (∀ j, j < k → xs[j]? = ys[j]?) ∧ Ext ((w.alloc (.cells #[.string f, .slice a1 xs.length c1] 27)).alloc (.cells #[.string f, .slice a2 xs.length c2] 27)) wr) (fun i _ => xs.length - (intOf i).toNat)
  case atStart => exact ⟨0, Nat.zero_le _, rfl, fun j h => absurd h (Nat.not_lt_zero _), Ext.refl _⟩
  case round =>
    obtain ⟨k, hk, rfl, hall, hx⟩ := hrel
    have HALL := hid hall
    have b0 := hx.block (blkOld _ (blk0 _ _))
    have b1 := hx.block (blk1 _ _ _)
    have c01 := cell_of (i := 1) b0 rfl
    have c11 := cell_of (i := 1) b1 rfl
    simp only [List.getElem_toArray, List.getElem_cons_zero, List.getElem_cons_succ] at c01 c11
    have HX := hid ((Ext.alloc2 _ _ _).trans hx)
    have HX2 := hid hx
    clear hall hx b0 b1
    by_cases hlt : k < xs.length
    · have hlty : k < ys.length := by rw [← HL.out]; exact hlt
      obtain ⟨g1, o1, rfl, e1⟩ := H1.out k hlt
      obtain ⟨g2, o2, rfl, e2⟩ := H2.out k hlty
      have HXK := hid (List.getElem?_eq_getElem hlt)
      have HYK := hid (List.getElem?_eq_getElem hlty)
      have cx := (Below.cell HX.out (lt_of_cell e1)).trans e1
      have cy := (Below.cell HX.out (lt_of_cell e2)).trans e2
      have hlt' : (k : Int) < xs.length := by omega
      clear e1 e2
      generalize xs[k] = x at cx HXK
      generalize ys[k] = y at cy HYK
      by_cases hxy : x = y
      · have hq : (x != y) = false := by simp [hxy]
        have HXY := hid hxy
        clear hxy
        go_wp2
        go_quiet (fail)
        go_wp2
        go_roundw
        case rel => exact ⟨k + 1, hlt, by go_num, fun j hj => by
            rcases Nat.lt_or_eq_of_le (Nat.le_of_lt_succ hj) with h | h
            · exact HALL.out j h
            · rw [h, HXK.out, HYK.out, HXY.out], HX2.out.drewN _⟩
        case measure => simp [intOf]; omega
      · have hq : (x != y) = true := by simp [hxy]
        have HXY := hid hxy
        clear hxy
        go_wp2
        go_quiet (fail)
        go_wp2
        go_ret
        refine ⟨ret_bool ?_, ?_⟩
        · symm
          rw [decide_eq_false_iff_not]
          intro e
          have := HXK.out
          rw [e, HYK.out] at this
          exact HXY.out (Option.some.inj this).symm
        · exact HX.out.drewN _
    · go_wp2
      go_ret
      refine ⟨ret_bool ?_, HX.out⟩
      symm
      rw [decide_eq_true_iff]
      refine List.ext_getElem? (fun j => ?_)
      rcases Nat.lt_or_ge j k with h | h
      · exact HALL.out j h
      · have hl := HL.out
        rw [List.getElem?_eq_none (by omega), List.getElem?_eq_none (by omega)]
/-- Whether two places are the same. -/
def eqP (a b : List UInt8 × List Int) : Bool := decide (a = b)
theorem eqPlace_any (f1 f2 : ByteArray) (a1 a2 : Option Addr) (c1 c2 : Nat) (xs ys : List Int) (w : World) (hb : xs.length * 8 ≤ 140737488355328)
    (h1 : Ints w (.slice a1 xs.length c1) xs) (h2 : Ints w (.slice a2 ys.length c2) ys) :
    Calls Tryd.prog 12 #[.agg #[.string f1, .slice a1 xs.length c1], .agg #[.string f2, .slice a2 ys.length c2]] w fun r w' => r = .returned (.bool (eqP (f1.data.toList, xs) (f2.data.toList, ys))) ∧ Ext w w' := by
  by_cases hf : f1.toList = f2.toList
  · obtain rfl := toList_inj hf
    by_cases hl : xs.length = ys.length
    · rw [← hl] at h2 ⊢
      refine (eqPlace_same f1 a1 a2 c1 c2 xs ys w hl hb h1 (by rw [← hl]; exact h2)).mono ?_
      rintro r w' ⟨rfl, hx⟩
      exact ⟨ret_bool (by simp [eqP]), hx⟩
    · refine (eqPlace_len f1 a1 a2 _ _ c1 c2 w (by rw [bne_iff_ne]; omega)).mono ?_
      rintro r w' ⟨rfl, hx⟩
      exact ⟨ret_bool (by symm; unfold eqP; rw [decide_eq_false_iff_not]; intro e; exact hl (by rw [(Prod.mk.inj e).2])), hx⟩
  · refine (eqPlace_fun f1 f2 _ _ w hf).mono ?_
    rintro r w' ⟨rfl, hx⟩
    exact ⟨ret_bool (by symm; unfold eqP; rw [decide_eq_false_iff_not]; intro e; exact hf (by rw [data_inj (Prod.mk.inj e).1])), hx⟩
end Go.Proofs.YtfafnmfgiclanaaDoor
