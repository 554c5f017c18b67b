/-
  kit.takes and kit.fits of a kind without a number; by contracts.
-/
import Derived.Test.YtnmcmjgfnncdmaaGreatDoorZzKItems
import Derived.Test.YtnmcmjgfnncdmaaGreatDoorZzSpelt
namespace Go.Proofs.YtnmcmjgfnncdmaaGreatDoor.Nd
open Go.RowKit
/-- Whether a text is as a row's Text asks: none, or a name. -/
def takesB (tx : Int) (x : ByteArray) : Bool := if tx = 2 then speltB nameI 32 x.data.toList else decide (x.size = 0)
theorem takes_none (x : ByteArray) (nk : Int) (w : World) : Calls Tryz.prog 131 #[.int .i64 0, .string x, .int .i64 nk] w fun e w' => e = .returned (.bool (takesB 0 x)) ∧ Ext w w' := by
  by_cases h : x.size = 0
  · have HV := hid (show takesB 0 x = true by unfold takesB; rw [if_neg (by decide), decide_eq_true h])
    obtain rfl : x = ⟨#[]⟩ := by
      obtain ⟨d⟩ := x
      have : d.size = 0 := h
      rw [Array.eq_empty_of_size_eq_zero this]
    clear h
    go_enter Tryz.func131, Tryz.ntmps131
    go_wp2_with fail
    go_ret
    exact ⟨by rw [HV.out]; rfl, Ext.refl _⟩
  · have HV := hid (show takesB 0 x = false by unfold takesB; rw [if_neg (by decide), decide_eq_false h])
    have h1 : ¬ x = ByteArray.empty := fun e => h (by rw [e]; rfl)
    have h2 : x.toList.isEmpty = false := by
      rw [Bool.eq_false_iff]
      intro e
      rw [List.isEmpty_iff] at e
      exact h1 (toList_inj (e.trans (by first | kernel_rfl | simp)))
    clear h
    go_enter Tryz.func131, Tryz.ntmps131
    go_wp2_with fail
    go_ret
    exact ⟨by rw [HV.out]; rfl, Ext.refl _⟩
theorem takes_name (x : ByteArray) (nk : Int) (w : World) : Calls Tryz.prog 131 #[.int .i64 2, .string x, .int .i64 nk] w fun e w' => e = .returned (.bool (takesB 2 x)) ∧ Ext w w' := by
  have HV := hid (show takesB 2 x = speltB nameI 32 x.data.toList from if_pos rfl)
  have HN := hid (fun w => name_any x w)
  rw [← HV.out] at HN
  clear HV
  generalize takesB 2 x = b at *
  go_enter Tryz.func131, Tryz.ntmps131
  go_wp2_with fail
  refine (HN.out _).mono ?_
  rintro e w1 ⟨rfl, hx⟩
  have HX := hid hx
  clear hx
  go_wp2_with fail
  go_ret
  exact ⟨rfl, HX.out⟩
theorem takes_any (tx : Int) (ht : tx = 0 ∨ tx = 2) (x : ByteArray) (nk : Int) (w : World) : Calls Tryz.prog 131 #[.int .i64 tx, .string x, .int .i64 nk] w fun e w' => e = .returned (.bool (takesB tx x)) ∧ Ext w w' := by
  rcases ht with rfl | rfl
  · exact takes_none x nk w
  · exact takes_name x nk w
/-- What is amiss with a node of a kind whose number and count are right. -/
def fitQ (tx : Int) (x : ByteArray) : Int := if 16384 < x.size then 2 else if takesB tx x = true then 0 else 12
set_option maxRecDepth 100000 in
set_option maxHeartbeats 2000000 in
theorem fits_gen (k x : ByteArray) (mn mx tx : Int) (ht : tx = 0 ∨ tx = 2) (a : Option Addr) (al ac : Nat) (ka : Option Addr) (kl kc nk : Nat) (w : World) (h1 : mn ≤ nk) (h2 : mx = -1 ∨ (nk : Int) ≤ mx) (hx : x.size ≤ 140737488351232) :
    Calls Tryz.prog 66 #[.agg #[.string k, .int .i64 mn, .int .i64 mx, .bool false, .int .i64 tx, .slice a al ac], .agg #[.string k, .int .i64 0, .string x, .slice ka kl kc], .int .i64 nk] w fun e w' => e = .returned (.int .i64 (fitQ tx x)) ∧ Ext w w' := by
  have HT := hid (fun w => takes_any tx ht x nk w)
  have hx' : (x.size : Int) ≤ 140737488351232 := by omega
  have m1 : ¬ (nk : Int) < mn := by omega
  have HV := hid (show fitQ tx x = if 16384 < x.size then 2 else if takesB tx x = true then 0 else 12 from rfl)
  clear ht hx h1
  generalize takesB tx x = b at *
  generalize fitQ tx x = V at *
  obtain ⟨M, hM⟩ : ∃ M, (w.alloc (.cells #[.string k, .int .i64 mn, .int .i64 mx, .bool false, .int .i64 tx, .slice a al ac] 137)).alloc (.cells #[.string k, .int .i64 0, .string x, .slice ka kl kc] 69) = M := ⟨_, rfl⟩
  have XM := hid (show Ext w M from hM ▸ Ext.alloc2 _ _ _)
  have HM0 := hid (show M.heap[w.heap.size]? = some (.cells #[.string k, .int .i64 mn, .int .i64 mx, .bool false, .int .i64 tx, .slice a al ac] 137) from hM ▸ blkOld _ (blk0 _ _))
  have HM1 := hid (show M.heap[w.heap.size + 1]? = some (.cells #[.string k, .int .i64 0, .string x, .slice ka kl kc] 69) from hM ▸ blk1 _ _ _)
  obtain ⟨r0, r1, r2, r3, r4, r5⟩ := six_of HM0.out
  obtain ⟨t0, t1, t2, t3⟩ : M.cell? ⟨w.heap.size + 1, 0, none⟩ = some (.string k) ∧ M.cell? ⟨w.heap.size + 1, 1, none⟩ = some (.int .i64 0) ∧ M.cell? ⟨w.heap.size + 1, 2, none⟩ = some (.string x) ∧ M.cell? ⟨w.heap.size + 1, 3, none⟩ = some (.slice ka kl kc) := ⟨cell_of HM1.out rfl, cell_of HM1.out rfl, cell_of HM1.out rfl, cell_of HM1.out rfl⟩
  by_cases hm : mx = -1
  · subst hm
    clear h2
    by_cases hl : 16384 < x.size
    · have hl1 : (16384 : Int) < x.size := by omega
      have HW := hid (show V = 2 by rw [HV.out, if_pos hl])
      clear hl
      go_enter Tryz.func66, Tryz.ntmps66
      go_wp2_with fail
      go_ret
      exact ⟨by rw [HW.out]; rfl, XM.out⟩
    · have hl1 : ¬ (16384 : Int) < x.size := by omega
      go_enter Tryz.func66, Tryz.ntmps66
      go_wp2_with fail
      refine (HT.out _).mono ?_
      rintro e w1 ⟨rfl, hx1⟩
      have X1 := hid (XM.out.trans hx1)
      clear hx1
      cases b with
      | true =>
        have HW := hid (show V = 0 by rw [HV.out, if_neg hl]; rfl)
        go_wp2_with fail
        go_ret
        exact ⟨by rw [HW.out]; rfl, X1.out⟩
      | false =>
        have HW := hid (show V = 12 by rw [HV.out, if_neg hl]; rfl)
        go_wp2_with fail
        go_ret
        exact ⟨by rw [HW.out]; rfl, X1.out⟩
  · have m2 : (mx == -1) = false := by rw [beq_eq_false_iff_ne]; exact hm
    have m3 : (mx != -1) = true := by unfold bne; rw [m2]; rfl
    have m4 : ¬ mx < (nk : Int) := by omega
    clear h2
    by_cases hl : 16384 < x.size
    · have hl1 : (16384 : Int) < x.size := by omega
      have HW := hid (show V = 2 by rw [HV.out, if_pos hl])
      clear hl
      go_enter Tryz.func66, Tryz.ntmps66
      go_wp2_with fail
      go_ret
      exact ⟨by rw [HW.out]; rfl, XM.out⟩
    · have hl1 : ¬ (16384 : Int) < x.size := by omega
      go_enter Tryz.func66, Tryz.ntmps66
      go_wp2_with fail
      refine (HT.out _).mono ?_
      rintro e w1 ⟨rfl, hx1⟩
      have X1 := hid (XM.out.trans hx1)
      clear hx1
      cases b with
      | true =>
        have HW := hid (show V = 0 by rw [HV.out, if_neg hl]; rfl)
        go_wp2_with fail
        go_ret
        exact ⟨by rw [HW.out]; rfl, X1.out⟩
      | false =>
        have HW := hid (show V = 12 by rw [HV.out, if_neg hl]; rfl)
        go_wp2_with fail
        go_ret
        exact ⟨by rw [HW.out]; rfl, X1.out⟩

end Go.Proofs.YtnmcmjgfnncdmaaGreatDoor.Nd
