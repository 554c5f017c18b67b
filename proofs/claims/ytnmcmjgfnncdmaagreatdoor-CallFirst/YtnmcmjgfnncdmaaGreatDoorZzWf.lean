/-
  worth.wellFormed by a contract.
-/
import Derived.Test.YtnmcmjgfnncdmaaGreatDoorZzBase
import Derived.WalkMore
import Derived.Deep.RegionHeld3
import Derived.Deep.Cut
import Derived.BigQuiet
import Derived.Deep.LoopGhost
import Derived.Deep.CutRange
import Derived.Deep.CutBlock
namespace Go.Proofs.YtnmcmjgfnncdmaaGreatDoor
open Go.RowKit
theorem empty_of {x : ByteArray} (h : x.size = 0) : x = ⟨#[]⟩ := by
  obtain ⟨d⟩ := x
  have : d = #[] := Array.eq_empty_of_size_eq_zero h
  rw [this]
theorem toList_nil {x : ByteArray} : x.toList = [] ↔ x.size = 0 := by
  rw [ByteArray.toList_eq]
  constructor
  · intro h; have := congrArg List.length h; rw [Array.length_toList] at this; exact this
  · intro h; rw [empty_of h]
theorem toList_isEmpty (x : ByteArray) : x.toList.isEmpty = decide (x.size = 0) := by
  rw [Bool.eq_iff_iff, List.isEmpty_iff, toList_nil]; simp
set_option maxRecDepth 100000 in
set_option maxHeartbeats 4000000 in
theorem wellFormed_any (k n : Int) (x : ByteArray) (a : Option Addr) (l c : Nat) (w : World) :
    Calls Tryz.prog 261 #[.agg #[.int .i64 k, .int .i64 n, .string x, .slice a l c]] w fun e w' => e = .returned (.bool (decide (T.wfP k n x.size l))) ∧ Ext w w' := by
  by_cases x0 : x.size = 0
  · obtain rfl := empty_of x0
    by_cases l0 : l = 0
    · subst l0
      by_cases k1 : k = 1
      · subst k1
        go_enter Tryz.func261, Tryz.ntmps261
        go_wp2_with fail
        go_quiet (fail)
        go_wp2_with fail
        all_goals
          go_ret
          refine ⟨ret_bool ?_, (Ext.alloc _ _).drewN _⟩
          first | exact (decide_eq_true (by unfold T.wfP; omega)).symm | exact (decide_eq_false (by unfold T.wfP; omega)).symm
      by_cases k2 : k = 2
      · subst k2
        go_enter Tryz.func261, Tryz.ntmps261
        go_wp2_with fail
        go_quiet (fail)
        go_wp2_with fail
        all_goals
          go_ret
          refine ⟨ret_bool ?_, (Ext.alloc _ _).drewN _⟩
          first | exact (decide_eq_true (by unfold T.wfP; omega)).symm | exact (decide_eq_false (by unfold T.wfP; omega)).symm
      by_cases k3 : k = 3
      · subst k3
        go_enter Tryz.func261, Tryz.ntmps261
        go_wp2_with fail
        go_quiet (fail)
        go_wp2_with fail
        all_goals
          go_ret
          refine ⟨ret_bool ?_, (Ext.alloc _ _).drewN _⟩
          first | exact (decide_eq_true (by unfold T.wfP; omega)).symm | exact (decide_eq_false (by unfold T.wfP; omega)).symm
      by_cases k4 : k = 4
      · subst k4
        go_enter Tryz.func261, Tryz.ntmps261
        go_wp2_with fail
        go_quiet (fail)
        go_wp2_with fail
        all_goals
          go_ret
          refine ⟨ret_bool ?_, (Ext.alloc _ _).drewN _⟩
          first | exact (decide_eq_true (by unfold T.wfP; omega)).symm | exact (decide_eq_false (by unfold T.wfP; omega)).symm
      by_cases k5 : k = 5
      · subst k5
        go_enter Tryz.func261, Tryz.ntmps261
        go_wp2_with fail
        go_quiet (fail)
        go_wp2_with fail
        all_goals
          go_ret
          refine ⟨ret_bool ?_, (Ext.alloc _ _).drewN _⟩
          first | exact (decide_eq_true (by unfold T.wfP; omega)).symm | exact (decide_eq_false (by unfold T.wfP; omega)).symm
      go_enter Tryz.func261, Tryz.ntmps261
      go_wp2_with fail
      go_quiet (fail)
      go_wp2_with fail
      all_goals
        go_ret
        refine ⟨ret_bool ?_, (Ext.alloc _ _).drewN _⟩
        first | exact (decide_eq_true (by unfold T.wfP; omega)).symm | exact (decide_eq_false (by unfold T.wfP; omega)).symm
    · have l1 : ((l : Int) == 0) = false := by simpa using l0
      by_cases k1 : k = 1
      · subst k1
        go_enter Tryz.func261, Tryz.ntmps261
        go_wp2_with fail
        go_quiet (fail)
        go_wp2_with fail
        all_goals
          go_ret
          refine ⟨ret_bool ?_, (Ext.alloc _ _).drewN _⟩
          first | exact (decide_eq_true (by unfold T.wfP; omega)).symm | exact (decide_eq_false (by unfold T.wfP; omega)).symm
      by_cases k2 : k = 2
      · subst k2
        go_enter Tryz.func261, Tryz.ntmps261
        go_wp2_with fail
        go_quiet (fail)
        go_wp2_with fail
        all_goals
          go_ret
          refine ⟨ret_bool ?_, (Ext.alloc _ _).drewN _⟩
          first | exact (decide_eq_true (by unfold T.wfP; omega)).symm | exact (decide_eq_false (by unfold T.wfP; omega)).symm
      by_cases k3 : k = 3
      · subst k3
        go_enter Tryz.func261, Tryz.ntmps261
        go_wp2_with fail
        go_quiet (fail)
        go_wp2_with fail
        all_goals
          go_ret
          refine ⟨ret_bool ?_, (Ext.alloc _ _).drewN _⟩
          first | exact (decide_eq_true (by unfold T.wfP; omega)).symm | exact (decide_eq_false (by unfold T.wfP; omega)).symm
      by_cases k4 : k = 4
      · subst k4
        go_enter Tryz.func261, Tryz.ntmps261
        go_wp2_with fail
        go_quiet (fail)
        go_wp2_with fail
        all_goals
          go_ret
          refine ⟨ret_bool ?_, (Ext.alloc _ _).drewN _⟩
          first | exact (decide_eq_true (by unfold T.wfP; omega)).symm | exact (decide_eq_false (by unfold T.wfP; omega)).symm
      by_cases k5 : k = 5
      · subst k5
        go_enter Tryz.func261, Tryz.ntmps261
        go_wp2_with fail
        go_quiet (fail)
        go_wp2_with fail
        all_goals
          go_ret
          refine ⟨ret_bool ?_, (Ext.alloc _ _).drewN _⟩
          first | exact (decide_eq_true (by unfold T.wfP; omega)).symm | exact (decide_eq_false (by unfold T.wfP; omega)).symm
      go_enter Tryz.func261, Tryz.ntmps261
      go_wp2_with fail
      go_quiet (fail)
      go_wp2_with fail
      all_goals
        go_ret
        refine ⟨ret_bool ?_, (Ext.alloc _ _).drewN _⟩
        first | exact (decide_eq_true (by unfold T.wfP; omega)).symm | exact (decide_eq_false (by unfold T.wfP; omega)).symm
  · have x1 : ¬ x.toList = [] := fun h => x0 (toList_nil.1 h)
    have x2 : x.toList.isEmpty = false := by rw [toList_isEmpty]; simpa using x0
    by_cases l0 : l = 0
    · subst l0
      by_cases k1 : k = 1
      · subst k1
        go_enter Tryz.func261, Tryz.ntmps261
        go_wp2_with fail
        go_quiet (fail)
        go_wp2_with fail
        all_goals
          go_ret
          refine ⟨ret_bool ?_, (Ext.alloc _ _).drewN _⟩
          first | exact (decide_eq_true (by unfold T.wfP; omega)).symm | exact (decide_eq_false (by unfold T.wfP; omega)).symm
      by_cases k2 : k = 2
      · subst k2
        go_enter Tryz.func261, Tryz.ntmps261
        go_wp2_with fail
        go_quiet (fail)
        go_wp2_with fail
        all_goals
          go_ret
          refine ⟨ret_bool ?_, (Ext.alloc _ _).drewN _⟩
          first | exact (decide_eq_true (by unfold T.wfP; omega)).symm | exact (decide_eq_false (by unfold T.wfP; omega)).symm
      by_cases k3 : k = 3
      · subst k3
        go_enter Tryz.func261, Tryz.ntmps261
        go_wp2_with fail
        go_quiet (fail)
        go_wp2_with fail
        all_goals
          go_ret
          refine ⟨ret_bool ?_, (Ext.alloc _ _).drewN _⟩
          first | exact (decide_eq_true (by unfold T.wfP; omega)).symm | exact (decide_eq_false (by unfold T.wfP; omega)).symm
      by_cases k4 : k = 4
      · subst k4
        go_enter Tryz.func261, Tryz.ntmps261
        go_wp2_with fail
        go_quiet (fail)
        go_wp2_with fail
        all_goals
          go_ret
          refine ⟨ret_bool ?_, (Ext.alloc _ _).drewN _⟩
          first | exact (decide_eq_true (by unfold T.wfP; omega)).symm | exact (decide_eq_false (by unfold T.wfP; omega)).symm
      by_cases k5 : k = 5
      · subst k5
        go_enter Tryz.func261, Tryz.ntmps261
        go_wp2_with fail
        go_quiet (fail)
        go_wp2_with fail
        all_goals
          go_ret
          refine ⟨ret_bool ?_, (Ext.alloc _ _).drewN _⟩
          first | exact (decide_eq_true (by unfold T.wfP; omega)).symm | exact (decide_eq_false (by unfold T.wfP; omega)).symm
      go_enter Tryz.func261, Tryz.ntmps261
      go_wp2_with fail
      go_quiet (fail)
      go_wp2_with fail
      all_goals
        go_ret
        refine ⟨ret_bool ?_, (Ext.alloc _ _).drewN _⟩
        first | exact (decide_eq_true (by unfold T.wfP; omega)).symm | exact (decide_eq_false (by unfold T.wfP; omega)).symm
    · have l1 : ((l : Int) == 0) = false := by simpa using l0
      by_cases k1 : k = 1
      · subst k1
        go_enter Tryz.func261, Tryz.ntmps261
        go_wp2_with fail
        go_quiet (fail)
        go_wp2_with fail
        all_goals
          go_ret
          refine ⟨ret_bool ?_, (Ext.alloc _ _).drewN _⟩
          first | exact (decide_eq_true (by unfold T.wfP; omega)).symm | exact (decide_eq_false (by unfold T.wfP; omega)).symm
      by_cases k2 : k = 2
      · subst k2
        go_enter Tryz.func261, Tryz.ntmps261
        go_wp2_with fail
        go_quiet (fail)
        go_wp2_with fail
        all_goals
          go_ret
          refine ⟨ret_bool ?_, (Ext.alloc _ _).drewN _⟩
          first | exact (decide_eq_true (by unfold T.wfP; omega)).symm | exact (decide_eq_false (by unfold T.wfP; omega)).symm
      by_cases k3 : k = 3
      · subst k3
        go_enter Tryz.func261, Tryz.ntmps261
        go_wp2_with fail
        go_quiet (fail)
        go_wp2_with fail
        all_goals
          go_ret
          refine ⟨ret_bool ?_, (Ext.alloc _ _).drewN _⟩
          first | exact (decide_eq_true (by unfold T.wfP; omega)).symm | exact (decide_eq_false (by unfold T.wfP; omega)).symm
      by_cases k4 : k = 4
      · subst k4
        go_enter Tryz.func261, Tryz.ntmps261
        go_wp2_with fail
        go_quiet (fail)
        go_wp2_with fail
        all_goals
          go_ret
          refine ⟨ret_bool ?_, (Ext.alloc _ _).drewN _⟩
          first | exact (decide_eq_true (by unfold T.wfP; omega)).symm | exact (decide_eq_false (by unfold T.wfP; omega)).symm
      by_cases k5 : k = 5
      · subst k5
        go_enter Tryz.func261, Tryz.ntmps261
        go_wp2_with fail
        go_quiet (fail)
        go_wp2_with fail
        all_goals
          go_ret
          refine ⟨ret_bool ?_, (Ext.alloc _ _).drewN _⟩
          first | exact (decide_eq_true (by unfold T.wfP; omega)).symm | exact (decide_eq_false (by unfold T.wfP; omega)).symm
      go_enter Tryz.func261, Tryz.ntmps261
      go_wp2_with fail
      go_quiet (fail)
      go_wp2_with fail
      all_goals
        go_ret
        refine ⟨ret_bool ?_, (Ext.alloc _ _).drewN _⟩
        first | exact (decide_eq_true (by unfold T.wfP; omega)).symm | exact (decide_eq_false (by unfold T.wfP; omega)).symm
end Go.Proofs.YtnmcmjgfnncdmaaGreatDoor
