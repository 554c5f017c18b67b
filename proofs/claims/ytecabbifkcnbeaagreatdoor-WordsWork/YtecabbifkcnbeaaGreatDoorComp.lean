/-
  worth.wellFormed by a contract.
-/
import Derived.Test.YtecabbifkcnbeaaGreatDoorPlainIn
import Derived.WalkMore
import Derived.Deep.RegionHeld3
import Derived.Deep.Cut
import Derived.BigQuiet
import Derived.Deep.LoopGhost
import Derived.Deep.CutRange
import Derived.Deep.CutBlock
import Derived.Test.YtecabbifkcnbeaaGreatDoorVal
namespace Go.Proofs.YtecabbifkcnbeaaGreatDoor
open Go.RowKit
theorem empty_of {x : ByteArray} (h : x.size = 0) : x = ⟨#[]⟩ := by
  obtain ⟨d⟩ := x
  have : d = #[] := Array.eq_empty_of_size_eq_zero h
  rw [this]
theorem toList_nil {x : ByteArray} : x.toList = [] ↔ x.size = 0 := by
  rw [ByteArray.toList_eq]
  constructor
  · intro h; have := congrArg List.length h; rw [Array.length_toList] at this; exact this
  · intro h; rw [empty_of h]
theorem toList_isEmpty (x : ByteArray) : x.toList.isEmpty = decide (x.size = 0) := by
  rw [Bool.eq_iff_iff, List.isEmpty_iff, toList_nil]; simp
set_option maxRecDepth 100000 in
set_option maxHeartbeats 4000000 in
theorem wellFormed_any (k n : Int) (x : ByteArray) (a : Option Addr) (l c : Nat) (w : World) :
    Calls Tryz.prog 186 #[.agg #[.int .i64 k, .int .i64 n, .string x, .slice a l c]] w fun e w' => e = .returned (.bool (decide (T.wfP k n x.size l))) ∧ Ext w w' := by
  by_cases x0 : x.size = 0
  · obtain rfl := empty_of x0
    by_cases l0 : l = 0
    · subst l0
      by_cases k1 : k = 1
      · subst k1
        go_enter Tryz.func186, Tryz.ntmps186
        go_wp2_with fail
        go_quiet (fail)
        go_wp2_with fail
        all_goals
          go_ret
          refine ⟨ret_bool ?_, (Ext.alloc _ _).drewN _⟩
          first | exact (decide_eq_true (by unfold T.wfP; omega)).symm | exact (decide_eq_false (by unfold T.wfP; omega)).symm
      by_cases k2 : k = 2
      · subst k2
        go_enter Tryz.func186, Tryz.ntmps186
        go_wp2_with fail
        go_quiet (fail)
        go_wp2_with fail
        all_goals
          go_ret
          refine ⟨ret_bool ?_, (Ext.alloc _ _).drewN _⟩
          first | exact (decide_eq_true (by unfold T.wfP; omega)).symm | exact (decide_eq_false (by unfold T.wfP; omega)).symm
      by_cases k3 : k = 3
      · subst k3
        go_enter Tryz.func186, Tryz.ntmps186
        go_wp2_with fail
        go_quiet (fail)
        go_wp2_with fail
        all_goals
          go_ret
          refine ⟨ret_bool ?_, (Ext.alloc _ _).drewN _⟩
          first | exact (decide_eq_true (by unfold T.wfP; omega)).symm | exact (decide_eq_false (by unfold T.wfP; omega)).symm
      by_cases k4 : k = 4
      · subst k4
        go_enter Tryz.func186, Tryz.ntmps186
        go_wp2_with fail
        go_quiet (fail)
        go_wp2_with fail
        all_goals
          go_ret
          refine ⟨ret_bool ?_, (Ext.alloc _ _).drewN _⟩
          first | exact (decide_eq_true (by unfold T.wfP; omega)).symm | exact (decide_eq_false (by unfold T.wfP; omega)).symm
      by_cases k5 : k = 5
      · subst k5
        go_enter Tryz.func186, Tryz.ntmps186
        go_wp2_with fail
        go_quiet (fail)
        go_wp2_with fail
        all_goals
          go_ret
          refine ⟨ret_bool ?_, (Ext.alloc _ _).drewN _⟩
          first | exact (decide_eq_true (by unfold T.wfP; omega)).symm | exact (decide_eq_false (by unfold T.wfP; omega)).symm
      go_enter Tryz.func186, Tryz.ntmps186
      go_wp2_with fail
      go_quiet (fail)
      go_wp2_with fail
      all_goals
        go_ret
        refine ⟨ret_bool ?_, (Ext.alloc _ _).drewN _⟩
        first | exact (decide_eq_true (by unfold T.wfP; omega)).symm | exact (decide_eq_false (by unfold T.wfP; omega)).symm
    · have l1 : ((l : Int) == 0) = false := by simpa using l0
      by_cases k1 : k = 1
      · subst k1
        go_enter Tryz.func186, Tryz.ntmps186
        go_wp2_with fail
        go_quiet (fail)
        go_wp2_with fail
        all_goals
          go_ret
          refine ⟨ret_bool ?_, (Ext.alloc _ _).drewN _⟩
          first | exact (decide_eq_true (by unfold T.wfP; omega)).symm | exact (decide_eq_false (by unfold T.wfP; omega)).symm
      by_cases k2 : k = 2
      · subst k2
        go_enter Tryz.func186, Tryz.ntmps186
        go_wp2_with fail
        go_quiet (fail)
        go_wp2_with fail
        all_goals
          go_ret
          refine ⟨ret_bool ?_, (Ext.alloc _ _).drewN _⟩
          first | exact (decide_eq_true (by unfold T.wfP; omega)).symm | exact (decide_eq_false (by unfold T.wfP; omega)).symm
      by_cases k3 : k = 3
      · subst k3
        go_enter Tryz.func186, Tryz.ntmps186
        go_wp2_with fail
        go_quiet (fail)
        go_wp2_with fail
        all_goals
          go_ret
          refine ⟨ret_bool ?_, (Ext.alloc _ _).drewN _⟩
          first | exact (decide_eq_true (by unfold T.wfP; omega)).symm | exact (decide_eq_false (by unfold T.wfP; omega)).symm
      by_cases k4 : k = 4
      · subst k4
        go_enter Tryz.func186, Tryz.ntmps186
        go_wp2_with fail
        go_quiet (fail)
        go_wp2_with fail
        all_goals
          go_ret
          refine ⟨ret_bool ?_, (Ext.alloc _ _).drewN _⟩
          first | exact (decide_eq_true (by unfold T.wfP; omega)).symm | exact (decide_eq_false (by unfold T.wfP; omega)).symm
      by_cases k5 : k = 5
      · subst k5
        go_enter Tryz.func186, Tryz.ntmps186
        go_wp2_with fail
        go_quiet (fail)
        go_wp2_with fail
        all_goals
          go_ret
          refine ⟨ret_bool ?_, (Ext.alloc _ _).drewN _⟩
          first | exact (decide_eq_true (by unfold T.wfP; omega)).symm | exact (decide_eq_false (by unfold T.wfP; omega)).symm
      go_enter Tryz.func186, Tryz.ntmps186
      go_wp2_with fail
      go_quiet (fail)
      go_wp2_with fail
      all_goals
        go_ret
        refine ⟨ret_bool ?_, (Ext.alloc _ _).drewN _⟩
        first | exact (decide_eq_true (by unfold T.wfP; omega)).symm | exact (decide_eq_false (by unfold T.wfP; omega)).symm
  · have x1 : ¬ x.toList = [] := fun h => x0 (toList_nil.1 h)
    have x2 : x.toList.isEmpty = false := by rw [toList_isEmpty]; simpa using x0
    by_cases l0 : l = 0
    · subst l0
      by_cases k1 : k = 1
      · subst k1
        go_enter Tryz.func186, Tryz.ntmps186
        go_wp2_with fail
        go_quiet (fail)
        go_wp2_with fail
        all_goals
          go_ret
          refine ⟨ret_bool ?_, (Ext.alloc _ _).drewN _⟩
          first | exact (decide_eq_true (by unfold T.wfP; omega)).symm | exact (decide_eq_false (by unfold T.wfP; omega)).symm
      by_cases k2 : k = 2
      · subst k2
        go_enter Tryz.func186, Tryz.ntmps186
        go_wp2_with fail
        go_quiet (fail)
        go_wp2_with fail
        all_goals
          go_ret
          refine ⟨ret_bool ?_, (Ext.alloc _ _).drewN _⟩
          first | exact (decide_eq_true (by unfold T.wfP; omega)).symm | exact (decide_eq_false (by unfold T.wfP; omega)).symm
      by_cases k3 : k = 3
      · subst k3
        go_enter Tryz.func186, Tryz.ntmps186
        go_wp2_with fail
        go_quiet (fail)
        go_wp2_with fail
        all_goals
          go_ret
          refine ⟨ret_bool ?_, (Ext.alloc _ _).drewN _⟩
          first | exact (decide_eq_true (by unfold T.wfP; omega)).symm | exact (decide_eq_false (by unfold T.wfP; omega)).symm
      by_cases k4 : k = 4
      · subst k4
        go_enter Tryz.func186, Tryz.ntmps186
        go_wp2_with fail
        go_quiet (fail)
        go_wp2_with fail
        all_goals
          go_ret
          refine ⟨ret_bool ?_, (Ext.alloc _ _).drewN _⟩
          first | exact (decide_eq_true (by unfold T.wfP; omega)).symm | exact (decide_eq_false (by unfold T.wfP; omega)).symm
      by_cases k5 : k = 5
      · subst k5
        go_enter Tryz.func186, Tryz.ntmps186
        go_wp2_with fail
        go_quiet (fail)
        go_wp2_with fail
        all_goals
          go_ret
          refine ⟨ret_bool ?_, (Ext.alloc _ _).drewN _⟩
          first | exact (decide_eq_true (by unfold T.wfP; omega)).symm | exact (decide_eq_false (by unfold T.wfP; omega)).symm
      go_enter Tryz.func186, Tryz.ntmps186
      go_wp2_with fail
      go_quiet (fail)
      go_wp2_with fail
      all_goals
        go_ret
        refine ⟨ret_bool ?_, (Ext.alloc _ _).drewN _⟩
        first | exact (decide_eq_true (by unfold T.wfP; omega)).symm | exact (decide_eq_false (by unfold T.wfP; omega)).symm
    · have l1 : ((l : Int) == 0) = false := by simpa using l0
      by_cases k1 : k = 1
      · subst k1
        go_enter Tryz.func186, Tryz.ntmps186
        go_wp2_with fail
        go_quiet (fail)
        go_wp2_with fail
        all_goals
          go_ret
          refine ⟨ret_bool ?_, (Ext.alloc _ _).drewN _⟩
          first | exact (decide_eq_true (by unfold T.wfP; omega)).symm | exact (decide_eq_false (by unfold T.wfP; omega)).symm
      by_cases k2 : k = 2
      · subst k2
        go_enter Tryz.func186, Tryz.ntmps186
        go_wp2_with fail
        go_quiet (fail)
        go_wp2_with fail
        all_goals
          go_ret
          refine ⟨ret_bool ?_, (Ext.alloc _ _).drewN _⟩
          first | exact (decide_eq_true (by unfold T.wfP; omega)).symm | exact (decide_eq_false (by unfold T.wfP; omega)).symm
      by_cases k3 : k = 3
      · subst k3
        go_enter Tryz.func186, Tryz.ntmps186
        go_wp2_with fail
        go_quiet (fail)
        go_wp2_with fail
        all_goals
          go_ret
          refine ⟨ret_bool ?_, (Ext.alloc _ _).drewN _⟩
          first | exact (decide_eq_true (by unfold T.wfP; omega)).symm | exact (decide_eq_false (by unfold T.wfP; omega)).symm
      by_cases k4 : k = 4
      · subst k4
        go_enter Tryz.func186, Tryz.ntmps186
        go_wp2_with fail
        go_quiet (fail)
        go_wp2_with fail
        all_goals
          go_ret
          refine ⟨ret_bool ?_, (Ext.alloc _ _).drewN _⟩
          first | exact (decide_eq_true (by unfold T.wfP; omega)).symm | exact (decide_eq_false (by unfold T.wfP; omega)).symm
      by_cases k5 : k = 5
      · subst k5
        go_enter Tryz.func186, Tryz.ntmps186
        go_wp2_with fail
        go_quiet (fail)
        go_wp2_with fail
        all_goals
          go_ret
          refine ⟨ret_bool ?_, (Ext.alloc _ _).drewN _⟩
          first | exact (decide_eq_true (by unfold T.wfP; omega)).symm | exact (decide_eq_false (by unfold T.wfP; omega)).symm
      go_enter Tryz.func186, Tryz.ntmps186
      go_wp2_with fail
      go_quiet (fail)
      go_wp2_with fail
      all_goals
        go_ret
        refine ⟨ret_bool ?_, (Ext.alloc _ _).drewN _⟩
        first | exact (decide_eq_true (by unfold T.wfP; omega)).symm | exact (decide_eq_false (by unfold T.wfP; omega)).symm
end Go.Proofs.YtecabbifkcnbeaaGreatDoor
/-
  Assertions on values; rank, number, and the comparisons of numbers and texts, each by a contract.
-/
namespace Go.Proofs.YtecabbifkcnbeaaGreatDoor
open Go.RowKit
theorem as_un_un (v : Value) (w : World) : (Instr.typeAssert (.iface 137 v) 29 137 true).run Tryz.prog w = .ok (.tuple #[v, .bool true]) w := by kernel_rfl
theorem as_un_tu (v : Value) (w : World) : (Instr.typeAssert (.iface 137 v) 29 138 true).run Tryz.prog w = .ok (.tuple #[(.bool false), .bool false]) w := by kernel_rfl
theorem as_un_in (v : Value) (w : World) : (Instr.typeAssert (.iface 137 v) 29 51 true).run Tryz.prog w = .ok (.tuple #[(.int .i64 0), .bool false]) w := by kernel_rfl
theorem as_un_tx (v : Value) (w : World) : (Instr.typeAssert (.iface 137 v) 29 98 true).run Tryz.prog w = .ok (.tuple #[(.string ByteArray.empty), .bool false]) w := by kernel_rfl
theorem as_un_li (v : Value) (w : World) : (Instr.typeAssert (.iface 137 v) 29 139 true).run Tryz.prog w = .ok (.tuple #[(.slice none 0 0), .bool false]) w := by kernel_rfl
theorem as_tu_un (v : Value) (w : World) : (Instr.typeAssert (.iface 138 v) 29 137 true).run Tryz.prog w = .ok (.tuple #[(.agg #[]), .bool false]) w := by kernel_rfl
theorem as_tu_tu (v : Value) (w : World) : (Instr.typeAssert (.iface 138 v) 29 138 true).run Tryz.prog w = .ok (.tuple #[v, .bool true]) w := by kernel_rfl
theorem as_tu_in (v : Value) (w : World) : (Instr.typeAssert (.iface 138 v) 29 51 true).run Tryz.prog w = .ok (.tuple #[(.int .i64 0), .bool false]) w := by kernel_rfl
theorem as_tu_tx (v : Value) (w : World) : (Instr.typeAssert (.iface 138 v) 29 98 true).run Tryz.prog w = .ok (.tuple #[(.string ByteArray.empty), .bool false]) w := by kernel_rfl
theorem as_tu_li (v : Value) (w : World) : (Instr.typeAssert (.iface 138 v) 29 139 true).run Tryz.prog w = .ok (.tuple #[(.slice none 0 0), .bool false]) w := by kernel_rfl
theorem as_in_un (v : Value) (w : World) : (Instr.typeAssert (.iface 51 v) 29 137 true).run Tryz.prog w = .ok (.tuple #[(.agg #[]), .bool false]) w := by kernel_rfl
theorem as_in_tu (v : Value) (w : World) : (Instr.typeAssert (.iface 51 v) 29 138 true).run Tryz.prog w = .ok (.tuple #[(.bool false), .bool false]) w := by kernel_rfl
theorem as_in_in (v : Value) (w : World) : (Instr.typeAssert (.iface 51 v) 29 51 true).run Tryz.prog w = .ok (.tuple #[v, .bool true]) w := by kernel_rfl
theorem as_in_tx (v : Value) (w : World) : (Instr.typeAssert (.iface 51 v) 29 98 true).run Tryz.prog w = .ok (.tuple #[(.string ByteArray.empty), .bool false]) w := by kernel_rfl
theorem as_in_li (v : Value) (w : World) : (Instr.typeAssert (.iface 51 v) 29 139 true).run Tryz.prog w = .ok (.tuple #[(.slice none 0 0), .bool false]) w := by kernel_rfl
theorem as_tx_un (v : Value) (w : World) : (Instr.typeAssert (.iface 98 v) 29 137 true).run Tryz.prog w = .ok (.tuple #[(.agg #[]), .bool false]) w := by kernel_rfl
theorem as_tx_tu (v : Value) (w : World) : (Instr.typeAssert (.iface 98 v) 29 138 true).run Tryz.prog w = .ok (.tuple #[(.bool false), .bool false]) w := by kernel_rfl
theorem as_tx_in (v : Value) (w : World) : (Instr.typeAssert (.iface 98 v) 29 51 true).run Tryz.prog w = .ok (.tuple #[(.int .i64 0), .bool false]) w := by kernel_rfl
theorem as_tx_tx (v : Value) (w : World) : (Instr.typeAssert (.iface 98 v) 29 98 true).run Tryz.prog w = .ok (.tuple #[v, .bool true]) w := by kernel_rfl
theorem as_tx_li (v : Value) (w : World) : (Instr.typeAssert (.iface 98 v) 29 139 true).run Tryz.prog w = .ok (.tuple #[(.slice none 0 0), .bool false]) w := by kernel_rfl
theorem as_li_un (v : Value) (w : World) : (Instr.typeAssert (.iface 139 v) 29 137 true).run Tryz.prog w = .ok (.tuple #[(.agg #[]), .bool false]) w := by kernel_rfl
theorem as_li_tu (v : Value) (w : World) : (Instr.typeAssert (.iface 139 v) 29 138 true).run Tryz.prog w = .ok (.tuple #[(.bool false), .bool false]) w := by kernel_rfl
theorem as_li_in (v : Value) (w : World) : (Instr.typeAssert (.iface 139 v) 29 51 true).run Tryz.prog w = .ok (.tuple #[(.int .i64 0), .bool false]) w := by kernel_rfl
theorem as_li_tx (v : Value) (w : World) : (Instr.typeAssert (.iface 139 v) 29 98 true).run Tryz.prog w = .ok (.tuple #[(.string ByteArray.empty), .bool false]) w := by kernel_rfl
theorem as_li_li (v : Value) (w : World) : (Instr.typeAssert (.iface 139 v) 29 139 true).run Tryz.prog w = .ok (.tuple #[v, .bool true]) w := by kernel_rfl
theorem to_un (v : Value) (w : World) : (Instr.typeAssert (.iface 137 v) 29 137 false).run Tryz.prog w = .ok v w := by kernel_rfl
theorem to_tu (v : Value) (w : World) : (Instr.typeAssert (.iface 138 v) 29 138 false).run Tryz.prog w = .ok v w := by kernel_rfl
theorem to_in (v : Value) (w : World) : (Instr.typeAssert (.iface 51 v) 29 51 false).run Tryz.prog w = .ok v w := by kernel_rfl
theorem to_tx (v : Value) (w : World) : (Instr.typeAssert (.iface 98 v) 29 98 false).run Tryz.prog w = .ok v w := by kernel_rfl
theorem to_li (v : Value) (w : World) : (Instr.typeAssert (.iface 139 v) 29 139 false).run Tryz.prog w = .ok v w := by kernel_rfl
attribute [local go_sem] as_un_un as_un_tu as_un_in as_un_tx as_un_li as_tu_un as_tu_tu as_tu_in as_tu_tx as_tu_li as_in_un as_in_tu as_in_in as_in_tx as_in_li as_tx_un as_tx_tu as_tx_in as_tx_tx as_tx_li as_li_un as_li_tu as_li_in as_li_tx as_li_li to_un to_tu to_in to_tx to_li
theorem less_cmp : ∀ a b : List UInt8, Op.bytesLess a b = decide (Lib.compareBytes a b = -1)
  | [], [] => by simp [Op.bytesLess, Lib.compareBytes]
  | _ :: _, [] => by simp [Op.bytesLess, Lib.compareBytes]
  | [], _ :: _ => by simp [Op.bytesLess, Lib.compareBytes]
  | a :: x, b :: y => by
    have ih := less_cmp x y
    simp only [Op.bytesLess, Lib.compareBytes]
    by_cases h1 : a < b
    · simp [h1]
    · by_cases h2 : b < a
      · have h3 : ¬ a = b := fun e => by subst e; exact h1 h2
        simp [h1, h2, h3]
      · have h3 : a = b := by
          rw [UInt8.lt_iff_toNat_lt] at h1 h2
          exact UInt8.toNat_inj.1 (by omega)
        subst h3
        simp [h1, ih]
end Go.Proofs.YtecabbifkcnbeaaGreatDoor
/-
  worth.compare and slices.CompareFunc, each by a contract.
-/
namespace Go.Proofs.YtecabbifkcnbeaaGreatDoor
open Go.RowKit
attribute [local go_sem] as_un_un as_un_tu as_un_in as_un_tx as_un_li as_tu_un as_tu_tu as_tu_in as_tu_tx as_tu_li as_in_un as_in_tu as_in_in as_in_tx as_in_li as_tx_un as_tx_tu as_tx_in as_tx_tx as_tx_li as_li_un as_li_tu as_li_in as_li_tx as_li_li to_un to_tu to_in to_tx to_li
theorem T.cmpL_drop (xs ys : List T) (k : Nat) (h1 : k < xs.length) (h2 : k < ys.length) :
    T.cmpL (xs.drop k) (ys.drop k) = if T.cmp xs[k] ys[k] = 0 then T.cmpL (xs.drop (k + 1)) (ys.drop (k + 1)) else T.cmp xs[k] ys[k] := by
  rw [List.drop_eq_getElem_cons h1, List.drop_eq_getElem_cons h2, T.cmpL]
theorem T.cmpL_over (xs ys : List T) (k : Nat) (h1 : k < xs.length) (h2 : ys.length ≤ k) : T.cmpL (xs.drop k) (ys.drop k) = 1 := by
  rw [List.drop_eq_getElem_cons h1, List.drop_eq_nil_of_le h2, T.cmpL]
theorem T.cmpL_under (xs ys : List T) (k : Nat) (h1 : xs.length ≤ k) (h2 : k < ys.length) : T.cmpL (xs.drop k) (ys.drop k) = -1 := by
  rw [List.drop_eq_getElem_cons h2, List.drop_eq_nil_of_le h1, T.cmpL]
theorem T.cmpL_both (xs ys : List T) (k : Nat) (h1 : xs.length ≤ k) (h2 : ys.length ≤ k) : T.cmpL (xs.drop k) (ys.drop k) = 0 := by
  rw [List.drop_eq_nil_of_le h2, List.drop_eq_nil_of_le h1, T.cmpL]
theorem T.cmp_self (a : T) : T.cmp a a = 0 := (T.cmp_three.zero a a).2 rfl
theorem T.cmpL_self (a : List T) : T.cmpL a a = 0 := (T.cmpL_facts a a).2.1.2 rfl
theorem cI_self (a : Int) : Lib.compareInt a a = 0 := (compareInt_three.zero a a).2 rfl
theorem T.byC_self (a : ByteArray) : T.byC a a = 0 := (T.byC_three.zero a a).2 rfl
theorem T.cmp_kind (k k' n n' : Int) (x x' : ByteArray) (ks ks' : List T) (h : Lib.compareInt k k' ≠ 0) : T.cmp (.node k n x ks) (.node k' n' x' ks') = Lib.compareInt k k' := by
  simp only [T.cmp, T.cmp3, if_pos h]
theorem T.cmp_lt {k k' n n' : Int} {x x' : ByteArray} {ks ks' : List T} (h : k < k') : (-1 : Int) = T.cmp (.node k n x ks) (.node k' n' x' ks') := by
  have e : Lib.compareInt k k' = -1 := by unfold Lib.compareInt; rw [if_pos h]
  rw [T.cmp_kind _ _ _ _ _ _ _ _ (by rw [e]; decide), e]
theorem T.cmp_gt {k k' n n' : Int} {x x' : ByteArray} {ks ks' : List T} (h : k' < k) : (1 : Int) = T.cmp (.node k n x ks) (.node k' n' x' ks') := by
  have e : Lib.compareInt k k' = 1 := by unfold Lib.compareInt; rw [if_neg (by omega), if_pos h]
  rw [T.cmp_kind _ _ _ _ _ _ _ _ (by rw [e]; decide), e]
theorem T.cmp_num (k n n' : Int) (x : ByteArray) (ks : List T) : T.cmp (.node k n x ks) (.node k n' x ks) = Lib.compareInt n n' := by
  simp only [T.cmp, T.cmp3, cI_self, T.byC_self, T.cmpL_self]
  split <;> simp_all
theorem T.cmp_text (k n : Int) (x x' : ByteArray) (ks : List T) : T.cmp (.node k n x ks) (.node k n x' ks) = T.byC x x' := by
  simp only [T.cmp, T.cmp3, cI_self, T.cmpL_self]
  split <;> simp_all
theorem T.cmp_list (k n : Int) (x : ByteArray) (ks ks' : List T) : T.cmp (.node k n x ks) (.node k n x ks') = T.cmpL ks ks' := by
  simp only [T.cmp, T.cmp3, cI_self, T.byC_self]
  simp
theorem ret_int' {a b : Int} (h : a = b) : Ending.returned (.int .i64 a) = .returned (.int .i64 b) := by rw [h]
/-- The items of a list in memory. -/
def VRdL (K : Nat → Prop) (w : World) (d : Nat) (a : Option Addr) (ks : List T) : Prop := ks.length * 16 ≤ 140737488351232 ∧
  (ks = [] ∨ ∃ g off, a = some ⟨g, off, none⟩ ∧ K g ∧ ∀ j, (h : j < ks.length) → ∃ u, w.cell? ⟨g, off + j, none⟩ = some u ∧ VRd K w d u ks[j])
theorem VRdL.kid {K : Nat → Prop} {w : World} {d : Nat} {a : Option Addr} {ks : List T} (h : VRdL K w d a ks) {j : Nat} (hj : j < ks.length) :
    ∃ g off τ p, a = some ⟨g, off, none⟩ ∧ K g ∧ w.cell? ⟨g, off + j, none⟩ = some (.iface τ p) ∧ VRd K w d (.iface τ p) ks[j] := by
  rcases h.2 with h0 | ⟨g, off, rfl, hg, hc⟩
  · subst h0; exact absurd hj (Nat.not_lt_zero _)
  · obtain ⟨u, hu, hr⟩ := hc j hj
    obtain ⟨τ, p, rfl⟩ := hr.iface
    exact ⟨g, off, τ, p, rfl, hg, hu, hr⟩
theorem VRdL.keep {K : Nat → Prop} {w w' : World} {d : Nat} {a : Option Addr} {ks : List T} (h : VRdL K w d a ks) (hk : Kp K w w') : VRdL K w' d a ks :=
  ⟨h.1, h.2.imp id fun ⟨g, off, ha, hg, hc⟩ => ⟨g, off, ha, hg, fun j hj => by
      obtain ⟨u, hu, hr⟩ := hc j hj
      exact ⟨u, hk.cell hu hg, VRd.keep hk hr⟩⟩⟩
end Go.Proofs.YtecabbifkcnbeaaGreatDoor
