/-
  Assertions on values; rank, number, and the comparisons of numbers and texts, each by a contract.
-/
import Derived.Test.YtbpbkihcfdnphaaDoorVal
import Derived.Test.YtbpbkihcfdnphaaDoorWf
namespace Go.Proofs.YtbpbkihcfdnphaaDoor
open Go.RowKit
theorem as_un_un (v : Value) (w : World) : (Instr.typeAssert (.iface 84 v) 30 84 true).run Tryd.prog w = .ok (.tuple #[v, .bool true]) w := by kernel_rfl
theorem as_un_tu (v : Value) (w : World) : (Instr.typeAssert (.iface 84 v) 30 63 true).run Tryd.prog w = .ok (.tuple #[(.bool false), .bool false]) w := by kernel_rfl
theorem as_un_in (v : Value) (w : World) : (Instr.typeAssert (.iface 84 v) 30 58 true).run Tryd.prog w = .ok (.tuple #[(.int .i64 0), .bool false]) w := by kernel_rfl
theorem as_un_tx (v : Value) (w : World) : (Instr.typeAssert (.iface 84 v) 30 79 true).run Tryd.prog w = .ok (.tuple #[(.string ByteArray.empty), .bool false]) w := by kernel_rfl
theorem as_un_li (v : Value) (w : World) : (Instr.typeAssert (.iface 84 v) 30 61 true).run Tryd.prog w = .ok (.tuple #[(.slice none 0 0), .bool false]) w := by kernel_rfl
theorem as_tu_un (v : Value) (w : World) : (Instr.typeAssert (.iface 63 v) 30 84 true).run Tryd.prog w = .ok (.tuple #[(.agg #[]), .bool false]) w := by kernel_rfl
theorem as_tu_tu (v : Value) (w : World) : (Instr.typeAssert (.iface 63 v) 30 63 true).run Tryd.prog w = .ok (.tuple #[v, .bool true]) w := by kernel_rfl
theorem as_tu_in (v : Value) (w : World) : (Instr.typeAssert (.iface 63 v) 30 58 true).run Tryd.prog w = .ok (.tuple #[(.int .i64 0), .bool false]) w := by kernel_rfl
theorem as_tu_tx (v : Value) (w : World) : (Instr.typeAssert (.iface 63 v) 30 79 true).run Tryd.prog w = .ok (.tuple #[(.string ByteArray.empty), .bool false]) w := by kernel_rfl
theorem as_tu_li (v : Value) (w : World) : (Instr.typeAssert (.iface 63 v) 30 61 true).run Tryd.prog w = .ok (.tuple #[(.slice none 0 0), .bool false]) w := by kernel_rfl
theorem as_in_un (v : Value) (w : World) : (Instr.typeAssert (.iface 58 v) 30 84 true).run Tryd.prog w = .ok (.tuple #[(.agg #[]), .bool false]) w := by kernel_rfl
theorem as_in_tu (v : Value) (w : World) : (Instr.typeAssert (.iface 58 v) 30 63 true).run Tryd.prog w = .ok (.tuple #[(.bool false), .bool false]) w := by kernel_rfl
theorem as_in_in (v : Value) (w : World) : (Instr.typeAssert (.iface 58 v) 30 58 true).run Tryd.prog w = .ok (.tuple #[v, .bool true]) w := by kernel_rfl
theorem as_in_tx (v : Value) (w : World) : (Instr.typeAssert (.iface 58 v) 30 79 true).run Tryd.prog w = .ok (.tuple #[(.string ByteArray.empty), .bool false]) w := by kernel_rfl
theorem as_in_li (v : Value) (w : World) : (Instr.typeAssert (.iface 58 v) 30 61 true).run Tryd.prog w = .ok (.tuple #[(.slice none 0 0), .bool false]) w := by kernel_rfl
theorem as_tx_un (v : Value) (w : World) : (Instr.typeAssert (.iface 79 v) 30 84 true).run Tryd.prog w = .ok (.tuple #[(.agg #[]), .bool false]) w := by kernel_rfl
theorem as_tx_tu (v : Value) (w : World) : (Instr.typeAssert (.iface 79 v) 30 63 true).run Tryd.prog w = .ok (.tuple #[(.bool false), .bool false]) w := by kernel_rfl
theorem as_tx_in (v : Value) (w : World) : (Instr.typeAssert (.iface 79 v) 30 58 true).run Tryd.prog w = .ok (.tuple #[(.int .i64 0), .bool false]) w := by kernel_rfl
theorem as_tx_tx (v : Value) (w : World) : (Instr.typeAssert (.iface 79 v) 30 79 true).run Tryd.prog w = .ok (.tuple #[v, .bool true]) w := by kernel_rfl
theorem as_tx_li (v : Value) (w : World) : (Instr.typeAssert (.iface 79 v) 30 61 true).run Tryd.prog w = .ok (.tuple #[(.slice none 0 0), .bool false]) w := by kernel_rfl
theorem as_li_un (v : Value) (w : World) : (Instr.typeAssert (.iface 61 v) 30 84 true).run Tryd.prog w = .ok (.tuple #[(.agg #[]), .bool false]) w := by kernel_rfl
theorem as_li_tu (v : Value) (w : World) : (Instr.typeAssert (.iface 61 v) 30 63 true).run Tryd.prog w = .ok (.tuple #[(.bool false), .bool false]) w := by kernel_rfl
theorem as_li_in (v : Value) (w : World) : (Instr.typeAssert (.iface 61 v) 30 58 true).run Tryd.prog w = .ok (.tuple #[(.int .i64 0), .bool false]) w := by kernel_rfl
theorem as_li_tx (v : Value) (w : World) : (Instr.typeAssert (.iface 61 v) 30 79 true).run Tryd.prog w = .ok (.tuple #[(.string ByteArray.empty), .bool false]) w := by kernel_rfl
theorem as_li_li (v : Value) (w : World) : (Instr.typeAssert (.iface 61 v) 30 61 true).run Tryd.prog w = .ok (.tuple #[v, .bool true]) w := by kernel_rfl
theorem to_un (v : Value) (w : World) : (Instr.typeAssert (.iface 84 v) 30 84 false).run Tryd.prog w = .ok v w := by kernel_rfl
theorem to_tu (v : Value) (w : World) : (Instr.typeAssert (.iface 63 v) 30 63 false).run Tryd.prog w = .ok v w := by kernel_rfl
theorem to_in (v : Value) (w : World) : (Instr.typeAssert (.iface 58 v) 30 58 false).run Tryd.prog w = .ok v w := by kernel_rfl
theorem to_tx (v : Value) (w : World) : (Instr.typeAssert (.iface 79 v) 30 79 false).run Tryd.prog w = .ok v w := by kernel_rfl
theorem to_li (v : Value) (w : World) : (Instr.typeAssert (.iface 61 v) 30 61 false).run Tryd.prog w = .ok v w := by kernel_rfl
attribute [local go_sem] as_un_un as_un_tu as_un_in as_un_tx as_un_li as_tu_un as_tu_tu as_tu_in as_tu_tx as_tu_li as_in_un as_in_tu as_in_in as_in_tx as_in_li as_tx_un as_tx_tu as_tx_in as_tx_tx as_tx_li as_li_un as_li_tu as_li_in as_li_tx as_li_li to_un to_tu to_in to_tx to_li
theorem rank_un (v : Value) (w : World) : Calls Tryd.prog 46 #[.iface 84 v] w fun e w' => e = .returned (.int .i64 0) ∧ w' = w := by
  go_enter Tryd.func46, Tryd.ntmps46
  go_wp2
  go_ret
  exact ⟨rfl, rfl⟩
theorem rank_tu (v : Value) (w : World) : Calls Tryd.prog 46 #[.iface 63 v] w fun e w' => e = .returned (.int .i64 1) ∧ w' = w := by
  go_enter Tryd.func46, Tryd.ntmps46
  go_wp2
  go_ret
  exact ⟨rfl, rfl⟩
theorem rank_in (v : Value) (w : World) : Calls Tryd.prog 46 #[.iface 58 v] w fun e w' => e = .returned (.int .i64 2) ∧ w' = w := by
  go_enter Tryd.func46, Tryd.ntmps46
  go_wp2
  go_ret
  exact ⟨rfl, rfl⟩
theorem rank_tx (v : Value) (w : World) : Calls Tryd.prog 46 #[.iface 79 v] w fun e w' => e = .returned (.int .i64 3) ∧ w' = w := by
  go_enter Tryd.func46, Tryd.ntmps46
  go_wp2
  go_ret
  exact ⟨rfl, rfl⟩
theorem rank_li (v : Value) (w : World) : Calls Tryd.prog 46 #[.iface 61 v] w fun e w' => e = .returned (.int .i64 4) ∧ w' = w := by
  go_enter Tryd.func46, Tryd.ntmps46
  go_wp2
  go_ret
  exact ⟨rfl, rfl⟩
theorem number_any (b : Bool) (w : World) : Calls Tryd.prog 47 #[.bool b] w fun e w' => e = .returned (.int .i64 (if b then 1 else 0)) ∧ w' = w := by
  cases b <;>
  · go_enter Tryd.func47, Tryd.ntmps47
    go_wp2
    go_ret
    exact ⟨rfl, rfl⟩
theorem isNaN_int (x : Int) (w : World) : Calls Tryd.prog 60 #[.int .i64 x] w fun e w' => e = .returned (.bool false) ∧ w' = w := by
  go_enter Tryd.func60, Tryd.ntmps60
  go_wp2
  go_ret
  exact ⟨rfl, rfl⟩
set_option maxHeartbeats 1000000 in
theorem compare_int (x y : Int) (w : World) : Calls Tryd.prog 45 #[.int .i64 x, .int .i64 y] w fun e w' => e = .returned (.int .i64 (Lib.compareInt x y)) ∧ w' = w := by
  unfold Lib.compareInt
  rcases Int.lt_trichotomy x y with h | h | h
  · have h2 : ¬ y < x := by omega
    go_enter Tryd.func45, Tryd.ntmps45
    go_wp2_with (go_at_call 60; refine (isNaN_int _ _).mono ?_; rintro e w' ⟨rfl, rfl⟩)
    go_ret
    exact ⟨by first | rfl | simp, rfl⟩
  · subst h
    go_enter Tryd.func45, Tryd.ntmps45
    go_wp2_with (go_at_call 60; refine (isNaN_int _ _).mono ?_; rintro e w' ⟨rfl, rfl⟩)
    go_ret
    exact ⟨by simp, rfl⟩
  · have h2 : ¬ x < y := by omega
    go_enter Tryd.func45, Tryd.ntmps45
    go_wp2_with (go_at_call 60; refine (isNaN_int _ _).mono ?_; rintro e w' ⟨rfl, rfl⟩)
    go_ret
    exact ⟨by first | rfl | simp | (rw [if_neg h2, if_pos h]; rfl), rfl⟩
theorem isNaN_Int (x : Int) (w : World) : Calls Tryd.prog 61 #[.int .i64 x] w fun e w' => e = .returned (.bool false) ∧ w' = w := by
  go_enter Tryd.func61, Tryd.ntmps61
  go_wp2
  go_ret
  exact ⟨rfl, rfl⟩
set_option maxHeartbeats 1000000 in
theorem compare_Int (x y : Int) (w : World) : Calls Tryd.prog 48 #[.int .i64 x, .int .i64 y] w fun e w' => e = .returned (.int .i64 (Lib.compareInt x y)) ∧ w' = w := by
  unfold Lib.compareInt
  rcases Int.lt_trichotomy x y with h | h | h
  · have h2 : ¬ y < x := by omega
    go_enter Tryd.func48, Tryd.ntmps48
    go_wp2_with (go_at_call 61; refine (isNaN_Int _ _).mono ?_; rintro e w' ⟨rfl, rfl⟩)
    go_ret
    exact ⟨by first | rfl | simp, rfl⟩
  · subst h
    go_enter Tryd.func48, Tryd.ntmps48
    go_wp2_with (go_at_call 61; refine (isNaN_Int _ _).mono ?_; rintro e w' ⟨rfl, rfl⟩)
    go_ret
    exact ⟨by simp, rfl⟩
  · have h2 : ¬ x < y := by omega
    go_enter Tryd.func48, Tryd.ntmps48
    go_wp2_with (go_at_call 61; refine (isNaN_Int _ _).mono ?_; rintro e w' ⟨rfl, rfl⟩)
    go_ret
    exact ⟨by first | rfl | simp | (rw [if_neg h2, if_pos h]; rfl), rfl⟩
theorem isNaN_Text (x : ByteArray) (w : World) : Calls Tryd.prog 62 #[.string x] w fun e w' => e = .returned (.bool false) ∧ w' = w := by
  go_enter Tryd.func62, Tryd.ntmps62
  go_wp2
  go_ret
  exact ⟨rfl, rfl⟩
theorem less_cmp : ∀ a b : List UInt8, Op.bytesLess a b = decide (Lib.compareBytes a b = -1)
  | [], [] => by simp [Op.bytesLess, Lib.compareBytes]
  | _ :: _, [] => by simp [Op.bytesLess, Lib.compareBytes]
  | [], _ :: _ => by simp [Op.bytesLess, Lib.compareBytes]
  | a :: x, b :: y => by
    have ih := less_cmp x y
    simp only [Op.bytesLess, Lib.compareBytes]
    by_cases h1 : a < b
    · simp [h1]
    · by_cases h2 : b < a
      · have h3 : ¬ a = b := fun e => by subst e; exact h1 h2
        simp [h1, h2, h3]
      · have h3 : a = b := by
          rw [UInt8.lt_iff_toNat_lt] at h1 h2
          exact UInt8.toNat_inj.1 (by omega)
        subst h3
        simp [h1, ih]
set_option maxHeartbeats 1000000 in
theorem compare_Text (x y : ByteArray) (w : World) : Calls Tryd.prog 49 #[.string x, .string y] w fun e w' => e = .returned (.int .i64 (T.byC x y)) ∧ w' = w := by
  have hl : Op.bytesLess x.toList y.toList = decide (T.byC x y = -1) := by rw [less_cmp, ByteArray.toList_eq, ByteArray.toList_eq]; rfl
  have h3 := T.byC_three.low x y
  have h4 := T.byC_three.high x y
  have h5 := T.byC_three.zero x y
  by_cases e1 : T.byC x y = -1
  · rw [e1]
    have hl1 : Op.bytesLess x.toList y.toList = true := by rw [hl, e1]; rfl
    clear hl h3 h4 h5 e1
    go_enter Tryd.func49, Tryd.ntmps49
    go_wp2_with (go_at_call 62; refine (isNaN_Text _ _).mono ?_; rintro e w' ⟨rfl, rfl⟩)
    go_ret
    exact ⟨rfl, rfl⟩
  · have hl1 : Op.bytesLess x.toList y.toList = false := by rw [hl]; exact decide_eq_false e1
    by_cases e2 : T.byC x y = 0
    · have e3 := h5.1 e2
      rw [e2]
      clear hl h3 h4 h5 e1 e2
      subst e3
      go_enter Tryd.func49, Tryd.ntmps49
      go_wp2_with (go_at_call 62; refine (isNaN_Text _ _).mono ?_; rintro e w' ⟨rfl, rfl⟩)
      go_ret
      exact ⟨rfl, rfl⟩
    · have e3 : T.byC x y = 1 := by omega
      have e4 : (x.toList == y.toList) = false := by
        rw [beq_eq_false_iff_ne]
        exact fun h => e2 (h5.2 (toList_inj h))
      rw [e3]
      clear hl h3 h4 h5 e1 e2 e3
      go_enter Tryd.func49, Tryd.ntmps49
      go_wp2_with (go_at_call 62; refine (isNaN_Text _ _).mono ?_; rintro e w' ⟨rfl, rfl⟩)
      go_ret
      exact ⟨rfl, rfl⟩
end Go.Proofs.YtbpbkihcfdnphaaDoor
