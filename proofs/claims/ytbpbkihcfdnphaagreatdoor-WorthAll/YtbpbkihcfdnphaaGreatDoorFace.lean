/-
  Assertions on values; rank, number, and the comparisons of numbers and texts, each by a contract.
-/
import Derived.Test.YtbpbkihcfdnphaaGreatDoorWf
import Derived.Laws.OwnMore
namespace Go.Proofs.YtbpbkihcfdnphaaGreatDoor
open Go.RowKit
theorem as_un_un (v : Value) (w : World) : (Instr.typeAssert (.iface 81 v) 32 81 true).run Tryz.prog w = .ok (.tuple #[v, .bool true]) w := by kernel_rfl
theorem as_un_tu (v : Value) (w : World) : (Instr.typeAssert (.iface 81 v) 32 48 true).run Tryz.prog w = .ok (.tuple #[(.bool false), .bool false]) w := by kernel_rfl
theorem as_un_in (v : Value) (w : World) : (Instr.typeAssert (.iface 81 v) 32 37 true).run Tryz.prog w = .ok (.tuple #[(.int .i64 0), .bool false]) w := by kernel_rfl
theorem as_un_tx (v : Value) (w : World) : (Instr.typeAssert (.iface 81 v) 32 79 true).run Tryz.prog w = .ok (.tuple #[(.string ByteArray.empty), .bool false]) w := by kernel_rfl
theorem as_un_li (v : Value) (w : World) : (Instr.typeAssert (.iface 81 v) 32 46 true).run Tryz.prog w = .ok (.tuple #[(.slice none 0 0), .bool false]) w := by kernel_rfl
theorem as_tu_un (v : Value) (w : World) : (Instr.typeAssert (.iface 48 v) 32 81 true).run Tryz.prog w = .ok (.tuple #[(.agg #[]), .bool false]) w := by kernel_rfl
theorem as_tu_tu (v : Value) (w : World) : (Instr.typeAssert (.iface 48 v) 32 48 true).run Tryz.prog w = .ok (.tuple #[v, .bool true]) w := by kernel_rfl
theorem as_tu_in (v : Value) (w : World) : (Instr.typeAssert (.iface 48 v) 32 37 true).run Tryz.prog w = .ok (.tuple #[(.int .i64 0), .bool false]) w := by kernel_rfl
theorem as_tu_tx (v : Value) (w : World) : (Instr.typeAssert (.iface 48 v) 32 79 true).run Tryz.prog w = .ok (.tuple #[(.string ByteArray.empty), .bool false]) w := by kernel_rfl
theorem as_tu_li (v : Value) (w : World) : (Instr.typeAssert (.iface 48 v) 32 46 true).run Tryz.prog w = .ok (.tuple #[(.slice none 0 0), .bool false]) w := by kernel_rfl
theorem as_in_un (v : Value) (w : World) : (Instr.typeAssert (.iface 37 v) 32 81 true).run Tryz.prog w = .ok (.tuple #[(.agg #[]), .bool false]) w := by kernel_rfl
theorem as_in_tu (v : Value) (w : World) : (Instr.typeAssert (.iface 37 v) 32 48 true).run Tryz.prog w = .ok (.tuple #[(.bool false), .bool false]) w := by kernel_rfl
theorem as_in_in (v : Value) (w : World) : (Instr.typeAssert (.iface 37 v) 32 37 true).run Tryz.prog w = .ok (.tuple #[v, .bool true]) w := by kernel_rfl
theorem as_in_tx (v : Value) (w : World) : (Instr.typeAssert (.iface 37 v) 32 79 true).run Tryz.prog w = .ok (.tuple #[(.string ByteArray.empty), .bool false]) w := by kernel_rfl
theorem as_in_li (v : Value) (w : World) : (Instr.typeAssert (.iface 37 v) 32 46 true).run Tryz.prog w = .ok (.tuple #[(.slice none 0 0), .bool false]) w := by kernel_rfl
theorem as_tx_un (v : Value) (w : World) : (Instr.typeAssert (.iface 79 v) 32 81 true).run Tryz.prog w = .ok (.tuple #[(.agg #[]), .bool false]) w := by kernel_rfl
theorem as_tx_tu (v : Value) (w : World) : (Instr.typeAssert (.iface 79 v) 32 48 true).run Tryz.prog w = .ok (.tuple #[(.bool false), .bool false]) w := by kernel_rfl
theorem as_tx_in (v : Value) (w : World) : (Instr.typeAssert (.iface 79 v) 32 37 true).run Tryz.prog w = .ok (.tuple #[(.int .i64 0), .bool false]) w := by kernel_rfl
theorem as_tx_tx (v : Value) (w : World) : (Instr.typeAssert (.iface 79 v) 32 79 true).run Tryz.prog w = .ok (.tuple #[v, .bool true]) w := by kernel_rfl
theorem as_tx_li (v : Value) (w : World) : (Instr.typeAssert (.iface 79 v) 32 46 true).run Tryz.prog w = .ok (.tuple #[(.slice none 0 0), .bool false]) w := by kernel_rfl
theorem as_li_un (v : Value) (w : World) : (Instr.typeAssert (.iface 46 v) 32 81 true).run Tryz.prog w = .ok (.tuple #[(.agg #[]), .bool false]) w := by kernel_rfl
theorem as_li_tu (v : Value) (w : World) : (Instr.typeAssert (.iface 46 v) 32 48 true).run Tryz.prog w = .ok (.tuple #[(.bool false), .bool false]) w := by kernel_rfl
theorem as_li_in (v : Value) (w : World) : (Instr.typeAssert (.iface 46 v) 32 37 true).run Tryz.prog w = .ok (.tuple #[(.int .i64 0), .bool false]) w := by kernel_rfl
theorem as_li_tx (v : Value) (w : World) : (Instr.typeAssert (.iface 46 v) 32 79 true).run Tryz.prog w = .ok (.tuple #[(.string ByteArray.empty), .bool false]) w := by kernel_rfl
theorem as_li_li (v : Value) (w : World) : (Instr.typeAssert (.iface 46 v) 32 46 true).run Tryz.prog w = .ok (.tuple #[v, .bool true]) w := by kernel_rfl
theorem to_un (v : Value) (w : World) : (Instr.typeAssert (.iface 81 v) 32 81 false).run Tryz.prog w = .ok v w := by kernel_rfl
theorem to_tu (v : Value) (w : World) : (Instr.typeAssert (.iface 48 v) 32 48 false).run Tryz.prog w = .ok v w := by kernel_rfl
theorem to_in (v : Value) (w : World) : (Instr.typeAssert (.iface 37 v) 32 37 false).run Tryz.prog w = .ok v w := by kernel_rfl
theorem to_tx (v : Value) (w : World) : (Instr.typeAssert (.iface 79 v) 32 79 false).run Tryz.prog w = .ok v w := by kernel_rfl
theorem to_li (v : Value) (w : World) : (Instr.typeAssert (.iface 46 v) 32 46 false).run Tryz.prog w = .ok v w := by kernel_rfl
attribute [local go_sem] as_un_un as_un_tu as_un_in as_un_tx as_un_li as_tu_un as_tu_tu as_tu_in as_tu_tx as_tu_li as_in_un as_in_tu as_in_in as_in_tx as_in_li as_tx_un as_tx_tu as_tx_in as_tx_tx as_tx_li as_li_un as_li_tu as_li_in as_li_tx as_li_li to_un to_tu to_in to_tx to_li
theorem rank_un (v : Value) (w : World) : Calls Tryz.prog 47 #[.iface 81 v] w fun e w' => e = .returned (.int .i64 0) ∧ w' = w := by
  go_enter Tryz.func47, Tryz.ntmps47
  go_wp2
  go_ret
  exact ⟨rfl, rfl⟩
theorem rank_tu (v : Value) (w : World) : Calls Tryz.prog 47 #[.iface 48 v] w fun e w' => e = .returned (.int .i64 1) ∧ w' = w := by
  go_enter Tryz.func47, Tryz.ntmps47
  go_wp2
  go_ret
  exact ⟨rfl, rfl⟩
theorem rank_in (v : Value) (w : World) : Calls Tryz.prog 47 #[.iface 37 v] w fun e w' => e = .returned (.int .i64 2) ∧ w' = w := by
  go_enter Tryz.func47, Tryz.ntmps47
  go_wp2
  go_ret
  exact ⟨rfl, rfl⟩
theorem rank_tx (v : Value) (w : World) : Calls Tryz.prog 47 #[.iface 79 v] w fun e w' => e = .returned (.int .i64 3) ∧ w' = w := by
  go_enter Tryz.func47, Tryz.ntmps47
  go_wp2
  go_ret
  exact ⟨rfl, rfl⟩
theorem rank_li (v : Value) (w : World) : Calls Tryz.prog 47 #[.iface 46 v] w fun e w' => e = .returned (.int .i64 4) ∧ w' = w := by
  go_enter Tryz.func47, Tryz.ntmps47
  go_wp2
  go_ret
  exact ⟨rfl, rfl⟩
theorem number_any (b : Bool) (w : World) : Calls Tryz.prog 48 #[.bool b] w fun e w' => e = .returned (.int .i64 (if b then 1 else 0)) ∧ w' = w := by
  cases b <;>
  · go_enter Tryz.func48, Tryz.ntmps48
    go_wp2
    go_ret
    exact ⟨rfl, rfl⟩
theorem isNaN_int (x : Int) (w : World) : Calls Tryz.prog 68 #[.int .i64 x] w fun e w' => e = .returned (.bool false) ∧ w' = w := by
  go_enter Tryz.func68, Tryz.ntmps68
  go_wp2
  go_ret
  exact ⟨rfl, rfl⟩
set_option maxHeartbeats 1000000 in
theorem compare_int (x y : Int) (w : World) : Calls Tryz.prog 46 #[.int .i64 x, .int .i64 y] w fun e w' => e = .returned (.int .i64 (Lib.compareInt x y)) ∧ w' = w := by
  unfold Lib.compareInt
  rcases Int.lt_trichotomy x y with h | h | h
  · have h2 : ¬ y < x := by omega
    go_enter Tryz.func46, Tryz.ntmps46
    go_wp2_with (go_at_call 68; refine (isNaN_int _ _).mono ?_; rintro e w' ⟨rfl, rfl⟩)
    go_ret
    exact ⟨by first | rfl | simp, rfl⟩
  · subst h
    go_enter Tryz.func46, Tryz.ntmps46
    go_wp2_with (go_at_call 68; refine (isNaN_int _ _).mono ?_; rintro e w' ⟨rfl, rfl⟩)
    go_ret
    exact ⟨by simp, rfl⟩
  · have h2 : ¬ x < y := by omega
    go_enter Tryz.func46, Tryz.ntmps46
    go_wp2_with (go_at_call 68; refine (isNaN_int _ _).mono ?_; rintro e w' ⟨rfl, rfl⟩)
    go_ret
    exact ⟨by first | rfl | simp | (rw [if_neg h2, if_pos h]; rfl), rfl⟩
theorem isNaN_Int (x : Int) (w : World) : Calls Tryz.prog 69 #[.int .i64 x] w fun e w' => e = .returned (.bool false) ∧ w' = w := by
  go_enter Tryz.func69, Tryz.ntmps69
  go_wp2
  go_ret
  exact ⟨rfl, rfl⟩
set_option maxHeartbeats 1000000 in
theorem compare_Int (x y : Int) (w : World) : Calls Tryz.prog 49 #[.int .i64 x, .int .i64 y] w fun e w' => e = .returned (.int .i64 (Lib.compareInt x y)) ∧ w' = w := by
  unfold Lib.compareInt
  rcases Int.lt_trichotomy x y with h | h | h
  · have h2 : ¬ y < x := by omega
    go_enter Tryz.func49, Tryz.ntmps49
    go_wp2_with (go_at_call 69; refine (isNaN_Int _ _).mono ?_; rintro e w' ⟨rfl, rfl⟩)
    go_ret
    exact ⟨by first | rfl | simp, rfl⟩
  · subst h
    go_enter Tryz.func49, Tryz.ntmps49
    go_wp2_with (go_at_call 69; refine (isNaN_Int _ _).mono ?_; rintro e w' ⟨rfl, rfl⟩)
    go_ret
    exact ⟨by simp, rfl⟩
  · have h2 : ¬ x < y := by omega
    go_enter Tryz.func49, Tryz.ntmps49
    go_wp2_with (go_at_call 69; refine (isNaN_Int _ _).mono ?_; rintro e w' ⟨rfl, rfl⟩)
    go_ret
    exact ⟨by first | rfl | simp | (rw [if_neg h2, if_pos h]; rfl), rfl⟩
theorem isNaN_Text (x : ByteArray) (w : World) : Calls Tryz.prog 70 #[.string x] w fun e w' => e = .returned (.bool false) ∧ w' = w := by
  go_enter Tryz.func70, Tryz.ntmps70
  go_wp2
  go_ret
  exact ⟨rfl, rfl⟩
theorem less_cmp : ∀ a b : List UInt8, Op.bytesLess a b = decide (Lib.compareBytes a b = -1)
  | [], [] => by simp [Op.bytesLess, Lib.compareBytes]
  | _ :: _, [] => by simp [Op.bytesLess, Lib.compareBytes]
  | [], _ :: _ => by simp [Op.bytesLess, Lib.compareBytes]
  | a :: x, b :: y => by
    have ih := less_cmp x y
    simp only [Op.bytesLess, Lib.compareBytes]
    by_cases h1 : a < b
    · simp [h1]
    · by_cases h2 : b < a
      · have h3 : ¬ a = b := fun e => by subst e; exact h1 h2
        simp [h1, h2, h3]
      · have h3 : a = b := by
          rw [UInt8.lt_iff_toNat_lt] at h1 h2
          exact UInt8.toNat_inj.1 (by omega)
        subst h3
        simp [h1, ih]
set_option maxHeartbeats 1000000 in
theorem compare_Text (x y : ByteArray) (w : World) : Calls Tryz.prog 50 #[.string x, .string y] w fun e w' => e = .returned (.int .i64 (T.byC x y)) ∧ w' = w := by
  have hl : Op.bytesLess x.toList y.toList = decide (T.byC x y = -1) := by rw [less_cmp, ByteArray.toList_eq, ByteArray.toList_eq]; rfl
  have h3 := T.byC_three.low x y
  have h4 := T.byC_three.high x y
  have h5 := T.byC_three.zero x y
  by_cases e1 : T.byC x y = -1
  · rw [e1]
    have hl1 : Op.bytesLess x.toList y.toList = true := by rw [hl, e1]; rfl
    clear hl h3 h4 h5 e1
    go_enter Tryz.func50, Tryz.ntmps50
    go_wp2_with (go_at_call 70; refine (isNaN_Text _ _).mono ?_; rintro e w' ⟨rfl, rfl⟩)
    go_ret
    exact ⟨rfl, rfl⟩
  · have hl1 : Op.bytesLess x.toList y.toList = false := by rw [hl]; exact decide_eq_false e1
    by_cases e2 : T.byC x y = 0
    · have e3 := h5.1 e2
      rw [e2]
      clear hl h3 h4 h5 e1 e2
      subst e3
      go_enter Tryz.func50, Tryz.ntmps50
      go_wp2_with (go_at_call 70; refine (isNaN_Text _ _).mono ?_; rintro e w' ⟨rfl, rfl⟩)
      go_ret
      exact ⟨rfl, rfl⟩
    · have e3 : T.byC x y = 1 := by omega
      have e4 : (x.toList == y.toList) = false := by
        rw [beq_eq_false_iff_ne]
        exact fun h => e2 (h5.2 (toList_inj h))
      rw [e3]
      clear hl h3 h4 h5 e1 e2 e3
      go_enter Tryz.func50, Tryz.ntmps50
      go_wp2_with (go_at_call 70; refine (isNaN_Text _ _).mono ?_; rintro e w' ⟨rfl, rfl⟩)
      go_ret
      exact ⟨rfl, rfl⟩
end Go.Proofs.YtbpbkihcfdnphaaGreatDoor
/-
  worth.compare and slices.CompareFunc, each by a contract.
-/
namespace Go.Proofs.YtbpbkihcfdnphaaGreatDoor
open Go.RowKit
attribute [local go_sem] as_un_un as_un_tu as_un_in as_un_tx as_un_li as_tu_un as_tu_tu as_tu_in as_tu_tx as_tu_li as_in_un as_in_tu as_in_in as_in_tx as_in_li as_tx_un as_tx_tu as_tx_in as_tx_tx as_tx_li as_li_un as_li_tu as_li_in as_li_tx as_li_li to_un to_tu to_in to_tx to_li
theorem T.cmpL_drop (xs ys : List T) (k : Nat) (h1 : k < xs.length) (h2 : k < ys.length) :
    T.cmpL (xs.drop k) (ys.drop k) = if T.cmp xs[k] ys[k] = 0 then T.cmpL (xs.drop (k + 1)) (ys.drop (k + 1)) else T.cmp xs[k] ys[k] := by
  rw [List.drop_eq_getElem_cons h1, List.drop_eq_getElem_cons h2, T.cmpL]
theorem T.cmpL_over (xs ys : List T) (k : Nat) (h1 : k < xs.length) (h2 : ys.length ≤ k) : T.cmpL (xs.drop k) (ys.drop k) = 1 := by
  rw [List.drop_eq_getElem_cons h1, List.drop_eq_nil_of_le h2, T.cmpL]
theorem T.cmpL_under (xs ys : List T) (k : Nat) (h1 : xs.length ≤ k) (h2 : k < ys.length) : T.cmpL (xs.drop k) (ys.drop k) = -1 := by
  rw [List.drop_eq_getElem_cons h2, List.drop_eq_nil_of_le h1, T.cmpL]
theorem T.cmpL_both (xs ys : List T) (k : Nat) (h1 : xs.length ≤ k) (h2 : ys.length ≤ k) : T.cmpL (xs.drop k) (ys.drop k) = 0 := by
  rw [List.drop_eq_nil_of_le h2, List.drop_eq_nil_of_le h1, T.cmpL]
theorem T.cmp_self (a : T) : T.cmp a a = 0 := (T.cmp_three.zero a a).2 rfl
theorem T.cmpL_self (a : List T) : T.cmpL a a = 0 := (T.cmpL_facts a a).2.1.2 rfl
theorem cI_self (a : Int) : Lib.compareInt a a = 0 := (compareInt_three.zero a a).2 rfl
theorem T.byC_self (a : ByteArray) : T.byC a a = 0 := (T.byC_three.zero a a).2 rfl
theorem T.cmp_kind (k k' n n' : Int) (x x' : ByteArray) (ks ks' : List T) (h : Lib.compareInt k k' ≠ 0) : T.cmp (.node k n x ks) (.node k' n' x' ks') = Lib.compareInt k k' := by
  simp only [T.cmp, T.cmp3, if_pos h]
theorem T.cmp_lt {k k' n n' : Int} {x x' : ByteArray} {ks ks' : List T} (h : k < k') : (-1 : Int) = T.cmp (.node k n x ks) (.node k' n' x' ks') := by
  have e : Lib.compareInt k k' = -1 := by unfold Lib.compareInt; rw [if_pos h]
  rw [T.cmp_kind _ _ _ _ _ _ _ _ (by rw [e]; decide), e]
theorem T.cmp_gt {k k' n n' : Int} {x x' : ByteArray} {ks ks' : List T} (h : k' < k) : (1 : Int) = T.cmp (.node k n x ks) (.node k' n' x' ks') := by
  have e : Lib.compareInt k k' = 1 := by unfold Lib.compareInt; rw [if_neg (by omega), if_pos h]
  rw [T.cmp_kind _ _ _ _ _ _ _ _ (by rw [e]; decide), e]
theorem T.cmp_num (k n n' : Int) (x : ByteArray) (ks : List T) : T.cmp (.node k n x ks) (.node k n' x ks) = Lib.compareInt n n' := by
  simp only [T.cmp, T.cmp3, cI_self, T.byC_self, T.cmpL_self]
  split <;> simp_all
theorem T.cmp_text (k n : Int) (x x' : ByteArray) (ks : List T) : T.cmp (.node k n x ks) (.node k n x' ks) = T.byC x x' := by
  simp only [T.cmp, T.cmp3, cI_self, T.cmpL_self]
  split <;> simp_all
theorem T.cmp_list (k n : Int) (x : ByteArray) (ks ks' : List T) : T.cmp (.node k n x ks) (.node k n x ks') = T.cmpL ks ks' := by
  simp only [T.cmp, T.cmp3, cI_self, T.byC_self]
  simp
theorem ret_int' {a b : Int} (h : a = b) : Ending.returned (.int .i64 a) = .returned (.int .i64 b) := by rw [h]
/-- The items of a list in memory. -/
def VRdL (K : Nat → Prop) (w : World) (d : Nat) (a : Option Addr) (ks : List T) : Prop := ks.length * 16 ≤ 140737488351232 ∧
  (ks = [] ∨ ∃ g off, a = some ⟨g, off, none⟩ ∧ K g ∧ ∀ j, (h : j < ks.length) → ∃ u, w.cell? ⟨g, off + j, none⟩ = some u ∧ VRd K w d u ks[j])
theorem VRdL.kid {K : Nat → Prop} {w : World} {d : Nat} {a : Option Addr} {ks : List T} (h : VRdL K w d a ks) {j : Nat} (hj : j < ks.length) :
    ∃ g off τ p, a = some ⟨g, off, none⟩ ∧ K g ∧ w.cell? ⟨g, off + j, none⟩ = some (.iface τ p) ∧ VRd K w d (.iface τ p) ks[j] := by
  rcases h.2 with h0 | ⟨g, off, rfl, hg, hc⟩
  · subst h0; exact absurd hj (Nat.not_lt_zero _)
  · obtain ⟨u, hu, hr⟩ := hc j hj
    obtain ⟨τ, p, rfl⟩ := hr.iface
    exact ⟨g, off, τ, p, rfl, hg, hu, hr⟩
theorem VRdL.keep {K : Nat → Prop} {w w' : World} {d : Nat} {a : Option Addr} {ks : List T} (h : VRdL K w d a ks) (hk : Kp K w w') : VRdL K w' d a ks :=
  ⟨h.1, h.2.imp id fun ⟨g, off, ha, hg, hc⟩ => ⟨g, off, ha, hg, fun j hj => by
      obtain ⟨u, hu, hr⟩ := hc j hj
      exact ⟨u, hk.cell hu hg, VRd.keep hk hr⟩⟩⟩
/-- What is asked of compare, to a depth. -/
def CmpTo (d : Nat) : Prop := ∀ (v v' : Value) (t t' : T) (K K' : Nat → Prop) (w : World) (d' : Nat), VRd K w d v t → VRd K' w d' v' t' →
  Calls Tryz.prog 31 #[v, v'] w fun e w' => e = .returned (.int .i64 (T.cmp t t')) ∧ Ext w w'
set_option maxRecDepth 100000 in
set_option maxHeartbeats 2000000 in
theorem cmpf_of {d : Nat} (ih : CmpTo d) (K K' : Nat → Prop) (w : World) (d' : Nat) (a a' : Option Addr) (c c' : Nat) (ks ks' : List T) (h : VRdL K w d a ks) (h' : VRdL K' w d' a' ks') :
    Calls Tryz.prog 51 #[.slice a ks.length c, .slice a' ks'.length c', .func (.func 31) #[] #[]] w fun e w' => e = .returned (.int .i64 (T.cmpL ks ks')) ∧ Ext w w' := by
  have HIH := hid ih
  have HA := hid h
  have HB := hid h'
  have hl : (ks.length : Int) ≤ 140737488355328 := by have := h.1; omega
  have hl' : (ks'.length : Int) ≤ 140737488355328 := by have := h'.1; omega
  clear ih h h'
  go_enter Tryz.func51, Tryz.ntmps51
  go_wp2_with fail
  go_loopw [13] (fun i wr => ∃ j : Nat, j ≤ ks.length ∧ i = .int .i64 j ∧ Ext w wr ∧ T.cmpL ks ks' = T.cmpL (ks.drop j) (ks'.drop j)) (fun i _ => ks.length - (intOf i).toNat)
  case atStart => exact ⟨0, Nat.zero_le _, rfl, Ext.refl _, rfl⟩
  case round =>
    obtain ⟨j, hj, rfl, hx, hinv⟩ := hrel
    have HX := hid hx
    have HI := hid hinv
    clear hx hinv
    by_cases hlt : j < ks.length
    · have hlt' : (j : Int) < ks.length := by omega
      obtain ⟨g, off, τ, p, rfl, hg, h4, hr⟩ := HA.out.kid hlt
      have m0 := HX.out.kp K |>.cell h4 hg
      have hgl := lt_of_cell m0
      by_cases hly : j < ks'.length
      · have hly' : (j : Int) < ks'.length := by omega
        obtain ⟨g', off', τ', p', rfl, hg', h4', hr'⟩ := HB.out.kid hly
        have o0 := HX.out.kp K' |>.cell h4' hg'
        have hgl' := lt_of_cell o0
        have HC := hid (HIH.out _ _ ks[j] ks'[j] K K' wr d' (hr.later HX.out) (hr'.later HX.out))
        have HL := hid (T.cmpL_drop ks ks' j hlt hly)
        clear h4 h4' hr hr' hg hg'
        go_wp2_with fail
        refine HC.out.mono ?_
        rintro e w2 ⟨rfl, hy⟩
        have HY := hid (HX.out.trans hy)
        clear hy
        generalize hq : T.cmp ks[j] ks'[j] = q at HL ⊢
        clear hq
        by_cases hz : q = 0
        · subst hz
          go_wp2_with fail
          go_roundw
          case rel =>
            have REL : ∃ j' : Nat, j' ≤ ks.length ∧ Value.int .i64 ((j : Int) + 1) = .int .i64 j' ∧ Ext w w2 ∧ T.cmpL ks ks' = T.cmpL (ks.drop j') (ks'.drop j') :=
              ⟨j + 1, hlt, by go_num, HY.out, by rw [HI.out, HL.out]; simp⟩
            first | exact REL | ((repeat apply Exists.intro); exact ⟨REL, rfl⟩)
          case measure => simp [intOf]; omega
        · have hzz : (q != 0) = true := by simpa using hz
          have HZ := hid hz
          clear hz
          go_wp2_with fail
          go_ret
          exact ⟨ret_int' (by rw [HI.out, HL.out, if_neg HZ.out]), HY.out⟩
      · have HL := hid (T.cmpL_over ks ks' j hlt (by omega))
        have hly' : (ks'.length : Int) ≤ j := by omega
        clear h4 hr hg
        go_wp2_with fail
        go_ret
        exact ⟨ret_int' (by rw [HI.out, HL.out]), HX.out⟩
    · have hje : j = ks.length := by omega
      by_cases hly : ks.length < ks'.length
      · have HL := hid (T.cmpL_under ks ks' j (by omega) (by omega))
        have hly' : (ks.length : Int) < ks'.length := by omega
        go_wp2_with fail
        go_ret
        exact ⟨ret_int' (by rw [HI.out, HL.out]), HX.out⟩
      · have HL := hid (T.cmpL_both ks ks' j (by omega) (by omega))
        have hly' : (ks'.length : Int) ≤ ks.length := by omega
        go_wp2_with fail
        go_ret
        exact ⟨ret_int' (by rw [HI.out, HL.out]), HX.out⟩
theorem rank_any {K : Nat → Prop} {w : World} {d : Nat} {v : Value} {k n : Int} {x : ByteArray} {ks : List T} (h : VRd K w d v (.node k n x ks)) :
    Calls Tryz.prog 47 #[v] w fun e w' => e = .returned (.int .i64 (k - 1)) ∧ w' = w := by
  cases d with
  | zero => exact h.elim
  | succ d =>
    rcases h with ⟨rfl, _, _, _, rfl⟩ | ⟨rfl, _, _, _, _, rfl⟩ | ⟨rfl, _, _, rfl⟩ | ⟨rfl, _, _, _, rfl⟩ | ⟨rfl, _, _, _, _, _, rfl, _⟩
    · exact rank_un _ w
    · exact rank_tu _ w
    · exact rank_in _ w
    · exact rank_tx _ w
    · exact rank_li _ w
set_option maxRecDepth 100000 in
set_option maxHeartbeats 4000000 in
theorem cmp_un (w : World) : Calls Tryz.prog 31 #[.iface 81 (.agg #[]), .iface 81 (.agg #[])] w fun e w' => e = .returned (.int .i64 0) ∧ Ext w w' := by
  have hc : Lib.compareInt 0 0 = 0 := rfl
  go_enter Tryz.func31, Tryz.ntmps31
  go_wp2_with (first | (go_at_call 47; refine (rank_un _ _).mono ?_; rintro e w' ⟨rfl, rfl⟩) | (go_at_call 46; refine (compare_int 0 0 _).mono ?_; rintro e w' ⟨rfl, rfl⟩))
  go_ret
  exact ⟨rfl, Ext.refl _⟩
set_option maxRecDepth 100000 in
set_option maxHeartbeats 4000000 in
theorem cmp_tu (B B' : Bool) (n n' : Int) (hn : n = if B then 1 else 0) (hn' : n' = if B' then 1 else 0) (w : World) : Calls Tryz.prog 31 #[.iface 48 (.bool B), .iface 48 (.bool B')] w fun e w' => e = .returned (.int .i64 (Lib.compareInt n n')) ∧ Ext w w' := by
  have N1 := hid (fun w => number_any B w)
  have N2 := hid (fun w => number_any B' w)
  rw [← hn] at N1
  rw [← hn'] at N2
  clear hn hn'
  have hc : Lib.compareInt 1 1 = 0 := rfl
  go_enter Tryz.func31, Tryz.ntmps31
  go_wp2_with (first | (go_at_call 47; refine (rank_tu _ _).mono ?_; rintro e w' ⟨rfl, rfl⟩) | (go_at_call 46; refine (compare_int 1 1 _).mono ?_; rintro e w' ⟨rfl, rfl⟩))
  go_quiet (first | (go_at_call 48; exact Calls.quiet_of_same (N1.out _)) | (go_at_call 48; exact Calls.quiet_of_same (N2.out _)) | (go_at_call 46; exact Calls.quiet_of_same (compare_int _ _ _)))
  go_wp2_with fail
  go_ret
  exact ⟨rfl, (Ext.refl _).drewN _⟩
set_option maxRecDepth 100000 in
set_option maxHeartbeats 4000000 in
theorem cmp_in (n n' : Int) (w : World) : Calls Tryz.prog 31 #[.iface 37 (.int .i64 n), .iface 37 (.int .i64 n')] w fun e w' => e = .returned (.int .i64 (Lib.compareInt n n')) ∧ Ext w w' := by
  have hc : Lib.compareInt 2 2 = 0 := rfl
  go_enter Tryz.func31, Tryz.ntmps31
  go_wp2_with (first | (go_at_call 47; refine (rank_in _ _).mono ?_; rintro e w' ⟨rfl, rfl⟩) | (go_at_call 46; refine (compare_int 2 2 _).mono ?_; rintro e w' ⟨rfl, rfl⟩) | (go_at_call 49; refine (compare_Int _ _ _).mono ?_; rintro e w' ⟨rfl, rfl⟩))
  go_ret
  exact ⟨rfl, Ext.refl _⟩
set_option maxRecDepth 100000 in
set_option maxHeartbeats 4000000 in
theorem cmp_tx (x x' : ByteArray) (w : World) : Calls Tryz.prog 31 #[.iface 79 (.string x), .iface 79 (.string x')] w fun e w' => e = .returned (.int .i64 (T.byC x x')) ∧ Ext w w' := by
  have hc : Lib.compareInt 3 3 = 0 := rfl
  go_enter Tryz.func31, Tryz.ntmps31
  go_wp2_with (first | (go_at_call 47; refine (rank_tx _ _).mono ?_; rintro e w' ⟨rfl, rfl⟩) | (go_at_call 46; refine (compare_int 3 3 _).mono ?_; rintro e w' ⟨rfl, rfl⟩) | (go_at_call 50; refine (compare_Text _ _ _).mono ?_; rintro e w' ⟨rfl, rfl⟩))
  go_ret
  exact ⟨rfl, Ext.refl _⟩
set_option maxRecDepth 100000 in
set_option maxHeartbeats 4000000 in
theorem cmp_li (a a' : Option Addr) (l l' c c' : Nat) (q : Int) (w : World) (HC : Hid (Calls Tryz.prog 51 #[.slice a l c, .slice a' l' c', .func (.func 31) #[] #[]] w fun e w' => e = .returned (.int .i64 q) ∧ Ext w w')) : Calls Tryz.prog 31 #[.iface 46 (.slice a l c), .iface 46 (.slice a' l' c')] w fun e w' => e = .returned (.int .i64 q) ∧ Ext w w' := by
  have hc : Lib.compareInt 4 4 = 0 := rfl
  go_enter Tryz.func31, Tryz.ntmps31
  go_wp2_with (first | (go_at_call 47; refine (rank_li _ _).mono ?_; rintro e w' ⟨rfl, rfl⟩) | (go_at_call 46; refine (compare_int 4 4 _).mono ?_; rintro e w' ⟨rfl, rfl⟩) | (go_at_call 51; refine HC.out.mono ?_; rintro e w2 ⟨rfl, hy⟩))
  go_ret
  exact ⟨rfl, hy⟩
set_option maxRecDepth 100000 in
set_option maxHeartbeats 4000000 in
theorem cmp_mixed (τ τ' : TypeId) (p p' : Value) (i j q : Int) (w : World) (HC1 : Hid (Calls Tryz.prog 47 #[.iface τ p] w fun e w' => e = .returned (.int .i64 i) ∧ w' = w)) (HC2 : Hid (Calls Tryz.prog 47 #[.iface τ' p'] w fun e w' => e = .returned (.int .i64 j) ∧ w' = w))
    (HQ : Hid (Calls Tryz.prog 46 #[.int .i64 i, .int .i64 j] w fun e w' => e = .returned (.int .i64 q) ∧ w' = w)) (hzz : (q != 0) = true) : Calls Tryz.prog 31 #[.iface τ p, .iface τ' p'] w fun e w' => e = .returned (.int .i64 q) ∧ Ext w w' := by
  go_enter Tryz.func31, Tryz.ntmps31
  go_wp2_with fail
  refine HC1.out.mono ?_
  rintro e w' ⟨rfl, rfl⟩
  go_wp2_with fail
  refine HC2.out.mono ?_
  rintro e w' ⟨rfl, rfl⟩
  go_wp2_with fail
  refine HQ.out.mono ?_
  rintro e w' ⟨rfl, rfl⟩
  go_wp2_with fail
  go_ret
  exact ⟨rfl, Ext.refl _⟩
theorem compare_any : ∀ d, CmpTo d := by
  intro d
  induction d with
  | zero => intro v v' t t' K K' w d' h; exact h.elim
  | succ d ih =>
    intro v v' t t' K K' w d' h h'
    obtain ⟨k, n, x, ks⟩ := t
    obtain ⟨k', n', x', ks'⟩ := t'
    cases d' with
    | zero => exact h'.elim
    | succ d' =>
    by_cases hk : k = k'
    · subst hk
      rcases h with ⟨rfl, rfl, rfl, rfl, rfl⟩ | ⟨rfl, rfl, rfl, B, hn, rfl⟩ | ⟨rfl, rfl, rfl, rfl⟩ | ⟨rfl, rfl, rfl, hxs, rfl⟩ | ⟨rfl, rfl, rfl, hll, a, c, rfl, hks⟩
      · rcases h' with ⟨_, rfl, rfl, rfl, rfl⟩ | ⟨h0, _⟩ | ⟨h0, _⟩ | ⟨h0, _⟩ | ⟨h0, _⟩
        · rw [T.cmp_self]; exact cmp_un w
        · exact absurd h0 (by decide)
        · exact absurd h0 (by decide)
        · exact absurd h0 (by decide)
        · exact absurd h0 (by decide)
      · rcases h' with ⟨h0, _⟩ | ⟨_, rfl, rfl, B', hn', rfl⟩ | ⟨h0, _⟩ | ⟨h0, _⟩ | ⟨h0, _⟩
        · exact absurd h0 (by decide)
        · rw [T.cmp_num]; exact cmp_tu B B' _ _ hn hn' w
        · exact absurd h0 (by decide)
        · exact absurd h0 (by decide)
        · exact absurd h0 (by decide)
      · rcases h' with ⟨h0, _⟩ | ⟨h0, _⟩ | ⟨_, rfl, rfl, rfl⟩ | ⟨h0, _⟩ | ⟨h0, _⟩
        · exact absurd h0 (by decide)
        · exact absurd h0 (by decide)
        · rw [T.cmp_num]; exact cmp_in _ _ w
        · exact absurd h0 (by decide)
        · exact absurd h0 (by decide)
      · rcases h' with ⟨h0, _⟩ | ⟨h0, _⟩ | ⟨h0, _⟩ | ⟨_, rfl, rfl, hxs', rfl⟩ | ⟨h0, _⟩
        · exact absurd h0 (by decide)
        · exact absurd h0 (by decide)
        · exact absurd h0 (by decide)
        · rw [T.cmp_text]; exact cmp_tx _ _ w
        · exact absurd h0 (by decide)
      · rcases h' with ⟨h0, _⟩ | ⟨h0, _⟩ | ⟨h0, _⟩ | ⟨h0, _⟩ | ⟨_, rfl, rfl, hll', a', c', rfl, hks'⟩
        · exact absurd h0 (by decide)
        · exact absurd h0 (by decide)
        · exact absurd h0 (by decide)
        · exact absurd h0 (by decide)
        · rw [T.cmp_list]; exact cmp_li _ _ _ _ _ _ _ w (hid (cmpf_of ih K K' w d' a a' c c' ks ks' ⟨hll, hks⟩ ⟨hll', hks'⟩))
    · have hq : Lib.compareInt (k - 1) (k' - 1) = Lib.compareInt k k' := by unfold Lib.compareInt; split <;> split <;> (try split) <;> (try split) <;> omega
      have hq2 : ¬ Lib.compareInt k k' = 0 := fun e => hk ((compareInt_three.zero k k').1 e)
      rw [T.cmp_kind k k' n n' x x' ks ks' hq2]
      have HC1 := hid (rank_any h)
      have HC2 := hid (rank_any h')
      obtain ⟨τ, p, rfl⟩ := h.iface
      obtain ⟨τ', p', rfl⟩ := h'.iface
      exact cmp_mixed τ τ' p p' (k - 1) (k' - 1) _ w HC1 HC2 (hid (hq ▸ compare_int (k - 1) (k' - 1) w)) (by simpa using hq2)
end Go.Proofs.YtbpbkihcfdnphaaGreatDoor
/-
  worth.size by a contract.
-/
namespace Go.Proofs.YtbpbkihcfdnphaaGreatDoor
open Go.RowKit
attribute [local go_sem] as_un_tx as_un_li as_tu_tx as_tu_li as_in_tx as_in_li as_tx_tx as_tx_li as_li_tx as_li_li
set_option maxRecDepth 100000 in
set_option maxHeartbeats 2000000 in
theorem size_any : ∀ (d : Nat) (v : Value) (t : T) (K : Nat → Prop) (w : World), VRd K w d v t → t.size ≤ 140737488351232 →
    Calls Tryz.prog 30 #[v] w fun e w' => e = .returned (.int .i64 t.size) ∧ w' = w := by
  intro d
  induction d with
  | zero => intro v t K w h; exact h.elim
  | succ d ih =>
    intro v t K w h hsz
    obtain ⟨k, n, x, ks⟩ := t
    rcases h with ⟨rfl, rfl, rfl, rfl, rfl⟩ | ⟨rfl, rfl, rfl, B, hn, rfl⟩ | ⟨rfl, rfl, rfl, rfl⟩ | ⟨rfl, rfl, rfl, hxs, rfl⟩ | ⟨rfl, rfl, rfl, hll, a, c, rfl, hks⟩
    · clear ih hsz
      go_enter Tryz.func30, Tryz.ntmps30
      go_wp2_with fail
      go_ret
      exact ⟨rfl, rfl⟩
    · clear ih hsz hn
      go_enter Tryz.func30, Tryz.ntmps30
      go_wp2_with fail
      go_ret
      exact ⟨rfl, rfl⟩
    · clear ih hsz
      go_enter Tryz.func30, Tryz.ntmps30
      go_wp2_with fail
      go_ret
      exact ⟨rfl, rfl⟩
    · clear ih hsz
      have hx' : (x.size : Int) ≤ 140737488355328 := by omega
      have HE := hid (show ((T.size (.node 4 0 x []) : Nat) : Int) = 1 + (x.size : Int) by simp only [T.size, T.sizeL]; omega)
      go_enter Tryz.func30, Tryz.ntmps30
      go_wp2_with fail
      go_ret
      exact ⟨ret_int' HE.out.symm, rfl⟩
    · have HA := hid (show VRdL K w d a ks from ⟨hll, hks⟩)
      have HIH := hid ih
      have hl : (ks.length : Int) ≤ 140737488355328 := by omega
      have HE := hid (show T.size (.node 5 0 ⟨#[]⟩ ks) = 1 + T.sizeL ks by simp only [T.size]; show 1 + 0 + T.sizeL ks = _; omega)
      rw [HE.out] at hsz
      have HSZ := hid hsz
      clear ih hks hsz
      go_enter Tryz.func30, Tryz.ntmps30
      go_wp2_with fail
      go_loop [3, 21] (fun s i => ∃ j : Nat, j ≤ ks.length ∧ i = .int .i64 j ∧ s = .int .i64 (1 + T.sizeL (ks.take j) : Nat)) (fun _ i => ks.length - (intOf i).toNat)
      case atStart => exact ⟨0, Nat.zero_le _, rfl, rfl⟩
      case round =>
        obtain ⟨j, hj, rfl, rfl⟩ := hrel
        by_cases hlt : j < ks.length
        · have hlt' : (j : Int) < ks.length := by omega
          obtain ⟨g, off, τ, p, rfl, hg, h4, hr⟩ := HA.out.kid hlt
          have hgl := lt_of_cell h4
          have s1 := T.sizeL_take ks j hlt
          have s2 := T.sizeL_split ks (j + 1)
          have s3 := HSZ.out
          have HC := hid (HIH.out _ ks[j] K w hr (by omega))
          have hb1 : ((1 + T.sizeL (ks.take j) : Nat) : Int) ≤ 140737488355328 := by omega
          have hb2 : (ks[j].size : Int) ≤ 140737488355328 := by omega
          have HS := hid (show 1 + T.sizeL (ks.take (j + 1)) = 1 + T.sizeL (ks.take j) + ks[j].size by omega)
          clear s1 s2 s3 hr hg
          generalize 1 + T.sizeL (ks.take j) = S at *
          generalize ks[j].size = U at *
          go_wp2_with fail
          refine HC.out.mono ?_
          rintro e w2 ⟨rfl, rfl⟩
          go_wp2_with fail
          go_round
          case rel =>
            have REL : ∃ j' : Nat, j' ≤ ks.length ∧ Value.int .i64 ((j : Int) + 1) = .int .i64 j' ∧ Value.int .i64 ((S : Int) + (U : Int)) = .int .i64 (1 + T.sizeL (ks.take j') : Nat) :=
              ⟨j + 1, hlt, by go_num, by rw [HS.out]; go_num⟩
            first | exact REL | ((repeat apply Exists.intro); exact ⟨REL, rfl⟩)
          case measure => simp [intOf]; omega
        · have hje : j = ks.length := by omega
          have HT := hid (show ks.take j = ks by rw [hje, List.take_length])
          go_wp2_with fail
          go_ret
          exact ⟨ret_int' (by rw [HE.out]; first | omega | (rw [HT.out])), rfl⟩
end Go.Proofs.YtbpbkihcfdnphaaGreatDoor
/-
  (*scale).holds and May, each by a contract.
-/
namespace Go.Proofs.YtbpbkihcfdnphaaGreatDoor
open Go.RowKit
theorem T.wf_leaf {k n : Int} {s l : Nat} (h : T.wfP k n s l) (hk : ¬ k = 5) : l = 0 := by unfold T.wfP at h; omega
theorem T.wf_list {n : Int} {s l : Nat} (h : T.wfP 5 n s l) : n = 0 ∧ s = 0 := by unfold T.wfP at h; omega
set_option maxRecDepth 100000 in
set_option maxHeartbeats 2000000 in
theorem holds_any : ∀ (d : Nat) (v : Value) (t : T) (K : Nat → Prop) (w : World) (b left nest : Nat), Rd K w d v t → ¬ K b → w.heap[b]? = some (.cells #[.int .i64 left] 69) →
    left ≤ 65536 → nest ≤ 64 →
    Calls Tryz.prog 32 #[.pointer (some ⟨b, 0, none⟩), v, .int .i64 nest] w fun e w' => Kp (· ≠ b) w w' ∧
      ((T.ok left nest t ∧ e = .returned (.bool true) ∧ w'.heap[b]? = some (.cells #[.int .i64 (left - t.size : Nat)] 69)) ∨
       (¬ T.ok left nest t ∧ e = .returned (.bool false) ∧ ∃ x, w'.heap[b]? = some (.cells #[.int .i64 x] 69))) := by
  intro d
  induction d with
  | zero => intro v t K w b left nest h; exact h.elim
  | succ d ih =>
    intro v t K w b left nest hr hb hm hL hN
    obtain ⟨k, n, x, ks⟩ := t
    obtain ⟨a, c, rfl, hx, hl, hks⟩ := hr
    have HB := hid hb
    have HKS := hid hks
    have HIH := hid ih
    have HM := hid hm
    clear hb hks ih hm
    have hlt : b < w.heap.size := lt_of_block HM.out
    have hl' : (ks.length : Int) ≤ 140737488355328 := by omega
    have hx' : (x.size : Int) ≤ 140737488355328 := by omega
    by_cases hw : T.wfP k n x.size ks.length
    · have HW := hid hw
      have WC := hid (fun w1 => wellFormed_any k n x a ks.length c w1)
      rw [decide_eq_true hw] at WC
      clear hw
      go_enter Tryz.func32, Tryz.ntmps32
      go_wp2_with fail
      refine (WC.out _).mono ?_
      rintro e w1 ⟨rfl, hx1⟩
      have HX1 := hid ((Ext.alloc w _).trans hx1)
      have HBX := hid (hx1.block (blk0 w _))
      have HB1 := hid (HX1.out.block HM.out)
      clear hx1
      have c0 : w1.cell? ⟨b, 0, none⟩ = some (.int .i64 left) := cell_of HB1.out rfl
      have f0 := frozen_of (i := 0) HB1.out
      have e2 := cell_of (i := 2) HBX.out rfl
      simp only [List.getElem_toArray, List.getElem_cons_zero, List.getElem_cons_succ] at e2
      go_upto_region 3 with fail
      go_cut [] from 12 (fun wx => Kp (· ≠ b) w wx ∧ wx.heap[b]? = some (.cells #[.int .i64 ((left : Int) - (1 + x.size))] 69) ∧ wx.heap[w.heap.size]? = some (.cells #[.int .i64 k, .int .i64 n, .string x, .slice a ks.length c] 27))
      case first =>
        go_region
        all_goals
          go_wp2_with fail
          go_meet
          case rel =>
            refine ⟨Kp.drew ((HX1.out.kp (· ≠ b)).trans (Kp.set _ _ _ _ (fun h => h rfl))), set_at HB1.out 0 _, ?_⟩
            exact set_other HBX.out (by omega) _
      case rest =>
        obtain ⟨hkp, hbm, hbt⟩ := hcut
        have HKP := hid hkp
        have HBM := hid hbm
        have HBT := hid hbt
        clear c0 f0 e2 hkp
        have c0 := cell_of (i := 0) hbm rfl
        have e0 := cell_of (i := 0) hbt rfl
        have e3 := cell_of (i := 3) hbt rfl
        simp only [List.getElem_toArray, List.getElem_cons_zero, List.getElem_cons_succ] at c0 e0 e3
        clear hbm hbt
        by_cases k5 : k = 5
        · subst k5
          obtain ⟨rfl, x0⟩ := T.wf_list HW.out
          have hL1 : (left : Int) - (1 + (x.size : Int)) = (left : Int) - 1 := by omega
          rw [hL1] at c0 HBM
          clear hL1
          have HX0 := hid x0
          clear x0
          by_cases g1 : nest = 0
          · subst g1
            have NOK := hid (show ¬ T.ok left 0 (.node 5 0 x ks) from fun h => by have := h.2.2; simp only [T.deep, if_pos] at this; omega)
            go_wp2_with fail
            go_quiet (fail)
            go_wp2_with fail
            go_ret
            exact ⟨HKP.out.drewN _, .inr ⟨NOK.out, rfl, _, HBM.out⟩⟩
          have q1 : ((nest : Int) == 0) = false := by simpa using g1
          by_cases g2 : left < 1 + ks.length
          · have q2 : decide ((left : Int) - 1 < (ks.length : Int)) = true := decide_eq_true (by omega)
            have NOK := hid (show ¬ T.ok left nest (.node 5 0 x ks) from fun h => by have := h.2.1; have := T.sizeL_len ks; simp only [T.size] at *; omega)
            go_wp2_with fail
            go_quiet (fail)
            go_wp2_with fail
            go_ret
            exact ⟨HKP.out.drewN _, .inr ⟨NOK.out, rfl, _, HBM.out⟩⟩
          have q2 : decide ((left : Int) - 1 < (ks.length : Int)) = false := decide_eq_false (by omega)
          go_wp2_with fail
          go_quiet (fail)
          go_wp2_with fail
          clear c0 e0 e3 q2
          go_loopw [46] (fun i wr => ∃ j : Nat, j ≤ ks.length ∧ i = .int .i64 j ∧ Kp (· ≠ b) w wr ∧ (T.goodL (ks.take j) ∧ 1 + T.sizeL (ks.take j) ≤ left ∧ 1 + T.deepL (ks.take j) ≤ nest) ∧
              wr.heap[b]? = some (.cells #[.int .i64 (left - 1 - T.sizeL (ks.take j) : Nat)] 69)) (fun i _ => ks.length - (intOf i).toNat)
          case atStart => exact ⟨0, Nat.zero_le _, rfl, HKP.out.drewN _, ⟨by simp [T.goodL], by simp [T.sizeL]; omega, by simp [T.deepL]; omega⟩, by rw [show ((left - 1 - T.sizeL (ks.take 0) : Nat) : Int) = (left : Int) - 1 by simp only [List.take_zero, T.sizeL]; omega]; exact HBM.out⟩
          case round =>
            obtain ⟨j, hj, rfl, hkp, hle, hbm⟩ := hrel
            have HK2 := hid hkp
            have HLE := hid hle
            have HB2 := hid hbm
            clear hkp hle hbm
            by_cases hlt2 : j < ks.length
            · have hlt' : (j : Int) < ks.length := by omega
              rcases HKS.out with h0 | ⟨g, off, rfl, hg, hcells⟩
              · rw [h0] at hlt2; exact absurd hlt2 (Nat.not_lt_zero _)
              obtain ⟨u0, u1, u2, u3, h4, hrd⟩ := hcells j hlt2
              obtain ⟨k', n', x', a', c', rfl, rfl, rfl, rfl⟩ := hrd.shape
              have HR := hid hrd
              have HG := hid hg
              clear hrd hcells hg
              generalize hkl : ks[j].kids.length = kl at h4 HR
              have hne : g ≠ b := fun e => HB.out (e ▸ HG.out)
              obtain ⟨m0, m1, m2, m3⟩ := h4.keep HK2.out hne
              clear h4
              have hsub : (nest : Int) - 1 = ((nest - 1 : Nat) : Int) := by omega
              go_wp2_with fail
              have hKK : Kp K w wr := HK2.out.mono (fun k _ hk e => HB.out (e ▸ hk))
              refine (HIH.out _ ks[j] K _ b (left - 1 - T.sizeL (ks.take j)) (nest - 1) (HR.out.keep (hKK.alloc _)) HB.out (blkOld _ HB2.out) (by omega) (by omega)).mono ?_
              rintro e w2 ⟨hk2, hcase⟩
              have HK3 := hid (show Kp (· ≠ b) w w2 from (HK2.out.alloc _).trans hk2)
              have s1 := T.sizeL_take ks j hlt2
              have s2 := T.deepL_take ks j hlt2
              have s3 := T.goodL_take ks j hlt2
              have s4 := T.sizeL_split ks (j + 1)
              have s5 := T.deepL_split ks (j + 1)
              have s6 := T.goodL_split ks (j + 1)
              have HS := hid (And.intro s1 (And.intro s2 (And.intro s3 (And.intro s4 (And.intro s5 s6)))))
              clear s1 s2 s3 s4 s5 s6 hk2 m0 m1 m2 m3
              rcases hcase with ⟨hok, rfl, hb3⟩ | ⟨hno, rfl, hb3⟩
              · have HOK := hid hok
                have HB3 := hid hb3
                clear hok hb3
                go_wp2_with fail
                go_roundw
                case rel =>
                  obtain ⟨s1, s2, s3, s4, s5, s6⟩ := HS.out
                  obtain ⟨o1, o2, o3⟩ := HOK.out
                  obtain ⟨p1, p2, p3⟩ := HLE.out
                  refine ⟨j + 1, hlt2, by go_num, HK3.out, ⟨s3.2 ⟨p1, o1⟩, by omega, by omega⟩, ?_⟩
                  rw [HB3.out, show left - 1 - T.sizeL (ks.take (j + 1)) = left - 1 - T.sizeL (ks.take j) - ks[j].size by omega]
                case measure => simp [intOf]; omega
              · have HNO := hid hno
                have HB3 := hid hb3
                clear hno hb3
                go_wp2_with fail
                go_ret
                refine ⟨HK3.out, .inr ⟨fun h => HNO.out ?_, rfl, HB3.out⟩⟩
                obtain ⟨s1, s2, s3, s4, s5, s6⟩ := HS.out
                obtain ⟨⟨_, o1⟩, o2, o3⟩ := h
                have o4 := (s3.1 (s6.1 o1).1).2
                simp only [T.size, T.deep, if_pos] at o2 o3
                exact ⟨o4, by omega, by omega⟩
            · have hje : j = ks.length := by omega
              have htk : ks.take j = ks := by rw [hje, List.take_length]
              have HT := hid htk
              clear htk
              go_wp2_with fail
              go_ret
              obtain ⟨p1, p2, p3⟩ := HLE.out
              have hb4 := HB2.out
              rw [HT.out] at p1 p2 p3 hb4
              refine ⟨HK2.out, .inl ⟨⟨⟨HW.out, p1⟩, by simp only [T.size]; have := HX0.out; omega, by simp only [T.deep, if_pos]; omega⟩, rfl, ?_⟩⟩
              rw [hb4]
              simp only [T.size]
              rw [show left - (1 + x.size + T.sizeL ks) = left - 1 - T.sizeL ks by have := HX0.out; omega]
        · have HLF := hid (T.wf_leaf HW.out k5)
          have HK5 := hid k5
          have hgd : T.good (.node k n x ks) := ⟨HW.out, by rw [List.eq_nil_of_length_eq_zero HLF.out]; trivial⟩
          have hsz : T.size (.node k n x ks) = 1 + x.size := by simp only [T.size]; rw [List.eq_nil_of_length_eq_zero HLF.out]; rfl
          have hdp : T.deep (.node k n x ks) = 0 := by simp only [T.deep, if_neg HK5.out]
          have HOK := hid (show T.ok left nest (.node k n x ks) ↔ 1 + x.size ≤ left from ⟨fun h => by have := h.2.1; omega, fun h => ⟨hgd, by omega, by omega⟩⟩)
          have HSZ := hid hsz
          clear hgd hsz hdp
          go_wp2_with fail
          go_ret
          by_cases g1 : 1 + x.size ≤ left
          · refine ⟨HKP.out, .inl ⟨HOK.out.2 g1, ret_bool (decide_eq_true (by omega)), ?_⟩⟩
            rw [HBM.out, HSZ.out, show (left : Int) - (1 + (x.size : Int)) = ((left - (1 + x.size) : Nat) : Int) by omega]
          · exact ⟨HKP.out, .inr ⟨fun h => g1 (HOK.out.1 h), ret_bool (decide_eq_false (by omega)), _, HBM.out⟩⟩
    · have NOK := hid (show ¬ T.ok left nest (.node k n x ks) from fun h => hw h.1.1)
      have WC := hid (fun w1 => wellFormed_any k n x a ks.length c w1)
      rw [decide_eq_false hw] at WC
      clear hw
      go_enter Tryz.func32, Tryz.ntmps32
      go_wp2_with fail
      refine (WC.out _).mono ?_
      rintro e w1 ⟨rfl, hx1⟩
      have HX1 := hid ((Ext.alloc w _).trans hx1)
      have HB1 := hid (HX1.out.block HM.out)
      clear hx1
      go_wp2_with fail
      go_ret
      exact ⟨HX1.out.kp _, .inr ⟨NOK.out, rfl, _, HB1.out⟩⟩
set_option maxRecDepth 100000 in
theorem may_any {K : Nat → Prop} {d : Nat} {v : Value} {t : T} (w : World) (hr : Rd K w d v t) :
    Calls Tryz.prog 15 #[v] w fun e w' => e = .returned (.bool (decide t.may)) ∧ Ext w w' := by
  obtain ⟨u0, u1, u2, u3, rfl⟩ := hr.agg
  obtain ⟨k, n, x, a, c, rfl, rfl, rfl, rfl⟩ := hr.shape
  have HR := hid hr.low
  clear hr
  go_enter Tryz.func15, Tryz.ntmps15
  go_wp2_with fail
  refine (holds_any d _ t (· < w.heap.size) _ (w.heap.size + 1) 65536 64 (HR.out.later (Ext.alloc2 _ _ _)) (by omega) (blk1 _ _ _) (by omega) (by omega)).mono ?_
  rintro e w2 ⟨hk, hcase⟩
  have HX := hid (hk.extOf (Ext.alloc2 w _ _) (Nat.le_succ _))
  clear hk
  rcases hcase with ⟨hok, rfl, _⟩ | ⟨hno, rfl, _⟩
  · have HS := hid (show t.may from hok)
    clear hok
    go_wp2_with fail
    go_ret
    exact ⟨ret_bool (decide_eq_true HS.out).symm, HX.out⟩
  · have HS := hid (show ¬ t.may from hno)
    clear hno
    go_wp2_with fail
    go_ret
    exact ⟨ret_bool (decide_eq_false HS.out).symm, HX.out⟩
end Go.Proofs.YtbpbkihcfdnphaaGreatDoor
/-
  worth.value by a contract: a value in memory of its own.
-/
namespace Go.Proofs.YtbpbkihcfdnphaaGreatDoor
open Go.RowKit
theorem valueInfo : (Tryz.prog.info? 32).map (fun i => (i.zero, i.size, i.bytes)) = some (some .nilIface, 1, 16) := by kernel_rfl
theorem set_get {cs : Array Value} {i : Nat} (v : Value) (h : i < cs.size) : (cs.setIfInBounds i v)[i]? = some v := by simp [h]
theorem set_get_other {cs : Array Value} {i j : Nat} (v : Value) (h : j ≠ i) : (cs.setIfInBounds i v)[j]? = cs[j]? := by rw [Array.getElem?_setIfInBounds, if_neg (fun e => h e.symm)]
/-- What value answers. -/
def ValR (w : World) (d : Nat) (t : T) (e : Ending) (w' : World) : Prop := ∃ u bs, e = .returned u ∧ Ext w w' ∧ VOwn w' d u t bs ∧ (∀ b ∈ bs, w.heap.size ≤ b) ∧ bs.Nodup
set_option maxRecDepth 100000 in
set_option maxHeartbeats 2000000 in
theorem value_any : ∀ (d : Nat) (v : Value) (t : T) (K : Nat → Prop) (w : World), Rd K w d v t → t.good →
    Calls Tryz.prog 27 #[v] w (ValR w d t) := by
  intro d
  induction d with
  | zero => intro v t K w h; exact h.elim
  | succ d ih =>
    intro v t K w hr hg
    obtain ⟨k, n, x, ks⟩ := t
    obtain ⟨a, c, rfl, hx, hl, hks⟩ := hr
    obtain ⟨hw, hgs⟩ := hg
    rcases hw with ⟨rfl, rfl, x0, l0⟩ | ⟨rfl, hn, x0, l0⟩ | ⟨rfl, x0, l0⟩ | ⟨rfl, rfl, l0⟩ | ⟨rfl, rfl, x0⟩
    · obtain rfl := empty_of x0
      obtain rfl := List.eq_nil_of_length_eq_zero l0
      clear ih hks hgs x0 l0
      go_enter Tryz.func27, Tryz.ntmps27
      go_wp2_with fail
      go_ret
      exact ⟨_, [], rfl, Ext.alloc _ _, .inl ⟨rfl, rfl, rfl, rfl, rfl, rfl⟩, fun b h => (by cases h), List.nodup_nil⟩
    · obtain rfl := empty_of x0
      obtain rfl := List.eq_nil_of_length_eq_zero l0
      clear ih hks hgs x0 l0
      go_enter Tryz.func27, Tryz.ntmps27
      go_wp2_with fail
      go_ret
      refine ⟨_, [], rfl, Ext.alloc _ _, .inr (.inl ⟨rfl, rfl, rfl, rfl, _, ?_, rfl⟩), fun b h => (by cases h), List.nodup_nil⟩
      rcases hn with rfl | rfl <;> rfl
    · obtain rfl := empty_of x0
      obtain rfl := List.eq_nil_of_length_eq_zero l0
      clear ih hks hgs x0 l0
      go_enter Tryz.func27, Tryz.ntmps27
      go_wp2_with fail
      go_ret
      exact ⟨_, [], rfl, Ext.alloc _ _, .inr (.inr (.inl ⟨rfl, rfl, rfl, rfl, rfl⟩)), fun b h => (by cases h), List.nodup_nil⟩
    · obtain rfl := List.eq_nil_of_length_eq_zero l0
      clear ih hks hgs l0
      go_enter Tryz.func27, Tryz.ntmps27
      go_wp2_with fail
      go_ret
      exact ⟨_, [], rfl, Ext.alloc _ _, .inr (.inr (.inr (.inl ⟨rfl, rfl, rfl, rfl, hx, rfl⟩))), fun b h => (by cases h), List.nodup_nil⟩
    · obtain rfl := empty_of x0
      have HL := hid hl
      have HKS := hid hks
      have HIH := hid ih
      have HGS := hid hgs
      have hl1 : (ks.length : Int) ≤ 140737488355328 := by omega
      have hl2 : ks.length * 16 ≤ 140737488355328 := by omega
      clear hks ih hgs hx x0 hl
      obtain ⟨ti, hi, hz0, hz1, hz2⟩ := info_parts valueInfo
      obtain ⟨cz, hcz, hmk⟩ : ∃ cz : Array Value, cz.size = ks.length ∧ ∀ w, (Instr.makeSlice 46 (.int .i64 (ks.length : Int)) (.int .i64 (ks.length : Int))).run Tryz.prog w = .ok (.slice (some ⟨w.heap.size, 0, none⟩) ks.length ks.length) (w.alloc (.cells cz 32)) := by
        refine ⟨madeCells (Value.nilIface).cells (ks.length * 1), by rw [size_madeCells]; omega, fun w => ?_⟩
        have := run_make (P := Tryz.prog) w 46 32 ti _ Tryz.underlying46 hi hz0 .i64 .i64 ks.length ks.length (by omega) (Int.le_refl _) (by rw [hz2]; omega) (by omega)
        rw [hz1] at this
        simpa using this
      have HCZ := hid hcz
      clear hcz
      go_enter Tryz.func27, Tryz.ntmps27
      go_wp2_with fail
      have HMK := hid hmk
      clear hmk
      go_loopw [33] (fun i wr => ∃ (j : Nat) (cs : Array Value) (bss : List (List Nat)), j ≤ ks.length ∧ i = .int .i64 j ∧ Ext w wr ∧ wr.heap[w.heap.size + 1]? = some (.cells cs 32) ∧ cs.size = ks.length ∧ bss.length = j ∧
          (∀ i, (h : i < ks.length) → i < j → ∃ u b, cs[i]? = some u ∧ bss[i]? = some b ∧ VOwn wr d u ks[i] b) ∧
          (∀ b ∈ bss.flatten, w.heap.size + 1 < b ∧ b < wr.heap.size) ∧ bss.flatten.Nodup) (fun i _ => ks.length - (intOf i).toNat)
      case atStart => exact ⟨0, cz, [], Nat.zero_le _, rfl, Ext.alloc2 _ _ _, blk1 _ _ _, HCZ.out, rfl, fun i _ h => absurd h (Nat.not_lt_zero _), fun b h => (by cases h), List.nodup_nil⟩
      case round =>
        obtain ⟨j, cs, bss, hj, rfl, hx, hb3, hcs, hbl, hall, hbb, hnd⟩ := hrel
        have HX := hid hx
        have HB3 := hid hb3
        have HCS := hid hcs
        have HBL := hid hbl
        have HALL := hid hall
        have HBB := hid hbb
        have HND := hid hnd
        clear hx hb3 hcs hbl hall hbb hnd
        by_cases hlt : j < ks.length
        · have hlt' : (j : Int) < ks.length := by omega
          rcases HKS.out with e0 | ⟨g, off, rfl, hg, hcells⟩
          · rw [e0] at hlt; exact absurd hlt (Nat.not_lt_zero _)
          obtain ⟨u0, u1, u2, u3, h4, hrd⟩ := hcells j hlt
          obtain ⟨k', n', x', a', c', rfl, rfl, rfl, rfl⟩ := hrd.shape
          have HR := hid (fun o => hrd.later (HX.out.trans (Ext.alloc wr o)))
          obtain ⟨m0, m1, m2, m3⟩ := h4.keep (HX.out.kp K) hg
          have hgl := lt_of_cell m0
          clear hrd hcells hg h4
          generalize hkl : ks[j].kids.length = kl at m3 HR
          go_wp2_with fail
          refine (HIH.out _ ks[j] K _ (HR.out _) (T.goodL_mem HGS.out (List.getElem_mem hlt))).mono ?_
          rintro e w2 ⟨v', bs, rfl, hy, hown, hge, hnd⟩
          obtain ⟨τ, p, rfl⟩ := hown.rd.iface
          have HY := hid ((Ext.alloc wr _).trans hy)
          have HOWN := hid hown
          have HGE := hid hge
          have HN2 := hid hnd
          have hbg := HY.out.block HB3.out
          have HBG := hid hbg
          have hsz : j < cs.size := by rw [HCS.out]; omega
          have d0 := cell_of (i := j) hbg (Array.getElem?_eq_getElem (by omega))
          have f0 := frozen_of (i := j) hbg
          clear hy hown hge hnd hbg m0 m1 m2 m3 hgl
          go_wp2_with fail
          go_roundw
          case rel =>
            have hk4 := (HY.out.kp (· ≠ w.heap.size + 1)).trans (Kp.set w2 (w.heap.size + 1) j (.iface τ p) (fun h => h rfl))
            have hb4 := set_at HBG.out j (.iface τ p)
            have hk5 : Kp (· ≠ w.heap.size + 1) w2 _ := Kp.set w2 (w.heap.size + 1) j (.iface τ p) (fun h => h rfl)
            have hsz2 : w2.heap.size = (w2.setCell ⟨w.heap.size + 1, j, none⟩ (.iface τ p)).heap.size := by simp
            generalize hW : w2.setCell ⟨w.heap.size + 1, j, none⟩ (.iface τ p) = W at hk4 hb4 hk5 hsz2 ⊢
            have hsW : wr.heap.size ≤ W.heap.size := hk4.size
            have hbsz : w.heap.size + 1 < wr.heap.size := lt_of_block HB3.out
            have hgw : ∀ b ∈ bs, w.heap.size + 1 < b ∧ b < W.heap.size := fun b hb => ⟨by have := HGE.out b hb; simp at this; omega, by rw [← hsz2]; exact HOWN.out.lt b hb⟩
            refine ⟨j + 1, cs.setIfInBounds j (.iface τ p), bss ++ [bs], hlt, by go_num, ?_, hb4, by rw [Array.size_setIfInBounds]; exact HCS.out, by rw [List.length_append, HBL.out]; rfl, fun i h hi => ?_, fun b hb => ?_, ?_⟩
            · exact Kp.extOf HX.out hk4 (by omega)
            · by_cases e : i < j
              · obtain ⟨u, b, c0, hb, ho⟩ := HALL.out i h e
                refine ⟨u, b, by rw [set_get_other _ (by omega)]; exact c0, ?_, ?_⟩
                · rw [List.getElem?_append_left (by rw [HBL.out]; exact e)]; exact hb
                · exact ho.keep (hk4.mono (fun q _ hq e => by have := (HBB.out q (List.mem_flatten.2 ⟨b, List.mem_of_getElem? hb, hq⟩)).1; omega))
              · obtain rfl : i = j := by omega
                refine ⟨_, bs, set_get _ hsz, ?_, HOWN.out.keep (hk5.mono (fun q _ hq e => by have := (hgw q hq).1; omega))⟩
                rw [List.getElem?_append_right (by rw [HBL.out]; exact Nat.le_refl _), HBL.out]
                simp
            · rw [List.flatten_append, List.mem_append] at hb
              rcases hb with hb | hb
              · exact ⟨(HBB.out b hb).1, Nat.lt_of_lt_of_le (HBB.out b hb).2 hsW⟩
              · exact hgw b (by simpa using hb)
            · rw [List.flatten_append, List.nodup_append]
              refine ⟨HND.out, by simpa using HN2.out, fun p hp q hq e => ?_⟩
              have h1 := (HBB.out p hp).2
              have h2 := HGE.out q (by simpa using hq)
              simp at h2
              omega
          case measure => simp [intOf]; omega
        · have hje : j = ks.length := by omega
          go_wp2_with fail
          go_ret
          refine ⟨_, (w.heap.size + 1) :: bss.flatten, rfl, HX.out, .inr (.inr (.inr (.inr ⟨rfl, rfl, rfl, by have := HL.out; omega, w.heap.size + 1, ks.length, cs, bss, rfl, Nat.le_refl _, HB3.out, HCS.out, rfl, by rw [HBL.out, hje], fun i h => HALL.out i h (by omega)⟩))), fun b hb => ?_, ?_⟩
          · rcases List.mem_cons.1 hb with rfl | hb
            · omega
            · have := (HBB.out b hb).1; omega
          · exact List.nodup_cons.2 ⟨fun h => by have := (HBB.out _ h).1; omega, HND.out⟩
end Go.Proofs.YtbpbkihcfdnphaaGreatDoor
/-
  Of, Size, Same, Compare of package worth, each by a contract.
-/
namespace Go.Proofs.YtbpbkihcfdnphaaGreatDoor
open Go.RowKit
theorem four_of {w : World} {b : Nat} {v0 v1 v2 v3 : Value} {t : TypeId} (h : w.heap[b]? = some (.cells #[v0, v1, v2, v3] t)) : Four w b 0 v0 v1 v2 v3 := ⟨cell_of h rfl, cell_of h rfl, cell_of h rfl, cell_of h rfl⟩
theorem may_to {K : Nat → Prop} {d : Nat} {v : Value} {t : T} {w : World} (hr : Rd K w d v t) (b : Bool) (hb : decide t.may = b) (w1 : World) (hx : Ext w w1) : Calls Tryz.prog 15 #[v] w1 fun e w' => e = .returned (.bool b) ∧ Ext w1 w' := by
  have := may_any w1 (hr.later hx)
  rw [hb] at this
  exact this
/-- What Of answers. -/
def OfR (w : World) (d : Nat) (t : T) (e : Ending) (w' : World) : Prop := Ext w w' ∧ ((t.may ∧ ∃ u bs, e = .returned (.tuple #[u, .int .i64 0]) ∧ VOwn w' d u t bs ∧ (∀ b ∈ bs, w.heap.size ≤ b) ∧ bs.Nodup) ∨ (¬ t.may ∧ e = .returned (.tuple #[.nilIface, .int .i64 1])))
set_option maxRecDepth 100000 in
set_option maxHeartbeats 1000000 in
theorem of_any {K : Nat → Prop} {d : Nat} {v : Value} {t : T} (w : World) (hr : Rd K w d v t) : Calls Tryz.prog 6 #[v] w (OfR w d t) := by
  obtain ⟨u0, u1, u2, u3, rfl⟩ := hr.agg
  obtain ⟨k, n, x, a, c, rfl, rfl, rfl, rfl⟩ := hr.shape
  have HR := hid hr
  generalize t.kids.length = l at *
  by_cases hm : t.may
  · have HM := hid (may_to hr true (decide_eq_true hm))
    have HG := hid hm
    clear hr hm
    go_enter Tryz.func6, Tryz.ntmps6
    go_wp2_with fail
    refine (HM.out _ (Ext.alloc _ _)).mono ?_
    rintro e w1 ⟨rfl, hx1⟩
    obtain ⟨p0, p1, p2, p3⟩ := four_of (hx1.block (blk0 w _))
    have HX1 := hid ((Ext.alloc w _).trans hx1)
    clear hx1
    go_wp2_with fail
    refine (value_any d _ t K w1 (HR.out.later HX1.out) HG.out.1).mono ?_
    rintro e w2 ⟨u, bs, rfl, hx2, ho, hge, hnd⟩
    obtain ⟨τ, p, rfl⟩ := ho.rd.iface
    clear p0 p1 p2 p3
    have HO := hid ho
    have HX2 := hid (HX1.out.trans hx2)
    have HGE := hid hge
    clear ho hx2 hge
    go_wp2_with fail
    go_ret2
    exact ⟨HX2.out, .inl ⟨HG.out, _, bs, rfl, HO.out, fun b hb => Nat.le_trans HX1.out.size (HGE.out b hb), hnd⟩⟩
  · have HM := hid (may_to hr false (decide_eq_false hm))
    have HG := hid hm
    clear hr hm
    go_enter Tryz.func6, Tryz.ntmps6
    go_wp2_with fail
    refine (HM.out _ (Ext.alloc _ _)).mono ?_
    rintro e w1 ⟨rfl, hx1⟩
    have HX1 := hid ((Ext.alloc w _).trans hx1)
    clear hx1
    go_wp2_with fail
    go_ret2
    exact ⟨HX1.out, .inr ⟨HG.out, rfl⟩⟩
/-- What Size tells. -/
def sizeN (t : T) : Int := if t.may then t.size else 0
set_option maxRecDepth 100000 in
set_option maxHeartbeats 1000000 in
theorem sizeOf_any {K : Nat → Prop} {d : Nat} {v : Value} {t : T} (w : World) (hr : Rd K w d v t) : Calls Tryz.prog 12 #[v] w fun e w' => e = .returned (.int .i64 (sizeN t)) ∧ Ext w w' := by
  obtain ⟨u0, u1, u2, u3, rfl⟩ := hr.agg
  obtain ⟨k, n, x, a, c, rfl, rfl, rfl, rfl⟩ := hr.shape
  have HR := hid hr
  generalize t.kids.length = l at *
  by_cases hm : t.may
  · have HM := hid (may_to hr true (decide_eq_true hm))
    have HG := hid hm
    clear hr hm
    go_enter Tryz.func12, Tryz.ntmps12
    go_wp2_with fail
    refine (HM.out _ (Ext.alloc _ _)).mono ?_
    rintro e w1 ⟨rfl, hx1⟩
    obtain ⟨p0, p1, p2, p3⟩ := four_of (hx1.block (blk0 w _))
    have HX1 := hid ((Ext.alloc w _).trans hx1)
    clear hx1
    go_wp2_with fail
    refine (value_any d _ t K w1 (HR.out.later HX1.out) HG.out.1).mono ?_
    rintro e w2 ⟨u, bs, rfl, hx2, ho, hge, hnd⟩
    have HO := hid ho
    obtain ⟨τ, p, rfl⟩ := ho.rd.iface
    clear p0 p1 p2 p3
    have HX2 := hid (HX1.out.trans hx2)
    clear ho hx2 hge hnd
    go_wp2_with fail
    refine (size_any d _ t _ w2 HO.out.rd (by have := HG.out.2.1; omega)).mono ?_
    rintro e w3 ⟨rfl, rfl⟩
    go_wp2_with fail
    go_ret
    exact ⟨ret_int' (by rw [sizeN, if_pos HG.out]), HX2.out⟩
  · have HM := hid (may_to hr false (decide_eq_false hm))
    have HG := hid hm
    clear hr hm
    go_enter Tryz.func12, Tryz.ntmps12
    go_wp2_with fail
    refine (HM.out _ (Ext.alloc _ _)).mono ?_
    rintro e w1 ⟨rfl, hx1⟩
    have HX1 := hid ((Ext.alloc w _).trans hx1)
    clear hx1
    go_wp2_with fail
    go_ret
    exact ⟨ret_int' (by rw [sizeN, if_neg HG.out]), HX1.out⟩
def cmpN (t t' : T) : Int := if t.may then (if t'.may then T.cmp t t' else -1) else (if t'.may then 1 else 0)
set_option maxRecDepth 100000 in
set_option maxHeartbeats 4000000 in
theorem compareOf_any {K K' : Nat → Prop} {d d' : Nat} {v v' : Value} {t t' : T} (w : World) (hr : Rd K w d v t) (hr' : Rd K' w d' v' t') : Calls Tryz.prog 13 #[v, v'] w fun e w' => e = .returned (.int .i64 (cmpN t t')) ∧ Ext w w' := by
  obtain ⟨u0, u1, u2, u3, rfl⟩ := hr.agg
  obtain ⟨k, n, x, a, c, rfl, rfl, rfl, rfl⟩ := hr.shape
  obtain ⟨u0, u1, u2, u3, rfl⟩ := hr'.agg
  obtain ⟨k', n', x', a', c', rfl, rfl, rfl, rfl⟩ := hr'.shape
  have HR := hid hr
  have HR' := hid hr'
  generalize t.kids.length = l at *
  generalize t'.kids.length = l' at *
  by_cases hm : t.may
  · by_cases hm' : t'.may
    · have HM := hid (may_to hr true (decide_eq_true hm))
      have HM' := hid (may_to hr' true (decide_eq_true hm'))
      have HG := hid hm
      have HG' := hid hm'
      clear hr hr' hm hm'
      go_enter Tryz.func13, Tryz.ntmps13
      go_wp2_with fail
      obtain ⟨m00, m01, m02, m03⟩ := four_of (Ext.block (Ext.refl ((w.alloc (.cells #[.int .i64 k, .int .i64 n, .string x, .slice a l c] 27)).alloc (.cells #[.int .i64 k', .int .i64 n', .string x', .slice a' l' c'] 27))) (blkOld _ (blk0 w (.cells #[.int .i64 k, .int .i64 n, .string x, .slice a l c] 27)))); obtain ⟨m04, m05, m06, m07⟩ := four_of (Ext.block (Ext.refl ((w.alloc (.cells #[.int .i64 k, .int .i64 n, .string x, .slice a l c] 27)).alloc (.cells #[.int .i64 k', .int .i64 n', .string x', .slice a' l' c'] 27))) (blk1 w (.cells #[.int .i64 k, .int .i64 n, .string x, .slice a l c] 27) (.cells #[.int .i64 k', .int .i64 n', .string x', .slice a' l' c'] 27)))
      go_region_held3 (fun W' => W'.cell? ⟨w.heap.size, 0, none⟩ = some (.int .i64 k) ∧ W'.cell? ⟨w.heap.size, 1, none⟩ = some (.int .i64 n) ∧ W'.cell? ⟨w.heap.size, 2, none⟩ = some (.string x) ∧ W'.cell? ⟨w.heap.size, 3, none⟩ = some (.slice a l c) ∧ W'.cell? ⟨w.heap.size + 1, 0, none⟩ = some (.int .i64 k') ∧ W'.cell? ⟨w.heap.size + 1, 1, none⟩ = some (.int .i64 n') ∧ W'.cell? ⟨w.heap.size + 1, 2, none⟩ = some (.string x') ∧ W'.cell? ⟨w.heap.size + 1, 3, none⟩ = some (.slice a' l' c')) (first | exact ⟨m20, m21, m22, m23, m24, m25, m26, m27⟩ | exact ⟨m10, m11, m12, m13, m14, m15, m16, m17⟩ | exact ⟨m00, m01, m02, m03, m04, m05, m06, m07⟩ | go_keep) (first | (go_at_call 15; (fail_if_success (have g1 := s1)); refine (HM.out _ ((Ext.alloc2 _ _ _).trans (Ext.drew (Ext.refl _)))).mono ?_; rintro r v1 ⟨rfl, hv1⟩; skip; have Y1 : Ext ((w.alloc (.cells #[.int .i64 k, .int .i64 n, .string x, .slice a l c] 27)).alloc (.cells #[.int .i64 k', .int .i64 n', .string x', .slice a' l' c'] 27)) v1 := Ext.trans (Ext.drew (Ext.refl _)) hv1; have s1 : True := trivial; obtain ⟨m10, m11, m12, m13⟩ := four_of (Ext.block Y1 (blkOld _ (blk0 w (.cells #[.int .i64 k, .int .i64 n, .string x, .slice a l c] 27)))); obtain ⟨m14, m15, m16, m17⟩ := four_of (Ext.block Y1 (blk1 w (.cells #[.int .i64 k, .int .i64 n, .string x, .slice a l c] 27) (.cells #[.int .i64 k', .int .i64 n', .string x', .slice a' l' c'] 27)))) | (go_at_call 15; have g1 := s1; (fail_if_success (have g2 := s2)); refine (HM'.out _ ((Ext.alloc2 _ _ _).trans Y1)).mono ?_; rintro r v2 ⟨rfl, hv2⟩; skip; have Y2 : Ext ((w.alloc (.cells #[.int .i64 k, .int .i64 n, .string x, .slice a l c] 27)).alloc (.cells #[.int .i64 k', .int .i64 n', .string x', .slice a' l' c'] 27)) v2 := Ext.trans Y1 hv2; have s2 : True := trivial; obtain ⟨m20, m21, m22, m23⟩ := four_of (Ext.block Y2 (blkOld _ (blk0 w (.cells #[.int .i64 k, .int .i64 n, .string x, .slice a l c] 27)))); obtain ⟨m24, m25, m26, m27⟩ := four_of (Ext.block Y2 (blk1 w (.cells #[.int .i64 k, .int .i64 n, .string x, .slice a l c] 27) (.cells #[.int .i64 k', .int .i64 n', .string x', .slice a' l' c'] 27)))))
      clear m00 m01 m02 m03 m04 m05 m06 m07 m10 m11 m12 m13 m14 m15 m16 m17
      go_wp2_with fail
      clear s1 s2
      go_region_held3 (fun W' => W'.cell? ⟨w.heap.size, 0, none⟩ = some (.int .i64 k) ∧ W'.cell? ⟨w.heap.size, 1, none⟩ = some (.int .i64 n) ∧ W'.cell? ⟨w.heap.size, 2, none⟩ = some (.string x) ∧ W'.cell? ⟨w.heap.size, 3, none⟩ = some (.slice a l c) ∧ W'.cell? ⟨w.heap.size + 1, 0, none⟩ = some (.int .i64 k') ∧ W'.cell? ⟨w.heap.size + 1, 1, none⟩ = some (.int .i64 n') ∧ W'.cell? ⟨w.heap.size + 1, 2, none⟩ = some (.string x') ∧ W'.cell? ⟨w.heap.size + 1, 3, none⟩ = some (.slice a' l' c')) (first | exact ⟨m50, m51, m52, m53, m54, m55, m56, m57⟩ | exact ⟨m40, m41, m42, m43, m44, m45, m46, m47⟩ | exact ⟨m30, m31, m32, m33, m34, m35, m36, m37⟩ | exact ⟨m20, m21, m22, m23, m24, m25, m26, m27⟩ | exact ⟨m00, m01, m02, m03, m04, m05, m06, m07⟩ | go_keep) (first | (go_at_call 27; (fail_if_success (have g3 := s3)); refine (value_any d _ t K _ (HR.out.later ((Ext.alloc2 _ _ _).trans (Ext.drew Y2))) HG.out.1).mono ?_; rintro r v3 ⟨u1, bs1, rfl, hv3, ho1, hge1, hnd1⟩; obtain ⟨τ1, q1, rfl⟩ := ho1.rd.iface; have Y3 : Ext ((w.alloc (.cells #[.int .i64 k, .int .i64 n, .string x, .slice a l c] 27)).alloc (.cells #[.int .i64 k', .int .i64 n', .string x', .slice a' l' c'] 27)) v3 := Ext.trans (Ext.drew Y2) hv3; have s3 : True := trivial; obtain ⟨m30, m31, m32, m33⟩ := four_of (Ext.block Y3 (blkOld _ (blk0 w (.cells #[.int .i64 k, .int .i64 n, .string x, .slice a l c] 27)))); obtain ⟨m34, m35, m36, m37⟩ := four_of (Ext.block Y3 (blk1 w (.cells #[.int .i64 k, .int .i64 n, .string x, .slice a l c] 27) (.cells #[.int .i64 k', .int .i64 n', .string x', .slice a' l' c'] 27)))) | (go_at_call 27; have g3 := s3; (fail_if_success (have g4 := s4)); refine (value_any d' _ t' K' _ (HR'.out.later ((Ext.alloc2 _ _ _).trans Y3)) HG'.out.1).mono ?_; rintro r v4 ⟨u2, bs2, rfl, hv4, ho2, hge2, hnd2⟩; obtain ⟨τ2, q2, rfl⟩ := ho2.rd.iface; have Y4 : Ext ((w.alloc (.cells #[.int .i64 k, .int .i64 n, .string x, .slice a l c] 27)).alloc (.cells #[.int .i64 k', .int .i64 n', .string x', .slice a' l' c'] 27)) v4 := Ext.trans Y3 hv4; have s4 : True := trivial; obtain ⟨m40, m41, m42, m43⟩ := four_of (Ext.block Y4 (blkOld _ (blk0 w (.cells #[.int .i64 k, .int .i64 n, .string x, .slice a l c] 27)))); obtain ⟨m44, m45, m46, m47⟩ := four_of (Ext.block Y4 (blk1 w (.cells #[.int .i64 k, .int .i64 n, .string x, .slice a l c] 27) (.cells #[.int .i64 k', .int .i64 n', .string x', .slice a' l' c'] 27)))) | (go_at_call 31; have g3 := s3; have g4 := s4; (fail_if_success (have g5 := s5)); refine (compare_any d _ _ t t' _ _ _ d' (ho1.rd.later hv4) ho2.rd).mono ?_; rintro r v5 ⟨rfl, hv5⟩; skip; have Y5 : Ext ((w.alloc (.cells #[.int .i64 k, .int .i64 n, .string x, .slice a l c] 27)).alloc (.cells #[.int .i64 k', .int .i64 n', .string x', .slice a' l' c'] 27)) v5 := Ext.trans Y4 hv5; have s5 : True := trivial; obtain ⟨m50, m51, m52, m53⟩ := four_of (Ext.block Y5 (blkOld _ (blk0 w (.cells #[.int .i64 k, .int .i64 n, .string x, .slice a l c] 27)))); obtain ⟨m54, m55, m56, m57⟩ := four_of (Ext.block Y5 (blk1 w (.cells #[.int .i64 k, .int .i64 n, .string x, .slice a l c] 27) (.cells #[.int .i64 k', .int .i64 n', .string x', .slice a' l' c'] 27)))))
      go_wp2_with fail
      go_ret
      exact ⟨ret_int' (by rw [cmpN, if_pos HG.out, if_pos HG'.out]), (Ext.alloc2 w _ _).trans Y5⟩
    · have HM := hid (may_to hr true (decide_eq_true hm))
      have HM' := hid (may_to hr' false (decide_eq_false hm'))
      have HG := hid hm
      have HG' := hid hm'
      clear hr hr' hm hm'
      go_enter Tryz.func13, Tryz.ntmps13
      go_wp2_with fail
      obtain ⟨m00, m01, m02, m03⟩ := four_of (Ext.block (Ext.refl ((w.alloc (.cells #[.int .i64 k, .int .i64 n, .string x, .slice a l c] 27)).alloc (.cells #[.int .i64 k', .int .i64 n', .string x', .slice a' l' c'] 27))) (blkOld _ (blk0 w (.cells #[.int .i64 k, .int .i64 n, .string x, .slice a l c] 27)))); obtain ⟨m04, m05, m06, m07⟩ := four_of (Ext.block (Ext.refl ((w.alloc (.cells #[.int .i64 k, .int .i64 n, .string x, .slice a l c] 27)).alloc (.cells #[.int .i64 k', .int .i64 n', .string x', .slice a' l' c'] 27))) (blk1 w (.cells #[.int .i64 k, .int .i64 n, .string x, .slice a l c] 27) (.cells #[.int .i64 k', .int .i64 n', .string x', .slice a' l' c'] 27)))
      go_region_held3 (fun W' => W'.cell? ⟨w.heap.size, 0, none⟩ = some (.int .i64 k) ∧ W'.cell? ⟨w.heap.size, 1, none⟩ = some (.int .i64 n) ∧ W'.cell? ⟨w.heap.size, 2, none⟩ = some (.string x) ∧ W'.cell? ⟨w.heap.size, 3, none⟩ = some (.slice a l c) ∧ W'.cell? ⟨w.heap.size + 1, 0, none⟩ = some (.int .i64 k') ∧ W'.cell? ⟨w.heap.size + 1, 1, none⟩ = some (.int .i64 n') ∧ W'.cell? ⟨w.heap.size + 1, 2, none⟩ = some (.string x') ∧ W'.cell? ⟨w.heap.size + 1, 3, none⟩ = some (.slice a' l' c')) (first | exact ⟨m20, m21, m22, m23, m24, m25, m26, m27⟩ | exact ⟨m10, m11, m12, m13, m14, m15, m16, m17⟩ | exact ⟨m00, m01, m02, m03, m04, m05, m06, m07⟩ | go_keep) (first | (go_at_call 15; (fail_if_success (have g1 := s1)); refine (HM.out _ ((Ext.alloc2 _ _ _).trans (Ext.drew (Ext.refl _)))).mono ?_; rintro r v1 ⟨rfl, hv1⟩; skip; have Y1 : Ext ((w.alloc (.cells #[.int .i64 k, .int .i64 n, .string x, .slice a l c] 27)).alloc (.cells #[.int .i64 k', .int .i64 n', .string x', .slice a' l' c'] 27)) v1 := Ext.trans (Ext.drew (Ext.refl _)) hv1; have s1 : True := trivial; obtain ⟨m10, m11, m12, m13⟩ := four_of (Ext.block Y1 (blkOld _ (blk0 w (.cells #[.int .i64 k, .int .i64 n, .string x, .slice a l c] 27)))); obtain ⟨m14, m15, m16, m17⟩ := four_of (Ext.block Y1 (blk1 w (.cells #[.int .i64 k, .int .i64 n, .string x, .slice a l c] 27) (.cells #[.int .i64 k', .int .i64 n', .string x', .slice a' l' c'] 27)))) | (go_at_call 15; have g1 := s1; (fail_if_success (have g2 := s2)); refine (HM'.out _ ((Ext.alloc2 _ _ _).trans Y1)).mono ?_; rintro r v2 ⟨rfl, hv2⟩; skip; have Y2 : Ext ((w.alloc (.cells #[.int .i64 k, .int .i64 n, .string x, .slice a l c] 27)).alloc (.cells #[.int .i64 k', .int .i64 n', .string x', .slice a' l' c'] 27)) v2 := Ext.trans Y1 hv2; have s2 : True := trivial; obtain ⟨m20, m21, m22, m23⟩ := four_of (Ext.block Y2 (blkOld _ (blk0 w (.cells #[.int .i64 k, .int .i64 n, .string x, .slice a l c] 27)))); obtain ⟨m24, m25, m26, m27⟩ := four_of (Ext.block Y2 (blk1 w (.cells #[.int .i64 k, .int .i64 n, .string x, .slice a l c] 27) (.cells #[.int .i64 k', .int .i64 n', .string x', .slice a' l' c'] 27)))))
      clear m00 m01 m02 m03 m04 m05 m06 m07 m10 m11 m12 m13 m14 m15 m16 m17
      go_wp2_with fail
      go_ret
      exact ⟨ret_int' (by rw [cmpN, if_pos HG.out, if_neg HG'.out]), (Ext.alloc2 w _ _).trans Y2⟩
  · by_cases hm' : t'.may
    · have HM := hid (may_to hr false (decide_eq_false hm))
      have HM' := hid (may_to hr' true (decide_eq_true hm'))
      have HG := hid hm
      have HG' := hid hm'
      clear hr hr' hm hm'
      go_enter Tryz.func13, Tryz.ntmps13
      go_wp2_with fail
      obtain ⟨m00, m01, m02, m03⟩ := four_of (Ext.block (Ext.refl ((w.alloc (.cells #[.int .i64 k, .int .i64 n, .string x, .slice a l c] 27)).alloc (.cells #[.int .i64 k', .int .i64 n', .string x', .slice a' l' c'] 27))) (blkOld _ (blk0 w (.cells #[.int .i64 k, .int .i64 n, .string x, .slice a l c] 27)))); obtain ⟨m04, m05, m06, m07⟩ := four_of (Ext.block (Ext.refl ((w.alloc (.cells #[.int .i64 k, .int .i64 n, .string x, .slice a l c] 27)).alloc (.cells #[.int .i64 k', .int .i64 n', .string x', .slice a' l' c'] 27))) (blk1 w (.cells #[.int .i64 k, .int .i64 n, .string x, .slice a l c] 27) (.cells #[.int .i64 k', .int .i64 n', .string x', .slice a' l' c'] 27)))
      go_region_held3 (fun W' => W'.cell? ⟨w.heap.size, 0, none⟩ = some (.int .i64 k) ∧ W'.cell? ⟨w.heap.size, 1, none⟩ = some (.int .i64 n) ∧ W'.cell? ⟨w.heap.size, 2, none⟩ = some (.string x) ∧ W'.cell? ⟨w.heap.size, 3, none⟩ = some (.slice a l c) ∧ W'.cell? ⟨w.heap.size + 1, 0, none⟩ = some (.int .i64 k') ∧ W'.cell? ⟨w.heap.size + 1, 1, none⟩ = some (.int .i64 n') ∧ W'.cell? ⟨w.heap.size + 1, 2, none⟩ = some (.string x') ∧ W'.cell? ⟨w.heap.size + 1, 3, none⟩ = some (.slice a' l' c')) (first | exact ⟨m20, m21, m22, m23, m24, m25, m26, m27⟩ | exact ⟨m10, m11, m12, m13, m14, m15, m16, m17⟩ | exact ⟨m00, m01, m02, m03, m04, m05, m06, m07⟩ | go_keep) (first | (go_at_call 15; (fail_if_success (have g1 := s1)); refine (HM.out _ ((Ext.alloc2 _ _ _).trans (Ext.drew (Ext.refl _)))).mono ?_; rintro r v1 ⟨rfl, hv1⟩; skip; have Y1 : Ext ((w.alloc (.cells #[.int .i64 k, .int .i64 n, .string x, .slice a l c] 27)).alloc (.cells #[.int .i64 k', .int .i64 n', .string x', .slice a' l' c'] 27)) v1 := Ext.trans (Ext.drew (Ext.refl _)) hv1; have s1 : True := trivial; obtain ⟨m10, m11, m12, m13⟩ := four_of (Ext.block Y1 (blkOld _ (blk0 w (.cells #[.int .i64 k, .int .i64 n, .string x, .slice a l c] 27)))); obtain ⟨m14, m15, m16, m17⟩ := four_of (Ext.block Y1 (blk1 w (.cells #[.int .i64 k, .int .i64 n, .string x, .slice a l c] 27) (.cells #[.int .i64 k', .int .i64 n', .string x', .slice a' l' c'] 27)))) | (go_at_call 15; have g1 := s1; (fail_if_success (have g2 := s2)); refine (HM'.out _ ((Ext.alloc2 _ _ _).trans Y1)).mono ?_; rintro r v2 ⟨rfl, hv2⟩; skip; have Y2 : Ext ((w.alloc (.cells #[.int .i64 k, .int .i64 n, .string x, .slice a l c] 27)).alloc (.cells #[.int .i64 k', .int .i64 n', .string x', .slice a' l' c'] 27)) v2 := Ext.trans Y1 hv2; have s2 : True := trivial; obtain ⟨m20, m21, m22, m23⟩ := four_of (Ext.block Y2 (blkOld _ (blk0 w (.cells #[.int .i64 k, .int .i64 n, .string x, .slice a l c] 27)))); obtain ⟨m24, m25, m26, m27⟩ := four_of (Ext.block Y2 (blk1 w (.cells #[.int .i64 k, .int .i64 n, .string x, .slice a l c] 27) (.cells #[.int .i64 k', .int .i64 n', .string x', .slice a' l' c'] 27)))))
      clear m00 m01 m02 m03 m04 m05 m06 m07 m10 m11 m12 m13 m14 m15 m16 m17
      go_wp2_with fail
      go_ret
      exact ⟨ret_int' (by rw [cmpN, if_neg HG.out, if_pos HG'.out]), (Ext.alloc2 w _ _).trans Y2⟩
    · have HM := hid (may_to hr false (decide_eq_false hm))
      have HM' := hid (may_to hr' false (decide_eq_false hm'))
      have HG := hid hm
      have HG' := hid hm'
      clear hr hr' hm hm'
      go_enter Tryz.func13, Tryz.ntmps13
      go_wp2_with fail
      obtain ⟨m00, m01, m02, m03⟩ := four_of (Ext.block (Ext.refl ((w.alloc (.cells #[.int .i64 k, .int .i64 n, .string x, .slice a l c] 27)).alloc (.cells #[.int .i64 k', .int .i64 n', .string x', .slice a' l' c'] 27))) (blkOld _ (blk0 w (.cells #[.int .i64 k, .int .i64 n, .string x, .slice a l c] 27)))); obtain ⟨m04, m05, m06, m07⟩ := four_of (Ext.block (Ext.refl ((w.alloc (.cells #[.int .i64 k, .int .i64 n, .string x, .slice a l c] 27)).alloc (.cells #[.int .i64 k', .int .i64 n', .string x', .slice a' l' c'] 27))) (blk1 w (.cells #[.int .i64 k, .int .i64 n, .string x, .slice a l c] 27) (.cells #[.int .i64 k', .int .i64 n', .string x', .slice a' l' c'] 27)))
      go_region_held3 (fun W' => W'.cell? ⟨w.heap.size, 0, none⟩ = some (.int .i64 k) ∧ W'.cell? ⟨w.heap.size, 1, none⟩ = some (.int .i64 n) ∧ W'.cell? ⟨w.heap.size, 2, none⟩ = some (.string x) ∧ W'.cell? ⟨w.heap.size, 3, none⟩ = some (.slice a l c) ∧ W'.cell? ⟨w.heap.size + 1, 0, none⟩ = some (.int .i64 k') ∧ W'.cell? ⟨w.heap.size + 1, 1, none⟩ = some (.int .i64 n') ∧ W'.cell? ⟨w.heap.size + 1, 2, none⟩ = some (.string x') ∧ W'.cell? ⟨w.heap.size + 1, 3, none⟩ = some (.slice a' l' c')) (first | exact ⟨m20, m21, m22, m23, m24, m25, m26, m27⟩ | exact ⟨m10, m11, m12, m13, m14, m15, m16, m17⟩ | exact ⟨m00, m01, m02, m03, m04, m05, m06, m07⟩ | go_keep) (first | (go_at_call 15; (fail_if_success (have g1 := s1)); refine (HM.out _ ((Ext.alloc2 _ _ _).trans (Ext.drew (Ext.refl _)))).mono ?_; rintro r v1 ⟨rfl, hv1⟩; skip; have Y1 : Ext ((w.alloc (.cells #[.int .i64 k, .int .i64 n, .string x, .slice a l c] 27)).alloc (.cells #[.int .i64 k', .int .i64 n', .string x', .slice a' l' c'] 27)) v1 := Ext.trans (Ext.drew (Ext.refl _)) hv1; have s1 : True := trivial; obtain ⟨m10, m11, m12, m13⟩ := four_of (Ext.block Y1 (blkOld _ (blk0 w (.cells #[.int .i64 k, .int .i64 n, .string x, .slice a l c] 27)))); obtain ⟨m14, m15, m16, m17⟩ := four_of (Ext.block Y1 (blk1 w (.cells #[.int .i64 k, .int .i64 n, .string x, .slice a l c] 27) (.cells #[.int .i64 k', .int .i64 n', .string x', .slice a' l' c'] 27)))) | (go_at_call 15; have g1 := s1; (fail_if_success (have g2 := s2)); refine (HM'.out _ ((Ext.alloc2 _ _ _).trans Y1)).mono ?_; rintro r v2 ⟨rfl, hv2⟩; skip; have Y2 : Ext ((w.alloc (.cells #[.int .i64 k, .int .i64 n, .string x, .slice a l c] 27)).alloc (.cells #[.int .i64 k', .int .i64 n', .string x', .slice a' l' c'] 27)) v2 := Ext.trans Y1 hv2; have s2 : True := trivial; obtain ⟨m20, m21, m22, m23⟩ := four_of (Ext.block Y2 (blkOld _ (blk0 w (.cells #[.int .i64 k, .int .i64 n, .string x, .slice a l c] 27)))); obtain ⟨m24, m25, m26, m27⟩ := four_of (Ext.block Y2 (blk1 w (.cells #[.int .i64 k, .int .i64 n, .string x, .slice a l c] 27) (.cells #[.int .i64 k', .int .i64 n', .string x', .slice a' l' c'] 27)))))
      clear m00 m01 m02 m03 m04 m05 m06 m07 m10 m11 m12 m13 m14 m15 m16 m17
      go_wp2_with fail
      go_ret
      exact ⟨ret_int' (by rw [cmpN, if_neg HG.out, if_neg HG'.out]), (Ext.alloc2 w _ _).trans Y2⟩
def sameN (t t' : T) : Bool := decide t.may && decide t'.may && decide (T.cmp t t' = 0)
set_option maxRecDepth 100000 in
set_option maxHeartbeats 4000000 in
theorem sameOf_any {K K' : Nat → Prop} {d d' : Nat} {v v' : Value} {t t' : T} (w : World) (hr : Rd K w d v t) (hr' : Rd K' w d' v' t') : Calls Tryz.prog 14 #[v, v'] w fun e w' => e = .returned (.bool (sameN t t')) ∧ Ext w w' := by
  obtain ⟨u0, u1, u2, u3, rfl⟩ := hr.agg
  obtain ⟨k, n, x, a, c, rfl, rfl, rfl, rfl⟩ := hr.shape
  obtain ⟨u0, u1, u2, u3, rfl⟩ := hr'.agg
  obtain ⟨k', n', x', a', c', rfl, rfl, rfl, rfl⟩ := hr'.shape
  have HR := hid hr
  have HR' := hid hr'
  generalize t.kids.length = l at *
  generalize t'.kids.length = l' at *
  by_cases hm : t.may
  · by_cases hm' : t'.may
    · have HM := hid (may_to hr true (decide_eq_true hm))
      have HM' := hid (may_to hr' true (decide_eq_true hm'))
      have HG := hid hm
      have HG' := hid hm'
      clear hr hr' hm hm'
      go_enter Tryz.func14, Tryz.ntmps14
      go_wp2_with fail
      obtain ⟨m00, m01, m02, m03⟩ := four_of (Ext.block (Ext.refl ((w.alloc (.cells #[.int .i64 k, .int .i64 n, .string x, .slice a l c] 27)).alloc (.cells #[.int .i64 k', .int .i64 n', .string x', .slice a' l' c'] 27))) (blkOld _ (blk0 w (.cells #[.int .i64 k, .int .i64 n, .string x, .slice a l c] 27)))); obtain ⟨m04, m05, m06, m07⟩ := four_of (Ext.block (Ext.refl ((w.alloc (.cells #[.int .i64 k, .int .i64 n, .string x, .slice a l c] 27)).alloc (.cells #[.int .i64 k', .int .i64 n', .string x', .slice a' l' c'] 27))) (blk1 w (.cells #[.int .i64 k, .int .i64 n, .string x, .slice a l c] 27) (.cells #[.int .i64 k', .int .i64 n', .string x', .slice a' l' c'] 27)))
      go_region_held3 (fun W' => W'.cell? ⟨w.heap.size, 0, none⟩ = some (.int .i64 k) ∧ W'.cell? ⟨w.heap.size, 1, none⟩ = some (.int .i64 n) ∧ W'.cell? ⟨w.heap.size, 2, none⟩ = some (.string x) ∧ W'.cell? ⟨w.heap.size, 3, none⟩ = some (.slice a l c) ∧ W'.cell? ⟨w.heap.size + 1, 0, none⟩ = some (.int .i64 k') ∧ W'.cell? ⟨w.heap.size + 1, 1, none⟩ = some (.int .i64 n') ∧ W'.cell? ⟨w.heap.size + 1, 2, none⟩ = some (.string x') ∧ W'.cell? ⟨w.heap.size + 1, 3, none⟩ = some (.slice a' l' c')) (first | exact ⟨m50, m51, m52, m53, m54, m55, m56, m57⟩ | exact ⟨m40, m41, m42, m43, m44, m45, m46, m47⟩ | exact ⟨m30, m31, m32, m33, m34, m35, m36, m37⟩ | exact ⟨m20, m21, m22, m23, m24, m25, m26, m27⟩ | exact ⟨m10, m11, m12, m13, m14, m15, m16, m17⟩ | exact ⟨m00, m01, m02, m03, m04, m05, m06, m07⟩ | go_keep) (first | (go_at_call 15; (fail_if_success (have g1 := s1)); refine (HM.out _ ((Ext.alloc2 _ _ _).trans (Ext.drew (Ext.refl _)))).mono ?_; rintro r v1 ⟨rfl, hv1⟩; skip; have Y1 : Ext ((w.alloc (.cells #[.int .i64 k, .int .i64 n, .string x, .slice a l c] 27)).alloc (.cells #[.int .i64 k', .int .i64 n', .string x', .slice a' l' c'] 27)) v1 := Ext.trans (Ext.drew (Ext.refl _)) hv1; have s1 : True := trivial; obtain ⟨m10, m11, m12, m13⟩ := four_of (Ext.block Y1 (blkOld _ (blk0 w (.cells #[.int .i64 k, .int .i64 n, .string x, .slice a l c] 27)))); obtain ⟨m14, m15, m16, m17⟩ := four_of (Ext.block Y1 (blk1 w (.cells #[.int .i64 k, .int .i64 n, .string x, .slice a l c] 27) (.cells #[.int .i64 k', .int .i64 n', .string x', .slice a' l' c'] 27)))) | (go_at_call 15; have g1 := s1; (fail_if_success (have g2 := s2)); refine (HM'.out _ ((Ext.alloc2 _ _ _).trans Y1)).mono ?_; rintro r v2 ⟨rfl, hv2⟩; skip; have Y2 : Ext ((w.alloc (.cells #[.int .i64 k, .int .i64 n, .string x, .slice a l c] 27)).alloc (.cells #[.int .i64 k', .int .i64 n', .string x', .slice a' l' c'] 27)) v2 := Ext.trans Y1 hv2; have s2 : True := trivial; obtain ⟨m20, m21, m22, m23⟩ := four_of (Ext.block Y2 (blkOld _ (blk0 w (.cells #[.int .i64 k, .int .i64 n, .string x, .slice a l c] 27)))); obtain ⟨m24, m25, m26, m27⟩ := four_of (Ext.block Y2 (blk1 w (.cells #[.int .i64 k, .int .i64 n, .string x, .slice a l c] 27) (.cells #[.int .i64 k', .int .i64 n', .string x', .slice a' l' c'] 27)))) | (go_at_call 27; have g1 := s1; have g2 := s2; (fail_if_success (have g3 := s3)); refine (value_any d _ t K _ (HR.out.later ((Ext.alloc2 _ _ _).trans Y2)) HG.out.1).mono ?_; rintro r v3 ⟨u1, bs1, rfl, hv3, ho1, hge1, hnd1⟩; obtain ⟨τ1, q1, rfl⟩ := ho1.rd.iface; have Y3 : Ext ((w.alloc (.cells #[.int .i64 k, .int .i64 n, .string x, .slice a l c] 27)).alloc (.cells #[.int .i64 k', .int .i64 n', .string x', .slice a' l' c'] 27)) v3 := Ext.trans Y2 hv3; have s3 : True := trivial; obtain ⟨m30, m31, m32, m33⟩ := four_of (Ext.block Y3 (blkOld _ (blk0 w (.cells #[.int .i64 k, .int .i64 n, .string x, .slice a l c] 27)))); obtain ⟨m34, m35, m36, m37⟩ := four_of (Ext.block Y3 (blk1 w (.cells #[.int .i64 k, .int .i64 n, .string x, .slice a l c] 27) (.cells #[.int .i64 k', .int .i64 n', .string x', .slice a' l' c'] 27)))) | (go_at_call 27; have g1 := s1; have g2 := s2; have g3 := s3; (fail_if_success (have g4 := s4)); refine (value_any d' _ t' K' _ (HR'.out.later ((Ext.alloc2 _ _ _).trans Y3)) HG'.out.1).mono ?_; rintro r v4 ⟨u2, bs2, rfl, hv4, ho2, hge2, hnd2⟩; obtain ⟨τ2, q2, rfl⟩ := ho2.rd.iface; have Y4 : Ext ((w.alloc (.cells #[.int .i64 k, .int .i64 n, .string x, .slice a l c] 27)).alloc (.cells #[.int .i64 k', .int .i64 n', .string x', .slice a' l' c'] 27)) v4 := Ext.trans Y3 hv4; have s4 : True := trivial; obtain ⟨m40, m41, m42, m43⟩ := four_of (Ext.block Y4 (blkOld _ (blk0 w (.cells #[.int .i64 k, .int .i64 n, .string x, .slice a l c] 27)))); obtain ⟨m44, m45, m46, m47⟩ := four_of (Ext.block Y4 (blk1 w (.cells #[.int .i64 k, .int .i64 n, .string x, .slice a l c] 27) (.cells #[.int .i64 k', .int .i64 n', .string x', .slice a' l' c'] 27)))) | (go_at_call 31; have g1 := s1; have g2 := s2; have g3 := s3; have g4 := s4; (fail_if_success (have g5 := s5)); refine (compare_any d _ _ t t' _ _ _ d' (ho1.rd.later hv4) ho2.rd).mono ?_; rintro r v5 ⟨rfl, hv5⟩; skip; have Y5 : Ext ((w.alloc (.cells #[.int .i64 k, .int .i64 n, .string x, .slice a l c] 27)).alloc (.cells #[.int .i64 k', .int .i64 n', .string x', .slice a' l' c'] 27)) v5 := Ext.trans Y4 hv5; have s5 : True := trivial; obtain ⟨m50, m51, m52, m53⟩ := four_of (Ext.block Y5 (blkOld _ (blk0 w (.cells #[.int .i64 k, .int .i64 n, .string x, .slice a l c] 27)))); obtain ⟨m54, m55, m56, m57⟩ := four_of (Ext.block Y5 (blk1 w (.cells #[.int .i64 k, .int .i64 n, .string x, .slice a l c] 27) (.cells #[.int .i64 k', .int .i64 n', .string x', .slice a' l' c'] 27)))))
      all_goals
        go_wp2_with fail
        go_ret
        exact ⟨ret_bool (by rw [sameN, decide_eq_true HG.out, decide_eq_true HG'.out]; rfl), (Ext.alloc2 w _ _).trans Y5⟩
    · have HM := hid (may_to hr true (decide_eq_true hm))
      have HM' := hid (may_to hr' false (decide_eq_false hm'))
      have HG := hid hm
      have HG' := hid hm'
      clear hr hr' hm hm'
      go_enter Tryz.func14, Tryz.ntmps14
      go_wp2_with fail
      obtain ⟨m00, m01, m02, m03⟩ := four_of (Ext.block (Ext.refl ((w.alloc (.cells #[.int .i64 k, .int .i64 n, .string x, .slice a l c] 27)).alloc (.cells #[.int .i64 k', .int .i64 n', .string x', .slice a' l' c'] 27))) (blkOld _ (blk0 w (.cells #[.int .i64 k, .int .i64 n, .string x, .slice a l c] 27)))); obtain ⟨m04, m05, m06, m07⟩ := four_of (Ext.block (Ext.refl ((w.alloc (.cells #[.int .i64 k, .int .i64 n, .string x, .slice a l c] 27)).alloc (.cells #[.int .i64 k', .int .i64 n', .string x', .slice a' l' c'] 27))) (blk1 w (.cells #[.int .i64 k, .int .i64 n, .string x, .slice a l c] 27) (.cells #[.int .i64 k', .int .i64 n', .string x', .slice a' l' c'] 27)))
      go_region_with (first | (go_at_call 15; (fail_if_success (have g1 := s1)); refine (HM.out _ ((Ext.alloc2 _ _ _).trans (Ext.drew (Ext.refl _)))).mono ?_; rintro r v1 ⟨rfl, hv1⟩; skip; have Y1 : Ext ((w.alloc (.cells #[.int .i64 k, .int .i64 n, .string x, .slice a l c] 27)).alloc (.cells #[.int .i64 k', .int .i64 n', .string x', .slice a' l' c'] 27)) v1 := Ext.trans (Ext.drew (Ext.refl _)) hv1; have s1 : True := trivial; obtain ⟨m10, m11, m12, m13⟩ := four_of (Ext.block Y1 (blkOld _ (blk0 w (.cells #[.int .i64 k, .int .i64 n, .string x, .slice a l c] 27)))); obtain ⟨m14, m15, m16, m17⟩ := four_of (Ext.block Y1 (blk1 w (.cells #[.int .i64 k, .int .i64 n, .string x, .slice a l c] 27) (.cells #[.int .i64 k', .int .i64 n', .string x', .slice a' l' c'] 27)))) | (go_at_call 15; have g1 := s1; (fail_if_success (have g2 := s2)); refine (HM'.out _ ((Ext.alloc2 _ _ _).trans Y1)).mono ?_; rintro r v2 ⟨rfl, hv2⟩; skip; have Y2 : Ext ((w.alloc (.cells #[.int .i64 k, .int .i64 n, .string x, .slice a l c] 27)).alloc (.cells #[.int .i64 k', .int .i64 n', .string x', .slice a' l' c'] 27)) v2 := Ext.trans Y1 hv2; have s2 : True := trivial; obtain ⟨m20, m21, m22, m23⟩ := four_of (Ext.block Y2 (blkOld _ (blk0 w (.cells #[.int .i64 k, .int .i64 n, .string x, .slice a l c] 27)))); obtain ⟨m24, m25, m26, m27⟩ := four_of (Ext.block Y2 (blk1 w (.cells #[.int .i64 k, .int .i64 n, .string x, .slice a l c] 27) (.cells #[.int .i64 k', .int .i64 n', .string x', .slice a' l' c'] 27)))))
      all_goals
        go_wp2_with fail
        go_ret
        exact ⟨ret_bool (by rw [sameN, decide_eq_false HG'.out]; simp), (Ext.alloc2 w _ _).trans Y2⟩
  · by_cases hm' : t'.may
    · have HM := hid (may_to hr false (decide_eq_false hm))
      have HM' := hid (may_to hr' true (decide_eq_true hm'))
      have HG := hid hm
      have HG' := hid hm'
      clear hr hr' hm hm'
      go_enter Tryz.func14, Tryz.ntmps14
      go_wp2_with fail
      obtain ⟨m00, m01, m02, m03⟩ := four_of (Ext.block (Ext.refl ((w.alloc (.cells #[.int .i64 k, .int .i64 n, .string x, .slice a l c] 27)).alloc (.cells #[.int .i64 k', .int .i64 n', .string x', .slice a' l' c'] 27))) (blkOld _ (blk0 w (.cells #[.int .i64 k, .int .i64 n, .string x, .slice a l c] 27)))); obtain ⟨m04, m05, m06, m07⟩ := four_of (Ext.block (Ext.refl ((w.alloc (.cells #[.int .i64 k, .int .i64 n, .string x, .slice a l c] 27)).alloc (.cells #[.int .i64 k', .int .i64 n', .string x', .slice a' l' c'] 27))) (blk1 w (.cells #[.int .i64 k, .int .i64 n, .string x, .slice a l c] 27) (.cells #[.int .i64 k', .int .i64 n', .string x', .slice a' l' c'] 27)))
      go_region_with (first | (go_at_call 15; (fail_if_success (have g1 := s1)); refine (HM.out _ ((Ext.alloc2 _ _ _).trans (Ext.drew (Ext.refl _)))).mono ?_; rintro r v1 ⟨rfl, hv1⟩; skip; have Y1 : Ext ((w.alloc (.cells #[.int .i64 k, .int .i64 n, .string x, .slice a l c] 27)).alloc (.cells #[.int .i64 k', .int .i64 n', .string x', .slice a' l' c'] 27)) v1 := Ext.trans (Ext.drew (Ext.refl _)) hv1; have s1 : True := trivial; obtain ⟨m10, m11, m12, m13⟩ := four_of (Ext.block Y1 (blkOld _ (blk0 w (.cells #[.int .i64 k, .int .i64 n, .string x, .slice a l c] 27)))); obtain ⟨m14, m15, m16, m17⟩ := four_of (Ext.block Y1 (blk1 w (.cells #[.int .i64 k, .int .i64 n, .string x, .slice a l c] 27) (.cells #[.int .i64 k', .int .i64 n', .string x', .slice a' l' c'] 27)))))
      all_goals
        go_wp2_with fail
        go_ret
        exact ⟨ret_bool (by rw [sameN, decide_eq_false HG.out]; rfl), (Ext.alloc2 w _ _).trans Y1⟩
    · have HM := hid (may_to hr false (decide_eq_false hm))
      have HM' := hid (may_to hr' false (decide_eq_false hm'))
      have HG := hid hm
      have HG' := hid hm'
      clear hr hr' hm hm'
      go_enter Tryz.func14, Tryz.ntmps14
      go_wp2_with fail
      obtain ⟨m00, m01, m02, m03⟩ := four_of (Ext.block (Ext.refl ((w.alloc (.cells #[.int .i64 k, .int .i64 n, .string x, .slice a l c] 27)).alloc (.cells #[.int .i64 k', .int .i64 n', .string x', .slice a' l' c'] 27))) (blkOld _ (blk0 w (.cells #[.int .i64 k, .int .i64 n, .string x, .slice a l c] 27)))); obtain ⟨m04, m05, m06, m07⟩ := four_of (Ext.block (Ext.refl ((w.alloc (.cells #[.int .i64 k, .int .i64 n, .string x, .slice a l c] 27)).alloc (.cells #[.int .i64 k', .int .i64 n', .string x', .slice a' l' c'] 27))) (blk1 w (.cells #[.int .i64 k, .int .i64 n, .string x, .slice a l c] 27) (.cells #[.int .i64 k', .int .i64 n', .string x', .slice a' l' c'] 27)))
      go_region_with (first | (go_at_call 15; (fail_if_success (have g1 := s1)); refine (HM.out _ ((Ext.alloc2 _ _ _).trans (Ext.drew (Ext.refl _)))).mono ?_; rintro r v1 ⟨rfl, hv1⟩; skip; have Y1 : Ext ((w.alloc (.cells #[.int .i64 k, .int .i64 n, .string x, .slice a l c] 27)).alloc (.cells #[.int .i64 k', .int .i64 n', .string x', .slice a' l' c'] 27)) v1 := Ext.trans (Ext.drew (Ext.refl _)) hv1; have s1 : True := trivial; obtain ⟨m10, m11, m12, m13⟩ := four_of (Ext.block Y1 (blkOld _ (blk0 w (.cells #[.int .i64 k, .int .i64 n, .string x, .slice a l c] 27)))); obtain ⟨m14, m15, m16, m17⟩ := four_of (Ext.block Y1 (blk1 w (.cells #[.int .i64 k, .int .i64 n, .string x, .slice a l c] 27) (.cells #[.int .i64 k', .int .i64 n', .string x', .slice a' l' c'] 27)))))
      all_goals
        go_wp2_with fail
        go_ret
        exact ⟨ret_bool (by rw [sameN, decide_eq_false HG.out]; rfl), (Ext.alloc2 w _ _).trans Y1⟩
end Go.Proofs.YtbpbkihcfdnphaaGreatDoor
