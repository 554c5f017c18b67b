/-
  Products and powers: what NumProducts needs.
-/
import Derived.Test.YtnokajfhjmahpaaGreatDoorNBeg8
namespace Go.Proofs.YtnokajfhjmahpaaGreatDoor
open Go.RowKit
set_option maxRecDepth 100000 in
theorem lsize_any (a : Int) (w : World) (ha : inR a) : Calls Tryz.prog 19 #[.int .i64 a] w fun e w' => e = .returned (.int .u64 (a.natAbs : Int)) ∧ w' = w := by
  obtain ⟨h1, h2⟩ := ha
  by_cases h : a < 0
  · go_enter Tryz.func19, Tryz.ntmps19
    go_wp2_with fail
    go_ret
    exact ⟨ret_int (negU a h1 h), rfl⟩
  · go_enter Tryz.func19, Tryz.ntmps19
    go_wp2_with fail
    go_ret
    exact ⟨ret_int (by omega), rfl⟩
theorem mulV_ires (a b : Int) : IRes (mulV a b) := by unfold mulV; split; exact .inl ⟨_, rfl⟩; exact .inr ⟨21, by decide, rfl⟩
theorem powV_ires (a n : Int) (h : 0 ≤ n) : IRes (powV a n) := by unfold powV; rw [if_neg (by omega)]; split; exact .inl ⟨_, rfl⟩; exact .inr ⟨21, by decide, rfl⟩
/-- How far the powers have come. -/
def PowSt (a : Int) (n : Nat) (i : Nat) (over : Bool) (want : Int) : Prop := (over = false ∧ want = a ^ i ∧ inR (a ^ i) ∧ i ≤ n) ∨ (over = true ∧ i ≤ n ∧ ¬ inR (a ^ i) ∧ inR want)
theorem PowSt.want {a : Int} {n i : Nat} {over : Bool} {want : Int} (h : PowSt a n i over want) : inR want := by
  rcases h with ⟨_, rfl, h, _⟩ | ⟨_, _, _, h⟩ <;> exact h
theorem PowSt.le {a : Int} {n i : Nat} {over : Bool} {want : Int} (h : PowSt a n i over want) : i ≤ n := by
  rcases h with ⟨_, _, _, h⟩ | ⟨_, h, _⟩ <;> exact h
/-- The tail of NumProducts: the powers. -/
def ProdTail (w : World) (e : Ending) (w' : World) : Prop := e = .returned (.bool true) ∧ Ext w w'
theorem PowSt.in_step {a : Int} {n i : Nat} (hi : i < n) (h : inR (a ^ i * a)) : PowSt a n (i + 1) false (a ^ i * a) := .inl ⟨rfl, (Int.pow_succ a i).symm, by rw [Int.pow_succ]; exact h, by omega⟩
theorem PowSt.out_step {a : Int} {n i : Nat} (hi : i < n) (h : ¬ inR (a ^ i * a)) : PowSt a n (i + 1) true 0 := .inr ⟨rfl, by omega, by rw [Int.pow_succ]; exact h, by simp [inR]⟩
theorem PowSt.end_in {a : Int} {n i : Nat} {want : Int} (h : PowSt a n i false want) (hn : ¬ i < n) : powV a n = cameV want := by
  rcases h with ⟨_, h1, h2, h3⟩ | ⟨h1, _⟩
  · obtain rfl : i = n := by omega
    unfold powV
    rw [if_neg (by omega), show ((i : Int)).toNat = i by omega, if_pos h2, h1]
  · cases h1
theorem PowSt.end_out {a : Int} {n i : Nat} {want : Int} (h : PowSt a n i true want) : powV a n = refV 21 := by
  rcases h with ⟨h1, _⟩ | ⟨_, h1, h2, _⟩
  · cases h1
  · unfold powV
    rw [if_neg (by omega), show ((n : Int)).toNat = n by omega, if_neg (pow_out a i n h1 h2)]
theorem PowSt.false_eq {a : Int} {n i : Nat} {want : Int} (h : PowSt a n i false want) : want = a ^ i ∧ inR (a ^ i) := by
  rcases h with ⟨_, h1, h2, _⟩ | ⟨h1, _⟩
  · exact ⟨h1, h2⟩
  · cases h1
/-- Product and sizes. -/
structure ProF (a b P : Int) (x y H L : Nat) : Prop where
  xe : a.natAbs = x
  ye : b.natAbs = y
  mul : a * b = P
  hl : x * y = H * 18446744073709551616 + L
  lt : L < 18446744073709551616
  ab : P.natAbs = x * y
  un : (a < 0) ≠ (b < 0) → P = -((x * y : Nat) : Int)
  li : (a < 0) = (b < 0) → P = ((x * y : Nat) : Int)
theorem proF (a b : Int) : ∃ x y H L, ProF a b (a * b) x y H L := by
  refine ⟨a.natAbs, b.natAbs, a.natAbs * b.natAbs / 18446744073709551616, a.natAbs * b.natAbs % 18446744073709551616, rfl, rfl, rfl, by omega, Nat.mod_lt _ (by decide), Int.natAbs_mul a b, mul_unlike, mul_like⟩
end Go.Proofs.YtnokajfhjmahpaaGreatDoor
