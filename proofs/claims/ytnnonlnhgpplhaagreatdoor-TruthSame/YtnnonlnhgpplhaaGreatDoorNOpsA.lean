/-
  The operations on numbers (package num), each by a contract.
-/
import Derived.Test.YtnnonlnhgpplhaaGreatDoorNMath
import Derived.Test.YtnnonlnhgpplhaaGreatDoorVal
import Derived.Test.YtnnonlnhgpplhaaGreatDoorShelf
import Derived.Deep.RegionHeld3
import Derived.WalkMore
namespace Go.Proofs.YtnnonlnhgpplhaaGreatDoor
open Go.RowKit
def cameV (n : Int) : Value := .tuple #[.iface 68 (.int .i64 n), .int .i64 0, .string ⟨#[]⟩]
def toldV (b : Bool) : Value := .tuple #[.iface 38 (.bool b), .int .i64 0, .string ⟨#[]⟩]
def refV (c : Int) : Value := .tuple #[.nilIface, .int .i64 c, .string ⟨#[]⟩]
def toldI (b : Bool) : Value := .iface 38 (.bool b)
theorem to_in (v : Value) (w : World) : (Instr.typeAssert (.iface 68 v) 33 68 false).run Tryz.prog w = .ok v w := by kernel_rfl
/-- Two numbers, as the values of an operation. -/
def Two (w : World) (g : Nat) (a b : Int) : Prop := w.cell? ⟨g, 0, none⟩ = some (.iface 68 (.int .i64 a)) ∧ w.cell? ⟨g, 1, none⟩ = some (.iface 68 (.int .i64 b))
end Go.Proofs.YtnnonlnhgpplhaaGreatDoor
/-
  add, sub, quo, mod, neg, abs, min, max, less, most of package num, each by a contract.
-/
namespace Go.Proofs.YtnnonlnhgpplhaaGreatDoor
open Go.RowKit
def addV (a b : Int) : Value := if inR (a + b) then cameV (a + b) else refV 21
def subV (a b : Int) : Value := if inR (a - b) then cameV (a - b) else refV 21
def quoV (a b : Int) : Value := if b = 0 then refV 22 else if inR (a.tdiv b) then cameV (a.tdiv b) else refV 21
def modV (a b : Int) : Value := if b = 0 then refV 22 else cameV (a.fmod b)
def negV (a : Int) : Value := if inR (-a) then cameV (-a) else refV 21
def absV (a : Int) : Value := if a < 0 then negV a else cameV a
theorem tdiv_in (a b : Int) (ha : inR a) (hb : inR b) (h0 : b ≠ 0) (hm : ¬ (a = -9223372036854775808 ∧ b = -1)) : inR (a.tdiv b) := by
  unfold inR at *
  by_cases h1 : b = 1
  · subst h1; rw [Int.tdiv_one]; exact ha
  by_cases h2 : b = -1
  · subst h2
    rw [Int.tdiv_neg, Int.tdiv_one]
    omega
  · have e : (a.tdiv b).natAbs = a.natAbs / b.natAbs := Int.natAbs_tdiv a b
    have hb2 : 2 ≤ b.natAbs := by omega
    have h3 : a.natAbs / b.natAbs ≤ a.natAbs / 2 := Nat.div_le_div_left hb2 (by omega)
    omega
/-- What an operation does to the world: it draws, no more. -/
def Drew (w w' : World) : Prop := ∃ n, w' = w.drewN n
theorem Drew.ext {w w' : World} (h : Drew w w') : Ext w w' := by obtain ⟨n, rfl⟩ := h; exact (Ext.refl _).drewN n

end Go.Proofs.YtnnonlnhgpplhaaGreatDoor
