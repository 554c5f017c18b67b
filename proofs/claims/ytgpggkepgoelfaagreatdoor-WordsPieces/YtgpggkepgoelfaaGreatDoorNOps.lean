/-
  The operations on numbers (package num), each by a contract.
-/
import Derived.Test.YtgpggkepgoelfaaGreatDoorNMath
import Derived.Test.YtgpggkepgoelfaaGreatDoorVal
import Derived.Test.YtgpggkepgoelfaaGreatDoorShelf
import Derived.Deep.RegionHeld3
import Derived.WalkMore
namespace Go.Proofs.YtgpggkepgoelfaaGreatDoor
open Go.RowKit
def cameV (n : Int) : Value := .tuple #[.iface 87 (.int .i64 n), .int .i64 0, .string ⟨#[]⟩]
def toldV (b : Bool) : Value := .tuple #[.iface 52 (.bool b), .int .i64 0, .string ⟨#[]⟩]
def refV (c : Int) : Value := .tuple #[.nilIface, .int .i64 c, .string ⟨#[]⟩]
def toldI (b : Bool) : Value := .iface 52 (.bool b)
theorem to_in (v : Value) (w : World) : (Instr.typeAssert (.iface 87 v) 29 87 false).run Tryz.prog w = .ok v w := by kernel_rfl
theorem came_any (n : Int) (w : World) : Calls Tryz.prog 111 #[.int .i64 n] w fun e w' => e = .returned (cameV n) ∧ w' = w := by
  go_enter Tryz.func111, Tryz.ntmps111
  go_wp2_with fail
  go_ret3
  exact ⟨rfl, rfl⟩
theorem told_any (b : Bool) (w : World) : Calls Tryz.prog 114 #[.bool b] w fun e w' => e = .returned (toldV b) ∧ w' = w := by
  go_enter Tryz.func114, Tryz.ntmps114
  go_wp2_with fail
  go_ret3
  exact ⟨rfl, rfl⟩
theorem refused_any (c : Int) (w : World) : Calls Tryz.prog 110 #[.int .i64 c] w fun e w' => e = .returned (refV c) ∧ w' = w := by
  go_enter Tryz.func110, Tryz.ntmps110
  go_wp2_with fail
  go_ret3
  exact ⟨rfl, rfl⟩
theorem one_any (g off n c : Nat) (a : Int) (w : World) (hn : 0 < n) (h : w.cell? ⟨g, off, none⟩ = some (.iface 87 (.int .i64 a))) : Calls Tryz.prog 113 #[.slice (some ⟨g, off, none⟩) n c] w fun e w' => e = .returned (.int .i64 a) ∧ w' = w := by
  have hta := fun (v : Value) (w : World) => to_in v w
  go_enter Tryz.func113, Tryz.ntmps113
  go_wp2_with fail
  go_ret
  exact ⟨rfl, rfl⟩
/-- Two numbers, as the values of an operation. -/
def Two (w : World) (g : Nat) (a b : Int) : Prop := w.cell? ⟨g, 0, none⟩ = some (.iface 87 (.int .i64 a)) ∧ w.cell? ⟨g, 1, none⟩ = some (.iface 87 (.int .i64 b))
set_option maxRecDepth 100000 in
theorem two_any (g : Nat) (a b : Int) (w : World) (h : Two w g a b) : Calls Tryz.prog 109 #[.slice (some ⟨g, 0, none⟩) 2 2] w fun e w' => e = .returned (.tuple #[.int .i64 a, .int .i64 b]) ∧ ∃ n, w' = w.drewN n := by
  obtain ⟨h0, h1⟩ := h
  have h0q : ∀ n : Nat, (w.drewN n).cell? ⟨g, 0, none⟩ = some (.iface 87 (.int .i64 a)) := fun n => h0
  have h1q : ∀ n : Nat, (w.drewN n).cell? ⟨g, 1, none⟩ = some (.iface 87 (.int .i64 b)) := fun n => h1
  go_enter Tryz.func109, Tryz.ntmps109
  go_wp2_with fail
  go_quiet ((go_at_call 113; first | with_reducible exact Calls.quiet_of_same (one_any g 0 2 2 a _ (Nat.succ_pos _) (h0q _)) | with_reducible exact Calls.quiet_of_same (one_any g 1 1 1 b _ (Nat.succ_pos _) (h1q _)) | with_reducible exact Calls.quiet_of_same (one_any g 0 2 2 a _ (Nat.succ_pos _) h0) | with_reducible exact Calls.quiet_of_same (one_any g 1 1 1 b _ (Nat.succ_pos _) h1) | (trace_state; fail)))
  go_wp2_with fail
  go_ret2
  exact ⟨rfl, _, rfl⟩
end Go.Proofs.YtgpggkepgoelfaaGreatDoor
