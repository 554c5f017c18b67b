/-
  craft.may of a value that is a number or a truth, by a contract.
-/
import Derived.Test.YtnokajfhjmahpaaGreatDoorNOpsA
namespace Go.Proofs.YtnokajfhjmahpaaGreatDoor
open Go.RowKit
theorem cas_in_tx (v : Value) (w : World) : (Instr.typeAssert (.iface 82 v) 34 179 true).run Tryz.prog w = .ok (.tuple #[(.string ByteArray.empty), .bool false]) w := by kernel_rfl
theorem cas_in_li (v : Value) (w : World) : (Instr.typeAssert (.iface 82 v) 34 180 true).run Tryz.prog w = .ok (.tuple #[(.slice none 0 0), .bool false]) w := by kernel_rfl
theorem cas_tu_tx (v : Value) (w : World) : (Instr.typeAssert (.iface 54 v) 34 179 true).run Tryz.prog w = .ok (.tuple #[(.string ByteArray.empty), .bool false]) w := by kernel_rfl
theorem cas_tu_li (v : Value) (w : World) : (Instr.typeAssert (.iface 54 v) 34 180 true).run Tryz.prog w = .ok (.tuple #[(.slice none 0 0), .bool false]) w := by kernel_rfl
set_option maxRecDepth 100000 in
theorem choldsx_in (v : Value) (b : Nat) (w : World) (h : w.heap[b]? = some (.cells #[.int .i64 65536] 186)) : Calls Tryz.prog 108 #[.pointer (some ⟨b, 0, none⟩), .iface 82 v, .int .i64 64] w fun e w' => e = .returned (.bool true) ∧ Kp (· ≠ b) w w' := by
  have c0 : w.cell? ⟨b, 0, none⟩ = some (.int .i64 65536) := cell_of h rfl
  have f0 : w.frozen? ⟨b, 0, none⟩ = false := frozen_of h
  have h1 := cas_in_tx v
  have h2 := cas_in_li v
  clear h
  go_enter Tryz.func108, Tryz.ntmps108
  go_wp2_with fail
  go_ret
  exact ⟨rfl, Kp.set w b 0 _ (fun h => h rfl)⟩
set_option maxRecDepth 100000 in
theorem cmay_in (v : Value) (w : World) : Calls Tryz.prog 96 #[.iface 82 v] w fun e w' => e = .returned (.bool true) ∧ Ext w w' := by
  go_enter Tryz.func96, Tryz.ntmps96
  go_wp2_with fail
  refine (choldsx_in v _ _ (blk0 _ _)).mono ?_
  rintro e w1 ⟨rfl, hk⟩
  go_wp2_with fail
  go_ret
  exact ⟨rfl, Kp.extOf (Ext.alloc _ _) hk (Nat.le_refl _)⟩
set_option maxRecDepth 100000 in
theorem choldsx_tu (v : Value) (b : Nat) (w : World) (h : w.heap[b]? = some (.cells #[.int .i64 65536] 186)) : Calls Tryz.prog 108 #[.pointer (some ⟨b, 0, none⟩), .iface 54 v, .int .i64 64] w fun e w' => e = .returned (.bool true) ∧ Kp (· ≠ b) w w' := by
  have c0 : w.cell? ⟨b, 0, none⟩ = some (.int .i64 65536) := cell_of h rfl
  have f0 : w.frozen? ⟨b, 0, none⟩ = false := frozen_of h
  have h1 := cas_tu_tx v
  have h2 := cas_tu_li v
  clear h
  go_enter Tryz.func108, Tryz.ntmps108
  go_wp2_with fail
  go_ret
  exact ⟨rfl, Kp.set w b 0 _ (fun h => h rfl)⟩
set_option maxRecDepth 100000 in
theorem cmay_tu (v : Value) (w : World) : Calls Tryz.prog 96 #[.iface 54 v] w fun e w' => e = .returned (.bool true) ∧ Ext w w' := by
  go_enter Tryz.func96, Tryz.ntmps96
  go_wp2_with fail
  refine (choldsx_tu v _ _ (blk0 _ _)).mono ?_
  rintro e w1 ⟨rfl, hk⟩
  go_wp2_with fail
  go_ret
  exact ⟨rfl, Kp.extOf (Ext.alloc _ _) hk (Nat.le_refl _)⟩

end Go.Proofs.YtnokajfhjmahpaaGreatDoor
