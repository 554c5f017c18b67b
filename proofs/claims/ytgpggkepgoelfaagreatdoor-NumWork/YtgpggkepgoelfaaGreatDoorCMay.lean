/-
  craft.may of a value that is a number or a truth, by a contract.
-/
import Derived.Test.YtgpggkepgoelfaaGreatDoorNOpsA
namespace Go.Proofs.YtgpggkepgoelfaaGreatDoor
open Go.RowKit
theorem cas_in_tx (v : Value) (w : World) : (Instr.typeAssert (.iface 87 v) 29 89 true).run Tryz.prog w = .ok (.tuple #[(.string ByteArray.empty), .bool false]) w := by kernel_rfl
theorem cas_in_li (v : Value) (w : World) : (Instr.typeAssert (.iface 87 v) 29 205 true).run Tryz.prog w = .ok (.tuple #[(.slice none 0 0), .bool false]) w := by kernel_rfl
theorem cas_tu_tx (v : Value) (w : World) : (Instr.typeAssert (.iface 52 v) 29 89 true).run Tryz.prog w = .ok (.tuple #[(.string ByteArray.empty), .bool false]) w := by kernel_rfl
theorem cas_tu_li (v : Value) (w : World) : (Instr.typeAssert (.iface 52 v) 29 205 true).run Tryz.prog w = .ok (.tuple #[(.slice none 0 0), .bool false]) w := by kernel_rfl
set_option maxRecDepth 100000 in
theorem choldsx_in (v : Value) (b : Nat) (w : World) (h : w.heap[b]? = some (.cells #[.int .i64 65536] 212)) : Calls Tryz.prog 147 #[.pointer (some ⟨b, 0, none⟩), .iface 87 v, .int .i64 64] w fun e w' => e = .returned (.bool true) ∧ Kp (· ≠ b) w w' := by
  have c0 : w.cell? ⟨b, 0, none⟩ = some (.int .i64 65536) := cell_of h rfl
  have f0 : w.frozen? ⟨b, 0, none⟩ = false := frozen_of h
  have h1 := cas_in_tx v
  have h2 := cas_in_li v
  clear h
  go_enter Tryz.func147, Tryz.ntmps147
  go_wp2_with fail
  go_ret
  exact ⟨rfl, Kp.set w b 0 _ (fun h => h rfl)⟩
set_option maxRecDepth 100000 in
theorem cmay_in (v : Value) (w : World) : Calls Tryz.prog 118 #[.iface 87 v] w fun e w' => e = .returned (.bool true) ∧ Ext w w' := by
  go_enter Tryz.func118, Tryz.ntmps118
  go_wp2_with fail
  refine (choldsx_in v _ _ (blk0 _ _)).mono ?_
  rintro e w1 ⟨rfl, hk⟩
  go_wp2_with fail
  go_ret
  exact ⟨rfl, Kp.extOf (Ext.alloc _ _) hk (Nat.le_refl _)⟩
set_option maxRecDepth 100000 in
theorem choldsx_tu (v : Value) (b : Nat) (w : World) (h : w.heap[b]? = some (.cells #[.int .i64 65536] 212)) : Calls Tryz.prog 147 #[.pointer (some ⟨b, 0, none⟩), .iface 52 v, .int .i64 64] w fun e w' => e = .returned (.bool true) ∧ Kp (· ≠ b) w w' := by
  have c0 : w.cell? ⟨b, 0, none⟩ = some (.int .i64 65536) := cell_of h rfl
  have f0 : w.frozen? ⟨b, 0, none⟩ = false := frozen_of h
  have h1 := cas_tu_tx v
  have h2 := cas_tu_li v
  clear h
  go_enter Tryz.func147, Tryz.ntmps147
  go_wp2_with fail
  go_ret
  exact ⟨rfl, Kp.set w b 0 _ (fun h => h rfl)⟩
set_option maxRecDepth 100000 in
theorem cmay_tu (v : Value) (w : World) : Calls Tryz.prog 118 #[.iface 52 v] w fun e w' => e = .returned (.bool true) ∧ Ext w w' := by
  go_enter Tryz.func118, Tryz.ntmps118
  go_wp2_with fail
  refine (choldsx_tu v _ _ (blk0 _ _)).mono ?_
  rintro e w1 ⟨rfl, hk⟩
  go_wp2_with fail
  go_ret
  exact ⟨rfl, Kp.extOf (Ext.alloc _ _) hk (Nat.le_refl _)⟩

/-- An answer that is a text. -/
def wroteV (s : ByteArray) : Value := .tuple #[.iface 89 (.string s), .int .i64 0, .string ⟨#[]⟩]
theorem cas_tx_tx (v : Value) (w : World) : (Instr.typeAssert (.iface 89 v) 29 89 true).run Tryz.prog w = .ok (.tuple #[v, .bool true]) w := by kernel_rfl
set_option maxRecDepth 100000 in
theorem choldsx_tx (s : ByteArray) (hs : s.size ≤ 65535) (b : Nat) (w : World) (h : w.heap[b]? = some (.cells #[.int .i64 65536] 212)) : Calls Tryz.prog 147 #[.pointer (some ⟨b, 0, none⟩), .iface 89 (.string s), .int .i64 64] w fun e w' => e = .returned (.bool true) ∧ Kp (· ≠ b) w w' := by
  have c0 : w.cell? ⟨b, 0, none⟩ = some (.int .i64 65536) := cell_of h rfl
  have f0 : w.frozen? ⟨b, 0, none⟩ = false := frozen_of h
  have h1 := cas_tx_tx (.string s)
  have hs' : (s.size : Int) ≤ 65535 := by omega
  clear h hs
  go_enter Tryz.func147, Tryz.ntmps147
  go_wp2_with fail
  go_ret
  exact ⟨rfl, (Kp.set w b 0 _ (fun h => h rfl)).trans (Kp.set _ b 0 _ (fun h => h rfl))⟩
set_option maxRecDepth 100000 in
theorem cmay_tx (s : ByteArray) (hs : s.size ≤ 65535) (w : World) : Calls Tryz.prog 118 #[.iface 89 (.string s)] w fun e w' => e = .returned (.bool true) ∧ Ext w w' := by
  go_enter Tryz.func118, Tryz.ntmps118
  go_wp2_with fail
  refine (choldsx_tx s hs _ _ (blk0 _ _)).mono ?_
  rintro e w1 ⟨rfl, hk⟩
  go_wp2_with fail
  go_ret
  exact ⟨rfl, Kp.extOf (Ext.alloc _ _) hk (Nat.le_refl _)⟩
end Go.Proofs.YtgpggkepgoelfaaGreatDoor
