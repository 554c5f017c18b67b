/-
  The operations on numbers (package num), each by a contract.
-/
import Derived.Test.YtaafcmmmkalgjaaGreatDoorHolds
import Derived.Test.YtaafcmmmkalgjaaGreatDoorNMath
import Derived.Test.YtaafcmmmkalgjaaGreatDoorTFit
import Derived.Test.YtaafcmmmkalgjaaGreatDoorShelf
import Derived.Deep.RegionHeld3
import Derived.WalkMore
namespace Go.Proofs.YtaafcmmmkalgjaaGreatDoor
open Go.RowKit
def cameV (n : Int) : Value := .tuple #[.iface 83 (.int .i64 n), .int .i64 0, .string ⟨#[]⟩]
def toldV (b : Bool) : Value := .tuple #[.iface 173 (.bool b), .int .i64 0, .string ⟨#[]⟩]
def refV (c : Int) : Value := .tuple #[.nilIface, .int .i64 c, .string ⟨#[]⟩]
def toldI (b : Bool) : Value := .iface 173 (.bool b)
/-- Two numbers, as the values of an operation. -/
def Two (w : World) (g : Nat) (a b : Int) : Prop := w.cell? ⟨g, 0, none⟩ = some (.iface 83 (.int .i64 a)) ∧ w.cell? ⟨g, 1, none⟩ = some (.iface 83 (.int .i64 b))
end Go.Proofs.YtaafcmmmkalgjaaGreatDoor
/-
  add, sub, quo, mod, neg, abs, min, max, less, most of package num, each by a contract.
-/
namespace Go.Proofs.YtaafcmmmkalgjaaGreatDoor
open Go.RowKit
def addV (a b : Int) : Value := if inR (a + b) then cameV (a + b) else refV 21
def subV (a b : Int) : Value := if inR (a - b) then cameV (a - b) else refV 21
def quoV (a b : Int) : Value := if b = 0 then refV 22 else if inR (a.tdiv b) then cameV (a.tdiv b) else refV 21
def modV (a b : Int) : Value := if b = 0 then refV 22 else cameV (a.fmod b)
def negV (a : Int) : Value := if inR (-a) then cameV (-a) else refV 21
def absV (a : Int) : Value := if a < 0 then negV a else cameV a
theorem tdiv_in (a b : Int) (ha : inR a) (hb : inR b) (h0 : b ≠ 0) (hm : ¬ (a = -9223372036854775808 ∧ b = -1)) : inR (a.tdiv b) := by
  unfold inR at *
  by_cases h1 : b = 1
  · subst h1; rw [Int.tdiv_one]; exact ha
  by_cases h2 : b = -1
  · subst h2
    rw [Int.tdiv_neg, Int.tdiv_one]
    omega
  · have e : (a.tdiv b).natAbs = a.natAbs / b.natAbs := Int.natAbs_tdiv a b
    have hb2 : 2 ≤ b.natAbs := by omega
    have h3 : a.natAbs / b.natAbs ≤ a.natAbs / 2 := Nat.div_le_div_left hb2 (by omega)
    omega
/-- What an operation does to the world: it draws, no more. -/
def Drew (w w' : World) : Prop := ∃ n, w' = w.drewN n
theorem Drew.ext {w w' : World} (h : Drew w w') : Ext w w' := by obtain ⟨n, rfl⟩ := h; exact (Ext.refl _).drewN n

end Go.Proofs.YtaafcmmmkalgjaaGreatDoor
/-
  craft.may of a value that is a number or a truth, by a contract.
-/
namespace Go.Proofs.YtaafcmmmkalgjaaGreatDoor
open Go.RowKit
theorem cas_in_tx (v : Value) (w : World) : (Instr.typeAssert (.iface 83 v) 35 174 true).run Tryz.prog w = .ok (.tuple #[(.string ByteArray.empty), .bool false]) w := by kernel_rfl
theorem cas_in_li (v : Value) (w : World) : (Instr.typeAssert (.iface 83 v) 35 81 true).run Tryz.prog w = .ok (.tuple #[(.slice none 0 0), .bool false]) w := by kernel_rfl
theorem cas_tu_tx (v : Value) (w : World) : (Instr.typeAssert (.iface 173 v) 35 174 true).run Tryz.prog w = .ok (.tuple #[(.string ByteArray.empty), .bool false]) w := by kernel_rfl
theorem cas_tu_li (v : Value) (w : World) : (Instr.typeAssert (.iface 173 v) 35 81 true).run Tryz.prog w = .ok (.tuple #[(.slice none 0 0), .bool false]) w := by kernel_rfl
set_option maxRecDepth 100000 in
theorem choldsx_in (v : Value) (b : Nat) (w : World) (h : w.heap[b]? = some (.cells #[.int .i64 65536] 213)) : Calls Tryz.prog 103 #[.pointer (some ⟨b, 0, none⟩), .iface 83 v, .int .i64 64] w fun e w' => e = .returned (.bool true) ∧ Kp (· ≠ b) w w' := by
  have c0 : w.cell? ⟨b, 0, none⟩ = some (.int .i64 65536) := cell_of h rfl
  have f0 : w.frozen? ⟨b, 0, none⟩ = false := frozen_of h
  have h1 := cas_in_tx v
  have h2 := cas_in_li v
  clear h
  go_enter Tryz.func103, Tryz.ntmps103
  go_wp2_with fail
  go_ret
  exact ⟨rfl, Kp.set w b 0 _ (fun h => h rfl)⟩
set_option maxRecDepth 100000 in
theorem cmay_in (v : Value) (w : World) : Calls Tryz.prog 84 #[.iface 83 v] w fun e w' => e = .returned (.bool true) ∧ Ext w w' := by
  go_enter Tryz.func84, Tryz.ntmps84
  go_wp2_with fail
  refine (choldsx_in v _ _ (blk0 _ _)).mono ?_
  rintro e w1 ⟨rfl, hk⟩
  go_wp2_with fail
  go_ret
  exact ⟨rfl, Kp.extOf (Ext.alloc _ _) hk (Nat.le_refl _)⟩
set_option maxRecDepth 100000 in
theorem choldsx_tu (v : Value) (b : Nat) (w : World) (h : w.heap[b]? = some (.cells #[.int .i64 65536] 213)) : Calls Tryz.prog 103 #[.pointer (some ⟨b, 0, none⟩), .iface 173 v, .int .i64 64] w fun e w' => e = .returned (.bool true) ∧ Kp (· ≠ b) w w' := by
  have c0 : w.cell? ⟨b, 0, none⟩ = some (.int .i64 65536) := cell_of h rfl
  have f0 : w.frozen? ⟨b, 0, none⟩ = false := frozen_of h
  have h1 := cas_tu_tx v
  have h2 := cas_tu_li v
  clear h
  go_enter Tryz.func103, Tryz.ntmps103
  go_wp2_with fail
  go_ret
  exact ⟨rfl, Kp.set w b 0 _ (fun h => h rfl)⟩
set_option maxRecDepth 100000 in
theorem cmay_tu (v : Value) (w : World) : Calls Tryz.prog 84 #[.iface 173 v] w fun e w' => e = .returned (.bool true) ∧ Ext w w' := by
  go_enter Tryz.func84, Tryz.ntmps84
  go_wp2_with fail
  refine (choldsx_tu v _ _ (blk0 _ _)).mono ?_
  rintro e w1 ⟨rfl, hk⟩
  go_wp2_with fail
  go_ret
  exact ⟨rfl, Kp.extOf (Ext.alloc _ _) hk (Nat.le_refl _)⟩

/-- An answer that is a text. -/
def wroteV (s : ByteArray) : Value := .tuple #[.iface 174 (.string s), .int .i64 0, .string ⟨#[]⟩]
theorem cas_tx_tx (v : Value) (w : World) : (Instr.typeAssert (.iface 174 v) 35 174 true).run Tryz.prog w = .ok (.tuple #[v, .bool true]) w := by kernel_rfl
set_option maxRecDepth 100000 in
theorem choldsx_tx (s : ByteArray) (hs : s.size ≤ 65535) (b : Nat) (w : World) (h : w.heap[b]? = some (.cells #[.int .i64 65536] 213)) : Calls Tryz.prog 103 #[.pointer (some ⟨b, 0, none⟩), .iface 174 (.string s), .int .i64 64] w fun e w' => e = .returned (.bool true) ∧ Kp (· ≠ b) w w' := by
  have c0 : w.cell? ⟨b, 0, none⟩ = some (.int .i64 65536) := cell_of h rfl
  have f0 : w.frozen? ⟨b, 0, none⟩ = false := frozen_of h
  have h1 := cas_tx_tx (.string s)
  have hs' : (s.size : Int) ≤ 65535 := by omega
  clear h hs
  go_enter Tryz.func103, Tryz.ntmps103
  go_wp2_with fail
  go_ret
  exact ⟨rfl, (Kp.set w b 0 _ (fun h => h rfl)).trans (Kp.set _ b 0 _ (fun h => h rfl))⟩
set_option maxRecDepth 100000 in
theorem cmay_tx (s : ByteArray) (hs : s.size ≤ 65535) (w : World) : Calls Tryz.prog 84 #[.iface 174 (.string s)] w fun e w' => e = .returned (.bool true) ∧ Ext w w' := by
  go_enter Tryz.func84, Tryz.ntmps84
  go_wp2_with fail
  refine (choldsx_tx s hs _ _ (blk0 _ _)).mono ?_
  rintro e w1 ⟨rfl, hk⟩
  go_wp2_with fail
  go_ret
  exact ⟨rfl, Kp.extOf (Ext.alloc _ _) hk (Nat.le_refl _)⟩
end Go.Proofs.YtaafcmmmkalgjaaGreatDoor
