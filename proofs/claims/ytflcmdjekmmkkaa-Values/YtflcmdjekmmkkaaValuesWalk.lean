/-
  The walk of espalierlaw0.Values: whatever the memory in which it is called, the function returns true, and it only makes new blocks. No condition. The five values are asked one round after the other (the loop is laid out in six rounds); each assertion and each look-up of the method Sort is a closed fact over the program's tables.
-/
import Derived.Test.YtflcmdjekmmkkaaRows
import Derived.WalkKit
import Derived.WalkSpells
import Derived.WalkLawsBesides
import Derived.ProofKit
import Derived.OpenShut
import Derived.Deep.QuietTactic
import Derived.Deep.RegionHeld3
import Derived.BigQuiet
namespace Go.Proofs.Ytflcmdjekmmkkaa.values
open Go.ChangeShapes Go.WideShapes Go.ChangeAt Go.RowKit
theorem as23_23 (v : Value) (w : World) : (Instr.typeAssert (.iface 23 v) 32 23 true).run Try.prog w = .ok (.tuple #[v, .bool true]) w := by kernel_rfl
theorem as23_24 (v : Value) (w : World) : (Instr.typeAssert (.iface 23 v) 32 24 true).run Try.prog w = .ok (.tuple #[(.bool false), .bool false]) w := by kernel_rfl
theorem as23_25 (v : Value) (w : World) : (Instr.typeAssert (.iface 23 v) 32 25 true).run Try.prog w = .ok (.tuple #[(.int .i64 0), .bool false]) w := by kernel_rfl
theorem as23_26 (v : Value) (w : World) : (Instr.typeAssert (.iface 23 v) 32 26 true).run Try.prog w = .ok (.tuple #[(.string ByteArray.empty), .bool false]) w := by kernel_rfl
theorem as23_28 (v : Value) (w : World) : (Instr.typeAssert (.iface 23 v) 32 28 true).run Try.prog w = .ok (.tuple #[(.slice none 0 0), .bool false]) w := by kernel_rfl
theorem as24_23 (v : Value) (w : World) : (Instr.typeAssert (.iface 24 v) 32 23 true).run Try.prog w = .ok (.tuple #[(.agg #[]), .bool false]) w := by kernel_rfl
theorem as24_24 (v : Value) (w : World) : (Instr.typeAssert (.iface 24 v) 32 24 true).run Try.prog w = .ok (.tuple #[v, .bool true]) w := by kernel_rfl
theorem as24_25 (v : Value) (w : World) : (Instr.typeAssert (.iface 24 v) 32 25 true).run Try.prog w = .ok (.tuple #[(.int .i64 0), .bool false]) w := by kernel_rfl
theorem as24_26 (v : Value) (w : World) : (Instr.typeAssert (.iface 24 v) 32 26 true).run Try.prog w = .ok (.tuple #[(.string ByteArray.empty), .bool false]) w := by kernel_rfl
theorem as24_28 (v : Value) (w : World) : (Instr.typeAssert (.iface 24 v) 32 28 true).run Try.prog w = .ok (.tuple #[(.slice none 0 0), .bool false]) w := by kernel_rfl
theorem as25_23 (v : Value) (w : World) : (Instr.typeAssert (.iface 25 v) 32 23 true).run Try.prog w = .ok (.tuple #[(.agg #[]), .bool false]) w := by kernel_rfl
theorem as25_24 (v : Value) (w : World) : (Instr.typeAssert (.iface 25 v) 32 24 true).run Try.prog w = .ok (.tuple #[(.bool false), .bool false]) w := by kernel_rfl
theorem as25_25 (v : Value) (w : World) : (Instr.typeAssert (.iface 25 v) 32 25 true).run Try.prog w = .ok (.tuple #[v, .bool true]) w := by kernel_rfl
theorem as25_26 (v : Value) (w : World) : (Instr.typeAssert (.iface 25 v) 32 26 true).run Try.prog w = .ok (.tuple #[(.string ByteArray.empty), .bool false]) w := by kernel_rfl
theorem as25_28 (v : Value) (w : World) : (Instr.typeAssert (.iface 25 v) 32 28 true).run Try.prog w = .ok (.tuple #[(.slice none 0 0), .bool false]) w := by kernel_rfl
theorem as26_23 (v : Value) (w : World) : (Instr.typeAssert (.iface 26 v) 32 23 true).run Try.prog w = .ok (.tuple #[(.agg #[]), .bool false]) w := by kernel_rfl
theorem as26_24 (v : Value) (w : World) : (Instr.typeAssert (.iface 26 v) 32 24 true).run Try.prog w = .ok (.tuple #[(.bool false), .bool false]) w := by kernel_rfl
theorem as26_25 (v : Value) (w : World) : (Instr.typeAssert (.iface 26 v) 32 25 true).run Try.prog w = .ok (.tuple #[(.int .i64 0), .bool false]) w := by kernel_rfl
theorem as26_26 (v : Value) (w : World) : (Instr.typeAssert (.iface 26 v) 32 26 true).run Try.prog w = .ok (.tuple #[v, .bool true]) w := by kernel_rfl
theorem as26_28 (v : Value) (w : World) : (Instr.typeAssert (.iface 26 v) 32 28 true).run Try.prog w = .ok (.tuple #[(.slice none 0 0), .bool false]) w := by kernel_rfl
theorem as28_23 (v : Value) (w : World) : (Instr.typeAssert (.iface 28 v) 32 23 true).run Try.prog w = .ok (.tuple #[(.agg #[]), .bool false]) w := by kernel_rfl
theorem as28_24 (v : Value) (w : World) : (Instr.typeAssert (.iface 28 v) 32 24 true).run Try.prog w = .ok (.tuple #[(.bool false), .bool false]) w := by kernel_rfl
theorem as28_25 (v : Value) (w : World) : (Instr.typeAssert (.iface 28 v) 32 25 true).run Try.prog w = .ok (.tuple #[(.int .i64 0), .bool false]) w := by kernel_rfl
theorem as28_26 (v : Value) (w : World) : (Instr.typeAssert (.iface 28 v) 32 26 true).run Try.prog w = .ok (.tuple #[(.string ByteArray.empty), .bool false]) w := by kernel_rfl
theorem as28_28 (v : Value) (w : World) : (Instr.typeAssert (.iface 28 v) 32 28 true).run Try.prog w = .ok (.tuple #[v, .bool true]) w := by kernel_rfl
attribute [local go_sem] as23_23 as23_24 as23_25 as23_26 as23_28 as24_23 as24_24 as24_25 as24_26 as24_28 as25_23 as25_24 as25_25 as25_26 as25_28 as26_23 as26_24 as26_25 as26_26 as26_28 as28_23 as28_24 as28_25 as28_26 as28_28
theorem meth23 (v : Value) (w : World) : (method 155 23 v "Sort").run Try.prog w = .ok (19, v) w := by kernel_rfl
theorem sort19 (w : World) : Calls Try.prog 19 #[.agg #[]] w fun e w' => e = .returned (.string ⟨#[117, 110, 105, 116]⟩) ∧ ∃ cs, w' = w.alloc (.cells cs 23) := by
  go_enter Try.func19, Try.ntmps19
  go_wp2
  go_ret
  exact ⟨rfl, _, rfl⟩
theorem meth24 (v : Value) (w : World) : (method 155 24 v "Sort").run Try.prog w = .ok (20, v) w := by kernel_rfl
theorem sort20 (v : Value) (w : World) : Calls Try.prog 20 #[v] w fun e w' => e = .returned (.string ⟨#[116, 114, 117, 116, 104]⟩) ∧ w' = w := by
  go_enter Try.func20, Try.ntmps20
  go_wp2
  go_ret
  exact ⟨rfl, rfl⟩
theorem meth25 (v : Value) (w : World) : (method 155 25 v "Sort").run Try.prog w = .ok (21, v) w := by kernel_rfl
theorem sort21 (v : Value) (w : World) : Calls Try.prog 21 #[v] w fun e w' => e = .returned (.string ⟨#[105, 110, 116]⟩) ∧ w' = w := by
  go_enter Try.func21, Try.ntmps21
  go_wp2
  go_ret
  exact ⟨rfl, rfl⟩
theorem meth26 (v : Value) (w : World) : (method 155 26 v "Sort").run Try.prog w = .ok (22, v) w := by kernel_rfl
theorem sort22 (v : Value) (w : World) : Calls Try.prog 22 #[v] w fun e w' => e = .returned (.string ⟨#[116, 101, 120, 116]⟩) ∧ w' = w := by
  go_enter Try.func22, Try.ntmps22
  go_wp2
  go_ret
  exact ⟨rfl, rfl⟩
theorem meth28 (v : Value) (w : World) : (method 155 28 v "Sort").run Try.prog w = .ok (23, v) w := by kernel_rfl
theorem sort23 (v : Value) (w : World) : Calls Try.prog 23 #[v] w fun e w' => e = .returned (.string ⟨#[108, 105, 115, 116]⟩) ∧ w' = w := by
  go_enter Try.func23, Try.ntmps23
  go_wp2
  go_ret
  exact ⟨rfl, rfl⟩
attribute [local go_sem] meth23 meth24 meth25 meth26 meth28
set_option maxRecDepth 100000 in
set_option maxHeartbeats 2000000 in
theorem walk  (w : World) :
    Calls Try.prog 3 #[] w fun e w' => e = .returned (.bool true) ∧ Grown w w' := by
  go_enter Try.func3, Try.ntmps3
  go_wp2
  refine wp_loop_rounds 6 ?_
  rw [rounds_succ]
  go_wp2_with fail
  go_region_held3 (fun w' => w'.cell? ⟨w.heap.size + 1, 0, none⟩ = some (.iface 23 (.agg #[])) ∧ w'.cell? ⟨w.heap.size + 1 + 1, 0, none⟩ = some (.string ⟨#[117, 110, 105, 116]⟩)) (simp [go_sem, World.cell?_alloc_past])
    (first | (go_at_call 19; refine (sort19 _).mono ?_; rintro e w' ⟨rfl, cs, rfl⟩))
  go_wp2_with fail

  rename_i hHeld
  clear hHeld
  rw [rounds_succ]
  go_wp2_with fail
  go_region_held3 (fun w' => w'.cell? ⟨w.heap.size + 1, 1, none⟩ = some (.iface 24 (.bool true)) ∧ w'.cell? ⟨w.heap.size + 1 + 1, 1, none⟩ = some (.string ⟨#[116, 114, 117, 116, 104]⟩)) (simp [go_sem, World.cell?_alloc_past])
    (first | (go_at_call 20; refine (sort20 _ _).mono ?_; rintro e w' ⟨rfl, rfl⟩))
  go_wp2_with fail
  rename_i hHeld
  clear hHeld
  rw [rounds_succ]
  go_wp2_with fail
  go_region_held3 (fun w' => w'.cell? ⟨w.heap.size + 1, 2, none⟩ = some (.iface 25 (.int .i64 5)) ∧ w'.cell? ⟨w.heap.size + 1 + 1, 2, none⟩ = some (.string ⟨#[105, 110, 116]⟩)) (simp [go_sem, World.cell?_alloc_past])
    (first | (go_at_call 21; refine (sort21 _ _).mono ?_; rintro e w' ⟨rfl, rfl⟩))
  go_wp2_with fail
  rename_i hHeld
  clear hHeld
  rw [rounds_succ]
  go_wp2_with fail
  go_region_held3 (fun w' => w'.cell? ⟨w.heap.size + 1, 3, none⟩ = some (.iface 26 (.string ⟨#[120]⟩)) ∧ w'.cell? ⟨w.heap.size + 1 + 1, 3, none⟩ = some (.string ⟨#[116, 101, 120, 116]⟩)) (simp [go_sem, World.cell?_alloc_past])
    (first | (go_at_call 22; refine (sort22 _ _).mono ?_; rintro e w' ⟨rfl, rfl⟩))
  go_wp2_with fail
  rename_i hHeld
  clear hHeld
  rw [rounds_succ]
  go_wp2_with fail
  go_region_held3 (fun w' => w'.cell? ⟨w.heap.size + 1, 4, none⟩ = some (.iface 28 (.slice (some ⟨w.heap.size, 0, none⟩) 1 1)) ∧ w'.cell? ⟨w.heap.size + 1 + 1, 4, none⟩ = some (.string ⟨#[108, 105, 115, 116]⟩)) (simp [go_sem, World.cell?_alloc_past])
    (first | (go_at_call 23; refine (sort23 _ _).mono ?_; rintro e w' ⟨rfl, rfl⟩))
  go_wp2_with fail
  rename_i hHeld
  clear hHeld
  rw [rounds_succ]
  go_wp2
  go_ret
  exact ⟨rfl, by repeat (first | exact Grown.refl _ | apply Grown.drew | apply Grown.alloc)⟩
end Go.Proofs.Ytflcmdjekmmkkaa.values
