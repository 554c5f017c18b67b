/-
  Nodes in memory, their handles; by contracts.
-/
import Derived.Test.YtaodkfchmaendaaGreatDoorBFacts
import Derived.Deep.RegionHeld3
import Derived.WalkMore
import Derived.Maps.AppendAt
import Derived.Deep.LoopGhost
import Derived.Deep.CutRange
import Derived.Deep.CutBlock
import Derived.Deep.Cut
namespace Go.Proofs.YtaodkfchmaendaaGreatDoor.Nd
open Go.RowKit
/-- A handle's block. -/
abbrev HandAt (w : World) (b : Nat) (n c : Value) : Prop := w.heap[b]? = some (.cells #[n, c] 32)
theorem node_nil (w : World) : Calls Tryz.prog 30 #[.pointer none] w fun e w' => e = .returned .nilIface ∧ w' = w := by
  go_enter Tryz.func30, Tryz.ntmps30
  go_wp2
  go_ret
  exact ⟨rfl, rfl⟩
theorem node_cell (b : Nat) (n : Value) (w : World) (h : w.cell? ⟨b, 0, none⟩ = some n) : Calls Tryz.prog 30 #[.pointer (some ⟨b, 0, none⟩)] w fun e w' => e = .returned n ∧ w' = w := by
  go_enter Tryz.func30, Tryz.ntmps30
  go_wp2
  go_ret
  exact ⟨rfl, rfl⟩
theorem node_at (b : Nat) (n c : Value) (w : World) (h : HandAt w b n c) : Calls Tryz.prog 30 #[.pointer (some ⟨b, 0, none⟩)] w fun e w' => e = .returned n ∧ w' = w := node_cell b n w (cell_of h rfl)
theorem ndInfo : (Tryz.prog.info? 30).map (fun i => (i.zero, i.size, i.bytes)) = some (some .nilIface, 1, 16) := by kernel_rfl
theorem nil_iface (t : TypeId) (v : Value) (w : World) : (binOp .eql 30 (.iface t v) .nilIface).run Tryz.prog w = .ok (.bool false) w := by kernel_rfl
theorem four_of {w : World} {b : Nat} {v0 v1 v2 v3 : Value} {t : TypeId} (h : w.heap[b]? = some (.cells #[v0, v1, v2, v3] t)) : w.cell? ⟨b, 0, none⟩ = some v0 ∧ w.cell? ⟨b, 1, none⟩ = some v1 ∧ w.cell? ⟨b, 2, none⟩ = some v2 ∧ w.cell? ⟨b, 3, none⟩ = some v3 := ⟨cell_of h rfl, cell_of h rfl, cell_of h rfl, cell_of h rfl⟩
theorem jsix_of {w : World} {b : Nat} {v0 v1 v2 v3 v4 v5 : Value} {t : TypeId} (h : w.heap[b]? = some (.cells #[v0, v1, v2, v3, v4, v5] t)) : w.cell? ⟨b, 0, none⟩ = some v0 ∧ w.cell? ⟨b, 1, none⟩ = some v1 ∧ w.cell? ⟨b, 2, none⟩ = some v2 ∧ w.cell? ⟨b, 3, none⟩ = some v3 ∧ w.cell? ⟨b, 4, none⟩ = some v4 ∧ w.cell? ⟨b, 5, none⟩ = some v5 := ⟨cell_of h rfl, cell_of h rfl, cell_of h rfl, cell_of h rfl, cell_of h rfl, cell_of h rfl⟩
theorem jsix_set {w : World} {b : Nat} {v0 v1 v2 v3 v4 v5 u0 u1 u2 u3 u4 u5 : Value} {t : TypeId} (h : w.heap[b]? = some (.cells #[v0, v1, v2, v3, v4, v5] t)) : ((((((w.setCell ⟨b, 0, none⟩ u0).setCell ⟨b, 1, none⟩ u1).setCell ⟨b, 2, none⟩ u2).setCell ⟨b, 3, none⟩ u3).setCell ⟨b, 4, none⟩ u4).setCell ⟨b, 5, none⟩ u5).heap[b]? = some (.cells #[u0, u1, u2, u3, u4, u5] t) := (set_at (set_at (set_at (set_at (set_at (set_at h 0 u0) 1 u1) 2 u2) 3 u3) 4 u4) 5 u5).trans (by simp)
theorem Kp.jset6 (w : World) (g : Nat) (v0 v1 v2 v3 v4 v5 : Value) : Kp (· ≠ g) w ((((((w.setCell ⟨g, 0, none⟩ v0).setCell ⟨g, 1, none⟩ v1).setCell ⟨g, 2, none⟩ v2).setCell ⟨g, 3, none⟩ v3).setCell ⟨g, 4, none⟩ v4).setCell ⟨g, 5, none⟩ v5) :=
  (((((Kp.set w g 0 v0 (fun h => h rfl)).trans (Kp.set _ g 1 v1 (fun h => h rfl))).trans (Kp.set _ g 2 v2 (fun h => h rfl))).trans (Kp.set _ g 3 v3 (fun h => h rfl))).trans (Kp.set _ g 4 v4 (fun h => h rfl))).trans (Kp.set _ g 5 v5 (fun h => h rfl))
theorem jsix_steps {w : World} {b : Nat} {v0 v1 v2 v3 v4 v5 : Value} {t : TypeId} (h : w.heap[b]? = some (.cells #[v0, v1, v2, v3, v4, v5] t)) (u0 u1 u2 u3 u4 : Value) : w.cell? ⟨b, 0, none⟩ = some v0 ∧ w.frozen? ⟨b, 0, none⟩ = false ∧ (w.setCell ⟨b, 0, none⟩ u0).cell? ⟨b, 1, none⟩ = some v1 ∧ (w.setCell ⟨b, 0, none⟩ u0).frozen? ⟨b, 1, none⟩ = false ∧ ((w.setCell ⟨b, 0, none⟩ u0).setCell ⟨b, 1, none⟩ u1).cell? ⟨b, 2, none⟩ = some v2 ∧ ((w.setCell ⟨b, 0, none⟩ u0).setCell ⟨b, 1, none⟩ u1).frozen? ⟨b, 2, none⟩ = false ∧ (((w.setCell ⟨b, 0, none⟩ u0).setCell ⟨b, 1, none⟩ u1).setCell ⟨b, 2, none⟩ u2).cell? ⟨b, 3, none⟩ = some v3 ∧ (((w.setCell ⟨b, 0, none⟩ u0).setCell ⟨b, 1, none⟩ u1).setCell ⟨b, 2, none⟩ u2).frozen? ⟨b, 3, none⟩ = false ∧ ((((w.setCell ⟨b, 0, none⟩ u0).setCell ⟨b, 1, none⟩ u1).setCell ⟨b, 2, none⟩ u2).setCell ⟨b, 3, none⟩ u3).cell? ⟨b, 4, none⟩ = some v4 ∧ ((((w.setCell ⟨b, 0, none⟩ u0).setCell ⟨b, 1, none⟩ u1).setCell ⟨b, 2, none⟩ u2).setCell ⟨b, 3, none⟩ u3).frozen? ⟨b, 4, none⟩ = false ∧ (((((w.setCell ⟨b, 0, none⟩ u0).setCell ⟨b, 1, none⟩ u1).setCell ⟨b, 2, none⟩ u2).setCell ⟨b, 3, none⟩ u3).setCell ⟨b, 4, none⟩ u4).cell? ⟨b, 5, none⟩ = some v5 ∧ (((((w.setCell ⟨b, 0, none⟩ u0).setCell ⟨b, 1, none⟩ u1).setCell ⟨b, 2, none⟩ u2).setCell ⟨b, 3, none⟩ u3).setCell ⟨b, 4, none⟩ u4).frozen? ⟨b, 5, none⟩ = false := by
  have h0 := h
  have h1 := set_at h0 0 u0
  simp at h1
  have h2 := set_at h1 1 u1
  simp at h2
  have h3 := set_at h2 2 u2
  simp at h3
  have h4 := set_at h3 3 u3
  simp at h4
  have h5 := set_at h4 4 u4
  simp at h5
  exact ⟨cell_of h0 rfl, frozen_of h0, cell_of h1 rfl, frozen_of h1, cell_of h2 rfl, frozen_of h2, cell_of h3 rfl, frozen_of h3, cell_of h4 rfl, frozen_of h4, cell_of h5 rfl, frozen_of h5⟩
/-- A node in memory: its kind (what it does is its own kind's), number, text and kids. -/
def NodeB (w : World) (b : Nat) (k : ByteArray) (n : Int) (x : ByteArray) (kv : Value) : Prop := ∃ cs ty, w.heap[b]? = some (.cells cs ty) ∧ cs[0]? = some (.string k) ∧ cs[1]? = some (.string k) ∧ cs[2]? = some (.int .i64 n) ∧ cs[3]? = some (.string x) ∧ cs[4]? = some kv
theorem NodeB.later {w w' : World} {b : Nat} {k : ByteArray} {n : Int} {x : ByteArray} {kv : Value} (h : NodeB w b k n x kv) (hx : Ext w w') : NodeB w' b k n x kv := by
  obtain ⟨cs, ty, hb, hr⟩ := h
  exact ⟨cs, ty, hx.block hb, hr⟩
theorem NodeB.cells {w : World} {b : Nat} {k : ByteArray} {n : Int} {x : ByteArray} {kv : Value} (h : NodeB w b k n x kv) : w.cell? ⟨b, 0, none⟩ = some (.string k) ∧ w.cell? ⟨b, 2, none⟩ = some (.int .i64 n) ∧ w.cell? ⟨b, 3, none⟩ = some (.string x) ∧ w.cell? ⟨b, 4, none⟩ = some kv := by
  obtain ⟨cs, ty, hb, h0, _, h1, h2, h3⟩ := h
  exact ⟨cell_of hb h0, cell_of hb h1, cell_of hb h2, cell_of hb h3⟩
/-- A literal's worth. -/
def LitW (w : World) (b : Nat) (v : Value) : Prop := w.cell? ⟨b, 6, none⟩ = some v
theorem LitW.later {w w' : World} {b : Nat} {v : Value} (h : LitW w b v) (hx : Ext w w') : LitW w' b v := (hx.kp (fun _ => True)).cell h trivial
/-- What a type must not be: a wrapper. -/
def Bare (τ : TypeId) : Prop := ∀ (v : Value) (xT : TypeId) (w : World), (Instr.typeAssert (.iface τ v) xT 238 true).run Tryz.prog w = .ok (.tuple #[.nilIface, .bool false]) w
theorem coreOf_gen (τ : TypeId) (hW : Bare τ) (v : Value) (w : World) : Calls Tryz.prog 93 #[.iface τ v] w fun e w' => e = .returned (.iface τ v) ∧ w' = w := by
  unfold Bare at hW
  go_enter Tryz.func93, Tryz.ntmps93
  go_wp2
  refine wp_loop_rounds 1 ?_
  rw [rounds_succ]
  go_wp2
  go_ret
  exact ⟨rfl, rfl⟩
theorem hold_gen (τ : TypeId) (hW : Bare τ) (v : Value) (w : World) : Calls Tryz.prog 56 #[.iface τ v] w fun e w' => e = .returned (.pointer (some ⟨w.heap.size, 0, none⟩)) ∧ HandAt w' w.heap.size (.iface τ v) (.iface τ v) ∧ Ext w w' := by
  have HC := hid (fun w => coreOf_gen τ hW v w)
  have hnil := nil_iface τ v
  clear hW
  go_enter Tryz.func56, Tryz.ntmps56
  go_wp2_with fail
  refine (HC.out _).mono ?_
  rintro r w1 ⟨rfl, rfl⟩
  go_wp2_with fail
  go_ret
  exact ⟨rfl, blk0 _ _, Ext.alloc _ _⟩
theorem one_cells (nk : Nat) (t : Nat → TypeId) (v : Nat → Value) : ∀ u ∈ ((List.range nk).map fun i => Value.iface (t i) (v i)), u.oneCell' = true := by
  intro u hu
  obtain ⟨i, _, rfl⟩ := List.mem_map.1 hu
  rfl
theorem row_base {w : World} {B B' : Nat} {t : TypeId} {v : Value} {n : Nat} {xs : List Value} (h : w.ownsRow B t 1 v n xs) (hb : B' ≤ B) : w.ownsRow B' t 1 v n xs := by
  refine ⟨h.1, ?_⟩
  rcases h.2 with h | ⟨g, cap, cur, hv, hg, hr⟩
  · exact .inl h
  · exact .inr ⟨g, cap, cur, hv, Nat.le_trans hb hg, hr⟩
end Go.Proofs.YtaodkfchmaendaaGreatDoor.Nd
