/-
  Nodes in memory, their handles; by contracts.
-/
import Derived.Test.YtaafcmmmkalgjaaGreatDoorBFacts
import Derived.Deep.RegionHeld3
import Derived.WalkMore
import Derived.Maps.AppendAt
import Derived.Deep.LoopGhost
import Derived.Deep.CutRange
import Derived.Deep.CutBlock
import Derived.Deep.Cut
namespace Go.Proofs.YtaafcmmmkalgjaaGreatDoor.Nd
open Go.RowKit
/-- A handle's block. -/
abbrev HandAt (w : World) (b : Nat) (n c : Value) : Prop := w.heap[b]? = some (.cells #[n, c] 145)
theorem node_nil (w : World) : Calls Tryz.prog 33 #[.pointer none] w fun e w' => e = .returned .nilIface ∧ w' = w := by
  go_enter Tryz.func33, Tryz.ntmps33
  go_wp2
  go_ret
  exact ⟨rfl, rfl⟩
theorem node_cell (b : Nat) (n : Value) (w : World) (h : w.cell? ⟨b, 0, none⟩ = some n) : Calls Tryz.prog 33 #[.pointer (some ⟨b, 0, none⟩)] w fun e w' => e = .returned n ∧ w' = w := by
  go_enter Tryz.func33, Tryz.ntmps33
  go_wp2
  go_ret
  exact ⟨rfl, rfl⟩
theorem node_at (b : Nat) (n c : Value) (w : World) (h : HandAt w b n c) : Calls Tryz.prog 33 #[.pointer (some ⟨b, 0, none⟩)] w fun e w' => e = .returned n ∧ w' = w := node_cell b n w (cell_of h rfl)
theorem ndInfo : (Tryz.prog.info? 50).map (fun i => (i.zero, i.size, i.bytes)) = some (some .nilIface, 1, 16) := by kernel_rfl
theorem nil_iface (t : TypeId) (v : Value) (w : World) : (binOp .eql 50 (.iface t v) .nilIface).run Tryz.prog w = .ok (.bool false) w := by kernel_rfl
theorem four_of {w : World} {b : Nat} {v0 v1 v2 v3 : Value} {t : TypeId} (h : w.heap[b]? = some (.cells #[v0, v1, v2, v3] t)) : w.cell? ⟨b, 0, none⟩ = some v0 ∧ w.cell? ⟨b, 1, none⟩ = some v1 ∧ w.cell? ⟨b, 2, none⟩ = some v2 ∧ w.cell? ⟨b, 3, none⟩ = some v3 := ⟨cell_of h rfl, cell_of h rfl, cell_of h rfl, cell_of h rfl⟩
theorem jsix_of {w : World} {b : Nat} {v0 v1 v2 v3 v4 v5 : Value} {t : TypeId} (h : w.heap[b]? = some (.cells #[v0, v1, v2, v3, v4, v5] t)) : w.cell? ⟨b, 0, none⟩ = some v0 ∧ w.cell? ⟨b, 1, none⟩ = some v1 ∧ w.cell? ⟨b, 2, none⟩ = some v2 ∧ w.cell? ⟨b, 3, none⟩ = some v3 ∧ w.cell? ⟨b, 4, none⟩ = some v4 ∧ w.cell? ⟨b, 5, none⟩ = some v5 := ⟨cell_of h rfl, cell_of h rfl, cell_of h rfl, cell_of h rfl, cell_of h rfl, cell_of h rfl⟩
theorem jsix_set {w : World} {b : Nat} {v0 v1 v2 v3 v4 v5 u0 u1 u2 u3 u4 u5 : Value} {t : TypeId} (h : w.heap[b]? = some (.cells #[v0, v1, v2, v3, v4, v5] t)) : ((((((w.setCell ⟨b, 0, none⟩ u0).setCell ⟨b, 1, none⟩ u1).setCell ⟨b, 2, none⟩ u2).setCell ⟨b, 3, none⟩ u3).setCell ⟨b, 4, none⟩ u4).setCell ⟨b, 5, none⟩ u5).heap[b]? = some (.cells #[u0, u1, u2, u3, u4, u5] t) := (set_at (set_at (set_at (set_at (set_at (set_at h 0 u0) 1 u1) 2 u2) 3 u3) 4 u4) 5 u5).trans (by simp)
theorem Kp.jset6 (w : World) (g : Nat) (v0 v1 v2 v3 v4 v5 : Value) : Kp (· ≠ g) w ((((((w.setCell ⟨g, 0, none⟩ v0).setCell ⟨g, 1, none⟩ v1).setCell ⟨g, 2, none⟩ v2).setCell ⟨g, 3, none⟩ v3).setCell ⟨g, 4, none⟩ v4).setCell ⟨g, 5, none⟩ v5) :=
  (((((Kp.set w g 0 v0 (fun h => h rfl)).trans (Kp.set _ g 1 v1 (fun h => h rfl))).trans (Kp.set _ g 2 v2 (fun h => h rfl))).trans (Kp.set _ g 3 v3 (fun h => h rfl))).trans (Kp.set _ g 4 v4 (fun h => h rfl))).trans (Kp.set _ g 5 v5 (fun h => h rfl))
theorem jsix_steps {w : World} {b : Nat} {v0 v1 v2 v3 v4 v5 : Value} {t : TypeId} (h : w.heap[b]? = some (.cells #[v0, v1, v2, v3, v4, v5] t)) (u0 u1 u2 u3 u4 : Value) : w.cell? ⟨b, 0, none⟩ = some v0 ∧ w.frozen? ⟨b, 0, none⟩ = false ∧ (w.setCell ⟨b, 0, none⟩ u0).cell? ⟨b, 1, none⟩ = some v1 ∧ (w.setCell ⟨b, 0, none⟩ u0).frozen? ⟨b, 1, none⟩ = false ∧ ((w.setCell ⟨b, 0, none⟩ u0).setCell ⟨b, 1, none⟩ u1).cell? ⟨b, 2, none⟩ = some v2 ∧ ((w.setCell ⟨b, 0, none⟩ u0).setCell ⟨b, 1, none⟩ u1).frozen? ⟨b, 2, none⟩ = false ∧ (((w.setCell ⟨b, 0, none⟩ u0).setCell ⟨b, 1, none⟩ u1).setCell ⟨b, 2, none⟩ u2).cell? ⟨b, 3, none⟩ = some v3 ∧ (((w.setCell ⟨b, 0, none⟩ u0).setCell ⟨b, 1, none⟩ u1).setCell ⟨b, 2, none⟩ u2).frozen? ⟨b, 3, none⟩ = false ∧ ((((w.setCell ⟨b, 0, none⟩ u0).setCell ⟨b, 1, none⟩ u1).setCell ⟨b, 2, none⟩ u2).setCell ⟨b, 3, none⟩ u3).cell? ⟨b, 4, none⟩ = some v4 ∧ ((((w.setCell ⟨b, 0, none⟩ u0).setCell ⟨b, 1, none⟩ u1).setCell ⟨b, 2, none⟩ u2).setCell ⟨b, 3, none⟩ u3).frozen? ⟨b, 4, none⟩ = false ∧ (((((w.setCell ⟨b, 0, none⟩ u0).setCell ⟨b, 1, none⟩ u1).setCell ⟨b, 2, none⟩ u2).setCell ⟨b, 3, none⟩ u3).setCell ⟨b, 4, none⟩ u4).cell? ⟨b, 5, none⟩ = some v5 ∧ (((((w.setCell ⟨b, 0, none⟩ u0).setCell ⟨b, 1, none⟩ u1).setCell ⟨b, 2, none⟩ u2).setCell ⟨b, 3, none⟩ u3).setCell ⟨b, 4, none⟩ u4).frozen? ⟨b, 5, none⟩ = false := by
  have h0 := h
  have h1 := set_at h0 0 u0
  simp at h1
  have h2 := set_at h1 1 u1
  simp at h2
  have h3 := set_at h2 2 u2
  simp at h3
  have h4 := set_at h3 3 u3
  simp at h4
  have h5 := set_at h4 4 u4
  simp at h5
  exact ⟨cell_of h0 rfl, frozen_of h0, cell_of h1 rfl, frozen_of h1, cell_of h2 rfl, frozen_of h2, cell_of h3 rfl, frozen_of h3, cell_of h4 rfl, frozen_of h4, cell_of h5 rfl, frozen_of h5⟩
/-- A node in memory: its kind (what it does is its own kind's), number, text and kids. -/
def NodeB (w : World) (b : Nat) (k : ByteArray) (n : Int) (x : ByteArray) (kv : Value) : Prop := ∃ cs ty, w.heap[b]? = some (.cells cs ty) ∧ cs[0]? = some (.string k) ∧ cs[1]? = some (.string k) ∧ cs[2]? = some (.int .i64 n) ∧ cs[3]? = some (.string x) ∧ cs[4]? = some kv
theorem NodeB.later {w w' : World} {b : Nat} {k : ByteArray} {n : Int} {x : ByteArray} {kv : Value} (h : NodeB w b k n x kv) (hx : Ext w w') : NodeB w' b k n x kv := by
  obtain ⟨cs, ty, hb, hr⟩ := h
  exact ⟨cs, ty, hx.block hb, hr⟩
theorem NodeB.cells {w : World} {b : Nat} {k : ByteArray} {n : Int} {x : ByteArray} {kv : Value} (h : NodeB w b k n x kv) : w.cell? ⟨b, 0, none⟩ = some (.string k) ∧ w.cell? ⟨b, 2, none⟩ = some (.int .i64 n) ∧ w.cell? ⟨b, 3, none⟩ = some (.string x) ∧ w.cell? ⟨b, 4, none⟩ = some kv := by
  obtain ⟨cs, ty, hb, h0, _, h1, h2, h3⟩ := h
  exact ⟨cell_of hb h0, cell_of hb h1, cell_of hb h2, cell_of hb h3⟩
/-- A literal's worth. -/
def LitW (w : World) (b : Nat) (v : Value) : Prop := w.cell? ⟨b, 6, none⟩ = some v
theorem LitW.later {w w' : World} {b : Nat} {v : Value} (h : LitW w b v) (hx : Ext w w') : LitW w' b v := (hx.kp (fun _ => True)).cell h trivial
/-- What a type must not be: a wrapper. -/
def Bare (τ : TypeId) : Prop := ∀ (v : Value) (xT : TypeId) (w : World), (Instr.typeAssert (.iface τ v) xT 225 true).run Tryz.prog w = .ok (.tuple #[.nilIface, .bool false]) w
theorem coreOf_gen (τ : TypeId) (hW : Bare τ) (v : Value) (w : World) : Calls Tryz.prog 89 #[.iface τ v] w fun e w' => e = .returned (.iface τ v) ∧ w' = w := by
  unfold Bare at hW
  go_enter Tryz.func89, Tryz.ntmps89
  go_wp2
  refine wp_loop_rounds 1 ?_
  rw [rounds_succ]
  go_wp2
  go_ret
  exact ⟨rfl, rfl⟩
theorem hold_gen (τ : TypeId) (hW : Bare τ) (v : Value) (w : World) : Calls Tryz.prog 60 #[.iface τ v] w fun e w' => e = .returned (.pointer (some ⟨w.heap.size, 0, none⟩)) ∧ HandAt w' w.heap.size (.iface τ v) (.iface τ v) ∧ Ext w w' := by
  have HC := hid (fun w => coreOf_gen τ hW v w)
  have hnil := nil_iface τ v
  clear hW
  go_enter Tryz.func60, Tryz.ntmps60
  go_wp2_with fail
  refine (HC.out _).mono ?_
  rintro r w1 ⟨rfl, rfl⟩
  go_wp2_with fail
  go_ret
  exact ⟨rfl, blk0 _ _, Ext.alloc _ _⟩
theorem one_cells (nk : Nat) (t : Nat → TypeId) (v : Nat → Value) : ∀ u ∈ ((List.range nk).map fun i => Value.iface (t i) (v i)), u.oneCell' = true := by
  intro u hu
  obtain ⟨i, _, rfl⟩ := List.mem_map.1 hu
  rfl
theorem row_base {w : World} {B B' : Nat} {t : TypeId} {v : Value} {n : Nat} {xs : List Value} (h : w.ownsRow B t 1 v n xs) (hb : B' ≤ B) : w.ownsRow B' t 1 v n xs := by
  refine ⟨h.1, ?_⟩
  rcases h.2 with h | ⟨g, cap, cur, hv, hg, hr⟩
  · exact .inl h
  · exact .inr ⟨g, cap, cur, hv, Nat.le_trans hb hg, hr⟩
end Go.Proofs.YtaafcmmmkalgjaaGreatDoor.Nd
/-
  node.Nodes of a list of handles: the nodes in a list of its own; none where a handle holds none; by contracts.
-/
namespace Go.Proofs.YtaafcmmmkalgjaaGreatDoor.Nd
open Go.RowKit
/-- A list of handles in memory, each with its node. -/
def Hands (w : World) (a off n : Nat) (t : Nat → TypeId) (v : Nat → Value) : Prop := ∀ i, i < n → ∃ h, w.cell? ⟨a, off + i, none⟩ = some (.pointer (some ⟨h, 0, none⟩)) ∧ w.cell? ⟨h, 0, none⟩ = some (.iface (t i) (v i)) ∧ a < w.heap.size ∧ h < w.heap.size
theorem Hands.later {w w' : World} {a off n : Nat} {t : Nat → TypeId} {v : Nat → Value} (h : Hands w a off n t v) (hx : Ext w w') : Hands w' a off n t v := by
  intro i hi
  obtain ⟨k, h1, h2, h3, h4⟩ := h i hi
  exact ⟨k, (hx.kp (fun _ => True)).cell h1 trivial, (hx.kp (fun _ => True)).cell h2 trivial, Nat.lt_of_lt_of_le h3 hx.size, Nat.lt_of_lt_of_le h4 hx.size⟩
theorem new_one (w : World) (v : Value) (t : TypeId) : ∀ (j : Nat) (u : Value), [v][j]? = some u → (w.alloc (.cells #[v] t)).cell? (Addr.add ⟨w.heap.size, 0, none⟩ j) = some u := by
  intro j u hu
  have : Addr.add ⟨w.heap.size, 0, none⟩ j = ⟨w.heap.size, j, none⟩ := by unfold Addr.add; cases j <;> simp
  rw [this]
  exact cell_of (blk0 _ _) (by simpa using hu)
/-- A list of handles, or none. -/
def HandsO (w : World) (ao : Option Addr) (n : Nat) (t : Nat → TypeId) (v : Nat → Value) : Prop := n = 0 ∨ ∃ a off, ao = some ⟨a, off, none⟩ ∧ Hands w a off n t v
theorem HandsO.later {w w' : World} {ao : Option Addr} {n : Nat} {t : Nat → TypeId} {v : Nat → Value} (h : HandsO w ao n t v) (hx : Ext w w') : HandsO w' ao n t v := h.imp id fun ⟨a, off, e, hh⟩ => ⟨a, off, e, hh.later hx⟩
set_option maxRecDepth 100000 in
set_option maxHeartbeats 2000000 in
theorem knodesOf_any (ao : Option Addr) (n c : Nat) (t : Nat → TypeId) (v : Nat → Value) (w : World) (hn : n ≤ 100000) (hh : HandsO w ao n t v) : Calls Tryz.prog 59 #[.slice ao n c] w fun e w' => ∃ q, e = .returned (.tuple #[q, .bool true]) ∧ w'.ownsRow w.heap.size 50 1 q n ((List.range n).map fun i => .iface (t i) (v i)) ∧ Ext w w' := by
  obtain ⟨i0, hi0, hz0, hz1, hz2⟩ := info_parts ndInfo
  have HH := hid hh
  clear hh
  go_enter Tryz.func59, Tryz.ntmps59
  go_wp2_with fail
  go_loopg [4, 10] n (fun g q3 q8 wr => ∃ j : Nat, j + g = n ∧ q8 = .int .i64 j ∧ wr.ownsRow w.heap.size 50 1 q3 j ((List.range j).map fun i => .iface (t i) (v i)) ∧ Ext w wr)
  case atStart => exact ⟨0, by omega, rfl, World.ownsRow_nil _ _ _ _, Ext.refl _⟩
  case round =>
    obtain ⟨j, hj, rfl, hown, hx⟩ := hrel
    obtain ⟨a3, c3, rfl⟩ := ownsRow_slice hown
    have HOW := hid hown
    have XR := hid hx
    clear hown hx
    by_cases hlt : j < n
    · have hlt' : (j : Int) < n := by omega
      rcases HH.out.later XR.out with h0 | ⟨a, off, rfl, hhs⟩
      · omega
      obtain ⟨h, p0, p1, hl1, hl2⟩ := hhs j hlt
      clear hhs
      generalize htj : t j = tj at *
      generalize hvj : v j = vj at *
      have HTJ := hid htj
      have HVJ := hid hvj
      clear htj hvj
      have HO2 := hid (row_ext HOW.out (Ext.alloc wr (.cells #[.iface tj vj] 50)))
      have HN := hid (new_one wr (.iface tj vj) 50)
      have HUS := hid XR.out.size
      have hnil := nil_iface tj vj
      go_wp2_with fail
      refine (node_cell h _ _ p1).mono ?_
      rintro e w7 ⟨rfl, hw7⟩
      rw [hw7]
      clear hw7 w7
      go_wp2_with (at_builtin; refine wpList_append_own_at _ rfl _ _ 114 rfl w.heap.size 50 i0 .nilIface 1 16 Tryz.underlying114 hi0 hz0 hz1 hz2 rfl (by decide) _ _ _ rfl HO2.out ⟨wr.heap.size, 0, none⟩ 1 1 [.iface tj vj] rfl rfl HN.out (by simp [Value.oneCell']) (by unfold maxLen; omega) (by omega) (by have := HUS.out; simp; omega) ?_; intro v9 w9 hown9 hgrow9 _ _; have HO9 := hid hown9; have HG9 := hid hgrow9; clear hown9 hgrow9)
      go_roundg (n - (j + 1))
      case measure => omega
      case rel =>
        refine ⟨j + 1, by omega, by go_num, ?_, (XR.out.more _).grown HG9.out (by have := XR.out.size; simp; omega) (fun k hk => (HO2.out.lt k hk).1)⟩
        rw [List.range_succ, List.map_append, List.map_cons, List.map_nil, HTJ.out, HVJ.out]
        exact HO9.out
    · have hje : j = n := by omega
      subst hje
      go_wp2_with fail
      go_ret2
      exact ⟨_, rfl, HOW.out, XR.out⟩
/-- A handle that holds none. -/
def NoHand (w : World) (a off i : Nat) : Prop := w.cell? ⟨a, off + i, none⟩ = some (.pointer none) ∨ ∃ h, w.cell? ⟨a, off + i, none⟩ = some (.pointer (some ⟨h, 0, none⟩)) ∧ w.cell? ⟨h, 0, none⟩ = some .nilIface
theorem NoHand.later {w w' : World} {a off i : Nat} (h : NoHand w a off i) (hx : Ext w w') : NoHand w' a off i := h.imp (fun h => (hx.kp (fun _ => True)).cell h trivial) fun ⟨b, h1, h2⟩ => ⟨b, (hx.kp (fun _ => True)).cell h1 trivial, (hx.kp (fun _ => True)).cell h2 trivial⟩
set_option maxRecDepth 100000 in
set_option maxHeartbeats 2000000 in
theorem knodesOf_no (a off m n c : Nat) (t : Nat → TypeId) (v : Nat → Value) (w : World) (hm : m < n) (hn : n ≤ 100000) (hh : Hands w a off m t v) (hno : NoHand w a off m) : Calls Tryz.prog 59 #[.slice (some ⟨a, off, none⟩) n c] w fun e w' => e = .returned (.tuple #[.slice none 0 0, .bool false]) ∧ Ext w w' := by
  obtain ⟨i0, hi0, hz0, hz1, hz2⟩ := info_parts ndInfo
  have HH := hid hh
  have HNO := hid hno
  have hmn : (m : Int) < n := by omega
  clear hh hno
  go_enter Tryz.func59, Tryz.ntmps59
  go_wp2_with fail
  go_loopg [4, 10] m (fun g q3 q8 wr => ∃ j : Nat, j + g = m ∧ q8 = .int .i64 j ∧ wr.ownsRow w.heap.size 50 1 q3 j ((List.range j).map fun i => .iface (t i) (v i)) ∧ Ext w wr)
  case atStart => exact ⟨0, by omega, rfl, World.ownsRow_nil _ _ _ _, Ext.refl _⟩
  case round =>
    obtain ⟨j, hj, rfl, hown, hx⟩ := hrel
    obtain ⟨a3, c3, rfl⟩ := ownsRow_slice hown
    have HOW := hid hown
    have XR := hid hx
    clear hown hx
    by_cases hlt : j < m
    · have hlt' : (j : Int) < n := by omega
      obtain ⟨h, p0, p1, hl1, hl2⟩ := HH.out.later XR.out j hlt
      generalize htj : t j = tj at *
      generalize hvj : v j = vj at *
      have HTJ := hid htj
      have HVJ := hid hvj
      clear htj hvj
      have HO2 := hid (row_ext HOW.out (Ext.alloc wr (.cells #[.iface tj vj] 50)))
      have HN := hid (new_one wr (.iface tj vj) 50)
      have HUS := hid XR.out.size
      have hnil := nil_iface tj vj
      go_wp2_with fail
      refine (node_cell h _ _ p1).mono ?_
      rintro e w7 ⟨rfl, hw7⟩
      rw [hw7]
      clear hw7 w7
      go_wp2_with (at_builtin; refine wpList_append_own_at _ rfl _ _ 114 rfl w.heap.size 50 i0 .nilIface 1 16 Tryz.underlying114 hi0 hz0 hz1 hz2 rfl (by decide) _ _ _ rfl HO2.out ⟨wr.heap.size, 0, none⟩ 1 1 [.iface tj vj] rfl rfl HN.out (by simp [Value.oneCell']) (by unfold maxLen; omega) (by omega) (by have := HUS.out; simp; omega) ?_; intro v9 w9 hown9 hgrow9 _ _; have HO9 := hid hown9; have HG9 := hid hgrow9; clear hown9 hgrow9)
      go_roundg (m - (j + 1))
      case measure => omega
      case rel =>
        refine ⟨j + 1, by omega, by go_num, ?_, (XR.out.more _).grown HG9.out (by have := XR.out.size; simp; omega) (fun k hk => (HO2.out.lt k hk).1)⟩
        rw [List.range_succ, List.map_append, List.map_cons, List.map_nil, HTJ.out, HVJ.out]
        exact HO9.out
    · obtain rfl : j = m := by omega
      rcases HNO.out.later XR.out with p0 | ⟨h, p0, p1⟩
      · have hal := lt_of_cell p0
        go_wp2_with fail
        refine (node_nil _).mono ?_
        rintro e w7 ⟨rfl, hw7⟩
        rw [hw7]
        clear hw7 w7
        go_wp2_with fail
        go_ret2
        exact ⟨rfl, XR.out⟩
      · have hal := lt_of_cell p0
        go_wp2_with fail
        refine (node_cell h _ _ p1).mono ?_
        rintro e w7 ⟨rfl, hw7⟩
        rw [hw7]
        clear hw7 w7
        go_wp2_with fail
        go_ret2
        exact ⟨rfl, XR.out⟩
end Go.Proofs.YtaafcmmmkalgjaaGreatDoor.Nd
/-
  slices.Clone of lists of nodes and of handles, part.New with kids, part.Make; by contracts.
-/
namespace Go.Proofs.YtaafcmmmkalgjaaGreatDoor.Nd
open Go.RowKit
theorem hpInfo : (Tryz.prog.info? 91).map (fun i => (i.zero, i.size, i.bytes)) = some (some (.pointer none), 1, 8) := by kernel_rfl
theorem cloneN_nil (w : World) : Calls Tryz.prog 90 #[.slice none 0 0] w fun e w' => e = .returned (.slice none 0 0) ∧ w' = w := by
  have hq : ∀ w : World, (binOp .eql 114 (.slice none 0 0) (.slice none 0 0)).run Tryz.prog w = .ok (.bool true) w := fun _ => by kernel_rfl
  go_enter Tryz.func90, Tryz.ntmps90
  go_wp2
  go_ret
  exact ⟨rfl, rfl⟩
set_option maxRecDepth 100000 in
set_option maxHeartbeats 1000000 in
theorem cloneN_some (g off cap : Nat) (xs : List Value) (w : World) (hb : xs.length * 16 ≤ 140737488355328) (h1 : ∀ u ∈ xs, u.oneCell' = true) (hc : ∀ (j : Nat) (u : Value), xs[j]? = some u → w.cell? ⟨g, off + j, none⟩ = some u) :
    Calls Tryz.prog 90 #[.slice (some ⟨g, off, none⟩) xs.length cap] w fun r w' => ∃ v, r = .returned v ∧ w'.ownsRow w.heap.size 50 1 v xs.length xs ∧ Ext w w' := by
  obtain ⟨i0, hi0, hz0, hz1, hz2⟩ := info_parts ndInfo
  have hq : ∀ w : World, (binOp .eql 114 (.slice (some ⟨g, off, none⟩) xs.length cap) (.slice none 0 0)).run Tryz.prog w = .ok (.bool false) w := fun w => by
    exact Lib.run_eql_slice_nil w 114 50 (some ⟨g, off, none⟩) xs.length cap 0 0 Tryz.underlying114
  have hown : (w.alloc (.cells #[] 50)).ownsRow w.heap.size 50 1 (.slice (some ⟨w.heap.size, 0, none⟩) 0 0) 0 [] :=
    ⟨rfl, .inr ⟨w.heap.size, 0, #[], rfl, Nat.le_refl _, blk0 _ _, Nat.le_refl _, Nat.zero_le _, rfl, rfl⟩⟩
  have H1 := hid h1
  have HC := hid hc
  clear h1 hc
  go_enter Tryz.func90, Tryz.ntmps90
  go_wp2_with (at_builtin; refine wpList_append_own _ rfl _ _ 114 rfl w.heap.size 50 i0 .nilIface 1 16 Tryz.underlying114 hi0 hz0 hz1 hz2 rfl (by decide) _ _ _ rfl hown ⟨g, off, none⟩ xs.length cap xs rfl (by simp) ?hnews ?hone ?b1 ?b2 ?b3 ?_)
  case hnews =>
    intro j u hu
    have h2 := (Below.cell (Ext.alloc w (.cells #[] 50)) (p := ⟨g, off + j, none⟩) (lt_of_cell (HC.out j u hu))).trans (HC.out j u hu)
    have ea : Addr.add ⟨g, off, none⟩ j = ⟨g, off + j, none⟩ := by
      by_cases hj : j = 0
      · subst hj; simp [Addr.add]
      · simp [Addr.add, hj]
    rw [ea]; exact h2
  case hone => exact H1.out
  case b1 => unfold maxLen; omega
  case b2 => simpa using hb
  case b3 => simp
  intro v' w' hown' hgrow _
  go_wp2
  go_ret
  refine ⟨_, rfl, by simpa using hown', ?_⟩
  exact Below.grown (Ext.alloc w _) hgrow (by simp) (fun k hk => by simp [Value.ownBlock] at hk; omega)
theorem cloneH_nil (w : World) : Calls Tryz.prog 95 #[.slice none 0 0] w fun e w' => e = .returned (.slice none 0 0) ∧ w' = w := by
  have hq : ∀ w : World, (binOp .eql 90 (.slice none 0 0) (.slice none 0 0)).run Tryz.prog w = .ok (.bool true) w := fun _ => by kernel_rfl
  go_enter Tryz.func95, Tryz.ntmps95
  go_wp2
  go_ret
  exact ⟨rfl, rfl⟩
set_option maxRecDepth 100000 in
set_option maxHeartbeats 1000000 in
theorem cloneH_some (g off cap : Nat) (xs : List Value) (w : World) (hb : xs.length * 8 ≤ 140737488355328) (h1 : ∀ u ∈ xs, u.oneCell' = true) (hc : ∀ (j : Nat) (u : Value), xs[j]? = some u → w.cell? ⟨g, off + j, none⟩ = some u) :
    Calls Tryz.prog 95 #[.slice (some ⟨g, off, none⟩) xs.length cap] w fun r w' => ∃ v, r = .returned v ∧ w'.ownsRow w.heap.size 91 1 v xs.length xs ∧ Ext w w' := by
  obtain ⟨i0, hi0, hz0, hz1, hz2⟩ := info_parts hpInfo
  have hq : ∀ w : World, (binOp .eql 90 (.slice (some ⟨g, off, none⟩) xs.length cap) (.slice none 0 0)).run Tryz.prog w = .ok (.bool false) w := fun w => by
    exact Lib.run_eql_slice_nil w 90 91 (some ⟨g, off, none⟩) xs.length cap 0 0 Tryz.underlying90
  have hown : (w.alloc (.cells #[] 91)).ownsRow w.heap.size 91 1 (.slice (some ⟨w.heap.size, 0, none⟩) 0 0) 0 [] :=
    ⟨rfl, .inr ⟨w.heap.size, 0, #[], rfl, Nat.le_refl _, blk0 _ _, Nat.le_refl _, Nat.zero_le _, rfl, rfl⟩⟩
  have H1 := hid h1
  have HC := hid hc
  clear h1 hc
  go_enter Tryz.func95, Tryz.ntmps95
  go_wp2_with (at_builtin; refine wpList_append_own _ rfl _ _ 90 rfl w.heap.size 91 i0 (.pointer none) 1 8 Tryz.underlying90 hi0 hz0 hz1 hz2 rfl (by decide) _ _ _ rfl hown ⟨g, off, none⟩ xs.length cap xs rfl (by simp) ?hnews ?hone ?b1 ?b2 ?b3 ?_)
  case hnews =>
    intro j u hu
    have h2 := (Below.cell (Ext.alloc w (.cells #[] 91)) (p := ⟨g, off + j, none⟩) (lt_of_cell (HC.out j u hu))).trans (HC.out j u hu)
    have ea : Addr.add ⟨g, off, none⟩ j = ⟨g, off + j, none⟩ := by
      by_cases hj : j = 0
      · subst hj; simp [Addr.add]
      · simp [Addr.add, hj]
    rw [ea]; exact h2
  case hone => exact H1.out
  case b1 => unfold maxLen; omega
  case b2 => simpa using hb
  case b3 => simp
  intro v' w' hown' hgrow _
  go_wp2
  go_ret
  refine ⟨_, rfl, by simpa using hown', ?_⟩
  exact Below.grown (Ext.alloc w _) hgrow (by simp) (fun k hk => by simp [Value.ownBlock] at hk; omega)

/-- A list of nodes of its own, copied. -/
theorem cloneN_row {B m : Nat} {q : Value} {xs : List Value} (w : World) (hm : m ≤ 100000) (h1 : ∀ u ∈ xs, u.oneCell' = true) (h : w.ownsRow B 50 1 q m xs) : Calls Tryz.prog 90 #[q] w fun e w' => ∃ a c, e = .returned (.slice a m c) ∧ w'.ownsRow w.heap.size 50 1 (.slice a m c) m xs ∧ Ext w w' := by
  have hl : xs.length = m := by have := h.1; omega
  rcases h.2 with ⟨hv, h0⟩ | ⟨g, cap, cur, hv, hb, hbk, h3, h4, h5, h6⟩
  · subst hv; subst h0
    obtain rfl := List.eq_nil_of_length_eq_zero hl
    refine (cloneN_nil w).mono ?_
    rintro e w' ⟨rfl, rfl⟩
    exact ⟨none, 0, rfl, World.ownsRow_nil _ _ _ _, Ext.refl _⟩
  · subst hv
    subst hl
    refine (cloneN_some g 0 cap xs w (by omega) h1 (fun j u hu => by
      rw [Nat.zero_add]
      refine cell_of hbk ?_
      rw [← h6] at hu
      have hj : j < xs.length * 1 := by
        have := (List.getElem?_eq_some_iff.1 hu).1
        rw [List.length_take] at this
        omega
      rw [List.getElem?_take_of_lt hj] at hu
      simpa using hu)).mono ?_
    rintro e w' ⟨v, rfl, ho, hx⟩
    obtain ⟨a, c, rfl⟩ := ownsRow_slice ho
    exact ⟨a, c, rfl, ho, hx⟩
set_option maxRecDepth 100000 in
set_option maxHeartbeats 1000000 in
theorem new_row (k x : ByteArray) (n : Int) (kv q : Value) (B m : Nat) (xs : List Value) (w : World) (hm : m ≤ 100000) (h1 : ∀ u ∈ xs, u.oneCell' = true) (h : w.ownsRow B 50 1 q m xs) : Calls Tryz.prog 62 #[.agg #[.string k, .int .i64 n, .string x, kv], q] w fun e w' => ∃ a c, e = .returned (.agg #[.string k, .string k, .int .i64 n, .string x, .slice a m c, .nilFunc]) ∧ w'.ownsRow w.heap.size 50 1 (.slice a m c) m xs ∧ Ext w w' := by
  obtain ⟨qa, qc, rfl⟩ := ownsRow_slice h
  have HF := hid (fun (u : World) (hx : Ext w u) => cloneN_row u hm h1 (row_ext h hx))
  clear h h1
  obtain ⟨V, hV⟩ : ∃ M, (w.alloc (.cells #[.string k, .int .i64 n, .string x, kv] 54)).alloc (.cells #[.string ⟨#[]⟩, .string ⟨#[]⟩, .int .i64 0, .string ⟨#[]⟩, .slice none 0 0, .nilFunc] 121) = M := ⟨_, rfl⟩
  have XV := hid (show Ext w V from hV ▸ Ext.alloc2 _ _ _)
  have HVS := hid (show V.heap.size = w.heap.size + 2 from hV ▸ (by simp))
  have HK := hid (show V.heap[w.heap.size]? = some (.cells #[.string k, .int .i64 n, .string x, kv] 54) from hV ▸ blkOld _ (blk0 _ _))
  have HR := hid (show V.heap[w.heap.size + 1]? = some (.cells #[.string ⟨#[]⟩, .string ⟨#[]⟩, .int .i64 0, .string ⟨#[]⟩, .slice none 0 0, .nilFunc] 121) from hV ▸ blk1 _ _ _)
  go_enter Tryz.func62, Tryz.ntmps62
  go_upto_region 1 with fail
  first | rw [hV] | skip
  clear hV
  obtain ⟨kb, rb, hkb, hrb⟩ : ∃ kb rb, w.heap.size = kb ∧ w.heap.size + 1 = rb := ⟨_, _, rfl, rfl⟩
  rw [hrb, hkb]
  rw [hrb] at HR
  rw [hkb] at HK
  have HKB := hid hkb
  have HRB := hid hrb
  have hne : kb ≠ rb := by omega
  have HSK := hid (show ∀ W', Ext V W' → (W'.cell? ⟨kb, 0, none⟩ = some (.string k) ∧ W'.cell? ⟨kb, 1, none⟩ = some (.int .i64 n) ∧ W'.cell? ⟨kb, 2, none⟩ = some (.string x)) from fun W' X => by
    obtain ⟨s0, s1, s2, _⟩ := four_of (X.block HK.out)
    exact ⟨s0, s1, s2⟩)
  have HST := hid (show ∀ (W' : World) (v0 v1 v2 v3 v4 v5 : Value), Ext V W' → ((fun W' => W'.cell? ⟨kb, 0, none⟩ = some (.string k) ∧ W'.cell? ⟨kb, 1, none⟩ = some (.int .i64 n) ∧ W'.cell? ⟨kb, 2, none⟩ = some (.string x) : World → Prop) (((((((W'.setCell ⟨rb, 0, none⟩ v0).setCell ⟨rb, 1, none⟩ v1).setCell ⟨rb, 2, none⟩ v2).setCell ⟨rb, 3, none⟩ v3).setCell ⟨rb, 4, none⟩ v4).setCell ⟨rb, 5, none⟩ v5))) from fun W' v0 v1 v2 v3 v4 v5 X => by
    obtain ⟨s0, s1, s2, _⟩ := four_of ((Kp.jset6 W' rb v0 v1 v2 v3 v4 v5).block' (X.block HK.out) hne)
    exact ⟨s0, s1, s2⟩)
  dsimp only at HST
  clear hkb hrb hne
  go_region_held3 (fun W' => W'.cell? ⟨kb, 0, none⟩ = some (.string k) ∧ W'.cell? ⟨kb, 1, none⟩ = some (.int .i64 n) ∧ W'.cell? ⟨kb, 2, none⟩ = some (.string x))
    (first | with_reducible exact HST.out _ _ _ _ _ _ _ Z1.out | with_reducible exact HSK.out _ (Ext.refl _).drew | with_reducible exact HSK.out _ Z1.out | with_reducible exact HSK.out _ Z1.out.drew)
    (first
      | (go_at_call 90; refine (HF.out _ (XV.out.trans (by repeat (first | with_reducible exact Ext.refl _ | with_reducible refine Ext.drew ?_)))).mono ?_; rintro r u1 ⟨qb, qd, rfl, hq, hy⟩; have Z1 := hid (show Ext V u1 from Ext.trans (by repeat (first | with_reducible exact Ext.refl _ | with_reducible refine Ext.drew ?_)) hy); have HQ := hid hq; have HZ := hid (Z1.out.block HR.out); clear hq hy)
      | (obtain ⟨c0, f0, c1, f1, c2, f2, c3, f3, c4, f4, c5, f5⟩ := jsix_steps HZ.out (.string k) (.string k) (.int .i64 n) (.string x) (.slice qb m qd); simp only [c0, f0, c1, f1, c2, f2, c3, f3, c4, f4, c5, f5, Bool.false_eq_true, if_false, Result.andThen_ok]; clear c0 f0 c1 f1 c2 f2 c3 f3 c4 f4 c5 f5; go_simp))
  all_goals
    obtain ⟨z0, z1, z2, z3, z4, z5⟩ := jsix_of (jsix_set (u0 := .string k) (u1 := .string k) (u2 := .int .i64 n) (u3 := .string x) (u4 := .slice qb m qd) (u5 := .nilFunc) HZ.out)
    have HKN := Kp.jset6 u1 rb (.string k) (.string k) (.int .i64 n) (.string x) (.slice qb m qd) .nilFunc
    generalize ((((((u1.setCell ⟨rb, 0, none⟩ (.string k)).setCell ⟨rb, 1, none⟩ (.string k)).setCell ⟨rb, 2, none⟩ (.int .i64 n)).setCell ⟨rb, 3, none⟩ (.string x)).setCell ⟨rb, 4, none⟩ (.slice qb m qd)).setCell ⟨rb, 5, none⟩ .nilFunc) = U at *
    have HKU := hid HKN
    clear HKN
    go_wp2_with fail
    refine bodyPost_ret (v := .agg #[.string k, .string k, .int .i64 n, .string x, .slice qb m qd, .nilFunc]) (by simp [results, Tryz.results62, go_sem, z0, z1, z2, z3, z4, z5]) rfl ?_
    have := HVS.out
    have := HRB.out
    refine ⟨qb, qd, rfl, ?_, Kp.extOf (XV.out.trans Z1.out) HKU.out (by omega)⟩
    have hq := HQ.out
    refine ⟨hq.1, hq.2.imp id fun ⟨g', cap', cur, e1, e2, e3, e4⟩ => ⟨g', cap', cur, e1, ?_, HKU.out.block' e3 ?_, e4⟩⟩
    · have : V.heap.size ≤ g' := by simpa using e2
      omega
    · have : V.heap.size ≤ g' := by simpa using e2
      omega
def EntersF (f : Nat) : Prop := ∀ (a : Array Value) (w : World), (callFunc f a).run Tryz.prog w = .ok (.enter f a) w
/-- A base as a value. -/
abbrev baseV (k x : ByteArray) (n : Int) (a : Option Addr) (m c : Nat) (mk : Value) : Value := .agg #[.string k, .string k, .int .i64 n, .string x, .slice a m c, mk]
set_option maxRecDepth 100000 in
set_option maxHeartbeats 400000 in
theorem pmake0 (f : Nat) (hE : EntersF f) (k x : ByteArray) (n : Int) (a : Option Addr) (m c : Nat) (Q : Value → World → Prop) (w : World)
    (HF : ∀ w1, Ext w w1 → Calls Tryz.prog f #[baseV k x n a m c (.func (.func f) #[] #[])] w1 fun e w' => ∃ v, e = .returned v ∧ Q v w' ∧ Ext w1 w') :
    Calls Tryz.prog 61 #[baseV k x n a m c .nilFunc, .func (.func f) #[] #[]] w fun e w' => ∃ v, e = .returned v ∧ Q v w' ∧ Ext w w' := by
  have HC := hid HF
  have hE' : ∀ (a : Array Value) (w : World), (callFunc f a).run Tryz.prog w = .ok (.enter f a) w := hE
  clear HF hE
  obtain ⟨M, hM⟩ : ∃ M, w.alloc (.cells #[.string k, .string k, .int .i64 n, .string x, .slice a m c, .nilFunc] 121) = M := ⟨_, rfl⟩
  have XM := hid (show Ext w M from hM ▸ Ext.alloc _ _)
  have HM0 := hid (show M.heap[w.heap.size]? = some (.cells #[.string k, .string k, .int .i64 n, .string x, .slice a m c, .nilFunc] 121) from hM ▸ blk0 _ _)
  obtain ⟨t0, t1, t2, t3, t4, t5⟩ := jsix_of HM0.out
  have f5 : M.frozen? ⟨w.heap.size, 5, none⟩ = false := frozen_of HM0.out
  have HS := hid (show (M.setCell ⟨w.heap.size, 5, none⟩ (.func (.func f) #[] #[])).heap[w.heap.size]? = some (.cells #[.string k, .string k, .int .i64 n, .string x, .slice a m c, .func (.func f) #[] #[]] 121) from (set_at HM0.out 5 _).trans (by simp))
  have HX := hid (show Ext w (M.setCell ⟨w.heap.size, 5, none⟩ (.func (.func f) #[] #[])) from Kp.extOf XM.out (Kp.set M w.heap.size 5 _ (fun h => h rfl)) (Nat.le_refl _))
  obtain ⟨s0, s1, s2, s3, s4, s5⟩ := jsix_of HS.out
  go_enter Tryz.func61, Tryz.ntmps61
  go_wp2_with fail
  refine (HC.out _ HX.out).mono ?_
  rintro e w1 ⟨v, rfl, hq, hx⟩
  have HQ := hid hq
  have X1 := hid (HX.out.trans hx)
  clear hq hx
  go_wp2_with fail
  go_ret
  exact ⟨v, rfl, HQ.out, X1.out⟩
set_option maxRecDepth 100000 in
set_option maxHeartbeats 400000 in
theorem pmake1 (f : Nat) (hE : EntersF f) (p : Nat) (k x : ByteArray) (n : Int) (a : Option Addr) (m c : Nat) (Q : Value → World → Prop) (w : World)
    (HF : ∀ w1, Ext w w1 → Calls Tryz.prog f #[baseV k x n a m c (.func (.func f) #[] #[.pointer (some ⟨p, 0, none⟩)]), .pointer (some ⟨p, 0, none⟩)] w1 fun e w' => ∃ v, e = .returned v ∧ Q v w' ∧ Ext w1 w') :
    Calls Tryz.prog 61 #[baseV k x n a m c .nilFunc, .func (.func f) #[] #[.pointer (some ⟨p, 0, none⟩)]] w fun e w' => ∃ v, e = .returned v ∧ Q v w' ∧ Ext w w' := by
  have HC := hid HF
  have hE' : ∀ (a : Array Value) (w : World), (callFunc f a).run Tryz.prog w = .ok (.enter f a) w := hE
  clear HF hE
  obtain ⟨M, hM⟩ : ∃ M, w.alloc (.cells #[.string k, .string k, .int .i64 n, .string x, .slice a m c, .nilFunc] 121) = M := ⟨_, rfl⟩
  have XM := hid (show Ext w M from hM ▸ Ext.alloc _ _)
  have HM0 := hid (show M.heap[w.heap.size]? = some (.cells #[.string k, .string k, .int .i64 n, .string x, .slice a m c, .nilFunc] 121) from hM ▸ blk0 _ _)
  obtain ⟨t0, t1, t2, t3, t4, t5⟩ := jsix_of HM0.out
  have f5 : M.frozen? ⟨w.heap.size, 5, none⟩ = false := frozen_of HM0.out
  have HS := hid (show (M.setCell ⟨w.heap.size, 5, none⟩ (.func (.func f) #[] #[.pointer (some ⟨p, 0, none⟩)])).heap[w.heap.size]? = some (.cells #[.string k, .string k, .int .i64 n, .string x, .slice a m c, .func (.func f) #[] #[.pointer (some ⟨p, 0, none⟩)]] 121) from (set_at HM0.out 5 _).trans (by simp))
  have HX := hid (show Ext w (M.setCell ⟨w.heap.size, 5, none⟩ (.func (.func f) #[] #[.pointer (some ⟨p, 0, none⟩)])) from Kp.extOf XM.out (Kp.set M w.heap.size 5 _ (fun h => h rfl)) (Nat.le_refl _))
  obtain ⟨s0, s1, s2, s3, s4, s5⟩ := jsix_of HS.out
  go_enter Tryz.func61, Tryz.ntmps61
  go_wp2_with fail
  refine (HC.out _ HX.out).mono ?_
  rintro e w1 ⟨v, rfl, hq, hx⟩
  have HQ := hid hq
  have X1 := hid (HX.out.trans hx)
  clear hq hx
  go_wp2_with fail
  go_ret
  exact ⟨v, rfl, HQ.out, X1.out⟩
set_option maxRecDepth 100000 in
set_option maxHeartbeats 400000 in
theorem pmake2 (f : Nat) (hE : EntersF f) (p p2 : Nat) (k x : ByteArray) (n : Int) (a : Option Addr) (m c : Nat) (Q : Value → World → Prop) (w : World)
    (HF : ∀ w1, Ext w w1 → Calls Tryz.prog f #[baseV k x n a m c (.func (.func f) #[] #[.pointer (some ⟨p, 0, none⟩), .pointer (some ⟨p2, 0, none⟩)]), .pointer (some ⟨p, 0, none⟩), .pointer (some ⟨p2, 0, none⟩)] w1 fun e w' => ∃ v, e = .returned v ∧ Q v w' ∧ Ext w1 w') :
    Calls Tryz.prog 61 #[baseV k x n a m c .nilFunc, .func (.func f) #[] #[.pointer (some ⟨p, 0, none⟩), .pointer (some ⟨p2, 0, none⟩)]] w fun e w' => ∃ v, e = .returned v ∧ Q v w' ∧ Ext w w' := by
  have HC := hid HF
  have hE' : ∀ (a : Array Value) (w : World), (callFunc f a).run Tryz.prog w = .ok (.enter f a) w := hE
  clear HF hE
  obtain ⟨M, hM⟩ : ∃ M, w.alloc (.cells #[.string k, .string k, .int .i64 n, .string x, .slice a m c, .nilFunc] 121) = M := ⟨_, rfl⟩
  have XM := hid (show Ext w M from hM ▸ Ext.alloc _ _)
  have HM0 := hid (show M.heap[w.heap.size]? = some (.cells #[.string k, .string k, .int .i64 n, .string x, .slice a m c, .nilFunc] 121) from hM ▸ blk0 _ _)
  obtain ⟨t0, t1, t2, t3, t4, t5⟩ := jsix_of HM0.out
  have f5 : M.frozen? ⟨w.heap.size, 5, none⟩ = false := frozen_of HM0.out
  have HS := hid (show (M.setCell ⟨w.heap.size, 5, none⟩ (.func (.func f) #[] #[.pointer (some ⟨p, 0, none⟩), .pointer (some ⟨p2, 0, none⟩)])).heap[w.heap.size]? = some (.cells #[.string k, .string k, .int .i64 n, .string x, .slice a m c, .func (.func f) #[] #[.pointer (some ⟨p, 0, none⟩), .pointer (some ⟨p2, 0, none⟩)]] 121) from (set_at HM0.out 5 _).trans (by simp))
  have HX := hid (show Ext w (M.setCell ⟨w.heap.size, 5, none⟩ (.func (.func f) #[] #[.pointer (some ⟨p, 0, none⟩), .pointer (some ⟨p2, 0, none⟩)])) from Kp.extOf XM.out (Kp.set M w.heap.size 5 _ (fun h => h rfl)) (Nat.le_refl _))
  obtain ⟨s0, s1, s2, s3, s4, s5⟩ := jsix_of HS.out
  go_enter Tryz.func61, Tryz.ntmps61
  go_wp2_with fail
  refine (HC.out _ HX.out).mono ?_
  rintro e w1 ⟨v, rfl, hq, hx⟩
  have HQ := hid hq
  have X1 := hid (HX.out.trans hx)
  clear hq hx
  go_wp2_with fail
  go_ret
  exact ⟨v, rfl, HQ.out, X1.out⟩

end Go.Proofs.YtaafcmmmkalgjaaGreatDoor.Nd
/-
  What the makers of the kit base's kinds make; by contracts.
-/
namespace Go.Proofs.YtaafcmmmkalgjaaGreatDoor.Nd
open Go.RowKit
theorem bNum (b : Nat) (k : Int) (w : World) (h : w.cell? ⟨b, 2, none⟩ = some (.int .i64 k)) : Calls Tryz.prog 115 #[.pointer (some ⟨b, 0, none⟩)] w fun e w' => e = .returned (.int .i64 k) ∧ w' = w := by
  go_enter Tryz.func115, Tryz.ntmps115
  go_wp2
  go_ret
  exact ⟨rfl, rfl⟩
theorem bText (b : Nat) (k : ByteArray) (w : World) (h : w.cell? ⟨b, 3, none⟩ = some (.string k)) : Calls Tryz.prog 117 #[.pointer (some ⟨b, 0, none⟩)] w fun e w' => e = .returned (.string k) ∧ w' = w := by
  go_enter Tryz.func117, Tryz.ntmps117
  go_wp2
  go_ret
  exact ⟨rfl, rfl⟩
/-- A literal's block. -/
abbrev LitAt (w : World) (b : Nat) (k : ByteArray) (n : Int) (x : ByteArray) (kv mk v : Value) : Prop := w.heap[b]? = some (.cells #[.string k, .string k, .int .i64 n, .string x, kv, mk, v] 230)
theorem lit_of (k x : ByteArray) (n : Int) (a : Option Addr) (m c f g : Nat) (vt : TypeId) (vv : Value) (w : World) : Calls Tryz.prog 110 #[baseV k x n a m c (.func (.func f) #[] #[.pointer (some ⟨g, 0, none⟩)]), .iface vt vv] w fun e w' => ∃ b, e = .returned (.iface 226 (.pointer (some ⟨b, 0, none⟩))) ∧ w.heap.size ≤ b ∧ LitAt w' b k n x (.slice a m c) (.func (.func f) #[] #[.pointer (some ⟨g, 0, none⟩)]) (.iface vt vv) ∧ Ext w w' := by
  go_enter Tryz.func110, Tryz.ntmps110
  go_wp2_with fail
  go_ret
  exact ⟨_, rfl, Nat.le_succ _, blk1 _ _ _, Ext.alloc2 _ _ _⟩
def tyK : Nat → TypeId
  | 5 => 232
  | 6 => 235
  | _ => 226
def worthV (n : Int) (x : ByteArray) : Nat → Value
  | 0 => .iface 172 (.agg #[])
  | 1 => .iface 173 (.bool true)
  | 2 => .iface 173 (.bool false)
  | 3 => .iface 83 (.int .i64 n)
  | 4 => .iface 174 (.string x)
  | _ => .nilIface
/-- A node of the j-th kind of the kit base. -/
def NodeK (j : Nat) (k : ByteArray) (n : Int) (x : ByteArray) (kv : Value) (B : Nat) (v : Value) (w' : World) : Prop := ∃ b, v = .iface (tyK j) (.pointer (some ⟨b, 0, none⟩)) ∧ B ≤ b ∧ NodeB w' b k n x kv ∧ (j < 5 → LitW w' b (worthV n x j))
def capV (g j : Nat) : Array Value := if capK j = true then #[.pointer (some ⟨g, 0, none⟩)] else #[]
theorem bareK : ∀ j, j < 7 → Bare (tyK j)
  | 0, _ => fun v xT w => isLitWrapped v xT w
  | 1, _ => fun v xT w => isLitWrapped v xT w
  | 2, _ => fun v xT w => isLitWrapped v xT w
  | 3, _ => fun v xT w => isLitWrapped v xT w
  | 4, _ => fun v xT w => isLitWrapped v xT w
  | 5, _ => fun v xT w => isVarWrapped v xT w
  | 6, _ => fun v xT w => isFraWrapped v xT w
  | n + 7, h => absurd h (by omega)
theorem enterK0 : EntersF 111 := fun a w => by simp [callFunc, go_sem, Tryz.func111]; rfl
set_option maxRecDepth 100000 in
set_option maxHeartbeats 1000000 in
theorem mkK0 (k x : ByteArray) (n : Int) (a : Option Addr) (m c g : Nat) (w : World) (hg : OfAt w g) : Calls Tryz.prog 111 #[baseV k x n a m c (.func (.func 111) #[] #[.pointer (some ⟨g, 0, none⟩)]), .pointer (some ⟨g, 0, none⟩)] w fun e w' => ∃ v, e = .returned v ∧ NodeK 0 k n x (.slice a m c) w.heap.size v w' ∧ Ext w w' := by
  obtain ⟨M, hM⟩ : ∃ M, w.alloc (.cells #[.string k, .string k, .int .i64 n, .string x, .slice a m c, (.func (.func 111) #[] #[.pointer (some ⟨g, 0, none⟩)])] 121) = M := ⟨_, rfl⟩
  have XM := hid (show Ext w M from hM ▸ Ext.alloc _ _)
  have HM0 := hid (show M.heap[w.heap.size]? = some (.cells #[.string k, .string k, .int .i64 n, .string x, .slice a m c, (.func (.func 111) #[] #[.pointer (some ⟨g, 0, none⟩)])] 121) from hM ▸ blk0 _ _)
  obtain ⟨t0, t1, t2, t3, t4, t5⟩ := jsix_of HM0.out
  have hgc : M.cell? ⟨g, 0, none⟩ = some (.func (.func 110) #[] #[]) := cell_of (XM.out.block hg) rfl
  have hgl := lt_of_cell hgc
  go_enter Tryz.func111, Tryz.ntmps111
  go_wp2_with fail
  first | rw [hM] | skip
  clear hM
  refine (lit_of k x n a m c 111 g _ _ _).mono ?_
  rintro r u1 ⟨b, rfl, hb, hl, hy⟩
  have HB := hid hb
  have HL := hid hl
  have Z1 := hid hy
  clear hb hl hy
  go_wp2_with fail
  go_ret
  exact ⟨_, rfl, ⟨b, rfl, Nat.le_trans XM.out.size HB.out, ⟨_, _, HL.out, rfl, rfl, rfl, rfl, rfl⟩, fun _ => cell_of HL.out rfl⟩, XM.out.trans Z1.out⟩
theorem enterK1 : EntersF 112 := fun a w => by simp [callFunc, go_sem, Tryz.func112]; rfl
set_option maxRecDepth 100000 in
set_option maxHeartbeats 1000000 in
theorem mkK1 (k x : ByteArray) (n : Int) (a : Option Addr) (m c g : Nat) (w : World) (hg : OfAt w g) : Calls Tryz.prog 112 #[baseV k x n a m c (.func (.func 112) #[] #[.pointer (some ⟨g, 0, none⟩)]), .pointer (some ⟨g, 0, none⟩)] w fun e w' => ∃ v, e = .returned v ∧ NodeK 1 k n x (.slice a m c) w.heap.size v w' ∧ Ext w w' := by
  obtain ⟨M, hM⟩ : ∃ M, w.alloc (.cells #[.string k, .string k, .int .i64 n, .string x, .slice a m c, (.func (.func 112) #[] #[.pointer (some ⟨g, 0, none⟩)])] 121) = M := ⟨_, rfl⟩
  have XM := hid (show Ext w M from hM ▸ Ext.alloc _ _)
  have HM0 := hid (show M.heap[w.heap.size]? = some (.cells #[.string k, .string k, .int .i64 n, .string x, .slice a m c, (.func (.func 112) #[] #[.pointer (some ⟨g, 0, none⟩)])] 121) from hM ▸ blk0 _ _)
  obtain ⟨t0, t1, t2, t3, t4, t5⟩ := jsix_of HM0.out
  have hgc : M.cell? ⟨g, 0, none⟩ = some (.func (.func 110) #[] #[]) := cell_of (XM.out.block hg) rfl
  have hgl := lt_of_cell hgc
  go_enter Tryz.func112, Tryz.ntmps112
  go_wp2_with fail
  first | rw [hM] | skip
  clear hM
  refine (lit_of k x n a m c 112 g _ _ _).mono ?_
  rintro r u1 ⟨b, rfl, hb, hl, hy⟩
  have HB := hid hb
  have HL := hid hl
  have Z1 := hid hy
  clear hb hl hy
  go_wp2_with fail
  go_ret
  exact ⟨_, rfl, ⟨b, rfl, Nat.le_trans XM.out.size HB.out, ⟨_, _, HL.out, rfl, rfl, rfl, rfl, rfl⟩, fun _ => cell_of HL.out rfl⟩, XM.out.trans Z1.out⟩
theorem enterK2 : EntersF 113 := fun a w => by simp [callFunc, go_sem, Tryz.func113]; rfl
set_option maxRecDepth 100000 in
set_option maxHeartbeats 1000000 in
theorem mkK2 (k x : ByteArray) (n : Int) (a : Option Addr) (m c g : Nat) (w : World) (hg : OfAt w g) : Calls Tryz.prog 113 #[baseV k x n a m c (.func (.func 113) #[] #[.pointer (some ⟨g, 0, none⟩)]), .pointer (some ⟨g, 0, none⟩)] w fun e w' => ∃ v, e = .returned v ∧ NodeK 2 k n x (.slice a m c) w.heap.size v w' ∧ Ext w w' := by
  obtain ⟨M, hM⟩ : ∃ M, w.alloc (.cells #[.string k, .string k, .int .i64 n, .string x, .slice a m c, (.func (.func 113) #[] #[.pointer (some ⟨g, 0, none⟩)])] 121) = M := ⟨_, rfl⟩
  have XM := hid (show Ext w M from hM ▸ Ext.alloc _ _)
  have HM0 := hid (show M.heap[w.heap.size]? = some (.cells #[.string k, .string k, .int .i64 n, .string x, .slice a m c, (.func (.func 113) #[] #[.pointer (some ⟨g, 0, none⟩)])] 121) from hM ▸ blk0 _ _)
  obtain ⟨t0, t1, t2, t3, t4, t5⟩ := jsix_of HM0.out
  have hgc : M.cell? ⟨g, 0, none⟩ = some (.func (.func 110) #[] #[]) := cell_of (XM.out.block hg) rfl
  have hgl := lt_of_cell hgc
  go_enter Tryz.func113, Tryz.ntmps113
  go_wp2_with fail
  first | rw [hM] | skip
  clear hM
  refine (lit_of k x n a m c 113 g _ _ _).mono ?_
  rintro r u1 ⟨b, rfl, hb, hl, hy⟩
  have HB := hid hb
  have HL := hid hl
  have Z1 := hid hy
  clear hb hl hy
  go_wp2_with fail
  go_ret
  exact ⟨_, rfl, ⟨b, rfl, Nat.le_trans XM.out.size HB.out, ⟨_, _, HL.out, rfl, rfl, rfl, rfl, rfl⟩, fun _ => cell_of HL.out rfl⟩, XM.out.trans Z1.out⟩
theorem enterK3 : EntersF 114 := fun a w => by simp [callFunc, go_sem, Tryz.func114]; rfl
set_option maxRecDepth 100000 in
set_option maxHeartbeats 1000000 in
theorem mkK3 (k x : ByteArray) (n : Int) (a : Option Addr) (m c g : Nat) (w : World) (hg : OfAt w g) : Calls Tryz.prog 114 #[baseV k x n a m c (.func (.func 114) #[] #[.pointer (some ⟨g, 0, none⟩)]), .pointer (some ⟨g, 0, none⟩)] w fun e w' => ∃ v, e = .returned v ∧ NodeK 3 k n x (.slice a m c) w.heap.size v w' ∧ Ext w w' := by
  obtain ⟨M, hM⟩ : ∃ M, w.alloc (.cells #[.string k, .string k, .int .i64 n, .string x, .slice a m c, (.func (.func 114) #[] #[.pointer (some ⟨g, 0, none⟩)])] 121) = M := ⟨_, rfl⟩
  have XM := hid (show Ext w M from hM ▸ Ext.alloc _ _)
  have HM0 := hid (show M.heap[w.heap.size]? = some (.cells #[.string k, .string k, .int .i64 n, .string x, .slice a m c, (.func (.func 114) #[] #[.pointer (some ⟨g, 0, none⟩)])] 121) from hM ▸ blk0 _ _)
  obtain ⟨t0, t1, t2, t3, t4, t5⟩ := jsix_of HM0.out
  have hgc : M.cell? ⟨g, 0, none⟩ = some (.func (.func 110) #[] #[]) := cell_of (XM.out.block hg) rfl
  have hgl := lt_of_cell hgc
  go_enter Tryz.func114, Tryz.ntmps114
  have HSK := hid (show ∀ W', Ext M W' → (W'.cell? ⟨g, 0, none⟩ = some (.func (.func 110) #[] #[]) ∧ W'.cell? ⟨w.heap.size, 0, none⟩ = some (.string k) ∧ W'.cell? ⟨w.heap.size, 1, none⟩ = some (.string k) ∧ W'.cell? ⟨w.heap.size, 2, none⟩ = some (.int .i64 n) ∧ W'.cell? ⟨w.heap.size, 3, none⟩ = some (.string x) ∧ W'.cell? ⟨w.heap.size, 4, none⟩ = some (.slice a m c) ∧ W'.cell? ⟨w.heap.size, 5, none⟩ = some (.func (.func 114) #[] #[.pointer (some ⟨g, 0, none⟩)])) from fun W' X => by
    obtain ⟨s0, s1, s2, s3, s4, s5⟩ := jsix_of (X.block HM0.out)
    exact ⟨(X.kp (fun _ => True)).cell hgc trivial, s0, s1, s2, s3, s4, s5⟩)
  have HNM := hid (fun W' X => bNum w.heap.size n W' (HSK.out W' X).2.2.2.1)
  go_upto_region 1 with fail
  first | rw [hM] | skip
  clear hM t0 t1 t2 t3 t4 t5 hgc
  go_region_held3 (fun W' => W'.cell? ⟨g, 0, none⟩ = some (.func (.func 110) #[] #[]) ∧ W'.cell? ⟨w.heap.size, 0, none⟩ = some (.string k) ∧ W'.cell? ⟨w.heap.size, 1, none⟩ = some (.string k) ∧ W'.cell? ⟨w.heap.size, 2, none⟩ = some (.int .i64 n) ∧ W'.cell? ⟨w.heap.size, 3, none⟩ = some (.string x) ∧ W'.cell? ⟨w.heap.size, 4, none⟩ = some (.slice a m c) ∧ W'.cell? ⟨w.heap.size, 5, none⟩ = some (.func (.func 114) #[] #[.pointer (some ⟨g, 0, none⟩)]))
    (first | with_reducible exact HSK.out _ (Ext.refl _) | with_reducible exact HSK.out _ (Ext.refl _).drew | with_reducible exact HSK.out _ Z1 | go_keep)
    (first
      | (go_at_call 115; refine (HNM.out _ (by repeat (first | with_reducible exact Ext.refl _ | with_reducible refine Ext.drew ?_))).mono ?_; rintro r u0 ⟨rfl, rfl⟩)
      | (go_at_call 110; refine (lit_of k x n a m c 114 g _ _ _).mono ?_; rintro r u1 ⟨b, rfl, hb, hl, hy⟩; have Z1 : Ext M u1 := Ext.trans (by repeat (first | with_reducible exact Ext.refl _ | with_reducible refine Ext.drew ?_)) hy; have HB := hid hb; have HL := hid hl))
  all_goals
    go_wp2_with fail
    go_ret
    exact ⟨_, rfl, ⟨b, rfl, Nat.le_trans XM.out.size HB.out, ⟨_, _, HL.out, rfl, rfl, rfl, rfl, rfl⟩, fun _ => cell_of HL.out rfl⟩, XM.out.trans Z1⟩
theorem enterK4 : EntersF 116 := fun a w => by simp [callFunc, go_sem, Tryz.func116]; rfl
set_option maxRecDepth 100000 in
set_option maxHeartbeats 1000000 in
theorem mkK4 (k x : ByteArray) (n : Int) (a : Option Addr) (m c g : Nat) (w : World) (hg : OfAt w g) : Calls Tryz.prog 116 #[baseV k x n a m c (.func (.func 116) #[] #[.pointer (some ⟨g, 0, none⟩)]), .pointer (some ⟨g, 0, none⟩)] w fun e w' => ∃ v, e = .returned v ∧ NodeK 4 k n x (.slice a m c) w.heap.size v w' ∧ Ext w w' := by
  obtain ⟨M, hM⟩ : ∃ M, w.alloc (.cells #[.string k, .string k, .int .i64 n, .string x, .slice a m c, (.func (.func 116) #[] #[.pointer (some ⟨g, 0, none⟩)])] 121) = M := ⟨_, rfl⟩
  have XM := hid (show Ext w M from hM ▸ Ext.alloc _ _)
  have HM0 := hid (show M.heap[w.heap.size]? = some (.cells #[.string k, .string k, .int .i64 n, .string x, .slice a m c, (.func (.func 116) #[] #[.pointer (some ⟨g, 0, none⟩)])] 121) from hM ▸ blk0 _ _)
  obtain ⟨t0, t1, t2, t3, t4, t5⟩ := jsix_of HM0.out
  have hgc : M.cell? ⟨g, 0, none⟩ = some (.func (.func 110) #[] #[]) := cell_of (XM.out.block hg) rfl
  have hgl := lt_of_cell hgc
  go_enter Tryz.func116, Tryz.ntmps116
  have HSK := hid (show ∀ W', Ext M W' → (W'.cell? ⟨g, 0, none⟩ = some (.func (.func 110) #[] #[]) ∧ W'.cell? ⟨w.heap.size, 0, none⟩ = some (.string k) ∧ W'.cell? ⟨w.heap.size, 1, none⟩ = some (.string k) ∧ W'.cell? ⟨w.heap.size, 2, none⟩ = some (.int .i64 n) ∧ W'.cell? ⟨w.heap.size, 3, none⟩ = some (.string x) ∧ W'.cell? ⟨w.heap.size, 4, none⟩ = some (.slice a m c) ∧ W'.cell? ⟨w.heap.size, 5, none⟩ = some (.func (.func 116) #[] #[.pointer (some ⟨g, 0, none⟩)])) from fun W' X => by
    obtain ⟨s0, s1, s2, s3, s4, s5⟩ := jsix_of (X.block HM0.out)
    exact ⟨(X.kp (fun _ => True)).cell hgc trivial, s0, s1, s2, s3, s4, s5⟩)
  have HNM := hid (fun W' X => bText w.heap.size x W' (HSK.out W' X).2.2.2.2.1)
  go_upto_region 1 with fail
  first | rw [hM] | skip
  clear hM t0 t1 t2 t3 t4 t5 hgc
  go_region_held3 (fun W' => W'.cell? ⟨g, 0, none⟩ = some (.func (.func 110) #[] #[]) ∧ W'.cell? ⟨w.heap.size, 0, none⟩ = some (.string k) ∧ W'.cell? ⟨w.heap.size, 1, none⟩ = some (.string k) ∧ W'.cell? ⟨w.heap.size, 2, none⟩ = some (.int .i64 n) ∧ W'.cell? ⟨w.heap.size, 3, none⟩ = some (.string x) ∧ W'.cell? ⟨w.heap.size, 4, none⟩ = some (.slice a m c) ∧ W'.cell? ⟨w.heap.size, 5, none⟩ = some (.func (.func 116) #[] #[.pointer (some ⟨g, 0, none⟩)]))
    (first | with_reducible exact HSK.out _ (Ext.refl _) | with_reducible exact HSK.out _ (Ext.refl _).drew | with_reducible exact HSK.out _ Z1 | go_keep)
    (first
      | (go_at_call 117; refine (HNM.out _ (by repeat (first | with_reducible exact Ext.refl _ | with_reducible refine Ext.drew ?_))).mono ?_; rintro r u0 ⟨rfl, rfl⟩)
      | (go_at_call 110; refine (lit_of k x n a m c 116 g _ _ _).mono ?_; rintro r u1 ⟨b, rfl, hb, hl, hy⟩; have Z1 : Ext M u1 := Ext.trans (by repeat (first | with_reducible exact Ext.refl _ | with_reducible refine Ext.drew ?_)) hy; have HB := hid hb; have HL := hid hl))
  all_goals
    go_wp2_with fail
    go_ret
    exact ⟨_, rfl, ⟨b, rfl, Nat.le_trans XM.out.size HB.out, ⟨_, _, HL.out, rfl, rfl, rfl, rfl, rfl⟩, fun _ => cell_of HL.out rfl⟩, XM.out.trans Z1⟩
theorem enterK5 : EntersF 118 := fun a w => by simp [callFunc, go_sem, Tryz.func118]; rfl
theorem mkK5 (k x : ByteArray) (n : Int) (a : Option Addr) (m c : Nat) (w : World) : Calls Tryz.prog 118 #[baseV k x n a m c (.func (.func 118) #[] #[])] w fun e w' => ∃ v, e = .returned v ∧ NodeK 5 k n x (.slice a m c) w.heap.size v w' ∧ Ext w w' := by
  go_enter Tryz.func118, Tryz.ntmps118
  go_wp2_with fail
  go_ret
  exact ⟨_, rfl, ⟨_, rfl, Nat.le_succ _, ⟨_, _, blk1 _ _ _, rfl, rfl, rfl, rfl, rfl⟩, fun h => absurd h (by decide)⟩, Ext.alloc2 _ _ _⟩
theorem enterK6 : EntersF 119 := fun a w => by simp [callFunc, go_sem, Tryz.func119]; rfl
theorem mkK6 (k x : ByteArray) (n : Int) (a : Option Addr) (m c : Nat) (w : World) : Calls Tryz.prog 119 #[baseV k x n a m c (.func (.func 119) #[] #[])] w fun e w' => ∃ v, e = .returned v ∧ NodeK 6 k n x (.slice a m c) w.heap.size v w' ∧ Ext w w' := by
  go_enter Tryz.func119, Tryz.ntmps119
  go_wp2_with fail
  go_ret
  exact ⟨_, rfl, ⟨_, rfl, Nat.le_succ _, ⟨_, _, blk1 _ _ _, rfl, rfl, rfl, rfl, rfl⟩, fun h => absurd h (by decide)⟩, Ext.alloc2 _ _ _⟩
theorem NodeK.later {j : Nat} {k x : ByteArray} {n : Int} {kv v : Value} {B : Nat} {w w' : World} (h : NodeK j k n x kv B v w) (hx : Ext w w') : NodeK j k n x kv B v w' := by
  obtain ⟨b, e, hb, hn, hl⟩ := h
  exact ⟨b, e, hb, hn.later hx, fun hj => (hl hj).later hx⟩
theorem NodeK.base {j : Nat} {k x : ByteArray} {n : Int} {kv v : Value} {B B' : Nat} {w : World} (h : NodeK j k n x kv B v w) (hb : B' ≤ B) : NodeK j k n x kv B' v w := by
  obtain ⟨b, e, hb', hn, hl⟩ := h
  exact ⟨b, e, Nat.le_trans hb hb', hn, hl⟩
/-- part.Make of a kind's maker. -/
theorem pmakeK : ∀ j, j < 7 → ∀ (k x : ByteArray) (n : Int) (a : Option Addr) (m c g : Nat) (w : World), OfAt w g → Calls Tryz.prog 61 #[baseV k x n a m c .nilFunc, mkK g j] w fun e w' => ∃ v, e = .returned v ∧ NodeK j k n x (.slice a m c) w.heap.size v w' ∧ Ext w w'
  | 0, _ => fun k x n a m c g w hg => pmake1 111 enterK0 g k x n a m c (NodeK 0 k n x (.slice a m c) w.heap.size) w (fun w1 hx => (mkK0 k x n a m c g w1 (hx.block hg)).mono fun e w' ⟨v, he, hv, hy⟩ => ⟨v, he, hv.base hx.size, hy⟩)
  | 1, _ => fun k x n a m c g w hg => pmake1 112 enterK1 g k x n a m c (NodeK 1 k n x (.slice a m c) w.heap.size) w (fun w1 hx => (mkK1 k x n a m c g w1 (hx.block hg)).mono fun e w' ⟨v, he, hv, hy⟩ => ⟨v, he, hv.base hx.size, hy⟩)
  | 2, _ => fun k x n a m c g w hg => pmake1 113 enterK2 g k x n a m c (NodeK 2 k n x (.slice a m c) w.heap.size) w (fun w1 hx => (mkK2 k x n a m c g w1 (hx.block hg)).mono fun e w' ⟨v, he, hv, hy⟩ => ⟨v, he, hv.base hx.size, hy⟩)
  | 3, _ => fun k x n a m c g w hg => pmake1 114 enterK3 g k x n a m c (NodeK 3 k n x (.slice a m c) w.heap.size) w (fun w1 hx => (mkK3 k x n a m c g w1 (hx.block hg)).mono fun e w' ⟨v, he, hv, hy⟩ => ⟨v, he, hv.base hx.size, hy⟩)
  | 4, _ => fun k x n a m c g w hg => pmake1 116 enterK4 g k x n a m c (NodeK 4 k n x (.slice a m c) w.heap.size) w (fun w1 hx => (mkK4 k x n a m c g w1 (hx.block hg)).mono fun e w' ⟨v, he, hv, hy⟩ => ⟨v, he, hv.base hx.size, hy⟩)
  | 5, _ => fun k x n a m c g w hg => pmake0 118 enterK5 k x n a m c (NodeK 5 k n x (.slice a m c) w.heap.size) w (fun w1 hx => (mkK5 k x n a m c w1).mono fun e w' ⟨v, he, hv, hy⟩ => ⟨v, he, hv.base hx.size, hy⟩)
  | 6, _ => fun k x n a m c g w hg => pmake0 119 enterK6 k x n a m c (NodeK 6 k n x (.slice a m c) w.heap.size) w (fun w1 hx => (mkK6 k x n a m c w1).mono fun e w' ⟨v, he, hv, hy⟩ => ⟨v, he, hv.base hx.size, hy⟩)
  | n + 7, h => absurd h (by omega)

end Go.Proofs.YtaafcmmmkalgjaaGreatDoor.Nd
