/-
  node.Nodes of a list of handles that hold nodes: the nodes in a list of its own; by contracts.
-/
import Derived.Test.YtnmcmjgfnncdmaaGreatDoorZzBMake
import Derived.Maps.AppendAt
import Derived.Deep.LoopGhost
namespace Go.Proofs.YtnmcmjgfnncdmaaGreatDoor.Nd
open Go.RowKit
theorem node_cell (b : Nat) (n : Value) (w : World) (h : w.cell? ⟨b, 0, none⟩ = some n) : Calls Tryz.prog 63 #[.pointer (some ⟨b, 0, none⟩)] w fun e w' => e = .returned n ∧ w' = w := by
  go_enter Tryz.func63, Tryz.ntmps63
  go_wp2
  go_ret
  exact ⟨rfl, rfl⟩
theorem ndInfo : (Tryz.prog.info? 65).map (fun i => (i.zero, i.size, i.bytes)) = some (some .nilIface, 1, 16) := by kernel_rfl
/-- A list of handles in memory, each with its node. -/
def Hands (w : World) (a off n : Nat) (t : Nat → TypeId) (v : Nat → Value) : Prop := ∀ i, i < n → ∃ h, w.cell? ⟨a, off + i, none⟩ = some (.pointer (some ⟨h, 0, none⟩)) ∧ w.cell? ⟨h, 0, none⟩ = some (.iface (t i) (v i)) ∧ a < w.heap.size ∧ h < w.heap.size
theorem Hands.later {w w' : World} {a off n : Nat} {t : Nat → TypeId} {v : Nat → Value} (h : Hands w a off n t v) (hx : Ext w w') : Hands w' a off n t v := by
  intro i hi
  obtain ⟨k, h1, h2, h3, h4⟩ := h i hi
  exact ⟨k, (hx.kp (fun _ => True)).cell h1 trivial, (hx.kp (fun _ => True)).cell h2 trivial, Nat.lt_of_lt_of_le h3 hx.size, Nat.lt_of_lt_of_le h4 hx.size⟩
theorem new_one (w : World) (v : Value) (t : TypeId) : ∀ (j : Nat) (u : Value), [v][j]? = some u → (w.alloc (.cells #[v] t)).cell? (Addr.add ⟨w.heap.size, 0, none⟩ j) = some u := by
  intro j u hu
  have : Addr.add ⟨w.heap.size, 0, none⟩ j = ⟨w.heap.size, j, none⟩ := by unfold Addr.add; cases j <;> simp
  rw [this]
  exact cell_of (blk0 _ _) (by simpa using hu)
/-- A list of handles, or none. -/
def HandsO (w : World) (ao : Option Addr) (n : Nat) (t : Nat → TypeId) (v : Nat → Value) : Prop := n = 0 ∨ ∃ a off, ao = some ⟨a, off, none⟩ ∧ Hands w a off n t v
theorem HandsO.later {w w' : World} {ao : Option Addr} {n : Nat} {t : Nat → TypeId} {v : Nat → Value} (h : HandsO w ao n t v) (hx : Ext w w') : HandsO w' ao n t v := h.imp id fun ⟨a, off, e, hh⟩ => ⟨a, off, e, hh.later hx⟩
theorem nil_iface (t : TypeId) (v : Value) (w : World) : (binOp .eql 65 (.iface t v) .nilIface).run Tryz.prog w = .ok (.bool false) w := by kernel_rfl
set_option maxRecDepth 100000 in
set_option maxHeartbeats 2000000 in
theorem knodesOf_any (ao : Option Addr) (n c : Nat) (t : Nat → TypeId) (v : Nat → Value) (w : World) (hn : n ≤ 100000) (hh : HandsO w ao n t v) : Calls Tryz.prog 65 #[.slice ao n c] w fun e w' => ∃ q, e = .returned (.tuple #[q, .bool true]) ∧ w'.ownsRow w.heap.size 65 1 q n ((List.range n).map fun i => .iface (t i) (v i)) ∧ Ext w w' := by
  obtain ⟨i0, hi0, hz0, hz1, hz2⟩ := info_parts ndInfo
  have HH := hid hh
  clear hh
  go_enter Tryz.func65, Tryz.ntmps65
  go_wp2_with fail
  go_loopg [4, 10] n (fun g q3 q8 wr => ∃ j : Nat, j + g = n ∧ q8 = .int .i64 j ∧ wr.ownsRow w.heap.size 65 1 q3 j ((List.range j).map fun i => .iface (t i) (v i)) ∧ Ext w wr)
  case atStart => exact ⟨0, by omega, rfl, World.ownsRow_nil _ _ _ _, Ext.refl _⟩
  case round =>
    obtain ⟨j, hj, rfl, hown, hx⟩ := hrel
    obtain ⟨a3, c3, rfl⟩ := ownsRow_slice hown
    have HOW := hid hown
    have XR := hid hx
    clear hown hx
    by_cases hlt : j < n
    · have hlt' : (j : Int) < n := by omega
      rcases HH.out.later XR.out with h0 | ⟨a, off, rfl, hhs⟩
      · omega
      obtain ⟨h, p0, p1, hl1, hl2⟩ := hhs j hlt
      clear hhs
      generalize htj : t j = tj at *
      generalize hvj : v j = vj at *
      have HTJ := hid htj
      have HVJ := hid hvj
      clear htj hvj
      have HO2 := hid (row_ext HOW.out (Ext.alloc wr (.cells #[.iface tj vj] 65)))
      have HN := hid (new_one wr (.iface tj vj) 65)
      have HUS := hid XR.out.size
      have hnil := nil_iface tj vj
      go_wp2_with fail
      refine (node_cell h _ _ p1).mono ?_
      rintro e w7 ⟨rfl, hw7⟩
      rw [hw7]
      clear hw7 w7
      go_wp2_with (at_builtin; refine wpList_append_own_at _ rfl _ _ 131 rfl w.heap.size 65 i0 .nilIface 1 16 Tryz.underlying131 hi0 hz0 hz1 hz2 rfl (by decide) _ _ _ rfl HO2.out ⟨wr.heap.size, 0, none⟩ 1 1 [.iface tj vj] rfl rfl HN.out (by simp [Value.oneCell']) (by unfold maxLen; omega) (by omega) (by have := HUS.out; simp; omega) ?_; intro v9 w9 hown9 hgrow9 _ _; have HO9 := hid hown9; have HG9 := hid hgrow9; clear hown9 hgrow9)
      go_roundg (n - (j + 1))
      case measure => omega
      case rel =>
        refine ⟨j + 1, by omega, by go_num, ?_, (XR.out.more _).grown HG9.out (by have := XR.out.size; simp; omega) (fun k hk => (HO2.out.lt k hk).1)⟩
        rw [List.range_succ, List.map_append, List.map_cons, List.map_nil, HTJ.out, HVJ.out]
        exact HO9.out
    · have hje : j = n := by omega
      subst hje
      go_wp2_with fail
      go_ret2
      exact ⟨_, rfl, HOW.out, XR.out⟩
end Go.Proofs.YtnmcmjgfnncdmaaGreatDoor.Nd
