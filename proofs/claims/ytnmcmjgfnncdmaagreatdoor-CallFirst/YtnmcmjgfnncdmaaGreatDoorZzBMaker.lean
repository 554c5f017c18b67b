/-
  What the maker of a kit by a table does: the base with its kids, the kind's node, its handle; by contracts.
-/
import Derived.Test.YtnmcmjgfnncdmaaGreatDoorZzBNew
import Derived.Test.YtnmcmjgfnncdmaaGreatDoorZzBFind
import Derived.Deep.RegionHeld3
namespace Go.Proofs.YtnmcmjgfnncdmaaGreatDoor.Nd
open Go.RowKit
/-- A node in memory: its kind, number, text and kids. -/
def NodeB (w : World) (b : Nat) (k : ByteArray) (n : Int) (x : ByteArray) (kv : Value) : Prop := ∃ cs ty, w.heap[b]? = some (.cells cs ty) ∧ cs[0]? = some (.string k) ∧ cs[1]? = some (.int .i64 n) ∧ cs[2]? = some (.string x) ∧ cs[3]? = some kv
theorem NodeB.later {w w' : World} {b : Nat} {k : ByteArray} {n : Int} {x : ByteArray} {kv : Value} (h : NodeB w b k n x kv) (hx : Ext w w') : NodeB w' b k n x kv := by
  obtain ⟨cs, ty, hb, hr⟩ := h
  exact ⟨cs, ty, hx.block hb, hr⟩
theorem NodeB.cells {w : World} {b : Nat} {k : ByteArray} {n : Int} {x : ByteArray} {kv : Value} (h : NodeB w b k n x kv) : w.cell? ⟨b, 0, none⟩ = some (.string k) ∧ w.cell? ⟨b, 1, none⟩ = some (.int .i64 n) ∧ w.cell? ⟨b, 2, none⟩ = some (.string x) ∧ w.cell? ⟨b, 3, none⟩ = some kv := by
  obtain ⟨cs, ty, hb, h0, h1, h2, h3⟩ := h
  exact ⟨cell_of hb h0, cell_of hb h1, cell_of hb h2, cell_of hb h3⟩
/-- What a type must not be: a wrapper. -/
def Bare (τ : TypeId) : Prop := ∀ (v : Value) (xT : TypeId) (w : World), (Instr.typeAssert (.iface τ v) xT 318 true).run Tryz.prog w = .ok (.tuple #[.nilIface, .bool false]) w
theorem coreOf_gen (τ : TypeId) (hW : Bare τ) (v : Value) (w : World) : Calls Tryz.prog 178 #[.iface τ v] w fun e w' => e = .returned (.iface τ v) ∧ w' = w := by
  unfold Bare at hW
  go_enter Tryz.func178, Tryz.ntmps178
  go_wp2
  refine wp_loop_rounds 1 ?_
  rw [rounds_succ]
  go_wp2
  go_ret
  exact ⟨rfl, rfl⟩
theorem hold_gen (τ : TypeId) (hW : Bare τ) (v : Value) (w : World) : Calls Tryz.prog 125 #[.iface τ v] w fun e w' => e = .returned (.pointer (some ⟨w.heap.size, 0, none⟩)) ∧ HandAt w' w.heap.size (.iface τ v) (.iface τ v) ∧ Ext w w' := by
  have HC := hid (fun w => coreOf_gen τ hW v w)
  have hnil := nil_iface τ v
  clear hW
  go_enter Tryz.func125, Tryz.ntmps125
  go_wp2_with fail
  refine (HC.out _).mono ?_
  rintro r w1 ⟨rfl, rfl⟩
  go_wp2_with fail
  go_ret
  exact ⟨rfl, blk0 _ _, Ext.alloc _ _⟩
/-- What a maker of a kind's nodes does. -/
def MakerR (m : Nat) (τ : TypeId) : Prop := ∀ (k x sg : ByteArray) (n : Int) (a : Option Addr) (l c : Nat) (w : World), Calls Tryz.prog m #[.agg #[.string k, .int .i64 n, .string x, .slice a l c], .string sg] w fun e w' => ∃ b, e = .returned (.iface τ (.pointer (some ⟨b, 0, none⟩))) ∧ w.heap.size ≤ b ∧ NodeB w' b k n x (.slice a l c) ∧ Ext w w'
theorem bareBy : Bare 289 := fun v xT w => isByWrapped v xT w
theorem makerBy : MakerR 128 289 := by
  intro k x sg n a l c w
  go_enter Tryz.func128, Tryz.ntmps128
  go_wp2_with fail
  go_ret
  exact ⟨_, rfl, Nat.le_succ _, ⟨_, _, blk1 _ _ _, rfl, rfl, rfl, rfl⟩, Ext.alloc2 _ _ _⟩
theorem enterBy (a : Array Value) (w : World) : (callFunc 128 a).run Tryz.prog w = .ok (.enter 128 a) w := by simp [callFunc, go_sem, Tryz.func128]; rfl
theorem bareTo : Bare 286 := fun v xT w => isToWrapped v xT w
theorem makerTo : MakerR 127 286 := by
  intro k x sg n a l c w
  go_enter Tryz.func127, Tryz.ntmps127
  go_wp2_with fail
  go_ret
  exact ⟨_, rfl, Nat.le_succ _, ⟨_, _, blk1 _ _ _, rfl, rfl, rfl, rfl⟩, Ext.alloc2 _ _ _⟩
theorem enterTo (a : Array Value) (w : World) : (callFunc 127 a).run Tryz.prog w = .ok (.enter 127 a) w := by simp [callFunc, go_sem, Tryz.func127]; rfl
theorem bareLz : Bare 351 := fun v xT w => isLzWrapped v xT w
theorem makerLz : MakerR 145 351 := by
  intro k x sg n a l c w
  go_enter Tryz.func145, Tryz.ntmps145
  go_wp2_with fail
  go_ret
  exact ⟨_, rfl, Nat.le_succ _, ⟨_, _, blk1 _ _ _, rfl, rfl, rfl, rfl⟩, Ext.alloc2 _ _ _⟩
theorem enterLz (a : Array Value) (w : World) : (callFunc 145 a).run Tryz.prog w = .ok (.enter 145 a) w := by simp [callFunc, go_sem, Tryz.func145]; rfl
theorem bareEc : Bare 275 := fun v xT w => isEcWrapped v xT w
theorem makerEc : MakerR 119 275 := by
  intro k x sg n a l c w
  go_enter Tryz.func119, Tryz.ntmps119
  go_wp2_with fail
  go_ret
  exact ⟨_, rfl, Nat.le_succ _, ⟨_, _, blk1 _ _ _, rfl, rfl, rfl, rfl⟩, Ext.alloc2 _ _ _⟩
theorem enterEc (a : Array Value) (w : World) : (callFunc 119 a).run Tryz.prog w = .ok (.enter 119 a) w := by simp [callFunc, go_sem, Tryz.func119]; rfl

theorem new_row (k x : ByteArray) (n : Int) (kv q : Value) (B m : Nat) (xs : List Value) (w : World) (hm : m ≤ 100000) (h1 : ∀ u ∈ xs, u.oneCell' = true) (h : w.ownsRow B 65 1 q m xs) : Calls Tryz.prog 126 #[.agg #[.string k, .int .i64 n, .string x, kv], q] w fun e w' => ∃ a c, e = .returned (.agg #[.string k, .int .i64 n, .string x, .slice a m c]) ∧ w'.ownsRow w.heap.size 65 1 (.slice a m c) m xs ∧ Ext w w' := by
  have hl : xs.length = m := by have := h.1; omega
  rcases h.2 with ⟨hv, h0⟩ | ⟨g, cap, cur, hv, hb, hbk, h3, h4, h5, h6⟩
  · subst hv; subst h0
    obtain rfl := List.eq_nil_of_length_eq_zero hl
    refine (new_none k x n kv w).mono ?_
    rintro e w' ⟨rfl, hx⟩
    exact ⟨none, 0, rfl, World.ownsRow_nil _ _ _ _, hx⟩
  · subst hv
    subst hl
    exact new_some k x n kv g 0 cap xs w (by omega) h1 (fun j u hu => by
      rw [Nat.zero_add]
      refine cell_of hbk ?_
      rw [← h6] at hu
      have hj : j < xs.length * 1 := by
        have := (List.getElem?_eq_some_iff.1 hu).1
        rw [List.length_take] at this
        omega
      rw [List.getElem?_take_of_lt hj] at hu
      simpa using hu)
end Go.Proofs.YtnmcmjgfnncdmaaGreatDoor.Nd
