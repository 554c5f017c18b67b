/-
  espalierlaw10's text, num, words1 and nums1 by contracts; rows of plain values as the statements hand them in.
-/
import Derived.Test.YtgpggkepgoelfaaGreatDoorWWork
namespace Go.Proofs.YtgpggkepgoelfaaGreatDoor
open Go.RowKit
theorem wtextP (s : ByteArray) (w : World) : Calls Tryz.prog 22 #[.string s] w fun e w' => e = .returned (.agg #[.int .i64 4, .int .i64 0, .string s, .slice none 0 0]) ∧ Ext w w' := by
  go_enter Tryz.func22, Tryz.ntmps22
  go_wp2_with fail
  obtain ⟨z0, z1, z2, z3⟩ := four_of (blk0 w (.cells #[.int .i64 4, .int .i64 0, .string s, .slice none 0 0] 34))
  refine bodyPost_ret (v := .agg #[.int .i64 4, .int .i64 0, .string s, .slice none 0 0]) (by simp [results, Tryz.results22, go_sem, z0, z1, z2, z3]) rfl ?_
  exact ⟨rfl, Ext.alloc _ _⟩
theorem wnumP (n : Int) (w : World) : Calls Tryz.prog 24 #[.int .i64 n] w fun e w' => e = .returned (.agg #[.int .i64 3, .int .i64 n, .string ⟨#[]⟩, .slice none 0 0]) ∧ Ext w w' := by
  go_enter Tryz.func24, Tryz.ntmps24
  go_wp2_with fail
  obtain ⟨z0, z1, z2, z3⟩ := four_of (blk0 w (.cells #[.int .i64 3, .int .i64 n, .string ⟨#[]⟩, .slice none 0 0] 34))
  refine bodyPost_ret (v := .agg #[.int .i64 3, .int .i64 n, .string ⟨#[]⟩, .slice none 0 0]) (by simp [results, Tryz.results24, go_sem, z0, z1, z2, z3]) rfl ?_
  exact ⟨rfl, Ext.alloc _ _⟩
theorem calls_eq {f : Nat} {args : Array Value} {w : World} {V V' : Value} (h : V = V') (hc : Calls Tryz.prog f args w fun e w' => e = .returned V ∧ Ext w w') : Calls Tryz.prog f args w fun e w' => e = .returned V' ∧ Ext w w' := h ▸ hc
/-- A plain value without items, in its cells. -/
def litT (k n : Int) (x : ByteArray) : T := .node k n x []
theorem litRd (K : Nat → Prop) (w : World) (k n : Int) (x : ByteArray) (hx : x.size ≤ 140737488351232) : Rd K w 1 (.agg #[.int .i64 k, .int .i64 n, .string x, .slice none 0 0]) (litT k n x) := ⟨none, 0, rfl, hx, by decide, .inl rfl⟩
theorem wrow1 {w : World} {g : Nat} {k0 n0 : Int} {x0 : ByteArray} (h : w.heap[g]? = some (.cells #[.int .i64 k0, .int .i64 n0, .string x0, .slice none 0 0] 34)) (b0 : x0.size ≤ 140737488351232) : PRow w (some ⟨g, 0, none⟩) [litT k0 n0 x0] := by
  refine .inr ⟨g, 0, rfl, fun j hj => ?_⟩
  match j, hj with
  | 0, _ => exact ⟨fun _ => True, 1, _, _, _, _, ⟨cell_of h rfl, cell_of h rfl, cell_of h rfl, cell_of h rfl⟩, litRd _ _ _ _ _ b0⟩
  | n + 1, h => exact absurd h (by simp)
theorem wrow2 {w : World} {g : Nat} {k0 n0 k1 n1 : Int} {x0 x1 : ByteArray} (h : w.heap[g]? = some (.cells #[.int .i64 k0, .int .i64 n0, .string x0, .slice none 0 0, .int .i64 k1, .int .i64 n1, .string x1, .slice none 0 0] 34)) (b0 : x0.size ≤ 140737488351232) (b1 : x1.size ≤ 140737488351232) : PRow w (some ⟨g, 0, none⟩) [litT k0 n0 x0, litT k1 n1 x1] := by
  refine .inr ⟨g, 0, rfl, fun j hj => ?_⟩
  match j, hj with
  | 0, _ => exact ⟨fun _ => True, 1, _, _, _, _, ⟨cell_of h rfl, cell_of h rfl, cell_of h rfl, cell_of h rfl⟩, litRd _ _ _ _ _ b0⟩
  | 1, _ => exact ⟨fun _ => True, 1, _, _, _, _, ⟨cell_of h rfl, cell_of h rfl, cell_of h rfl, cell_of h rfl⟩, litRd _ _ _ _ _ b1⟩
  | n + 2, h => exact absurd h (by simp)
theorem wrow3 {w : World} {g : Nat} {k0 n0 k1 n1 k2 n2 : Int} {x0 x1 x2 : ByteArray} (h : w.heap[g]? = some (.cells #[.int .i64 k0, .int .i64 n0, .string x0, .slice none 0 0, .int .i64 k1, .int .i64 n1, .string x1, .slice none 0 0, .int .i64 k2, .int .i64 n2, .string x2, .slice none 0 0] 34)) (b0 : x0.size ≤ 140737488351232) (b1 : x1.size ≤ 140737488351232) (b2 : x2.size ≤ 140737488351232) : PRow w (some ⟨g, 0, none⟩) [litT k0 n0 x0, litT k1 n1 x1, litT k2 n2 x2] := by
  refine .inr ⟨g, 0, rfl, fun j hj => ?_⟩
  match j, hj with
  | 0, _ => exact ⟨fun _ => True, 1, _, _, _, _, ⟨cell_of h rfl, cell_of h rfl, cell_of h rfl, cell_of h rfl⟩, litRd _ _ _ _ _ b0⟩
  | 1, _ => exact ⟨fun _ => True, 1, _, _, _, _, ⟨cell_of h rfl, cell_of h rfl, cell_of h rfl, cell_of h rfl⟩, litRd _ _ _ _ _ b1⟩
  | 2, _ => exact ⟨fun _ => True, 1, _, _, _, _, ⟨cell_of h rfl, cell_of h rfl, cell_of h rfl, cell_of h rfl⟩, litRd _ _ _ _ _ b2⟩
  | n + 3, h => exact absurd h (by simp)
theorem as_tt_tt (v : Value) (w : World) : (Instr.typeAssert (.iface 89 v) 29 89 true).run Tryz.prog w = .ok (.tuple #[v, .bool true]) w := by kernel_rfl
theorem as_nil_tt (w : World) : (Instr.typeAssert .nilIface 29 89 true).run Tryz.prog w = .ok (.tuple #[.string ByteArray.empty, .bool false]) w := by kernel_rfl
theorem was_in_in (v : Value) (w : World) : (Instr.typeAssert (.iface 87 v) 29 87 true).run Tryz.prog w = .ok (.tuple #[v, .bool true]) w := by kernel_rfl
theorem was_nil_in (w : World) : (Instr.typeAssert .nilIface 29 87 true).run Tryz.prog w = .ok (.tuple #[.int .i64 0, .bool false]) w := by kernel_rfl
set_option maxRecDepth 100000 in
theorem words1_ok (op : ByteArray) (a : Option Addr) (n c : Nat) (s : ByteArray) (w : World) (h : Calls Tryz.prog 19 #[.string op, .slice a n c] w fun e w' => e = .returned (wroteV s) ∧ Ext w w') : Calls Tryz.prog 23 #[.string op, .slice a n c] w fun e w' => e = .returned (.tuple #[.string s, .int .i64 0]) ∧ Ext w w' := by
  have H := hid h
  have h1 := as_tt_tt
  clear h
  go_enter Tryz.func23, Tryz.ntmps23
  go_wp2_with fail
  refine H.out.mono ?_
  rintro e w2 ⟨rfl, hx⟩
  have HX := hid hx
  clear hx
  unfold wroteV
  go_wp2_with fail
  go_ret2
  exact ⟨rfl, HX.out⟩
set_option maxRecDepth 100000 in
theorem words1_bad (op : ByteArray) (a : Option Addr) (n c : Nat) (k : Int) (hk : (k == 0) = false) (w : World) (h : Calls Tryz.prog 19 #[.string op, .slice a n c] w fun e w' => e = .returned (refV k) ∧ Ext w w') : Calls Tryz.prog 23 #[.string op, .slice a n c] w fun e w' => e = .returned (.tuple #[.string ByteArray.empty, .int .i64 k]) ∧ Ext w w' := by
  have H := hid h
  have h1 := as_nil_tt
  clear h
  go_enter Tryz.func23, Tryz.ntmps23
  go_wp2_with fail
  refine H.out.mono ?_
  rintro e w2 ⟨rfl, hx⟩
  have HX := hid hx
  clear hx
  unfold refV
  go_wp2_with fail
  go_ret2
  exact ⟨rfl, HX.out⟩
set_option maxRecDepth 100000 in
theorem nums1_ok (op : ByteArray) (a : Option Addr) (n c : Nat) (s : Int) (w : World) (h : Calls Tryz.prog 19 #[.string op, .slice a n c] w fun e w' => e = .returned (cameV s) ∧ Ext w w') : Calls Tryz.prog 21 #[.string op, .slice a n c] w fun e w' => e = .returned (.tuple #[.int .i64 s, .int .i64 0]) ∧ Ext w w' := by
  have H := hid h
  have h1 := was_in_in
  clear h
  go_enter Tryz.func21, Tryz.ntmps21
  go_wp2_with fail
  refine H.out.mono ?_
  rintro e w2 ⟨rfl, hx⟩
  have HX := hid hx
  clear hx
  unfold cameV
  go_wp2_with fail
  go_ret2
  exact ⟨rfl, HX.out⟩
set_option maxRecDepth 100000 in
theorem nums1_bad (op : ByteArray) (a : Option Addr) (n c : Nat) (k : Int) (hk : (k == 0) = false) (w : World) (h : Calls Tryz.prog 19 #[.string op, .slice a n c] w fun e w' => e = .returned (refV k) ∧ Ext w w') : Calls Tryz.prog 21 #[.string op, .slice a n c] w fun e w' => e = .returned (.tuple #[.int .i64 0, .int .i64 k]) ∧ Ext w w' := by
  have H := hid h
  have h1 := was_nil_in
  clear h
  go_enter Tryz.func21, Tryz.ntmps21
  go_wp2_with fail
  refine H.out.mono ?_
  rintro e w2 ⟨rfl, hx⟩
  have HX := hid hx
  clear hx
  unfold refV
  go_wp2_with fail
  go_ret2
  exact ⟨rfl, HX.out⟩
end Go.Proofs.YtgpggkepgoelfaaGreatDoor
