/-
  espalierref6.Rows: the same seven rows; by a contract.
-/
import Derived.Test.YthablchefckclaaDoorNRowB
namespace Go.Proofs.YthablchefckclaaDoor
open Go.RowKit
set_option maxRecDepth 100000 in
theorem lit_row (nm : ByteArray) (n : Bool) (t : Int) (w : World) : Calls Tryd.prog 10 #[.string nm, .bool n, .int .i64 t] w fun e w' => ∃ g, e = .returned (.agg #[.string nm, .int .i64 0, .int .i64 0, .bool n, .int .i64 t, .slice (some ⟨g, 0, none⟩) 4 4]) ∧ w'.heap[g]? = some (.cells #[.string ⟨#[76, 105, 116, 101, 114, 97, 108]⟩, .string ⟨#[80, 117, 114, 101]⟩, .string ⟨#[84, 111, 116, 97, 108]⟩, .string ⟨#[83, 111, 114, 116, 101, 100]⟩] 9) ∧ w.heap.size ≤ g ∧ Ext w w' := by

  go_enter Tryd.func10, Tryd.ntmps10
  go_wp2_with fail
  obtain ⟨z0, z1, z2, z3, z4, z5⟩ := six_of (blkOld (.cells #[.string ⟨#[76, 105, 116, 101, 114, 97, 108]⟩, .string ⟨#[80, 117, 114, 101]⟩, .string ⟨#[84, 111, 116, 97, 108]⟩, .string ⟨#[83, 111, 114, 116, 101, 100]⟩] 9) (blk0 w (.cells #[.string nm, .int .i64 0, .int .i64 0, .bool n, .int .i64 t, .slice (some ⟨w.heap.size + 1, 0, none⟩) 4 4] 27)))
  refine bodyPost_ret (v := .agg #[.string nm, .int .i64 0, .int .i64 0, .bool n, .int .i64 t, .slice (some ⟨w.heap.size + 1, 0, none⟩) 4 4]) (by simp [results, Tryd.results10, go_sem, z0, z1, z2, z3, z4, z5]) rfl ?_
  exact ⟨_, rfl, blk1 _ _ _, Nat.le_succ _, Ext.alloc2 _ _ _⟩
theorem blk2' (w : World) (o1 o2 o3 : Obj) : (((w.alloc o1).alloc o2).alloc o3).heap[w.heap.size + 1 + 1]? = some o3 := by
  have h := blk0 ((w.alloc o1).alloc o2) o3
  rwa [blkS, blkS] at h
/-- Where the abilities' blocks lie. -/
def gsOf (g0 g1 g2 g3 g4 g5 g6 : Nat) : Nat → Nat
  | 0 => g0
  | 1 => g1
  | 2 => g2
  | 3 => g3
  | 4 => g4
  | 5 => g5
  | _ => g6
theorem rows_of {w : World} {b g0 g1 g2 g3 g4 g5 g6 : Nat} (h : w.heap[b]? = some (.cells (rowC 0 g0 ++ rowC 1 g1 ++ rowC 2 g2 ++ rowC 3 g3 ++ rowC 4 g4 ++ rowC 5 g5 ++ rowC 6 g6).toArray 27)) (h0 : AbAt w g0 0) (h1 : AbAt w g1 1) (h2 : AbAt w g2 2) (h3 : AbAt w g3 3) (h4 : AbAt w g4 4) (h5 : AbAt w g5 5) (h6 : AbAt w g6 6) : RowsAt w b 0 (gsOf g0 g1 g2 g3 g4 g5 g6) := by
  refine ⟨_, h, (by show 42 ≤ 42; omega), ?_, ?_⟩
  · intro i _ hi k hk
    match i, hi with
    | 0, _ =>
      match k, hk with
      | 0, _ => exact rfl
      | 1, _ => exact rfl
      | 2, _ => exact rfl
      | 3, _ => exact rfl
      | 4, _ => exact rfl
      | 5, _ => exact rfl
      | n + 6, h => exact absurd h (by omega)
    | 1, _ =>
      match k, hk with
      | 0, _ => exact rfl
      | 1, _ => exact rfl
      | 2, _ => exact rfl
      | 3, _ => exact rfl
      | 4, _ => exact rfl
      | 5, _ => exact rfl
      | n + 6, h => exact absurd h (by omega)
    | 2, _ =>
      match k, hk with
      | 0, _ => exact rfl
      | 1, _ => exact rfl
      | 2, _ => exact rfl
      | 3, _ => exact rfl
      | 4, _ => exact rfl
      | 5, _ => exact rfl
      | n + 6, h => exact absurd h (by omega)
    | 3, _ =>
      match k, hk with
      | 0, _ => exact rfl
      | 1, _ => exact rfl
      | 2, _ => exact rfl
      | 3, _ => exact rfl
      | 4, _ => exact rfl
      | 5, _ => exact rfl
      | n + 6, h => exact absurd h (by omega)
    | 4, _ =>
      match k, hk with
      | 0, _ => exact rfl
      | 1, _ => exact rfl
      | 2, _ => exact rfl
      | 3, _ => exact rfl
      | 4, _ => exact rfl
      | 5, _ => exact rfl
      | n + 6, h => exact absurd h (by omega)
    | 5, _ =>
      match k, hk with
      | 0, _ => exact rfl
      | 1, _ => exact rfl
      | 2, _ => exact rfl
      | 3, _ => exact rfl
      | 4, _ => exact rfl
      | 5, _ => exact rfl
      | n + 6, h => exact absurd h (by omega)
    | 6, _ =>
      match k, hk with
      | 0, _ => exact rfl
      | 1, _ => exact rfl
      | 2, _ => exact rfl
      | 3, _ => exact rfl
      | 4, _ => exact rfl
      | 5, _ => exact rfl
      | n + 6, h => exact absurd h (by omega)
    | n + 7, h => exact absurd h (by omega)
  · intro i _ hi
    match i, hi with
    | 0, _ => exact h0
    | 1, _ => exact h1
    | 2, _ => exact h2
    | 3, _ => exact h3
    | 4, _ => exact h4
    | 5, _ => exact h5
    | 6, _ => exact h6
    | n + 7, h => exact absurd h (by omega)

/-- What the reference answers. -/
def RefR (w : World) (e : Ending) (w' : World) : Prop := ∃ b gs, e = .returned (.slice (some ⟨b, 0, none⟩) 7 7) ∧ RowsAt w' b 0 gs ∧ w.heap.size ≤ b ∧ (∀ i, i < 7 → w.heap.size ≤ gs i) ∧ Ext w w'
set_option maxRecDepth 100000 in
set_option maxHeartbeats 2000000 in
theorem ref_rows (w : World) : Calls Tryd.prog 5 #[] w (RefR w) := by
  go_enter Tryd.func5, Tryd.ntmps5
  go_wp2_with fail
  go_at_call 10
  refine (lit_row _ _ _ _).mono ?_
  rintro e w1 ⟨g0, rfl, hg0, hge0, hx0⟩
  have A0 := hid hg0
  have G0 := hid (show w.heap.size ≤ g0 from hge0)
  have Y0 := hid hx0
  have X0 := hid (show Ext w w1 from hx0)
  clear hg0 hge0 hx0
  go_wp2_with fail
  go_at_call 10
  refine (lit_row _ _ _ _).mono ?_
  rintro e w2 ⟨g1, rfl, hg1, hge1, hx1⟩
  have A1 := hid hg1
  have G1 := hid (show w.heap.size ≤ g1 from Nat.le_trans X0.out.size hge1)
  have Y1 := hid hx1
  have X1 := hid (show Ext w w2 from X0.out.trans hx1)
  clear hg1 hge1 hx1
  go_wp2_with fail
  go_at_call 10
  refine (lit_row _ _ _ _).mono ?_
  rintro e w3 ⟨g2, rfl, hg2, hge2, hx2⟩
  have A2 := hid hg2
  have G2 := hid (show w.heap.size ≤ g2 from Nat.le_trans X1.out.size hge2)
  have Y2 := hid hx2
  have X2 := hid (show Ext w w3 from X1.out.trans hx2)
  clear hg2 hge2 hx2
  go_wp2_with fail
  go_at_call 10
  refine (lit_row _ _ _ _).mono ?_
  rintro e w4 ⟨g3, rfl, hg3, hge3, hx3⟩
  have A3 := hid hg3
  have G3 := hid (show w.heap.size ≤ g3 from Nat.le_trans X2.out.size hge3)
  have Y3 := hid hx3
  have X3 := hid (show Ext w w4 from X2.out.trans hx3)
  clear hg3 hge3 hx3
  go_wp2_with fail
  go_at_call 10
  refine (lit_row _ _ _ _).mono ?_
  rintro e w5 ⟨g4, rfl, hg4, hge4, hx4⟩
  have A4 := hid hg4
  have G4 := hid (show w.heap.size ≤ g4 from Nat.le_trans X3.out.size hge4)
  have Y4 := hid hx4
  have X4 := hid (show Ext w w5 from X3.out.trans hx4)
  clear hg4 hge4 hx4
  go_wp2_with fail

  go_ret
  refine ⟨_, gsOf g0 g1 g2 g3 g4 w5.heap.size (w5.heap.size + 1), rfl, rows_of (blk2' _ _ _ _) (blkOld _ (blkOld _ (blkOld _ ((((Y1.out.trans Y2.out).trans Y3.out).trans Y4.out).block A0.out)))) (blkOld _ (blkOld _ (blkOld _ (((Y2.out.trans Y3.out).trans Y4.out).block A1.out)))) (blkOld _ (blkOld _ (blkOld _ ((Y3.out.trans Y4.out).block A2.out)))) (blkOld _ (blkOld _ (blkOld _ (Y4.out.block A3.out)))) (blkOld _ (blkOld _ (blkOld _ A4.out))) (blkOld _ (blkOld _ (blk0 _ _))) (blkOld _ (blk1 _ _ _)), ?_, ?_, ((X4.out.trans (Ext.alloc _ _)).trans (Ext.alloc _ _)).trans (Ext.alloc _ _)⟩
  · have := X4.out.size; omega
  · have h5 := X4.out.size
    intro i hi
    match i, hi with
    | 0, _ => exact G0.out
    | 1, _ => exact G1.out
    | 2, _ => exact G2.out
    | 3, _ => exact G3.out
    | 4, _ => exact G4.out
    | 5, _ => exact h5
    | 6, _ => exact Nat.le_succ_of_le h5
    | n + 7, h => exact absurd h (by omega)
end Go.Proofs.YthablchefckclaaDoor
