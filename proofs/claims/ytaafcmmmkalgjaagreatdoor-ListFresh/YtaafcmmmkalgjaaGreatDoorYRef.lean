/-
  What the documents' packages ask of a call of Work ahead of all else, and the rows of their kits: by contracts.
-/
import Derived.Test.YtaafcmmmkalgjaaGreatDoorBFind
import Derived.Test.YtaafcmmmkalgjaaGreatDoorRLeft
import Derived.Test.YtaafcmmmkalgjaaGreatDoorKBlk
import Derived.Test.YtaafcmmmkalgjaaGreatDoorKRows
namespace Go.Proofs.YtaafcmmmkalgjaaGreatDoor
open Go.RowKit
theorem anyS_take (x : ByteArray) (xs : List ByteArray) (i : Nat) (h : i < xs.length) : anyS x (xs.take (i + 1)) = (anyS x (xs.take i) || decide (xs[i] = x)) := by
  unfold anyS
  rw [List.take_succ_eq_append_getElem h, List.any_append]
  simp
theorem findM_first {α : Type} {p : α → Bool} {l : List α} {j : Nat} (hj : j < l.length) (h : p l[j] = true) (hn : ∀ i, (hi : i < l.length) → i < j → p l[i] = false) : l.find? p = some l[j] := by
  rw [List.find?_eq_some_iff_getElem]
  exact ⟨h, j, hj, rfl, fun i hi => by rw [hn i (by omega) hi]; rfl⟩
theorem findM_nothing {α : Type} {p : α → Bool} {l : List α} (hn : ∀ i, (hi : i < l.length) → p l[i] = false) : l.find? p = none := by
  rw [List.find?_eq_none]
  intro x hx
  obtain ⟨i, hi, rfl⟩ := List.getElem_of_mem hx
  rw [hn i hi]; decide
/-- The rows of the kit list. -/
def listR : List Rw := [
  ⟨⟨#[108, 105, 115, 116, 46, 111, 102]⟩, 0, -1, false, 0, [⟨#[83, 116, 114, 105, 99, 116]⟩, ⟨#[80, 117, 114, 101]⟩, ⟨#[83, 111, 114, 116, 101, 100]⟩]⟩,
  ⟨⟨#[108, 105, 115, 116, 46, 115, 105, 122, 101]⟩, 1, 1, false, 0, [⟨#[83, 116, 114, 105, 99, 116]⟩, ⟨#[80, 117, 114, 101]⟩, ⟨#[84, 111, 116, 97, 108]⟩, ⟨#[83, 111, 114, 116, 101, 100]⟩]⟩,
  ⟨⟨#[108, 105, 115, 116, 46, 97, 116]⟩, 2, 2, false, 0, [⟨#[83, 116, 114, 105, 99, 116]⟩, ⟨#[80, 117, 114, 101]⟩, ⟨#[83, 111, 114, 116, 101, 100]⟩]⟩,
  ⟨⟨#[108, 105, 115, 116, 46, 106, 111, 105, 110]⟩, 2, 2, false, 0, [⟨#[83, 116, 114, 105, 99, 116]⟩, ⟨#[80, 117, 114, 101]⟩, ⟨#[83, 111, 114, 116, 101, 100]⟩]⟩,
  ⟨⟨#[108, 105, 115, 116, 46, 97, 100, 100]⟩, 2, 2, false, 0, [⟨#[83, 116, 114, 105, 99, 116]⟩, ⟨#[80, 117, 114, 101]⟩, ⟨#[83, 111, 114, 116, 101, 100]⟩]⟩,
  ⟨⟨#[108, 105, 115, 116, 46, 99, 117, 116]⟩, 3, 3, false, 0, [⟨#[83, 116, 114, 105, 99, 116]⟩, ⟨#[80, 117, 114, 101]⟩, ⟨#[83, 111, 114, 116, 101, 100]⟩]⟩,
  ⟨⟨#[108, 105, 115, 116, 46, 116, 117, 114, 110]⟩, 1, 1, false, 0, [⟨#[83, 116, 114, 105, 99, 116]⟩, ⟨#[80, 117, 114, 101]⟩, ⟨#[84, 111, 116, 97, 108]⟩, ⟨#[83, 111, 114, 116, 101, 100]⟩]⟩,
  ⟨⟨#[108, 105, 115, 116, 46, 99, 111, 117, 110, 116]⟩, 1, 1, false, 0, [⟨#[83, 116, 114, 105, 99, 116]⟩, ⟨#[80, 117, 114, 101]⟩, ⟨#[83, 111, 114, 116, 101, 100]⟩]⟩,
  ⟨⟨#[108, 105, 115, 116, 46, 109, 97, 112]⟩, 2, 2, false, 2, [⟨#[76, 97, 122, 121]⟩, ⟨#[66, 105, 110, 100, 101, 114]⟩, ⟨#[80, 117, 114, 101]⟩, ⟨#[83, 111, 114, 116, 101, 100]⟩]⟩,
  ⟨⟨#[108, 105, 115, 116, 46, 107, 101, 101, 112]⟩, 2, 2, false, 2, [⟨#[76, 97, 122, 121]⟩, ⟨#[66, 105, 110, 100, 101, 114]⟩, ⟨#[80, 117, 114, 101]⟩, ⟨#[84, 111, 116, 97, 108]⟩, ⟨#[83, 111, 114, 116, 101, 100]⟩]⟩]
def listRC (B : Nat) : Array Value := #[.string ⟨#[108, 105, 115, 116, 46, 111, 102]⟩, .int .i64 0, .int .i64 (-1), .bool false, .int .i64 0, .slice (some ⟨B + 0, 0, none⟩) 3 3, .string ⟨#[108, 105, 115, 116, 46, 115, 105, 122, 101]⟩, .int .i64 1, .int .i64 1, .bool false, .int .i64 0, .slice (some ⟨B + 1, 0, none⟩) 4 4, .string ⟨#[108, 105, 115, 116, 46, 97, 116]⟩, .int .i64 2, .int .i64 2, .bool false, .int .i64 0, .slice (some ⟨B + 2, 0, none⟩) 3 3, .string ⟨#[108, 105, 115, 116, 46, 106, 111, 105, 110]⟩, .int .i64 2, .int .i64 2, .bool false, .int .i64 0, .slice (some ⟨B + 3, 0, none⟩) 3 3, .string ⟨#[108, 105, 115, 116, 46, 97, 100, 100]⟩, .int .i64 2, .int .i64 2, .bool false, .int .i64 0, .slice (some ⟨B + 4, 0, none⟩) 3 3, .string ⟨#[108, 105, 115, 116, 46, 99, 117, 116]⟩, .int .i64 3, .int .i64 3, .bool false, .int .i64 0, .slice (some ⟨B + 5, 0, none⟩) 3 3, .string ⟨#[108, 105, 115, 116, 46, 116, 117, 114, 110]⟩, .int .i64 1, .int .i64 1, .bool false, .int .i64 0, .slice (some ⟨B + 6, 0, none⟩) 4 4, .string ⟨#[108, 105, 115, 116, 46, 99, 111, 117, 110, 116]⟩, .int .i64 1, .int .i64 1, .bool false, .int .i64 0, .slice (some ⟨B + 7, 0, none⟩) 3 3, .string ⟨#[108, 105, 115, 116, 46, 109, 97, 112]⟩, .int .i64 2, .int .i64 2, .bool false, .int .i64 2, .slice (some ⟨B + 8, 0, none⟩) 4 4, .string ⟨#[108, 105, 115, 116, 46, 107, 101, 101, 112]⟩, .int .i64 2, .int .i64 2, .bool false, .int .i64 2, .slice (some ⟨B + 9, 0, none⟩) 5 5]
set_option maxRecDepth 100000 in
set_option maxHeartbeats 4000000 in
theorem refRowsL_any (w : World) : Calls Tryz.prog 35 #[] w (RowsR w listR) := by
  obtain ⟨W, hW⟩ : ∃ W, ((((((((((w.alloc (Obj.cells #[.string ⟨#[83, 116, 114, 105, 99, 116]⟩, .string ⟨#[80, 117, 114, 101]⟩, .string ⟨#[83, 111, 114, 116, 101, 100]⟩] 9)).alloc (Obj.cells #[.string ⟨#[83, 116, 114, 105, 99, 116]⟩, .string ⟨#[80, 117, 114, 101]⟩, .string ⟨#[84, 111, 116, 97, 108]⟩, .string ⟨#[83, 111, 114, 116, 101, 100]⟩] 9)).alloc (Obj.cells #[.string ⟨#[83, 116, 114, 105, 99, 116]⟩, .string ⟨#[80, 117, 114, 101]⟩, .string ⟨#[83, 111, 114, 116, 101, 100]⟩] 9)).alloc (Obj.cells #[.string ⟨#[83, 116, 114, 105, 99, 116]⟩, .string ⟨#[80, 117, 114, 101]⟩, .string ⟨#[83, 111, 114, 116, 101, 100]⟩] 9)).alloc (Obj.cells #[.string ⟨#[83, 116, 114, 105, 99, 116]⟩, .string ⟨#[80, 117, 114, 101]⟩, .string ⟨#[83, 111, 114, 116, 101, 100]⟩] 9)).alloc (Obj.cells #[.string ⟨#[83, 116, 114, 105, 99, 116]⟩, .string ⟨#[80, 117, 114, 101]⟩, .string ⟨#[83, 111, 114, 116, 101, 100]⟩] 9)).alloc (Obj.cells #[.string ⟨#[83, 116, 114, 105, 99, 116]⟩, .string ⟨#[80, 117, 114, 101]⟩, .string ⟨#[84, 111, 116, 97, 108]⟩, .string ⟨#[83, 111, 114, 116, 101, 100]⟩] 9)).alloc (Obj.cells #[.string ⟨#[83, 116, 114, 105, 99, 116]⟩, .string ⟨#[80, 117, 114, 101]⟩, .string ⟨#[83, 111, 114, 116, 101, 100]⟩] 9)).alloc (Obj.cells #[.string ⟨#[76, 97, 122, 121]⟩, .string ⟨#[66, 105, 110, 100, 101, 114]⟩, .string ⟨#[80, 117, 114, 101]⟩, .string ⟨#[83, 111, 114, 116, 101, 100]⟩] 9)).alloc (Obj.cells #[.string ⟨#[76, 97, 122, 121]⟩, .string ⟨#[66, 105, 110, 100, 101, 114]⟩, .string ⟨#[80, 117, 114, 101]⟩, .string ⟨#[84, 111, 116, 97, 108]⟩, .string ⟨#[83, 111, 114, 116, 101, 100]⟩] 9)) = W := ⟨_, rfl⟩
  have hs : W.heap.size = w.heap.size + 10 := by rw [← hW]; simp
  have T0 : W.heap[w.heap.size + 0]? = some (Obj.cells #[.string ⟨#[83, 116, 114, 105, 99, 116]⟩, .string ⟨#[80, 117, 114, 101]⟩, .string ⟨#[83, 111, 114, 116, 101, 100]⟩] 9) := by
    have h := hW ▸ (show (((((((((((w.alloc (Obj.cells #[.string ⟨#[83, 116, 114, 105, 99, 116]⟩, .string ⟨#[80, 117, 114, 101]⟩, .string ⟨#[83, 111, 114, 116, 101, 100]⟩] 9)).alloc (Obj.cells #[.string ⟨#[83, 116, 114, 105, 99, 116]⟩, .string ⟨#[80, 117, 114, 101]⟩, .string ⟨#[84, 111, 116, 97, 108]⟩, .string ⟨#[83, 111, 114, 116, 101, 100]⟩] 9)).alloc (Obj.cells #[.string ⟨#[83, 116, 114, 105, 99, 116]⟩, .string ⟨#[80, 117, 114, 101]⟩, .string ⟨#[83, 111, 114, 116, 101, 100]⟩] 9)).alloc (Obj.cells #[.string ⟨#[83, 116, 114, 105, 99, 116]⟩, .string ⟨#[80, 117, 114, 101]⟩, .string ⟨#[83, 111, 114, 116, 101, 100]⟩] 9)).alloc (Obj.cells #[.string ⟨#[83, 116, 114, 105, 99, 116]⟩, .string ⟨#[80, 117, 114, 101]⟩, .string ⟨#[83, 111, 114, 116, 101, 100]⟩] 9)).alloc (Obj.cells #[.string ⟨#[83, 116, 114, 105, 99, 116]⟩, .string ⟨#[80, 117, 114, 101]⟩, .string ⟨#[83, 111, 114, 116, 101, 100]⟩] 9)).alloc (Obj.cells #[.string ⟨#[83, 116, 114, 105, 99, 116]⟩, .string ⟨#[80, 117, 114, 101]⟩, .string ⟨#[84, 111, 116, 97, 108]⟩, .string ⟨#[83, 111, 114, 116, 101, 100]⟩] 9)).alloc (Obj.cells #[.string ⟨#[83, 116, 114, 105, 99, 116]⟩, .string ⟨#[80, 117, 114, 101]⟩, .string ⟨#[83, 111, 114, 116, 101, 100]⟩] 9)).alloc (Obj.cells #[.string ⟨#[76, 97, 122, 121]⟩, .string ⟨#[66, 105, 110, 100, 101, 114]⟩, .string ⟨#[80, 117, 114, 101]⟩, .string ⟨#[83, 111, 114, 116, 101, 100]⟩] 9)).alloc (Obj.cells #[.string ⟨#[76, 97, 122, 121]⟩, .string ⟨#[66, 105, 110, 100, 101, 114]⟩, .string ⟨#[80, 117, 114, 101]⟩, .string ⟨#[84, 111, 116, 97, 108]⟩, .string ⟨#[83, 111, 114, 116, 101, 100]⟩] 9))).heap[(w).heap.size]? = some _ from blkOld _ (blkOld _ (blkOld _ (blkOld _ (blkOld _ (blkOld _ (blkOld _ (blkOld _ (blkOld _ (blk0 _ _))))))))))
    simpa using h
  have T1 : W.heap[w.heap.size + 1]? = some (Obj.cells #[.string ⟨#[83, 116, 114, 105, 99, 116]⟩, .string ⟨#[80, 117, 114, 101]⟩, .string ⟨#[84, 111, 116, 97, 108]⟩, .string ⟨#[83, 111, 114, 116, 101, 100]⟩] 9) := by
    have h := hW ▸ (show (((((((((((w.alloc (Obj.cells #[.string ⟨#[83, 116, 114, 105, 99, 116]⟩, .string ⟨#[80, 117, 114, 101]⟩, .string ⟨#[83, 111, 114, 116, 101, 100]⟩] 9)).alloc (Obj.cells #[.string ⟨#[83, 116, 114, 105, 99, 116]⟩, .string ⟨#[80, 117, 114, 101]⟩, .string ⟨#[84, 111, 116, 97, 108]⟩, .string ⟨#[83, 111, 114, 116, 101, 100]⟩] 9)).alloc (Obj.cells #[.string ⟨#[83, 116, 114, 105, 99, 116]⟩, .string ⟨#[80, 117, 114, 101]⟩, .string ⟨#[83, 111, 114, 116, 101, 100]⟩] 9)).alloc (Obj.cells #[.string ⟨#[83, 116, 114, 105, 99, 116]⟩, .string ⟨#[80, 117, 114, 101]⟩, .string ⟨#[83, 111, 114, 116, 101, 100]⟩] 9)).alloc (Obj.cells #[.string ⟨#[83, 116, 114, 105, 99, 116]⟩, .string ⟨#[80, 117, 114, 101]⟩, .string ⟨#[83, 111, 114, 116, 101, 100]⟩] 9)).alloc (Obj.cells #[.string ⟨#[83, 116, 114, 105, 99, 116]⟩, .string ⟨#[80, 117, 114, 101]⟩, .string ⟨#[83, 111, 114, 116, 101, 100]⟩] 9)).alloc (Obj.cells #[.string ⟨#[83, 116, 114, 105, 99, 116]⟩, .string ⟨#[80, 117, 114, 101]⟩, .string ⟨#[84, 111, 116, 97, 108]⟩, .string ⟨#[83, 111, 114, 116, 101, 100]⟩] 9)).alloc (Obj.cells #[.string ⟨#[83, 116, 114, 105, 99, 116]⟩, .string ⟨#[80, 117, 114, 101]⟩, .string ⟨#[83, 111, 114, 116, 101, 100]⟩] 9)).alloc (Obj.cells #[.string ⟨#[76, 97, 122, 121]⟩, .string ⟨#[66, 105, 110, 100, 101, 114]⟩, .string ⟨#[80, 117, 114, 101]⟩, .string ⟨#[83, 111, 114, 116, 101, 100]⟩] 9)).alloc (Obj.cells #[.string ⟨#[76, 97, 122, 121]⟩, .string ⟨#[66, 105, 110, 100, 101, 114]⟩, .string ⟨#[80, 117, 114, 101]⟩, .string ⟨#[84, 111, 116, 97, 108]⟩, .string ⟨#[83, 111, 114, 116, 101, 100]⟩] 9))).heap[((w.alloc (Obj.cells #[.string ⟨#[83, 116, 114, 105, 99, 116]⟩, .string ⟨#[80, 117, 114, 101]⟩, .string ⟨#[83, 111, 114, 116, 101, 100]⟩] 9))).heap.size]? = some _ from blkOld _ (blkOld _ (blkOld _ (blkOld _ (blkOld _ (blkOld _ (blkOld _ (blkOld _ (blk0 _ _)))))))))
    simpa using h
  have T2 : W.heap[w.heap.size + 2]? = some (Obj.cells #[.string ⟨#[83, 116, 114, 105, 99, 116]⟩, .string ⟨#[80, 117, 114, 101]⟩, .string ⟨#[83, 111, 114, 116, 101, 100]⟩] 9) := by
    have h := hW ▸ (show (((((((((((w.alloc (Obj.cells #[.string ⟨#[83, 116, 114, 105, 99, 116]⟩, .string ⟨#[80, 117, 114, 101]⟩, .string ⟨#[83, 111, 114, 116, 101, 100]⟩] 9)).alloc (Obj.cells #[.string ⟨#[83, 116, 114, 105, 99, 116]⟩, .string ⟨#[80, 117, 114, 101]⟩, .string ⟨#[84, 111, 116, 97, 108]⟩, .string ⟨#[83, 111, 114, 116, 101, 100]⟩] 9)).alloc (Obj.cells #[.string ⟨#[83, 116, 114, 105, 99, 116]⟩, .string ⟨#[80, 117, 114, 101]⟩, .string ⟨#[83, 111, 114, 116, 101, 100]⟩] 9)).alloc (Obj.cells #[.string ⟨#[83, 116, 114, 105, 99, 116]⟩, .string ⟨#[80, 117, 114, 101]⟩, .string ⟨#[83, 111, 114, 116, 101, 100]⟩] 9)).alloc (Obj.cells #[.string ⟨#[83, 116, 114, 105, 99, 116]⟩, .string ⟨#[80, 117, 114, 101]⟩, .string ⟨#[83, 111, 114, 116, 101, 100]⟩] 9)).alloc (Obj.cells #[.string ⟨#[83, 116, 114, 105, 99, 116]⟩, .string ⟨#[80, 117, 114, 101]⟩, .string ⟨#[83, 111, 114, 116, 101, 100]⟩] 9)).alloc (Obj.cells #[.string ⟨#[83, 116, 114, 105, 99, 116]⟩, .string ⟨#[80, 117, 114, 101]⟩, .string ⟨#[84, 111, 116, 97, 108]⟩, .string ⟨#[83, 111, 114, 116, 101, 100]⟩] 9)).alloc (Obj.cells #[.string ⟨#[83, 116, 114, 105, 99, 116]⟩, .string ⟨#[80, 117, 114, 101]⟩, .string ⟨#[83, 111, 114, 116, 101, 100]⟩] 9)).alloc (Obj.cells #[.string ⟨#[76, 97, 122, 121]⟩, .string ⟨#[66, 105, 110, 100, 101, 114]⟩, .string ⟨#[80, 117, 114, 101]⟩, .string ⟨#[83, 111, 114, 116, 101, 100]⟩] 9)).alloc (Obj.cells #[.string ⟨#[76, 97, 122, 121]⟩, .string ⟨#[66, 105, 110, 100, 101, 114]⟩, .string ⟨#[80, 117, 114, 101]⟩, .string ⟨#[84, 111, 116, 97, 108]⟩, .string ⟨#[83, 111, 114, 116, 101, 100]⟩] 9))).heap[(((w.alloc (Obj.cells #[.string ⟨#[83, 116, 114, 105, 99, 116]⟩, .string ⟨#[80, 117, 114, 101]⟩, .string ⟨#[83, 111, 114, 116, 101, 100]⟩] 9)).alloc (Obj.cells #[.string ⟨#[83, 116, 114, 105, 99, 116]⟩, .string ⟨#[80, 117, 114, 101]⟩, .string ⟨#[84, 111, 116, 97, 108]⟩, .string ⟨#[83, 111, 114, 116, 101, 100]⟩] 9))).heap.size]? = some _ from blkOld _ (blkOld _ (blkOld _ (blkOld _ (blkOld _ (blkOld _ (blkOld _ (blk0 _ _))))))))
    simpa using h
  have T3 : W.heap[w.heap.size + 3]? = some (Obj.cells #[.string ⟨#[83, 116, 114, 105, 99, 116]⟩, .string ⟨#[80, 117, 114, 101]⟩, .string ⟨#[83, 111, 114, 116, 101, 100]⟩] 9) := by
    have h := hW ▸ (show (((((((((((w.alloc (Obj.cells #[.string ⟨#[83, 116, 114, 105, 99, 116]⟩, .string ⟨#[80, 117, 114, 101]⟩, .string ⟨#[83, 111, 114, 116, 101, 100]⟩] 9)).alloc (Obj.cells #[.string ⟨#[83, 116, 114, 105, 99, 116]⟩, .string ⟨#[80, 117, 114, 101]⟩, .string ⟨#[84, 111, 116, 97, 108]⟩, .string ⟨#[83, 111, 114, 116, 101, 100]⟩] 9)).alloc (Obj.cells #[.string ⟨#[83, 116, 114, 105, 99, 116]⟩, .string ⟨#[80, 117, 114, 101]⟩, .string ⟨#[83, 111, 114, 116, 101, 100]⟩] 9)).alloc (Obj.cells #[.string ⟨#[83, 116, 114, 105, 99, 116]⟩, .string ⟨#[80, 117, 114, 101]⟩, .string ⟨#[83, 111, 114, 116, 101, 100]⟩] 9)).alloc (Obj.cells #[.string ⟨#[83, 116, 114, 105, 99, 116]⟩, .string ⟨#[80, 117, 114, 101]⟩, .string ⟨#[83, 111, 114, 116, 101, 100]⟩] 9)).alloc (Obj.cells #[.string ⟨#[83, 116, 114, 105, 99, 116]⟩, .string ⟨#[80, 117, 114, 101]⟩, .string ⟨#[83, 111, 114, 116, 101, 100]⟩] 9)).alloc (Obj.cells #[.string ⟨#[83, 116, 114, 105, 99, 116]⟩, .string ⟨#[80, 117, 114, 101]⟩, .string ⟨#[84, 111, 116, 97, 108]⟩, .string ⟨#[83, 111, 114, 116, 101, 100]⟩] 9)).alloc (Obj.cells #[.string ⟨#[83, 116, 114, 105, 99, 116]⟩, .string ⟨#[80, 117, 114, 101]⟩, .string ⟨#[83, 111, 114, 116, 101, 100]⟩] 9)).alloc (Obj.cells #[.string ⟨#[76, 97, 122, 121]⟩, .string ⟨#[66, 105, 110, 100, 101, 114]⟩, .string ⟨#[80, 117, 114, 101]⟩, .string ⟨#[83, 111, 114, 116, 101, 100]⟩] 9)).alloc (Obj.cells #[.string ⟨#[76, 97, 122, 121]⟩, .string ⟨#[66, 105, 110, 100, 101, 114]⟩, .string ⟨#[80, 117, 114, 101]⟩, .string ⟨#[84, 111, 116, 97, 108]⟩, .string ⟨#[83, 111, 114, 116, 101, 100]⟩] 9))).heap[((((w.alloc (Obj.cells #[.string ⟨#[83, 116, 114, 105, 99, 116]⟩, .string ⟨#[80, 117, 114, 101]⟩, .string ⟨#[83, 111, 114, 116, 101, 100]⟩] 9)).alloc (Obj.cells #[.string ⟨#[83, 116, 114, 105, 99, 116]⟩, .string ⟨#[80, 117, 114, 101]⟩, .string ⟨#[84, 111, 116, 97, 108]⟩, .string ⟨#[83, 111, 114, 116, 101, 100]⟩] 9)).alloc (Obj.cells #[.string ⟨#[83, 116, 114, 105, 99, 116]⟩, .string ⟨#[80, 117, 114, 101]⟩, .string ⟨#[83, 111, 114, 116, 101, 100]⟩] 9))).heap.size]? = some _ from blkOld _ (blkOld _ (blkOld _ (blkOld _ (blkOld _ (blkOld _ (blk0 _ _)))))))
    simpa using h
  have T4 : W.heap[w.heap.size + 4]? = some (Obj.cells #[.string ⟨#[83, 116, 114, 105, 99, 116]⟩, .string ⟨#[80, 117, 114, 101]⟩, .string ⟨#[83, 111, 114, 116, 101, 100]⟩] 9) := by
    have h := hW ▸ (show (((((((((((w.alloc (Obj.cells #[.string ⟨#[83, 116, 114, 105, 99, 116]⟩, .string ⟨#[80, 117, 114, 101]⟩, .string ⟨#[83, 111, 114, 116, 101, 100]⟩] 9)).alloc (Obj.cells #[.string ⟨#[83, 116, 114, 105, 99, 116]⟩, .string ⟨#[80, 117, 114, 101]⟩, .string ⟨#[84, 111, 116, 97, 108]⟩, .string ⟨#[83, 111, 114, 116, 101, 100]⟩] 9)).alloc (Obj.cells #[.string ⟨#[83, 116, 114, 105, 99, 116]⟩, .string ⟨#[80, 117, 114, 101]⟩, .string ⟨#[83, 111, 114, 116, 101, 100]⟩] 9)).alloc (Obj.cells #[.string ⟨#[83, 116, 114, 105, 99, 116]⟩, .string ⟨#[80, 117, 114, 101]⟩, .string ⟨#[83, 111, 114, 116, 101, 100]⟩] 9)).alloc (Obj.cells #[.string ⟨#[83, 116, 114, 105, 99, 116]⟩, .string ⟨#[80, 117, 114, 101]⟩, .string ⟨#[83, 111, 114, 116, 101, 100]⟩] 9)).alloc (Obj.cells #[.string ⟨#[83, 116, 114, 105, 99, 116]⟩, .string ⟨#[80, 117, 114, 101]⟩, .string ⟨#[83, 111, 114, 116, 101, 100]⟩] 9)).alloc (Obj.cells #[.string ⟨#[83, 116, 114, 105, 99, 116]⟩, .string ⟨#[80, 117, 114, 101]⟩, .string ⟨#[84, 111, 116, 97, 108]⟩, .string ⟨#[83, 111, 114, 116, 101, 100]⟩] 9)).alloc (Obj.cells #[.string ⟨#[83, 116, 114, 105, 99, 116]⟩, .string ⟨#[80, 117, 114, 101]⟩, .string ⟨#[83, 111, 114, 116, 101, 100]⟩] 9)).alloc (Obj.cells #[.string ⟨#[76, 97, 122, 121]⟩, .string ⟨#[66, 105, 110, 100, 101, 114]⟩, .string ⟨#[80, 117, 114, 101]⟩, .string ⟨#[83, 111, 114, 116, 101, 100]⟩] 9)).alloc (Obj.cells #[.string ⟨#[76, 97, 122, 121]⟩, .string ⟨#[66, 105, 110, 100, 101, 114]⟩, .string ⟨#[80, 117, 114, 101]⟩, .string ⟨#[84, 111, 116, 97, 108]⟩, .string ⟨#[83, 111, 114, 116, 101, 100]⟩] 9))).heap[(((((w.alloc (Obj.cells #[.string ⟨#[83, 116, 114, 105, 99, 116]⟩, .string ⟨#[80, 117, 114, 101]⟩, .string ⟨#[83, 111, 114, 116, 101, 100]⟩] 9)).alloc (Obj.cells #[.string ⟨#[83, 116, 114, 105, 99, 116]⟩, .string ⟨#[80, 117, 114, 101]⟩, .string ⟨#[84, 111, 116, 97, 108]⟩, .string ⟨#[83, 111, 114, 116, 101, 100]⟩] 9)).alloc (Obj.cells #[.string ⟨#[83, 116, 114, 105, 99, 116]⟩, .string ⟨#[80, 117, 114, 101]⟩, .string ⟨#[83, 111, 114, 116, 101, 100]⟩] 9)).alloc (Obj.cells #[.string ⟨#[83, 116, 114, 105, 99, 116]⟩, .string ⟨#[80, 117, 114, 101]⟩, .string ⟨#[83, 111, 114, 116, 101, 100]⟩] 9))).heap.size]? = some _ from blkOld _ (blkOld _ (blkOld _ (blkOld _ (blkOld _ (blk0 _ _))))))
    simpa using h
  have T5 : W.heap[w.heap.size + 5]? = some (Obj.cells #[.string ⟨#[83, 116, 114, 105, 99, 116]⟩, .string ⟨#[80, 117, 114, 101]⟩, .string ⟨#[83, 111, 114, 116, 101, 100]⟩] 9) := by
    have h := hW ▸ (show (((((((((((w.alloc (Obj.cells #[.string ⟨#[83, 116, 114, 105, 99, 116]⟩, .string ⟨#[80, 117, 114, 101]⟩, .string ⟨#[83, 111, 114, 116, 101, 100]⟩] 9)).alloc (Obj.cells #[.string ⟨#[83, 116, 114, 105, 99, 116]⟩, .string ⟨#[80, 117, 114, 101]⟩, .string ⟨#[84, 111, 116, 97, 108]⟩, .string ⟨#[83, 111, 114, 116, 101, 100]⟩] 9)).alloc (Obj.cells #[.string ⟨#[83, 116, 114, 105, 99, 116]⟩, .string ⟨#[80, 117, 114, 101]⟩, .string ⟨#[83, 111, 114, 116, 101, 100]⟩] 9)).alloc (Obj.cells #[.string ⟨#[83, 116, 114, 105, 99, 116]⟩, .string ⟨#[80, 117, 114, 101]⟩, .string ⟨#[83, 111, 114, 116, 101, 100]⟩] 9)).alloc (Obj.cells #[.string ⟨#[83, 116, 114, 105, 99, 116]⟩, .string ⟨#[80, 117, 114, 101]⟩, .string ⟨#[83, 111, 114, 116, 101, 100]⟩] 9)).alloc (Obj.cells #[.string ⟨#[83, 116, 114, 105, 99, 116]⟩, .string ⟨#[80, 117, 114, 101]⟩, .string ⟨#[83, 111, 114, 116, 101, 100]⟩] 9)).alloc (Obj.cells #[.string ⟨#[83, 116, 114, 105, 99, 116]⟩, .string ⟨#[80, 117, 114, 101]⟩, .string ⟨#[84, 111, 116, 97, 108]⟩, .string ⟨#[83, 111, 114, 116, 101, 100]⟩] 9)).alloc (Obj.cells #[.string ⟨#[83, 116, 114, 105, 99, 116]⟩, .string ⟨#[80, 117, 114, 101]⟩, .string ⟨#[83, 111, 114, 116, 101, 100]⟩] 9)).alloc (Obj.cells #[.string ⟨#[76, 97, 122, 121]⟩, .string ⟨#[66, 105, 110, 100, 101, 114]⟩, .string ⟨#[80, 117, 114, 101]⟩, .string ⟨#[83, 111, 114, 116, 101, 100]⟩] 9)).alloc (Obj.cells #[.string ⟨#[76, 97, 122, 121]⟩, .string ⟨#[66, 105, 110, 100, 101, 114]⟩, .string ⟨#[80, 117, 114, 101]⟩, .string ⟨#[84, 111, 116, 97, 108]⟩, .string ⟨#[83, 111, 114, 116, 101, 100]⟩] 9))).heap[((((((w.alloc (Obj.cells #[.string ⟨#[83, 116, 114, 105, 99, 116]⟩, .string ⟨#[80, 117, 114, 101]⟩, .string ⟨#[83, 111, 114, 116, 101, 100]⟩] 9)).alloc (Obj.cells #[.string ⟨#[83, 116, 114, 105, 99, 116]⟩, .string ⟨#[80, 117, 114, 101]⟩, .string ⟨#[84, 111, 116, 97, 108]⟩, .string ⟨#[83, 111, 114, 116, 101, 100]⟩] 9)).alloc (Obj.cells #[.string ⟨#[83, 116, 114, 105, 99, 116]⟩, .string ⟨#[80, 117, 114, 101]⟩, .string ⟨#[83, 111, 114, 116, 101, 100]⟩] 9)).alloc (Obj.cells #[.string ⟨#[83, 116, 114, 105, 99, 116]⟩, .string ⟨#[80, 117, 114, 101]⟩, .string ⟨#[83, 111, 114, 116, 101, 100]⟩] 9)).alloc (Obj.cells #[.string ⟨#[83, 116, 114, 105, 99, 116]⟩, .string ⟨#[80, 117, 114, 101]⟩, .string ⟨#[83, 111, 114, 116, 101, 100]⟩] 9))).heap.size]? = some _ from blkOld _ (blkOld _ (blkOld _ (blkOld _ (blk0 _ _)))))
    simpa using h
  have T6 : W.heap[w.heap.size + 6]? = some (Obj.cells #[.string ⟨#[83, 116, 114, 105, 99, 116]⟩, .string ⟨#[80, 117, 114, 101]⟩, .string ⟨#[84, 111, 116, 97, 108]⟩, .string ⟨#[83, 111, 114, 116, 101, 100]⟩] 9) := by
    have h := hW ▸ (show (((((((((((w.alloc (Obj.cells #[.string ⟨#[83, 116, 114, 105, 99, 116]⟩, .string ⟨#[80, 117, 114, 101]⟩, .string ⟨#[83, 111, 114, 116, 101, 100]⟩] 9)).alloc (Obj.cells #[.string ⟨#[83, 116, 114, 105, 99, 116]⟩, .string ⟨#[80, 117, 114, 101]⟩, .string ⟨#[84, 111, 116, 97, 108]⟩, .string ⟨#[83, 111, 114, 116, 101, 100]⟩] 9)).alloc (Obj.cells #[.string ⟨#[83, 116, 114, 105, 99, 116]⟩, .string ⟨#[80, 117, 114, 101]⟩, .string ⟨#[83, 111, 114, 116, 101, 100]⟩] 9)).alloc (Obj.cells #[.string ⟨#[83, 116, 114, 105, 99, 116]⟩, .string ⟨#[80, 117, 114, 101]⟩, .string ⟨#[83, 111, 114, 116, 101, 100]⟩] 9)).alloc (Obj.cells #[.string ⟨#[83, 116, 114, 105, 99, 116]⟩, .string ⟨#[80, 117, 114, 101]⟩, .string ⟨#[83, 111, 114, 116, 101, 100]⟩] 9)).alloc (Obj.cells #[.string ⟨#[83, 116, 114, 105, 99, 116]⟩, .string ⟨#[80, 117, 114, 101]⟩, .string ⟨#[83, 111, 114, 116, 101, 100]⟩] 9)).alloc (Obj.cells #[.string ⟨#[83, 116, 114, 105, 99, 116]⟩, .string ⟨#[80, 117, 114, 101]⟩, .string ⟨#[84, 111, 116, 97, 108]⟩, .string ⟨#[83, 111, 114, 116, 101, 100]⟩] 9)).alloc (Obj.cells #[.string ⟨#[83, 116, 114, 105, 99, 116]⟩, .string ⟨#[80, 117, 114, 101]⟩, .string ⟨#[83, 111, 114, 116, 101, 100]⟩] 9)).alloc (Obj.cells #[.string ⟨#[76, 97, 122, 121]⟩, .string ⟨#[66, 105, 110, 100, 101, 114]⟩, .string ⟨#[80, 117, 114, 101]⟩, .string ⟨#[83, 111, 114, 116, 101, 100]⟩] 9)).alloc (Obj.cells #[.string ⟨#[76, 97, 122, 121]⟩, .string ⟨#[66, 105, 110, 100, 101, 114]⟩, .string ⟨#[80, 117, 114, 101]⟩, .string ⟨#[84, 111, 116, 97, 108]⟩, .string ⟨#[83, 111, 114, 116, 101, 100]⟩] 9))).heap[(((((((w.alloc (Obj.cells #[.string ⟨#[83, 116, 114, 105, 99, 116]⟩, .string ⟨#[80, 117, 114, 101]⟩, .string ⟨#[83, 111, 114, 116, 101, 100]⟩] 9)).alloc (Obj.cells #[.string ⟨#[83, 116, 114, 105, 99, 116]⟩, .string ⟨#[80, 117, 114, 101]⟩, .string ⟨#[84, 111, 116, 97, 108]⟩, .string ⟨#[83, 111, 114, 116, 101, 100]⟩] 9)).alloc (Obj.cells #[.string ⟨#[83, 116, 114, 105, 99, 116]⟩, .string ⟨#[80, 117, 114, 101]⟩, .string ⟨#[83, 111, 114, 116, 101, 100]⟩] 9)).alloc (Obj.cells #[.string ⟨#[83, 116, 114, 105, 99, 116]⟩, .string ⟨#[80, 117, 114, 101]⟩, .string ⟨#[83, 111, 114, 116, 101, 100]⟩] 9)).alloc (Obj.cells #[.string ⟨#[83, 116, 114, 105, 99, 116]⟩, .string ⟨#[80, 117, 114, 101]⟩, .string ⟨#[83, 111, 114, 116, 101, 100]⟩] 9)).alloc (Obj.cells #[.string ⟨#[83, 116, 114, 105, 99, 116]⟩, .string ⟨#[80, 117, 114, 101]⟩, .string ⟨#[83, 111, 114, 116, 101, 100]⟩] 9))).heap.size]? = some _ from blkOld _ (blkOld _ (blkOld _ (blk0 _ _))))
    simpa using h
  have T7 : W.heap[w.heap.size + 7]? = some (Obj.cells #[.string ⟨#[83, 116, 114, 105, 99, 116]⟩, .string ⟨#[80, 117, 114, 101]⟩, .string ⟨#[83, 111, 114, 116, 101, 100]⟩] 9) := by
    have h := hW ▸ (show (((((((((((w.alloc (Obj.cells #[.string ⟨#[83, 116, 114, 105, 99, 116]⟩, .string ⟨#[80, 117, 114, 101]⟩, .string ⟨#[83, 111, 114, 116, 101, 100]⟩] 9)).alloc (Obj.cells #[.string ⟨#[83, 116, 114, 105, 99, 116]⟩, .string ⟨#[80, 117, 114, 101]⟩, .string ⟨#[84, 111, 116, 97, 108]⟩, .string ⟨#[83, 111, 114, 116, 101, 100]⟩] 9)).alloc (Obj.cells #[.string ⟨#[83, 116, 114, 105, 99, 116]⟩, .string ⟨#[80, 117, 114, 101]⟩, .string ⟨#[83, 111, 114, 116, 101, 100]⟩] 9)).alloc (Obj.cells #[.string ⟨#[83, 116, 114, 105, 99, 116]⟩, .string ⟨#[80, 117, 114, 101]⟩, .string ⟨#[83, 111, 114, 116, 101, 100]⟩] 9)).alloc (Obj.cells #[.string ⟨#[83, 116, 114, 105, 99, 116]⟩, .string ⟨#[80, 117, 114, 101]⟩, .string ⟨#[83, 111, 114, 116, 101, 100]⟩] 9)).alloc (Obj.cells #[.string ⟨#[83, 116, 114, 105, 99, 116]⟩, .string ⟨#[80, 117, 114, 101]⟩, .string ⟨#[83, 111, 114, 116, 101, 100]⟩] 9)).alloc (Obj.cells #[.string ⟨#[83, 116, 114, 105, 99, 116]⟩, .string ⟨#[80, 117, 114, 101]⟩, .string ⟨#[84, 111, 116, 97, 108]⟩, .string ⟨#[83, 111, 114, 116, 101, 100]⟩] 9)).alloc (Obj.cells #[.string ⟨#[83, 116, 114, 105, 99, 116]⟩, .string ⟨#[80, 117, 114, 101]⟩, .string ⟨#[83, 111, 114, 116, 101, 100]⟩] 9)).alloc (Obj.cells #[.string ⟨#[76, 97, 122, 121]⟩, .string ⟨#[66, 105, 110, 100, 101, 114]⟩, .string ⟨#[80, 117, 114, 101]⟩, .string ⟨#[83, 111, 114, 116, 101, 100]⟩] 9)).alloc (Obj.cells #[.string ⟨#[76, 97, 122, 121]⟩, .string ⟨#[66, 105, 110, 100, 101, 114]⟩, .string ⟨#[80, 117, 114, 101]⟩, .string ⟨#[84, 111, 116, 97, 108]⟩, .string ⟨#[83, 111, 114, 116, 101, 100]⟩] 9))).heap[((((((((w.alloc (Obj.cells #[.string ⟨#[83, 116, 114, 105, 99, 116]⟩, .string ⟨#[80, 117, 114, 101]⟩, .string ⟨#[83, 111, 114, 116, 101, 100]⟩] 9)).alloc (Obj.cells #[.string ⟨#[83, 116, 114, 105, 99, 116]⟩, .string ⟨#[80, 117, 114, 101]⟩, .string ⟨#[84, 111, 116, 97, 108]⟩, .string ⟨#[83, 111, 114, 116, 101, 100]⟩] 9)).alloc (Obj.cells #[.string ⟨#[83, 116, 114, 105, 99, 116]⟩, .string ⟨#[80, 117, 114, 101]⟩, .string ⟨#[83, 111, 114, 116, 101, 100]⟩] 9)).alloc (Obj.cells #[.string ⟨#[83, 116, 114, 105, 99, 116]⟩, .string ⟨#[80, 117, 114, 101]⟩, .string ⟨#[83, 111, 114, 116, 101, 100]⟩] 9)).alloc (Obj.cells #[.string ⟨#[83, 116, 114, 105, 99, 116]⟩, .string ⟨#[80, 117, 114, 101]⟩, .string ⟨#[83, 111, 114, 116, 101, 100]⟩] 9)).alloc (Obj.cells #[.string ⟨#[83, 116, 114, 105, 99, 116]⟩, .string ⟨#[80, 117, 114, 101]⟩, .string ⟨#[83, 111, 114, 116, 101, 100]⟩] 9)).alloc (Obj.cells #[.string ⟨#[83, 116, 114, 105, 99, 116]⟩, .string ⟨#[80, 117, 114, 101]⟩, .string ⟨#[84, 111, 116, 97, 108]⟩, .string ⟨#[83, 111, 114, 116, 101, 100]⟩] 9))).heap.size]? = some _ from blkOld _ (blkOld _ (blk0 _ _)))
    simpa using h
  have T8 : W.heap[w.heap.size + 8]? = some (Obj.cells #[.string ⟨#[76, 97, 122, 121]⟩, .string ⟨#[66, 105, 110, 100, 101, 114]⟩, .string ⟨#[80, 117, 114, 101]⟩, .string ⟨#[83, 111, 114, 116, 101, 100]⟩] 9) := by
    have h := hW ▸ (show (((((((((((w.alloc (Obj.cells #[.string ⟨#[83, 116, 114, 105, 99, 116]⟩, .string ⟨#[80, 117, 114, 101]⟩, .string ⟨#[83, 111, 114, 116, 101, 100]⟩] 9)).alloc (Obj.cells #[.string ⟨#[83, 116, 114, 105, 99, 116]⟩, .string ⟨#[80, 117, 114, 101]⟩, .string ⟨#[84, 111, 116, 97, 108]⟩, .string ⟨#[83, 111, 114, 116, 101, 100]⟩] 9)).alloc (Obj.cells #[.string ⟨#[83, 116, 114, 105, 99, 116]⟩, .string ⟨#[80, 117, 114, 101]⟩, .string ⟨#[83, 111, 114, 116, 101, 100]⟩] 9)).alloc (Obj.cells #[.string ⟨#[83, 116, 114, 105, 99, 116]⟩, .string ⟨#[80, 117, 114, 101]⟩, .string ⟨#[83, 111, 114, 116, 101, 100]⟩] 9)).alloc (Obj.cells #[.string ⟨#[83, 116, 114, 105, 99, 116]⟩, .string ⟨#[80, 117, 114, 101]⟩, .string ⟨#[83, 111, 114, 116, 101, 100]⟩] 9)).alloc (Obj.cells #[.string ⟨#[83, 116, 114, 105, 99, 116]⟩, .string ⟨#[80, 117, 114, 101]⟩, .string ⟨#[83, 111, 114, 116, 101, 100]⟩] 9)).alloc (Obj.cells #[.string ⟨#[83, 116, 114, 105, 99, 116]⟩, .string ⟨#[80, 117, 114, 101]⟩, .string ⟨#[84, 111, 116, 97, 108]⟩, .string ⟨#[83, 111, 114, 116, 101, 100]⟩] 9)).alloc (Obj.cells #[.string ⟨#[83, 116, 114, 105, 99, 116]⟩, .string ⟨#[80, 117, 114, 101]⟩, .string ⟨#[83, 111, 114, 116, 101, 100]⟩] 9)).alloc (Obj.cells #[.string ⟨#[76, 97, 122, 121]⟩, .string ⟨#[66, 105, 110, 100, 101, 114]⟩, .string ⟨#[80, 117, 114, 101]⟩, .string ⟨#[83, 111, 114, 116, 101, 100]⟩] 9)).alloc (Obj.cells #[.string ⟨#[76, 97, 122, 121]⟩, .string ⟨#[66, 105, 110, 100, 101, 114]⟩, .string ⟨#[80, 117, 114, 101]⟩, .string ⟨#[84, 111, 116, 97, 108]⟩, .string ⟨#[83, 111, 114, 116, 101, 100]⟩] 9))).heap[(((((((((w.alloc (Obj.cells #[.string ⟨#[83, 116, 114, 105, 99, 116]⟩, .string ⟨#[80, 117, 114, 101]⟩, .string ⟨#[83, 111, 114, 116, 101, 100]⟩] 9)).alloc (Obj.cells #[.string ⟨#[83, 116, 114, 105, 99, 116]⟩, .string ⟨#[80, 117, 114, 101]⟩, .string ⟨#[84, 111, 116, 97, 108]⟩, .string ⟨#[83, 111, 114, 116, 101, 100]⟩] 9)).alloc (Obj.cells #[.string ⟨#[83, 116, 114, 105, 99, 116]⟩, .string ⟨#[80, 117, 114, 101]⟩, .string ⟨#[83, 111, 114, 116, 101, 100]⟩] 9)).alloc (Obj.cells #[.string ⟨#[83, 116, 114, 105, 99, 116]⟩, .string ⟨#[80, 117, 114, 101]⟩, .string ⟨#[83, 111, 114, 116, 101, 100]⟩] 9)).alloc (Obj.cells #[.string ⟨#[83, 116, 114, 105, 99, 116]⟩, .string ⟨#[80, 117, 114, 101]⟩, .string ⟨#[83, 111, 114, 116, 101, 100]⟩] 9)).alloc (Obj.cells #[.string ⟨#[83, 116, 114, 105, 99, 116]⟩, .string ⟨#[80, 117, 114, 101]⟩, .string ⟨#[83, 111, 114, 116, 101, 100]⟩] 9)).alloc (Obj.cells #[.string ⟨#[83, 116, 114, 105, 99, 116]⟩, .string ⟨#[80, 117, 114, 101]⟩, .string ⟨#[84, 111, 116, 97, 108]⟩, .string ⟨#[83, 111, 114, 116, 101, 100]⟩] 9)).alloc (Obj.cells #[.string ⟨#[83, 116, 114, 105, 99, 116]⟩, .string ⟨#[80, 117, 114, 101]⟩, .string ⟨#[83, 111, 114, 116, 101, 100]⟩] 9))).heap.size]? = some _ from blkOld _ (blk0 _ _))
    simpa using h
  have T9 : W.heap[w.heap.size + 9]? = some (Obj.cells #[.string ⟨#[76, 97, 122, 121]⟩, .string ⟨#[66, 105, 110, 100, 101, 114]⟩, .string ⟨#[80, 117, 114, 101]⟩, .string ⟨#[84, 111, 116, 97, 108]⟩, .string ⟨#[83, 111, 114, 116, 101, 100]⟩] 9) := by
    have h := hW ▸ (show (((((((((((w.alloc (Obj.cells #[.string ⟨#[83, 116, 114, 105, 99, 116]⟩, .string ⟨#[80, 117, 114, 101]⟩, .string ⟨#[83, 111, 114, 116, 101, 100]⟩] 9)).alloc (Obj.cells #[.string ⟨#[83, 116, 114, 105, 99, 116]⟩, .string ⟨#[80, 117, 114, 101]⟩, .string ⟨#[84, 111, 116, 97, 108]⟩, .string ⟨#[83, 111, 114, 116, 101, 100]⟩] 9)).alloc (Obj.cells #[.string ⟨#[83, 116, 114, 105, 99, 116]⟩, .string ⟨#[80, 117, 114, 101]⟩, .string ⟨#[83, 111, 114, 116, 101, 100]⟩] 9)).alloc (Obj.cells #[.string ⟨#[83, 116, 114, 105, 99, 116]⟩, .string ⟨#[80, 117, 114, 101]⟩, .string ⟨#[83, 111, 114, 116, 101, 100]⟩] 9)).alloc (Obj.cells #[.string ⟨#[83, 116, 114, 105, 99, 116]⟩, .string ⟨#[80, 117, 114, 101]⟩, .string ⟨#[83, 111, 114, 116, 101, 100]⟩] 9)).alloc (Obj.cells #[.string ⟨#[83, 116, 114, 105, 99, 116]⟩, .string ⟨#[80, 117, 114, 101]⟩, .string ⟨#[83, 111, 114, 116, 101, 100]⟩] 9)).alloc (Obj.cells #[.string ⟨#[83, 116, 114, 105, 99, 116]⟩, .string ⟨#[80, 117, 114, 101]⟩, .string ⟨#[84, 111, 116, 97, 108]⟩, .string ⟨#[83, 111, 114, 116, 101, 100]⟩] 9)).alloc (Obj.cells #[.string ⟨#[83, 116, 114, 105, 99, 116]⟩, .string ⟨#[80, 117, 114, 101]⟩, .string ⟨#[83, 111, 114, 116, 101, 100]⟩] 9)).alloc (Obj.cells #[.string ⟨#[76, 97, 122, 121]⟩, .string ⟨#[66, 105, 110, 100, 101, 114]⟩, .string ⟨#[80, 117, 114, 101]⟩, .string ⟨#[83, 111, 114, 116, 101, 100]⟩] 9)).alloc (Obj.cells #[.string ⟨#[76, 97, 122, 121]⟩, .string ⟨#[66, 105, 110, 100, 101, 114]⟩, .string ⟨#[80, 117, 114, 101]⟩, .string ⟨#[84, 111, 116, 97, 108]⟩, .string ⟨#[83, 111, 114, 116, 101, 100]⟩] 9))).heap[((((((((((w.alloc (Obj.cells #[.string ⟨#[83, 116, 114, 105, 99, 116]⟩, .string ⟨#[80, 117, 114, 101]⟩, .string ⟨#[83, 111, 114, 116, 101, 100]⟩] 9)).alloc (Obj.cells #[.string ⟨#[83, 116, 114, 105, 99, 116]⟩, .string ⟨#[80, 117, 114, 101]⟩, .string ⟨#[84, 111, 116, 97, 108]⟩, .string ⟨#[83, 111, 114, 116, 101, 100]⟩] 9)).alloc (Obj.cells #[.string ⟨#[83, 116, 114, 105, 99, 116]⟩, .string ⟨#[80, 117, 114, 101]⟩, .string ⟨#[83, 111, 114, 116, 101, 100]⟩] 9)).alloc (Obj.cells #[.string ⟨#[83, 116, 114, 105, 99, 116]⟩, .string ⟨#[80, 117, 114, 101]⟩, .string ⟨#[83, 111, 114, 116, 101, 100]⟩] 9)).alloc (Obj.cells #[.string ⟨#[83, 116, 114, 105, 99, 116]⟩, .string ⟨#[80, 117, 114, 101]⟩, .string ⟨#[83, 111, 114, 116, 101, 100]⟩] 9)).alloc (Obj.cells #[.string ⟨#[83, 116, 114, 105, 99, 116]⟩, .string ⟨#[80, 117, 114, 101]⟩, .string ⟨#[83, 111, 114, 116, 101, 100]⟩] 9)).alloc (Obj.cells #[.string ⟨#[83, 116, 114, 105, 99, 116]⟩, .string ⟨#[80, 117, 114, 101]⟩, .string ⟨#[84, 111, 116, 97, 108]⟩, .string ⟨#[83, 111, 114, 116, 101, 100]⟩] 9)).alloc (Obj.cells #[.string ⟨#[83, 116, 114, 105, 99, 116]⟩, .string ⟨#[80, 117, 114, 101]⟩, .string ⟨#[83, 111, 114, 116, 101, 100]⟩] 9)).alloc (Obj.cells #[.string ⟨#[76, 97, 122, 121]⟩, .string ⟨#[66, 105, 110, 100, 101, 114]⟩, .string ⟨#[80, 117, 114, 101]⟩, .string ⟨#[83, 111, 114, 116, 101, 100]⟩] 9))).heap.size]? = some _ from blk0 _ _)
    simpa using h
  have hx : Ext w W := hW ▸ ((((((((((Ext.alloc _ _).trans (Ext.alloc _ _)).trans (Ext.alloc _ _)).trans (Ext.alloc _ _)).trans (Ext.alloc _ _)).trans (Ext.alloc _ _)).trans (Ext.alloc _ _)).trans (Ext.alloc _ _)).trans (Ext.alloc _ _)).trans (Ext.alloc _ _))
  go_enter Tryz.func35, Tryz.ntmps35
  go_wp2_with fail
  go_ret
  subst hW
  refine ⟨some ⟨w.heap.size + 10, 0, none⟩, 10, rfl, ?_, hx.trans (Ext.alloc _ _)⟩
  show RItems _ _ (.slice (some ⟨w.heap.size + 10, 0, none⟩) 10 10) listR
  refine ritems_new (n := 10) (cur := listRC w.heap.size) rfl (Nat.le_add_right _ _) (by rw [← hs]; exact blk0 _ _) rfl (by decide) ?_
  intro j hj
  have hl : listR.length = 10 := rfl
  rw [hl] at hj
  match j, hj with
  | 0, _ => exact ⟨_, _, ⟨rfl, rfl, rfl, rfl, rfl, rfl⟩, (tb_new T0 rfl).later (Ext.alloc _ _)⟩
  | 1, _ => exact ⟨_, _, ⟨rfl, rfl, rfl, rfl, rfl, rfl⟩, (tb_new T1 rfl).later (Ext.alloc _ _)⟩
  | 2, _ => exact ⟨_, _, ⟨rfl, rfl, rfl, rfl, rfl, rfl⟩, (tb_new T2 rfl).later (Ext.alloc _ _)⟩
  | 3, _ => exact ⟨_, _, ⟨rfl, rfl, rfl, rfl, rfl, rfl⟩, (tb_new T3 rfl).later (Ext.alloc _ _)⟩
  | 4, _ => exact ⟨_, _, ⟨rfl, rfl, rfl, rfl, rfl, rfl⟩, (tb_new T4 rfl).later (Ext.alloc _ _)⟩
  | 5, _ => exact ⟨_, _, ⟨rfl, rfl, rfl, rfl, rfl, rfl⟩, (tb_new T5 rfl).later (Ext.alloc _ _)⟩
  | 6, _ => exact ⟨_, _, ⟨rfl, rfl, rfl, rfl, rfl, rfl⟩, (tb_new T6 rfl).later (Ext.alloc _ _)⟩
  | 7, _ => exact ⟨_, _, ⟨rfl, rfl, rfl, rfl, rfl, rfl⟩, (tb_new T7 rfl).later (Ext.alloc _ _)⟩
  | 8, _ => exact ⟨_, _, ⟨rfl, rfl, rfl, rfl, rfl, rfl⟩, (tb_new T8 rfl).later (Ext.alloc _ _)⟩
  | 9, _ => exact ⟨_, _, ⟨rfl, rfl, rfl, rfl, rfl, rfl⟩, (tb_new T9 rfl).later (Ext.alloc _ _)⟩
  | n + 10, h => exact absurd h (by omega)
set_option maxRecDepth 100000 in
set_option maxHeartbeats 4000000 in
theorem mayL_gen {K : Nat → Prop} {d : Nat} (rs : List Rw) (op : ByteArray) (a : Option Addr) (c : Nat) (ts : List T) (w : World) (hrs : rs.length ≤ 1000) (hab : ∀ r ∈ rs, r.abs.length ≤ 100) (HRows : ∀ w, Calls Tryz.prog 35 #[] w (RowsR w rs)) (h : RdL K w d a ts) : Calls Tryz.prog 19 #[.string op, .slice a ts.length c] w fun e w' => e = .returned (.int .i64 (askM rs op ts)) ∧ Ext w w' := by
  have HK := hid h
  have HAB := hid hab
  have HRR := hid HRows
  have hts : (ts.length : Int) ≤ 140737488351232 := by have := h.1; omega
  have HA := hid (show ∀ j, (hj : j < rs.length) → strictM op rs[j] = true → (∀ i, (hi : i < rs.length) → i < j → strictM op rs[i] = false) → askM rs op ts = if (ts.length : Int) < rs[j].min ∨ (rs[j].max ≠ -1 ∧ rs[j].max < (ts.length : Int)) then 11 else if ∀ t ∈ ts, t.may then 0 else 1 from fun j hj h1 h2 => by unfold askM; rw [findM_first hj h1 h2])
  have HB := hid (show (∀ i, (hi : i < rs.length) → strictM op rs[i] = false) → askM rs op ts = 1 from fun h1 => by unfold askM; rw [findM_nothing h1])
  obtain ⟨V, hV⟩ : ∃ V, askM rs op ts = V := ⟨_, rfl⟩
  rw [hV] at HA HB ⊢
  clear hV
  obtain ⟨n, hne⟩ : ∃ n, rs.length = n := ⟨_, rfl⟩
  have HNE := hid hne
  obtain ⟨m, hme⟩ : ∃ m, ts.length = m := ⟨_, rfl⟩
  have HME := hid hme
  rw [hme] at HA hts ⊢
  rw [hne] at hrs
  have hn' : (n : Int) ≤ 1000 := by omega
  clear h hne hme hab HRows
  go_enter Tryz.func19, Tryz.ntmps19
  go_wp2_with fail
  refine (HRR.out _).mono ?_
  rintro e w1 ⟨ao, c1, rfl, hit, hx1⟩
  have HIT := hid hit
  have HX1 := hid hx1
  rw [HNE.out] at HIT
  rw [HNE.out]
  clear hit hx1
  go_wp2_with fail
  go_loopw [6] (fun q6 wr => ∃ j : Nat, j ≤ n ∧ q6 = .int .i64 j ∧ (∀ i, (h : i < rs.length) → i < j → strictM op rs[i] = false) ∧ Ext w1 wr) (fun q6 _ => n - (intOf q6).toNat)
  case atStart => exact ⟨0, Nat.zero_le _, rfl, fun _ _ h => absurd h (Nat.not_lt_zero _), Ext.refl _⟩
  case round =>
    obtain ⟨j, hj, rfl, hno, hx⟩ := hrel
    have HNO := hid hno
    have HX := hid hx
    clear hno hx
    by_cases hlt : j < n
    · have hlt' : (j : Int) < n := by omega
      have hjr : j < rs.length := by rw [HNE.out]; exact hlt
      obtain ⟨g, cap, a2, c2, hlv, ⟨p0, p1, p2, p3, p4, p5⟩, htb⟩ := (HIT.out.later HX.out).read j hjr
      obtain ⟨rfl, hnn, rfl⟩ := Value.slice.inj hlv
      clear hnn hlv
      have HTB := hid htb
      have hgl := lt_of_cell p0
      have HS := hid (show strictM op rs[j] = (decide (rs[j].kind = op) && anyS strictS rs[j].abs) from rfl)
      have HAJ := hid (HA.out j hjr)
      have HRL := hid (HAB.out _ (List.getElem_mem hjr))
      have HRJ := hid (show strictM op rs[j] = false → ∀ i, (h : i < rs.length) → i < j + 1 → strictM op rs[i] = false from fun e1 i hi h => by
        rcases Nat.lt_succ_iff_lt_or_eq.1 h with h | rfl
        · exact HNO.out i hi h
        · exact e1)
      clear htb
      generalize rs[j] = r at *
      clear hjr
      obtain ⟨rk, rmin, rmax, rnum, rtext, rabs⟩ := r
      dsimp only at *
      obtain ⟨rl, hrl⟩ : ∃ rl, rabs.length = rl := ⟨_, rfl⟩
      have HLE := hid hrl
      have hr1 : (rl : Int) ≤ 100 := by have := HRL.out; omega
      rw [hrl] at p5
      clear hrl
      go_wp2_with fail
      go_loopw [7, 8] (fun q7 q8 wx => ∃ i : Nat, i ≤ rl ∧ q8 = .int .i64 i ∧ q7 = .bool (anyS strictS (rabs.take i)) ∧ wx = wr) (fun _ q8 _ => rl - (intOf q8).toNat)
      case atStart => exact ⟨0, Nat.zero_le _, rfl, rfl, rfl⟩
      case round =>
        obtain ⟨i, hi, rfl, rfl, rfl⟩ := hrel
        by_cases hil : i < rl
        · have hil' : (i : Int) < rl := by omega
          have hia : i < rabs.length := by rw [HLE.out]; exact hil
          rcases HTB.out with e0 | ⟨g2, cur, rfl, hbk, hcur⟩
          · rw [e0] at hia; exact absurd hia (Nat.not_lt_zero _)
          have hc2 := cell_of hbk (hcur i hia)
          have hgl2 := lt_of_cell hc2
          have HTK := hid (anyS_take strictS rabs i hia)
          clear hbk hcur
          obtain ⟨bb, hbb⟩ : ∃ bb, anyS strictS (rabs.take i) = bb := ⟨_, rfl⟩
          rw [hbb] at HTK ⊢
          clear hbb
          generalize rabs[i] = y at *
          cases bb with
          | true =>
            have HV := hid (show anyS strictS (rabs.take (i + 1)) = true by rw [HTK.out]; rfl)
            clear HTK
            go_wp2_with fail
            go_roundw
            case rel => exact ⟨i + 1, hil, by go_num, by rw [HV.out], by trivial⟩
            case measure => simp [intOf]; omega
          | false =>
            by_cases he : y = strictS
            · have e1 : (y.toList == [83, 116, 114, 105, 99, 116]) = true := by rw [he]; kernel_rfl
              have HV := hid (show anyS strictS (rabs.take (i + 1)) = true by rw [HTK.out, decide_eq_true he]; rfl)
              clear HTK he
              go_wp2_with fail
              go_roundw
              case rel => exact ⟨i + 1, hil, by go_num, by rw [HV.out], by trivial⟩
              case measure => simp [intOf]; omega
            · have e1 : (y.toList == [83, 116, 114, 105, 99, 116]) = false := by rw [beq_eq_false_iff_ne]; exact fun e => he (toList_inj (e.trans (by kernel_rfl)))
              have e2 : ¬ y = ⟨#[83, 116, 114, 105, 99, 116]⟩ := he
              have HV := hid (show anyS strictS (rabs.take (i + 1)) = false by rw [HTK.out, decide_eq_false he]; rfl)
              clear HTK he
              go_wp2_with fail
              go_roundw
              case rel => exact ⟨i + 1, hil, by go_num, by rw [HV.out], by trivial⟩
              case measure => simp [intOf]; omega
        · obtain rfl : i = rl := by omega
          have hil3 : ¬ (i : Int) < i := by omega
          have HTA := hid (show anyS strictS (rabs.take i) = anyS strictS rabs by rw [← HLE.out, List.take_length])
          rw [HTA.out]
          obtain ⟨bs, hbs⟩ : ∃ bs, anyS strictS rabs = bs := ⟨_, rfl⟩
          rw [hbs] at HS ⊢
          clear hbs HTA
          by_cases hk : rk = op
          · have e1 : (rk.toList == op.toList) = true := by rw [hk]; exact beq_self_eq_true _
            have e1' : (rk.toList != op.toList) = false := by unfold bne; rw [e1]; rfl
            rw [decide_eq_true hk, Bool.true_and] at HS
            clear hk
            cases bs with
            | false =>
              go_wp2_with fail
              go_roundw
              case rel => exact ⟨j + 1, hlt, by go_num, HRJ.out HS.out, HX.out⟩
              case measure => simp [intOf]; omega
            | true =>
              have HV := hid (HAJ.out HS.out HNO.out)
              by_cases q1 : (m : Int) < rmin
              · have HV2 := hid (show V = 11 by rw [HV.out, if_pos (.inl q1)])
                go_wp2_with fail
                go_ret
                exact ⟨by rw [HV2.out]; rfl, HX1.out.trans HX.out⟩
              by_cases q3 : rmax = -1
              case neg =>
                have q3' : (rmax == -1) = false := by rw [beq_eq_false_iff_ne]; exact q3
                have q3n : (rmax != -1) = true := by unfold bne; rw [q3']; rfl
                by_cases q2 : rmax < (m : Int)
                · have HV2 := hid (show V = 11 by rw [HV.out, if_pos (.inr ⟨q3, q2⟩)])
                  clear q3
                  go_wp2_with fail
                  go_ret
                  exact ⟨by rw [HV2.out]; rfl, HX1.out.trans HX.out⟩
                have HV2 := hid (show V = if ∀ t ∈ ts, t.may then 0 else 1 by rw [HV.out, if_neg (fun h => h.elim q1 (fun h => q2 h.2))])
                clear HV HAJ q3
                go_wp2_with fail
                clear p0 p1 p2 p3 p4 p5 hgl e1 e1' q1 q2 q3' q3n
                go_loopw [9] (fun q9 wr2 => ∃ i : Nat, i ≤ m ∧ q9 = .int .i64 i ∧ (∀ x, (h : x < ts.length) → x < i → ts[x].may) ∧ Ext w1 wr2) (fun q9 _ => m - (intOf q9).toNat)
                case atStart => exact ⟨0, Nat.zero_le _, rfl, fun _ _ h => absurd h (Nat.not_lt_zero _), HX.out⟩
                case round =>
                  obtain ⟨i, hi, rfl, hall, hx2⟩ := hrel
                  have HALL := hid hall
                  have HX2 := hid (HX1.out.trans hx2)
                  have HX6 := hid hx2
                  clear hall hx2
                  by_cases hlt2 : i < m
                  · have hlt2' : (i : Int) < m := by omega
                    have hit2 : i < ts.length := by rw [HME.out]; exact hlt2
                    obtain ⟨g2, off2, k', n', x', a', l', c', rfl, hg2, h4, hrd⟩ := HK.out.kid hit2
                    obtain ⟨o0, o1, o2, o3⟩ := Four.keep h4 (HX2.out.kp K) hg2
                    have hgl2 := lt_of_cell o0
                    have HM := hid (rmay_any _ (hrd.later HX2.out))
                    have HNO2 := hid (show ¬ ts[i].may → V = 1 from fun hn => by rw [HV2.out, if_neg (fun h => hn (h _ (List.getElem_mem hit2)))])
                    have HYES := hid (show ts[i].may → ∀ x, (h : x < ts.length) → x < i + 1 → ts[x].may from fun hy x hx h => by
                      rcases Nat.lt_succ_iff_lt_or_eq.1 h with h | rfl
                      · exact HALL.out x hx h
                      · exact hy)
                    clear h4 hrd
                    generalize ts[i] = t at *
                    clear hit2
                    by_cases hmay : t.may
                    · rw [decide_eq_true hmay] at HM
                      have HY := hid (HYES.out hmay)
                      clear hmay
                      go_wp2_with fail
                      refine HM.out.mono ?_
                      rintro e w4 ⟨rfl, hx4⟩
                      have HX5 := hid (HX6.out.trans hx4)
                      clear hx4 o0 o1 o2 o3
                      go_wp2_with fail
                      go_roundw
                      case rel => exact ⟨i + 1, hlt2, by go_num, HY.out, HX5.out⟩
                      case measure => simp [intOf]; omega
                    · rw [decide_eq_false hmay] at HM
                      have HY := hid (HNO2.out hmay)
                      clear hmay
                      go_wp2_with fail
                      refine HM.out.mono ?_
                      rintro e w4 ⟨rfl, hx4⟩
                      have HX4 := hid (HX2.out.trans hx4)
                      clear hx4 o0 o1 o2 o3
                      go_wp2_with fail
                      go_ret
                      exact ⟨by rw [HY.out]; rfl, HX4.out⟩
                  · have HY := hid (show V = 0 by
                      rw [HV2.out, if_pos]
                      intro t ht
                      obtain ⟨x, hx, rfl⟩ := List.getElem_of_mem ht
                      exact HALL.out x hx (by have := HME.out; omega))
                    have hlt3 : ¬ (i : Int) < m := by omega
                    go_wp2_with fail
                    go_ret
                    exact ⟨by rw [HY.out]; rfl, HX2.out⟩
              have HV2 := hid (show V = if ∀ t ∈ ts, t.may then 0 else 1 by rw [HV.out, if_neg (fun h => h.elim q1 (fun h => h.1 q3))])
              subst q3
              clear HV HAJ
              go_wp2_with fail
              clear p0 p1 p2 p3 p4 p5 hgl e1 e1' q1
              go_loopw [9] (fun q9 wr2 => ∃ i : Nat, i ≤ m ∧ q9 = .int .i64 i ∧ (∀ x, (h : x < ts.length) → x < i → ts[x].may) ∧ Ext w1 wr2) (fun q9 _ => m - (intOf q9).toNat)
              case atStart => exact ⟨0, Nat.zero_le _, rfl, fun _ _ h => absurd h (Nat.not_lt_zero _), HX.out⟩
              case round =>
                obtain ⟨i, hi, rfl, hall, hx2⟩ := hrel
                have HALL := hid hall
                have HX2 := hid (HX1.out.trans hx2)
                have HX6 := hid hx2
                clear hall hx2
                by_cases hlt2 : i < m
                · have hlt2' : (i : Int) < m := by omega
                  have hit2 : i < ts.length := by rw [HME.out]; exact hlt2
                  obtain ⟨g2, off2, k', n', x', a', l', c', rfl, hg2, h4, hrd⟩ := HK.out.kid hit2
                  obtain ⟨o0, o1, o2, o3⟩ := Four.keep h4 (HX2.out.kp K) hg2
                  have hgl2 := lt_of_cell o0
                  have HM := hid (rmay_any _ (hrd.later HX2.out))
                  have HNO2 := hid (show ¬ ts[i].may → V = 1 from fun hn => by rw [HV2.out, if_neg (fun h => hn (h _ (List.getElem_mem hit2)))])
                  have HYES := hid (show ts[i].may → ∀ x, (h : x < ts.length) → x < i + 1 → ts[x].may from fun hy x hx h => by
                    rcases Nat.lt_succ_iff_lt_or_eq.1 h with h | rfl
                    · exact HALL.out x hx h
                    · exact hy)
                  clear h4 hrd
                  generalize ts[i] = t at *
                  clear hit2
                  by_cases hmay : t.may
                  · rw [decide_eq_true hmay] at HM
                    have HY := hid (HYES.out hmay)
                    clear hmay
                    go_wp2_with fail
                    refine HM.out.mono ?_
                    rintro e w4 ⟨rfl, hx4⟩
                    have HX5 := hid (HX6.out.trans hx4)
                    clear hx4 o0 o1 o2 o3
                    go_wp2_with fail
                    go_roundw
                    case rel => exact ⟨i + 1, hlt2, by go_num, HY.out, HX5.out⟩
                    case measure => simp [intOf]; omega
                  · rw [decide_eq_false hmay] at HM
                    have HY := hid (HNO2.out hmay)
                    clear hmay
                    go_wp2_with fail
                    refine HM.out.mono ?_
                    rintro e w4 ⟨rfl, hx4⟩
                    have HX4 := hid (HX2.out.trans hx4)
                    clear hx4 o0 o1 o2 o3
                    go_wp2_with fail
                    go_ret
                    exact ⟨by rw [HY.out]; rfl, HX4.out⟩
                · have HY := hid (show V = 0 by
                    rw [HV2.out, if_pos]
                    intro t ht
                    obtain ⟨x, hx, rfl⟩ := List.getElem_of_mem ht
                    exact HALL.out x hx (by have := HME.out; omega))
                  have hlt3 : ¬ (i : Int) < m := by omega
                  go_wp2_with fail
                  go_ret
                  exact ⟨by rw [HY.out]; rfl, HX2.out⟩
          · have e1 : (rk.toList == op.toList) = false := by rw [beq_eq_false_iff_ne]; exact fun e => hk (toList_inj e)
            have e1' : (rk.toList != op.toList) = true := by unfold bne; rw [e1]; rfl
            rw [decide_eq_false hk, Bool.false_and] at HS
            clear hk
            go_wp2_with fail
            go_roundw
            case rel => exact ⟨j + 1, hlt, by go_num, HRJ.out HS.out, HX.out⟩
            case measure => simp [intOf]; omega
    · have HV := hid (HB.out (fun i hi => HNO.out i hi (by have := HNE.out; omega)))
      have hlt3 : ¬ (j : Int) < n := by omega
      go_wp2_with fail
      go_ret
      exact ⟨by rw [HV.out]; rfl, HX1.out.trans HX.out⟩

end Go.Proofs.YtaafcmmmkalgjaaGreatDoor
