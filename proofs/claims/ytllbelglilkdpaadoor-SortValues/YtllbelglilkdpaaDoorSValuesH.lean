/-
  For the walk of espalierlaw5.SortValues.
-/
import Derived.Test.YtllbelglilkdpaaDoorSValM
import Derived.Test.YtllbelglilkdpaaDoorSBegun
import Derived.Test.YtllbelglilkdpaaDoorPlainIn
namespace Go.Proofs.YtllbelglilkdpaaDoor
open Go.RowKit
theorem Rd.up {K : Nat → Prop} {w : World} {d : Nat} {v : Value} {t : T} (h : Rd K w d v t) : ∀ k, Rd K w (d + k) v t
  | 0 => h
  | k + 1 => (Rd.up h k).deep
theorem ne_zero' {E : Int} (h : ¬ E = 0) : (E != 0) = true ∧ (E == 0) = false := ⟨by rw [bne_iff_ne]; exact h, by rw [beq_eq_false_iff_ne]; exact h⟩
theorem mayS_some' {t : S} {a : Nat × ByteArray} (h : shp t = some a) : mayS t = 0 := by unfold mayS; rw [h]; rfl
theorem mayS_none' {t : S} (h : shp t = none) : mayS t = 14 := by unfold mayS; rw [h]; rfl
/-- A list of two plain values. -/
theorem two_rd {w : World} {g d : Nat} {p q : T} {a0 a1 a2 a3 b0 b1 b2 b3 : Value} {ty : TypeId} (h : w.heap[g]? = some (.cells #[a0, a1, a2, a3, b0, b1, b2, b3] ty)) (hp : Rd (fun _ => True) w d (.agg #[a0, a1, a2, a3]) p) (hq : Rd (fun _ => True) w d (.agg #[b0, b1, b2, b3]) q) : Rd (fun _ => True) w (d + 1) (.agg #[.int .i64 5, .int .i64 0, .string ⟨#[]⟩, .slice (some ⟨g, 0, none⟩) 2 2]) (twoT p q) := by
  refine ⟨some ⟨g, 0, none⟩, 2, rfl, by decide, by show 2 * 56 ≤ 140737488351232; decide, .inr ⟨g, 0, rfl, trivial, fun j hj => ?_⟩⟩
  have hj' : j < 2 := hj
  match j, hj' with
  | 0, _ => exact ⟨a0, a1, a2, a3, ⟨cell_of h rfl, cell_of h rfl, cell_of h rfl, cell_of h rfl⟩, hp⟩
  | 1, _ => exact ⟨b0, b1, b2, b3, ⟨cell_of h rfl, cell_of h rfl, cell_of h rfl, cell_of h rfl⟩, hq⟩
end Go.Proofs.YtllbelglilkdpaaDoor
