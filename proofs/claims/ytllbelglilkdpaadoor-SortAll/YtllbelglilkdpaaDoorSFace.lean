/-
  shapesOf, May, Same of package sort, each by a contract.
-/
import Derived.Test.YtllbelglilkdpaaDoorSShape
namespace Go.Proofs.YtllbelglilkdpaaDoor
open Go.RowKit
/-- The number that May tells. -/
def mayS (t : S) : Int := if (shp t).isSome then 0 else 14
theorem shpV_two (t : S) : ∃ n x, shpV (shp t) = .tuple #[.agg #[.int .i64 n, .string x], .int .i64 (mayS t)] := by
  unfold mayS
  cases h : shp t with
  | none => exact ⟨_, _, rfl⟩
  | some y => exact ⟨_, _, rfl⟩
set_option maxRecDepth 100000 in
theorem mayS_any {K : Nat → Prop} {d : Nat} {v : Value} {t : S} (w : World) (hr : SRd K w d v t) : Calls Tryd.prog 10 #[v] w fun e w' => e = .returned (.int .i64 (mayS t)) ∧ Ext w w' := by
  obtain ⟨a, c, rfl⟩ := hr.shape
  obtain ⟨n, x, hV⟩ := shpV_two t
  have HC := hid (fun w1 (h : Ext w w1) => shapeOf_any w1 (hr.later h))
  rw [hV] at HC
  clear hr hV
  generalize t.kids.length = kl at *
  generalize t.name = nm at *
  go_enter Tryd.func10, Tryd.ntmps10
  go_wp2_with fail
  refine (HC.out _ (Ext.alloc _ _)).mono ?_
  rintro e w1 ⟨rfl, hx1⟩
  have HX := hid ((Ext.alloc w _).trans hx1)
  clear hx1
  go_wp2_with fail
  go_ret
  exact ⟨rfl, HX.out.more _⟩
/-- What shapesOf answers. -/
def shsV (t u : S) : Value := match shp t, shp u with
  | some (n, x), some (m, y) => .tuple #[.agg #[.int .i64 n, .string x], .agg #[.int .i64 m, .string y], .int .i64 0]
  | some (n, x), none => .tuple #[.agg #[.int .i64 n, .string x], .agg #[.int .i64 0, .string ⟨#[]⟩], .int .i64 14]
  | none, _ => .tuple #[.agg #[.int .i64 0, .string ⟨#[]⟩], .agg #[.int .i64 0, .string ⟨#[]⟩], .int .i64 14]
end Go.Proofs.YtllbelglilkdpaaDoor
