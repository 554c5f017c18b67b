/-
  An array handed back by value.
-/
import Derived.Test.YtgpggkepgoelfaaGreatDoorBase
import Derived.Deep.WholeRow
namespace Go.Proofs.YtgpggkepgoelfaaGreatDoor
open Go.RowKit
theorem results_one_cell {fn : Func} {p : Tmp} {ty : TypeId} (h : fn.results = #[.cell p ty]) (tmps : Array Value) (P : Program) (w : World) :
    (results fn tmps).run P w = ((asAddr (tmps.getD p undef)).run P w).andThen fun a w₁ => (loadVar ty a).run P w₁ := by
  simp only [results, h]
  simp [Sem.run_bind, Result.andThen]
theorem asAddr_ptr (P : Program) (a : Addr) (w : World) : (asAddr (.pointer (some a))).run P w = .ok a w := rfl
/-- The whole array out of the block that was made last, as a function's result. -/
theorem res_array {P : Program} {fn : Func} {p : Tmp} {ty e : TypeId} {n : Nat} (h : fn.results = #[.cell p ty]) (hu : P.underlying ty = some (.array n e)) (tmps : Array Value) (cs : Array Value) (hs : (P.info? ty).map (·.size) = some cs.size) (w : World) (h0 : tmps.getD p undef = .pointer (some ⟨w.heap.size, 0, none⟩)) : (results fn tmps).run P (w.alloc (.cells cs ty)) = .ok (.agg cs) (w.alloc (.cells cs ty)) := by
  rw [results_one_cell h, h0, asAddr_ptr, Result.andThen_ok]
  exact run_loadVar_new w ty cs n e hu hs
end Go.Proofs.YtgpggkepgoelfaaGreatDoor
