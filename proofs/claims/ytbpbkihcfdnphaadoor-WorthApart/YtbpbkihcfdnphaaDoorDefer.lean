/-
  The deferred function of the reader's list, by a contract.
-/
import Derived.Test.YtbpbkihcfdnphaaDoorNumber
namespace Go.Proofs.YtbpbkihcfdnphaaDoor
open Go.RowKit
set_option maxRecDepth 100000 in
theorem unnest {m : FrameMode} (w : World) (b bx : Nat) (s : ByteArray) (i n : Nat) (h : RdAt w b s i n) (hn : n ≤ 100) (hb : w.heap[bx]? = some (.cells #[.pointer (some ⟨b, 0, none⟩)] 85)) :
    CallsD Tryd.prog 69 #[.pointer (some ⟨bx, 0, none⟩)] m w fun e u' w' => u' = m ∧ (e = .returned (.tuple #[]) ∧ w' = w.setCell ⟨b, 2, none⟩ (.int .i64 ((n : Int) - 1))) := by
  have c0 := cell_of (i := 0) hb rfl
  have c2 := cell_of (i := 2) h rfl
  have f2 := frozen_of (i := 2) h
  simp only [List.getElem_toArray, List.getElem_cons_zero, List.getElem_cons_succ] at c0 c2
  have hn' : (n : Int) ≤ 100 := by omega
  go_enter_d Tryd.func69, Tryd.ntmps69
  go_wp2
  go_end0
  exact ⟨rfl, rfl⟩
end Go.Proofs.YtbpbkihcfdnphaaDoor
