/-
  The library's tables and sentinels as they are laid: a world that meets the rows' condition.
-/
import Derived.Test.YtbpbkihcfdnphaaGreatDoorRows
import Derived.ChangeSame
import Derived.ChangeVars
import Derived.JoinedOf
import Derived.RowKit
import Derived.RowKitTokens
import Derived.LaidLaws
import Derived.LaidHandle
import Derived.Stop.Joined
import Derived.Stop.LaidErr
import Derived.Lib.LaidTab
import Derived.Lib.ItoaNum
import Derived.Test.YtbpbkihcfdnphaaGreatDoorEnvF
namespace Go.Proofs.YtbpbkihcfdnphaaGreatDoor
open Go.ChangeShapes Go.WideShapes Go.RowKit
theorem own : ownKnob Tryz.prog.godebug = none := by kernel_rfl
theorem laidOut : laidOutB Tryz.prog = true := by kernel_rfl
/-- The rows' list. -/
abbrev listed : List (String × DataW Unit) := [("math/bits.deBruijn32tab", Rows.laid_math_bits_deBruijn32tab), ("math/bits.deBruijn64tab", Rows.laid_math_bits_deBruijn64tab), ("internal/strconv.uint64pow10", Rows.laid_internal_strconv_uint64pow10), ("strconv.ErrRange", Rows.laid_strconv_ErrRange), ("strconv.ErrSyntax", Rows.laid_strconv_ErrSyntax)]
def litsOf (d : DataW Unit) : Array Value := match d with
  | .agg l => (l.map fun | .lit (.int k z) => Value.int k z | _ => .nilIface).toArray
  | _ => #[]
/-- A world in which they are laid. -/
noncomputable def laidWorld (os : Os) : World :=
  let w0 := World.holding Tryz.prog os ⟨#[], #[], []⟩
  { w0 with heap := ((((((w0.heap.setIfInBounds 0 (.cells (litsOf Rows.laid_internal_strconv_uint64pow10) 132)).setIfInBounds 1 (.cells #[.iface 154 (.pointer (some ⟨w0.heap.size, 0, none⟩))] 112)).setIfInBounds 2 (.cells #[.iface 154 (.pointer (some ⟨w0.heap.size + 1, 0, none⟩))] 112)).setIfInBounds 3 (.cells (litsOf Rows.laid_math_bits_deBruijn32tab) 152)).setIfInBounds 4 (.cells (litsOf Rows.laid_math_bits_deBruijn64tab) 153)).push (.cells #[.string ⟨#[105, 110, 118, 97, 108, 105, 100, 32, 115, 121, 110, 116, 97, 120]⟩] 156)).push (.cells #[.string ⟨#[118, 97, 108, 117, 101, 32, 111, 117, 116, 32, 111, 102, 32, 114, 97, 110, 103, 101]⟩] 156) }
theorem laidWorld_met (os : Os) (args : Array Value) : laidMetH Tryz.prog listed ((laidWorld os).forCall (fun _ _ => 0) ⟨#[], args, []⟩).memory :=
  laidMetH_of_parts (laidMet_of_run' 8 (by kernel_rfl) (by kernel_rfl)) (by kernel_rfl)
end Go.Proofs.YtbpbkihcfdnphaaGreatDoor
/-
  What the rows' condition gives the reader and the writer.
-/
namespace Go.Proofs.YtbpbkihcfdnphaaGreatDoor
open Go.ChangeShapes Go.WideShapes Go.RowKit
theorem tensNamed : Tryz.prog.globalNamed "internal/strconv.uint64pow10" = some 0 := by kernel_rfl
theorem tensType : (Tryz.prog.globals[0]?).map (·.type) = some 132 := by kernel_rfl
theorem tens_laid : (Rows.laid_internal_strconv_uint64pow10 : DataW Unit) = Lib.tabData .u64 Lib.pow10Tab := by kernel_rfl
theorem synNamed : Tryz.prog.globalNamed "strconv.ErrSyntax" = some 1 := by kernel_rfl
theorem ranNamed : Tryz.prog.globalNamed "strconv.ErrRange" = some 2 := by kernel_rfl
theorem synType : (Tryz.prog.globals[1]?).map (·.type) = some 112 := by kernel_rfl
theorem ranType : (Tryz.prog.globals[2]?).map (·.type) = some 112 := by kernel_rfl
theorem cells_es : Tryz.prog.cellsOf 156 = 1 := by kernel_rfl
theorem cells_st : Tryz.prog.cellsOf 9 = 1 := by kernel_rfl
theorem star : "*" ++ "errors.errorString" = "*errors.errorString" := by decide
theorem row_ep (u : TypeId) (h : Tryz.prog.typeName? 3 u = some "*errors.errorString") : u = 154 :=
  typeName_ptr_named (nm := "errors.errorString") (by rw [star]; kernel_rfl) (by kernel_rfl) (by decide) u (by rw [star]; exact h)
theorem laid_both {W : World} (h : laidMetH Tryz.prog listed W) : LaidE W ∧ LaidT W := by
  have h' : laidMet Tryz.prog listed W := h
  have h3 := h'.tail.tail
  have h4 := h3.tail
  have h5 := h4.tail
  rw [tens_laid] at h3
  refine ⟨⟨?_, ?_⟩, Lib.tabIs_of_head tensNamed tensType Tryz.underlying132 Tryz.underlying109 (by kernel_rfl) (by kernel_rfl) h3⟩
  · obtain ⟨a0, s0, hv0, -, -, -⟩ := laid_sentinel h5 synNamed synType Tryz.underlying112 row_ep Tryz.underlying154 Tryz.underlying156 rfl rfl Tryz.underlying9 cells_es cells_st
    exact ⟨_, by have h0 := World.var?_cell synNamed hv0 0; simpa using h0, .inr ⟨_, _, rfl⟩⟩
  · obtain ⟨a0, s0, hv0, -, -, -⟩ := laid_sentinel h4 ranNamed ranType Tryz.underlying112 row_ep Tryz.underlying154 Tryz.underlying156 rfl rfl Tryz.underlying9 cells_es cells_st
    exact ⟨_, by have h0 := World.var?_cell ranNamed hv0 0; simpa using h0, .inr ⟨_, _, rfl⟩⟩
end Go.Proofs.YtbpbkihcfdnphaaGreatDoor
