/-
  What the rows' condition gives the reader and the writer.
-/
import Derived.Test.YtbpbkihcfdnphaaDoorLaidIn
import Derived.Test.YtbpbkihcfdnphaaDoorEnvF
namespace Go.Proofs.YtbpbkihcfdnphaaDoor
open Go.ChangeShapes Go.WideShapes Go.RowKit
theorem tensNamed : Tryd.prog.globalNamed "internal/strconv.uint64pow10" = some 0 := by kernel_rfl
theorem tensType : (Tryd.prog.globals[0]?).map (·.type) = some 122 := by kernel_rfl
theorem tens_laid : (Rows.laid_internal_strconv_uint64pow10 : DataW Unit) = Lib.tabData .u64 Lib.pow10Tab := by kernel_rfl
theorem synNamed : Tryd.prog.globalNamed "strconv.ErrSyntax" = some 1 := by kernel_rfl
theorem ranNamed : Tryd.prog.globalNamed "strconv.ErrRange" = some 2 := by kernel_rfl
theorem synType : (Tryd.prog.globals[1]?).map (·.type) = some 102 := by kernel_rfl
theorem ranType : (Tryd.prog.globals[2]?).map (·.type) = some 102 := by kernel_rfl
theorem cells_es : Tryd.prog.cellsOf 146 = 1 := by kernel_rfl
theorem cells_st : Tryd.prog.cellsOf 9 = 1 := by kernel_rfl
theorem star : "*" ++ "errors.errorString" = "*errors.errorString" := by decide
theorem row_ep (u : TypeId) (h : Tryd.prog.typeName? 3 u = some "*errors.errorString") : u = 144 :=
  typeName_ptr_named (nm := "errors.errorString") (by rw [star]; kernel_rfl) (by kernel_rfl) (by decide) u (by rw [star]; exact h)
theorem laid_both {W : World} (h : laidMetH Tryd.prog listed W) : LaidE W ∧ LaidT W := by
  have h' : laidMet Tryd.prog listed W := h
  have h3 := h'.tail.tail
  have h4 := h3.tail
  have h5 := h4.tail
  rw [tens_laid] at h3
  refine ⟨⟨?_, ?_⟩, Lib.tabIs_of_head tensNamed tensType Tryd.underlying122 Tryd.underlying99 (by kernel_rfl) (by kernel_rfl) h3⟩
  · obtain ⟨a0, s0, hv0, -, -, -⟩ := laid_sentinel h5 synNamed synType Tryd.underlying102 row_ep Tryd.underlying144 Tryd.underlying146 rfl rfl Tryd.underlying9 cells_es cells_st
    exact ⟨_, by have h0 := World.var?_cell synNamed hv0 0; simpa using h0, .inr ⟨_, _, rfl⟩⟩
  · obtain ⟨a0, s0, hv0, -, -, -⟩ := laid_sentinel h4 ranNamed ranType Tryd.underlying102 row_ep Tryd.underlying144 Tryd.underlying146 rfl rfl Tryd.underlying9 cells_es cells_st
    exact ⟨_, by have h0 := World.var?_cell ranNamed hv0 0; simpa using h0, .inr ⟨_, _, rfl⟩⟩
end Go.Proofs.YtbpbkihcfdnphaaDoor
