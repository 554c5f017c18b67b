/-
  Bytes of one's own: a literal or a text is appended.
-/
import Derived.Test.YtaafcmmmkalgjaaGreatDoorTFit
import Derived.Lib.AppendStr
import Derived.Lib.UnsafeStr
import Derived.Laws.OwnMore
import Derived.Maps.AppendAt
import Derived.Deep.RegionHeld3
namespace Go.Proofs.YtaafcmmmkalgjaaGreatDoor
open Go.RowKit
theorem byteInfo : (Tryz.prog.info? 5).map (fun i => (i.zero, i.size, i.bytes)) = some (some (.int .u8 0), 1, 1) := by kernel_rfl
/-- The slice v of bytes lies in memory of one's own, from B on, and reads as l. -/
def Bs (B : Nat) (w : World) (v : Value) (l : List UInt8) : Prop := w.ownsRow B 5 1 v l.length (Lib.byteCells l)
theorem Bs.nil (B : Nat) (w : World) : Bs B w (.slice none 0 0) [] := World.ownsRow_nil _ _ _ _
theorem Bs.shape {B : Nat} {w : World} {v : Value} {l : List UInt8} (h : Bs B w v l) : ∃ ao c, v = .slice ao l.length c := by
  rcases h.2 with ⟨hv, h0⟩ | ⟨g, cap, cur, hv, _⟩
  · exact ⟨none, 0, by rw [hv, h0]⟩
  · exact ⟨_, _, hv⟩
theorem Bs.alloc {B : Nat} {w : World} {v : Value} {l : List UInt8} (h : Bs B w v l) (o : Obj) : Bs B (w.alloc o) v l := World.ownsRow.alloc h o
theorem Bs.ext {B : Nat} {w w' : World} {v : Value} {l : List UInt8} (h : Bs B w v l) (hx : Ext w w') : Bs B w' v l := by
  obtain ⟨h1, h2⟩ := h
  refine ⟨h1, ?_⟩
  rcases h2 with h2 | ⟨g, cap, cur, hv, hg, hb, hr⟩
  · exact .inl h2
  · exact .inr ⟨g, cap, cur, hv, hg, hx.block hb, hr⟩
theorem app_len {l m : List UInt8} : Lib.byteCells (l ++ m) = Lib.byteCells l ++ Lib.byteCells m := by simp [Lib.byteCells]
theorem news_at {w : World} {ty : TypeId} (m : List UInt8) (j : Nat) (u : Value) (h : (Lib.byteCells m)[j]? = some u) : (w.alloc (.cells (Lib.byteCells m).toArray ty)).cell? (Addr.add ⟨w.heap.size, 0, none⟩ j) = some u := by
  have e : Addr.add ⟨w.heap.size, 0, none⟩ j = ⟨w.heap.size, j, none⟩ := by
    by_cases hj : j = 0
    · subst hj; simp [Addr.add]
    · simp [Addr.add, hj]
  rw [e]
  exact cell_of (blk0 w _) (by simpa using h)
end Go.Proofs.YtaafcmmmkalgjaaGreatDoor
