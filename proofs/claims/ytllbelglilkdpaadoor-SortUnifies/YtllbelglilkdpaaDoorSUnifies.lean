/-
  The walk of espalierlaw5.SortUnifies: it returns true.
-/
import Derived.Test.YtllbelglilkdpaaDoorSUnifiesA
import Derived.Test.YtllbelglilkdpaaDoorSUnifiesB
import Derived.Test.YtllbelglilkdpaaDoorSUnifiesC
namespace Go.Proofs.YtllbelglilkdpaaDoor
open Go.RowKit
theorem unifies_walk {K K' K3 : Nat → Prop} {d d' d3 : Nat} {v v' vg : Value} {t u : S} {l : List (ByteArray × S)} (w : World) (h : SRd K w d v t) (h' : SRd K' w d' v' u) (hg : GsRd K3 w d3 vg l) : Calls Tryd.prog 5 #[v, v', vg] w fun e w' => e = .returned (.bool true) ∧ Ext w w' := by
  cases ht : shp t with
  | none => exact unifies_bad1 w h h' hg ht
  | some a =>
    cases hu : shp u with
    | none => exact unifies_bad2 w h h' hg ht hu
    | some b =>
      cases ho : uniT t u with
      | none => exact unifies_none w h h' hg ht hu ho
      | some oo => exact unifies_some w h h' hg ht hu ho
end Go.Proofs.YtllbelglilkdpaaDoor
