/-
  The walk of espalierlaw5.SortValues: it returns true.
-/
import Derived.Test.YtllbelglilkdpaaDoorSValuesA
import Derived.Test.YtllbelglilkdpaaDoorSValuesB
import Derived.Test.YtllbelglilkdpaaDoorSValuesC
namespace Go.Proofs.YtllbelglilkdpaaDoor
open Go.RowKit
theorem values_walk {d1 d2 d' : Nat} {vp vq vs : Value} {p q : T} {s : S} {K' : Nat → Prop} (w : World) (hp : Rd (fun _ => True) w d1 vp p) (hq : Rd (fun _ => True) w d2 vq q) (hs : SRd K' w d' vs s) (hG : Laid w) : Calls Tryd.prog 6 #[vp, vq, vs] w fun e w' => e = .returned (.bool true) ∧ Ext w w' := by
  have hp' := hp.up d2
  have hq' := hq.up d1
  rw [Nat.add_comm] at hq'
  by_cases ha : (ofS p).1 = 0
  · cases hss : shp s with
    | none => exact values_none w hp' hq' hs hG ha hss
    | some b => exact values_some (wn := b.1) (wx := b.2) w hp' hq' hs hG ha hss
  · exact values_bad w hp' hq' hs hG ha
end Go.Proofs.YtllbelglilkdpaaDoor
