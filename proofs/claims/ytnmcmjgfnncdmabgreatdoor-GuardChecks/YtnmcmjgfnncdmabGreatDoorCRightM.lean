/-
  Whether values are of the sorts that a signature's text asks, as data.
-/
import Derived.Lib.IndexMore
import Derived.Lib.Strings
import Derived.WalkKit
namespace Go.Proofs.YtnmcmjgfnncdmabGreatDoor
open Go.RowKit
/-- The name of a value's sort, by its kind. -/
def sortN (k : Int) : List UInt8 := if k = 1 then [117, 110, 105, 116] else if k = 2 then [116, 114, 117, 116, 104] else if k = 3 then [105, 110, 116] else if k = 4 then [116, 101, 120, 116] else [108, 105, 115, 116]
/-- Is a sort of that name one that a kid may have of which the signature says inn? -/
def nameOk (inn : List UInt8) (k : Int) : Bool := !(decide (1 < (Lib.cut inn [32]).1.length) && !(decide ((Lib.cut inn [32]).1 = sortN k)))
def rightGo (rest : Bool) : Bool → List UInt8 → List UInt8 → Bool → List Int → Bool
  | _, _, _, _, [] => true
  | first, inn, ins, more, k :: ks =>
    if !first && more then nameOk (Lib.cut ins [44, 32]).1 k && rightGo rest false (Lib.cut ins [44, 32]).1 (Lib.cut ins [44, 32]).2.1 (Lib.cut ins [44, 32]).2.2 ks
    else if !first && !rest then false
    else nameOk inn k && rightGo rest false inn ins more ks
def insOf (s : List UInt8) : List UInt8 := Lib.trimSuffix (Lib.cut s [32, 62, 32]).1 [32, 46, 46]
def restOf (s : List UInt8) : Bool := Lib.hasSuffix (Lib.cut s [32, 62, 32]).1 [32, 46, 46]
/-- Are values of these kinds of the sorts that the signature s asks? -/
def rightB (s : List UInt8) (ks : List Int) : Bool := rightGo (restOf s) true (Lib.cut (insOf s) [44, 32]).1 (Lib.cut (insOf s) [44, 32]).2.1 (Lib.cut (insOf s) [44, 32]).2.2 ks
theorem cut_len1 (s p : List UInt8) : (Lib.cut s p).1.length ≤ s.length := by unfold Lib.cut; split <;> simp; try omega
theorem cut_len2 (s p : List UInt8) : (Lib.cut s p).2.1.length ≤ s.length := by unfold Lib.cut; split <;> simp
theorem trim_len (s p : List UInt8) : (Lib.trimSuffix s p).length ≤ s.length := by unfold Lib.trimSuffix; split <;> simp; try omega
theorem rightGo_more {rest : Bool} {inn ins : List UInt8} {k : Int} {ks : List Int} : rightGo rest false inn ins true (k :: ks) = (nameOk (Lib.cut ins [44, 32]).1 k && rightGo rest false (Lib.cut ins [44, 32]).1 (Lib.cut ins [44, 32]).2.1 (Lib.cut ins [44, 32]).2.2 ks) := by simp [rightGo]
theorem rightGo_none {inn ins : List UInt8} {k : Int} {ks : List Int} : rightGo false false inn ins false (k :: ks) = false := by simp [rightGo]
theorem rightGo_rest {inn ins : List UInt8} {k : Int} {ks : List Int} : rightGo true false inn ins false (k :: ks) = (nameOk inn k && rightGo true false inn ins false ks) := by simp [rightGo]
theorem rightGo_first {rest more : Bool} {inn ins : List UInt8} {k : Int} {ks : List Int} : rightGo rest true inn ins more (k :: ks) = (nameOk inn k && rightGo rest false inn ins more ks) := by simp [rightGo]
end Go.Proofs.YtnmcmjgfnncdmabGreatDoor
