/-
  Whether values are of the sorts that a signature's text asks, as data.
-/
import Derived.Lib.IndexMore
import Derived.Lib.Strings
import Derived.WalkKit
import Derived.Test.YtaafcmmmkalgjaaGreatDoorTFit
import Derived.Test.YtaafcmmmkalgjaaGreatDoorShelf
import Derived.Test.YtaafcmmmkalgjaaGreatDoorBKind
import Derived.Deep.Cut
namespace Go.Proofs.YtaafcmmmkalgjaaGreatDoor
open Go.RowKit
/-- The name of a value's sort, by its kind. -/
def sortN (k : Int) : List UInt8 := if k = 1 then [117, 110, 105, 116] else if k = 2 then [116, 114, 117, 116, 104] else if k = 3 then [105, 110, 116] else if k = 4 then [116, 101, 120, 116] else [108, 105, 115, 116]
/-- Is a sort of that name one that a kid may have of which the signature says inn? -/
def nameOk (inn : List UInt8) (k : Int) : Bool := !(decide (1 < (Lib.cut inn [32]).1.length) && !(decide ((Lib.cut inn [32]).1 = sortN k)))
def rightGo (rest : Bool) : Bool → List UInt8 → List UInt8 → Bool → List Int → Bool
  | _, _, _, _, [] => true
  | first, inn, ins, more, k :: ks =>
    if !first && more then nameOk (Lib.cut ins [44, 32]).1 k && rightGo rest false (Lib.cut ins [44, 32]).1 (Lib.cut ins [44, 32]).2.1 (Lib.cut ins [44, 32]).2.2 ks
    else if !first && !rest then false
    else nameOk inn k && rightGo rest false inn ins more ks
def insOf (s : List UInt8) : List UInt8 := Lib.trimSuffix (Lib.cut s [32, 62, 32]).1 [32, 46, 46]
def restOf (s : List UInt8) : Bool := Lib.hasSuffix (Lib.cut s [32, 62, 32]).1 [32, 46, 46]
/-- Are values of these kinds of the sorts that the signature s asks? -/
def rightB (s : List UInt8) (ks : List Int) : Bool := rightGo (restOf s) true (Lib.cut (insOf s) [44, 32]).1 (Lib.cut (insOf s) [44, 32]).2.1 (Lib.cut (insOf s) [44, 32]).2.2 ks
theorem cut_len1 (s p : List UInt8) : (Lib.cut s p).1.length ≤ s.length := by unfold Lib.cut; split <;> simp; try omega
theorem cut_len2 (s p : List UInt8) : (Lib.cut s p).2.1.length ≤ s.length := by unfold Lib.cut; split <;> simp
theorem trim_len (s p : List UInt8) : (Lib.trimSuffix s p).length ≤ s.length := by unfold Lib.trimSuffix; split <;> simp; try omega
theorem rightGo_more {rest : Bool} {inn ins : List UInt8} {k : Int} {ks : List Int} : rightGo rest false inn ins true (k :: ks) = (nameOk (Lib.cut ins [44, 32]).1 k && rightGo rest false (Lib.cut ins [44, 32]).1 (Lib.cut ins [44, 32]).2.1 (Lib.cut ins [44, 32]).2.2 ks) := by simp [rightGo]
theorem rightGo_none {inn ins : List UInt8} {k : Int} {ks : List Int} : rightGo false false inn ins false (k :: ks) = false := by simp [rightGo]
theorem rightGo_rest {inn ins : List UInt8} {k : Int} {ks : List Int} : rightGo true false inn ins false (k :: ks) = (nameOk inn k && rightGo true false inn ins false ks) := by simp [rightGo]
theorem rightGo_first {rest more : Bool} {inn ins : List UInt8} {k : Int} {ks : List Int} : rightGo rest true inn ins more (k :: ks) = (nameOk inn k && rightGo rest false inn ins more ks) := by simp [rightGo]
end Go.Proofs.YtaafcmmmkalgjaaGreatDoor
/-
  part.Right by a contract: whether values are of the sorts that a signature asks.
-/
namespace Go.Proofs.YtaafcmmmkalgjaaGreatDoor
open Go.RowKit
/-- The library's variable holds a number. -/
def MaxAt (w : World) : Prop := ∃ m, w.cell? ⟨2, 0, none⟩ = some (.int .i64 m)
theorem MaxAt.later {w w' : World} (h : MaxAt w) (hx : Ext w w') : MaxAt w' := by
  obtain ⟨m, h⟩ := h
  exact ⟨m, (Below.cell hx (lt_of_cell h)).trans h⟩
theorem cutB (s : ByteArray) (sep : ByteArray) (l : List UInt8) (p : List UInt8) (hl : s.data.toList = l) (hp : sep.data.toList = p) (hb : s.size ≤ 4000) (w : World) (hm : MaxAt w) : Calls Tryz.prog 101 #[.string s, .string sep] w fun e w' => e = .returned (.tuple #[.string ⟨(Lib.cut l p).1.toArray⟩, .string ⟨(Lib.cut l p).2.1.toArray⟩, .bool (Lib.cut l p).2.2]) ∧ Ext w w' := by
  subst hl hp
  obtain ⟨m, hm⟩ := hm
  refine (Tryz.strings_Cut s sep m w (by omega) hm).mono ?_
  rintro e w' ⟨rfl, n, rfl⟩
  exact ⟨rfl, (Ext.refl _).drewN n⟩
theorem sufB (s : ByteArray) (sep : ByteArray) (l : List UInt8) (p : List UInt8) (hl : s.data.toList = l) (hp : sep.data.toList = p) (hb : s.size ≤ 4000) (w : World) : Calls Tryz.prog 102 #[.string s, .string sep] w fun e w' => e = .returned (.tuple #[.string ⟨(Lib.trimSuffix l p).toArray⟩, .bool (Lib.hasSuffix l p)]) ∧ w' = w := by
  subst hl hp
  exact Tryz.strings_CutSuffix s sep w (by omega)
theorem sort_un (w : World) : Calls Tryz.prog 190 #[.agg #[]] w fun e w' => e = .returned (.string ⟨(sortN 1).toArray⟩) ∧ Ext w w' := by
  go_enter Tryz.func190, Tryz.ntmps190
  go_wp2
  go_ret
  exact ⟨rfl, Ext.alloc _ _⟩
theorem sort_tu (b : Bool) (w : World) : Calls Tryz.prog 191 #[.bool b] w fun e w' => e = .returned (.string ⟨(sortN 2).toArray⟩) ∧ Ext w w' := by
  go_enter Tryz.func191, Tryz.ntmps191
  go_wp2
  go_ret
  exact ⟨rfl, Ext.refl _⟩
theorem sort_in (n : Int) (w : World) : Calls Tryz.prog 181 #[.int .i64 n] w fun e w' => e = .returned (.string ⟨(sortN 3).toArray⟩) ∧ Ext w w' := by
  go_enter Tryz.func181, Tryz.ntmps181
  go_wp2
  go_ret
  exact ⟨rfl, Ext.refl _⟩
theorem sort_tx (x : ByteArray) (w : World) : Calls Tryz.prog 192 #[.string x] w fun e w' => e = .returned (.string ⟨(sortN 4).toArray⟩) ∧ Ext w w' := by
  go_enter Tryz.func192, Tryz.ntmps192
  go_wp2
  go_ret
  exact ⟨rfl, Ext.refl _⟩
theorem sort_li (a : Option Addr) (l c : Nat) (w : World) : Calls Tryz.prog 180 #[.slice a l c] w fun e w' => e = .returned (.string ⟨(sortN 5).toArray⟩) ∧ Ext w w' := by
  go_enter Tryz.func180, Tryz.ntmps180
  go_wp2
  go_ret
  exact ⟨rfl, Ext.refl _⟩

/-- Values in a row, of these kinds. -/
def VRow (w : World) (g : Nat) (ks : List Int) : Prop := ∀ j, (h : j < ks.length) → ∃ K d v t, w.cell? ⟨g, j, none⟩ = some v ∧ VRd K w d v t ∧ t.kind = ks[j]
theorem VRow.later {w w' : World} {g : Nat} {ks : List Int} (h : VRow w g ks) (hx : Ext w w') : VRow w' g ks := fun j hj => by
  obtain ⟨K, d, v, t, h1, h2, h3⟩ := h j hj
  exact ⟨K, d, v, t, (Below.cell hx (lt_of_cell h1)).trans h1, h2.later hx, h3⟩
/-- What a value is, by its kind. -/
theorem VRd.five {K : Nat → Prop} {w : World} {d : Nat} {v : Value} {t : T} (h : VRd K w d v t) : (t.kind = 1 ∧ v = .iface 172 (.agg #[])) ∨ (t.kind = 2 ∧ ∃ b, v = .iface 173 (.bool b)) ∨ (t.kind = 3 ∧ ∃ n, v = .iface 83 (.int .i64 n)) ∨ (t.kind = 4 ∧ ∃ x, v = .iface 174 (.string x)) ∨ (t.kind = 5 ∧ ∃ a l c, v = .iface 81 (.slice a l c)) := by
  obtain ⟨k, n, x, ks⟩ := t
  cases d with
  | zero => exact h.elim
  | succ d =>
    rcases h with ⟨rfl, _, _, _, rfl⟩ | ⟨rfl, _, _, b, _, rfl⟩ | ⟨rfl, _, _, rfl⟩ | ⟨rfl, _, _, _, rfl⟩ | ⟨rfl, _, _, _, a, c, rfl, _⟩
    · exact .inl ⟨rfl, rfl⟩
    · exact .inr (.inl ⟨rfl, _, rfl⟩)
    · exact .inr (.inr (.inl ⟨rfl, _, rfl⟩))
    · exact .inr (.inr (.inr (.inl ⟨rfl, _, rfl⟩)))
    · exact .inr (.inr (.inr (.inr ⟨rfl, _, _, _, rfl⟩)))
theorem nameOk_short {inn : List UInt8} {k : Int} (h : ¬ 1 < (Lib.cut inn [32]).1.length) : nameOk inn k = true := by simp [nameOk, h]
theorem nameOk_same {inn : List UInt8} {k : Int} (h : (Lib.cut inn [32]).1 = sortN k) : nameOk inn k = true := by simp [nameOk, h]
theorem nameOk_other {inn : List UInt8} {k : Int} (h : 1 < (Lib.cut inn [32]).1.length) (h2 : (Lib.cut inn [32]).1 ≠ sortN k) : nameOk inn k = false := by simp [nameOk, h, h2]
theorem bytes_eqb (x y : List UInt8) : ((⟨x.toArray⟩ : ByteArray).toList == (⟨y.toArray⟩ : ByteArray).toList) = decide (x = y) := by
  rw [ByteArray.toList_eq, ByteArray.toList_eq]
  by_cases h : x = y
  · subst h; simp
  · rw [decide_eq_false h, beq_eq_false_iff_ne]
    exact h
end Go.Proofs.YtaafcmmmkalgjaaGreatDoor
