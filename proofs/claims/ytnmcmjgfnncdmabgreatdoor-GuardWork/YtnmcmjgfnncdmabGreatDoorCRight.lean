/-
  part.Right by a contract: whether values are of the sorts that a signature asks.
-/
import Derived.Test.YtnmcmjgfnncdmabGreatDoorCRightM
import Derived.Test.YtnmcmjgfnncdmabGreatDoorValue
import Derived.Test.YtnmcmjgfnncdmabGreatDoorShelf
import Derived.Test.YtnmcmjgfnncdmabGreatDoorCFind
import Derived.Deep.Cut
namespace Go.Proofs.YtnmcmjgfnncdmabGreatDoor
open Go.RowKit
/-- The library's variable holds a number. -/
def MaxAt (w : World) : Prop := ∃ m, w.cell? ⟨2, 0, none⟩ = some (.int .i64 m)
theorem MaxAt.later {w w' : World} (h : MaxAt w) (hx : Ext w w') : MaxAt w' := by
  obtain ⟨m, h⟩ := h
  exact ⟨m, (Below.cell hx (lt_of_cell h)).trans h⟩
theorem cutB (s : ByteArray) (sep : ByteArray) (l : List UInt8) (p : List UInt8) (hl : s.data.toList = l) (hp : sep.data.toList = p) (hb : s.size ≤ 4000) (w : World) (hm : MaxAt w) : Calls Tryz.prog 75 #[.string s, .string sep] w fun e w' => e = .returned (.tuple #[.string ⟨(Lib.cut l p).1.toArray⟩, .string ⟨(Lib.cut l p).2.1.toArray⟩, .bool (Lib.cut l p).2.2]) ∧ Ext w w' := by
  subst hl hp
  obtain ⟨m, hm⟩ := hm
  refine (Tryz.strings_Cut s sep m w (by omega) hm).mono ?_
  rintro e w' ⟨rfl, n, rfl⟩
  exact ⟨rfl, (Ext.refl _).drewN n⟩
theorem sufB (s : ByteArray) (sep : ByteArray) (l : List UInt8) (p : List UInt8) (hl : s.data.toList = l) (hp : sep.data.toList = p) (hb : s.size ≤ 4000) (w : World) : Calls Tryz.prog 76 #[.string s, .string sep] w fun e w' => e = .returned (.tuple #[.string ⟨(Lib.trimSuffix l p).toArray⟩, .bool (Lib.hasSuffix l p)]) ∧ w' = w := by
  subst hl hp
  exact Tryz.strings_CutSuffix s sep w (by omega)
theorem sort_un (w : World) : Calls Tryz.prog 152 #[.agg #[]] w fun e w' => e = .returned (.string ⟨(sortN 1).toArray⟩) ∧ Ext w w' := by
  go_enter Tryz.func152, Tryz.ntmps152
  go_wp2
  go_ret
  exact ⟨rfl, Ext.alloc _ _⟩
theorem sort_tu (b : Bool) (w : World) : Calls Tryz.prog 159 #[.bool b] w fun e w' => e = .returned (.string ⟨(sortN 2).toArray⟩) ∧ Ext w w' := by
  go_enter Tryz.func159, Tryz.ntmps159
  go_wp2
  go_ret
  exact ⟨rfl, Ext.refl _⟩
theorem sort_in (n : Int) (w : World) : Calls Tryz.prog 165 #[.int .i64 n] w fun e w' => e = .returned (.string ⟨(sortN 3).toArray⟩) ∧ Ext w w' := by
  go_enter Tryz.func165, Tryz.ntmps165
  go_wp2
  go_ret
  exact ⟨rfl, Ext.refl _⟩
theorem sort_tx (x : ByteArray) (w : World) : Calls Tryz.prog 158 #[.string x] w fun e w' => e = .returned (.string ⟨(sortN 4).toArray⟩) ∧ Ext w w' := by
  go_enter Tryz.func158, Tryz.ntmps158
  go_wp2
  go_ret
  exact ⟨rfl, Ext.refl _⟩
theorem sort_li (a : Option Addr) (l c : Nat) (w : World) : Calls Tryz.prog 166 #[.slice a l c] w fun e w' => e = .returned (.string ⟨(sortN 5).toArray⟩) ∧ Ext w w' := by
  go_enter Tryz.func166, Tryz.ntmps166
  go_wp2
  go_ret
  exact ⟨rfl, Ext.refl _⟩

/-- Values in a row, of these kinds. -/
def VRow (w : World) (g : Nat) (ks : List Int) : Prop := ∀ j, (h : j < ks.length) → ∃ K d v t, w.cell? ⟨g, j, none⟩ = some v ∧ VRd K w d v t ∧ t.kind = ks[j]
theorem VRow.later {w w' : World} {g : Nat} {ks : List Int} (h : VRow w g ks) (hx : Ext w w') : VRow w' g ks := fun j hj => by
  obtain ⟨K, d, v, t, h1, h2, h3⟩ := h j hj
  exact ⟨K, d, v, t, (Below.cell hx (lt_of_cell h1)).trans h1, h2.later hx, h3⟩
/-- What a value is, by its kind. -/
theorem VRd.five {K : Nat → Prop} {w : World} {d : Nat} {v : Value} {t : T} (h : VRd K w d v t) : (t.kind = 1 ∧ v = .iface 38 (.agg #[])) ∨ (t.kind = 2 ∧ ∃ b, v = .iface 135 (.bool b)) ∨ (t.kind = 3 ∧ ∃ n, v = .iface 183 (.int .i64 n)) ∨ (t.kind = 4 ∧ ∃ x, v = .iface 134 (.string x)) ∨ (t.kind = 5 ∧ ∃ a l c, v = .iface 184 (.slice a l c)) := by
  obtain ⟨k, n, x, ks⟩ := t
  cases d with
  | zero => exact h.elim
  | succ d =>
    rcases h with ⟨rfl, _, _, _, rfl⟩ | ⟨rfl, _, _, b, _, rfl⟩ | ⟨rfl, _, _, rfl⟩ | ⟨rfl, _, _, _, rfl⟩ | ⟨rfl, _, _, _, a, c, rfl, _⟩
    · exact .inl ⟨rfl, rfl⟩
    · exact .inr (.inl ⟨rfl, _, rfl⟩)
    · exact .inr (.inr (.inl ⟨rfl, _, rfl⟩))
    · exact .inr (.inr (.inr (.inl ⟨rfl, _, rfl⟩)))
    · exact .inr (.inr (.inr (.inr ⟨rfl, _, _, _, rfl⟩)))
theorem nameOk_short {inn : List UInt8} {k : Int} (h : ¬ 1 < (Lib.cut inn [32]).1.length) : nameOk inn k = true := by simp [nameOk, h]
theorem nameOk_same {inn : List UInt8} {k : Int} (h : (Lib.cut inn [32]).1 = sortN k) : nameOk inn k = true := by simp [nameOk, h]
theorem nameOk_other {inn : List UInt8} {k : Int} (h : 1 < (Lib.cut inn [32]).1.length) (h2 : (Lib.cut inn [32]).1 ≠ sortN k) : nameOk inn k = false := by simp [nameOk, h, h2]
theorem bytes_eqb (x y : List UInt8) : ((⟨x.toArray⟩ : ByteArray).toList == (⟨y.toArray⟩ : ByteArray).toList) = decide (x = y) := by
  rw [ByteArray.toList_eq, ByteArray.toList_eq]
  by_cases h : x = y
  · subst h; simp
  · rw [decide_eq_false h, beq_eq_false_iff_ne]
    exact h
end Go.Proofs.YtnmcmjgfnncdmabGreatDoor
