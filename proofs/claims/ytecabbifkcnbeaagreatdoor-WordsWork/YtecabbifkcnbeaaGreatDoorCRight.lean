/-
  (*Kit).Name by a contract.
-/
import Derived.Test.YtecabbifkcnbeaaGreatDoorKKitT
import Derived.Test.YtecabbifkcnbeaaGreatDoorComp
import Derived.Test.YtecabbifkcnbeaaGreatDoorVal
import Derived.Test.YtecabbifkcnbeaaGreatDoorShelf
import Derived.Deep.RegionHeld3
import Derived.WalkMore
import Derived.Lib.IndexMore
import Derived.Lib.Strings
import Derived.WalkKit
import Derived.Test.YtecabbifkcnbeaaGreatDoorKAbil
import Derived.Deep.Cut
namespace Go.Proofs.YtecabbifkcnbeaaGreatDoor
open Go.RowKit
theorem kname_any {w : World} {base kb mb : Nat} {nm : ByteArray} {mk lv : Value} {acc : List Rw} (h : KitM w base kb mb nm mk lv acc) : Calls Tryz.prog 26 #[.pointer (some ⟨kb, 0, none⟩)] w fun e w' => e = .returned (.string nm) ∧ w' = w := by
  obtain ⟨k0, k1, k2, k3⟩ := h.four
  clear h
  go_enter Tryz.func26, Tryz.ntmps26
  go_wp2_with fail
  go_ret
  exact ⟨rfl, rfl⟩
end Go.Proofs.YtecabbifkcnbeaaGreatDoor
/-
  The operations on numbers (package num), each by a contract.
-/
namespace Go.Proofs.YtecabbifkcnbeaaGreatDoor
open Go.RowKit
def cameV (n : Int) : Value := .tuple #[.iface 51 (.int .i64 n), .int .i64 0, .string ⟨#[]⟩]
def toldV (b : Bool) : Value := .tuple #[.iface 138 (.bool b), .int .i64 0, .string ⟨#[]⟩]
def refV (c : Int) : Value := .tuple #[.nilIface, .int .i64 c, .string ⟨#[]⟩]
def toldI (b : Bool) : Value := .iface 138 (.bool b)
/-- Two numbers, as the values of an operation. -/
def Two (w : World) (g : Nat) (a b : Int) : Prop := w.cell? ⟨g, 0, none⟩ = some (.iface 51 (.int .i64 a)) ∧ w.cell? ⟨g, 1, none⟩ = some (.iface 51 (.int .i64 b))
end Go.Proofs.YtecabbifkcnbeaaGreatDoor
/-
  add, sub, quo, mod, neg, abs, min, max, less, most of package num, each by a contract.
-/
namespace Go.Proofs.YtecabbifkcnbeaaGreatDoor
open Go.RowKit
def addV (a b : Int) : Value := if inR (a + b) then cameV (a + b) else refV 21
def subV (a b : Int) : Value := if inR (a - b) then cameV (a - b) else refV 21
def quoV (a b : Int) : Value := if b = 0 then refV 22 else if inR (a.tdiv b) then cameV (a.tdiv b) else refV 21
def modV (a b : Int) : Value := if b = 0 then refV 22 else cameV (a.fmod b)
def negV (a : Int) : Value := if inR (-a) then cameV (-a) else refV 21
def absV (a : Int) : Value := if a < 0 then negV a else cameV a
theorem tdiv_in (a b : Int) (ha : inR a) (hb : inR b) (h0 : b ≠ 0) (hm : ¬ (a = -9223372036854775808 ∧ b = -1)) : inR (a.tdiv b) := by
  unfold inR at *
  by_cases h1 : b = 1
  · subst h1; rw [Int.tdiv_one]; exact ha
  by_cases h2 : b = -1
  · subst h2
    rw [Int.tdiv_neg, Int.tdiv_one]
    omega
  · have e : (a.tdiv b).natAbs = a.natAbs / b.natAbs := Int.natAbs_tdiv a b
    have hb2 : 2 ≤ b.natAbs := by omega
    have h3 : a.natAbs / b.natAbs ≤ a.natAbs / 2 := Nat.div_le_div_left hb2 (by omega)
    omega
/-- What an operation does to the world: it draws, no more. -/
def Drew (w w' : World) : Prop := ∃ n, w' = w.drewN n
theorem Drew.ext {w w' : World} (h : Drew w w') : Ext w w' := by obtain ⟨n, rfl⟩ := h; exact (Ext.refl _).drewN n

end Go.Proofs.YtecabbifkcnbeaaGreatDoor
/-
  craft.may of a value that is a number or a truth, by a contract.
-/
namespace Go.Proofs.YtecabbifkcnbeaaGreatDoor
open Go.RowKit
theorem cas_in_tx (v : Value) (w : World) : (Instr.typeAssert (.iface 51 v) 29 98 true).run Tryz.prog w = .ok (.tuple #[(.string ByteArray.empty), .bool false]) w := by kernel_rfl
theorem cas_in_li (v : Value) (w : World) : (Instr.typeAssert (.iface 51 v) 29 139 true).run Tryz.prog w = .ok (.tuple #[(.slice none 0 0), .bool false]) w := by kernel_rfl
theorem cas_tu_tx (v : Value) (w : World) : (Instr.typeAssert (.iface 138 v) 29 98 true).run Tryz.prog w = .ok (.tuple #[(.string ByteArray.empty), .bool false]) w := by kernel_rfl
theorem cas_tu_li (v : Value) (w : World) : (Instr.typeAssert (.iface 138 v) 29 139 true).run Tryz.prog w = .ok (.tuple #[(.slice none 0 0), .bool false]) w := by kernel_rfl
set_option maxRecDepth 100000 in
theorem choldsx_in (v : Value) (b : Nat) (w : World) (h : w.heap[b]? = some (.cells #[.int .i64 65536] 247)) : Calls Tryz.prog 151 #[.pointer (some ⟨b, 0, none⟩), .iface 51 v, .int .i64 64] w fun e w' => e = .returned (.bool true) ∧ Kp (· ≠ b) w w' := by
  have c0 : w.cell? ⟨b, 0, none⟩ = some (.int .i64 65536) := cell_of h rfl
  have f0 : w.frozen? ⟨b, 0, none⟩ = false := frozen_of h
  have h1 := cas_in_tx v
  have h2 := cas_in_li v
  clear h
  go_enter Tryz.func151, Tryz.ntmps151
  go_wp2_with fail
  go_ret
  exact ⟨rfl, Kp.set w b 0 _ (fun h => h rfl)⟩
set_option maxRecDepth 100000 in
theorem cmay_in (v : Value) (w : World) : Calls Tryz.prog 110 #[.iface 51 v] w fun e w' => e = .returned (.bool true) ∧ Ext w w' := by
  go_enter Tryz.func110, Tryz.ntmps110
  go_wp2_with fail
  refine (choldsx_in v _ _ (blk0 _ _)).mono ?_
  rintro e w1 ⟨rfl, hk⟩
  go_wp2_with fail
  go_ret
  exact ⟨rfl, Kp.extOf (Ext.alloc _ _) hk (Nat.le_refl _)⟩
set_option maxRecDepth 100000 in
theorem choldsx_tu (v : Value) (b : Nat) (w : World) (h : w.heap[b]? = some (.cells #[.int .i64 65536] 247)) : Calls Tryz.prog 151 #[.pointer (some ⟨b, 0, none⟩), .iface 138 v, .int .i64 64] w fun e w' => e = .returned (.bool true) ∧ Kp (· ≠ b) w w' := by
  have c0 : w.cell? ⟨b, 0, none⟩ = some (.int .i64 65536) := cell_of h rfl
  have f0 : w.frozen? ⟨b, 0, none⟩ = false := frozen_of h
  have h1 := cas_tu_tx v
  have h2 := cas_tu_li v
  clear h
  go_enter Tryz.func151, Tryz.ntmps151
  go_wp2_with fail
  go_ret
  exact ⟨rfl, Kp.set w b 0 _ (fun h => h rfl)⟩
set_option maxRecDepth 100000 in
theorem cmay_tu (v : Value) (w : World) : Calls Tryz.prog 110 #[.iface 138 v] w fun e w' => e = .returned (.bool true) ∧ Ext w w' := by
  go_enter Tryz.func110, Tryz.ntmps110
  go_wp2_with fail
  refine (choldsx_tu v _ _ (blk0 _ _)).mono ?_
  rintro e w1 ⟨rfl, hk⟩
  go_wp2_with fail
  go_ret
  exact ⟨rfl, Kp.extOf (Ext.alloc _ _) hk (Nat.le_refl _)⟩

/-- An answer that is a text. -/
def wroteV (s : ByteArray) : Value := .tuple #[.iface 98 (.string s), .int .i64 0, .string ⟨#[]⟩]
theorem cas_tx_tx (v : Value) (w : World) : (Instr.typeAssert (.iface 98 v) 29 98 true).run Tryz.prog w = .ok (.tuple #[v, .bool true]) w := by kernel_rfl
set_option maxRecDepth 100000 in
theorem choldsx_tx (s : ByteArray) (hs : s.size ≤ 65535) (b : Nat) (w : World) (h : w.heap[b]? = some (.cells #[.int .i64 65536] 247)) : Calls Tryz.prog 151 #[.pointer (some ⟨b, 0, none⟩), .iface 98 (.string s), .int .i64 64] w fun e w' => e = .returned (.bool true) ∧ Kp (· ≠ b) w w' := by
  have c0 : w.cell? ⟨b, 0, none⟩ = some (.int .i64 65536) := cell_of h rfl
  have f0 : w.frozen? ⟨b, 0, none⟩ = false := frozen_of h
  have h1 := cas_tx_tx (.string s)
  have hs' : (s.size : Int) ≤ 65535 := by omega
  clear h hs
  go_enter Tryz.func151, Tryz.ntmps151
  go_wp2_with fail
  go_ret
  exact ⟨rfl, (Kp.set w b 0 _ (fun h => h rfl)).trans (Kp.set _ b 0 _ (fun h => h rfl))⟩
set_option maxRecDepth 100000 in
theorem cmay_tx (s : ByteArray) (hs : s.size ≤ 65535) (w : World) : Calls Tryz.prog 110 #[.iface 98 (.string s)] w fun e w' => e = .returned (.bool true) ∧ Ext w w' := by
  go_enter Tryz.func110, Tryz.ntmps110
  go_wp2_with fail
  refine (choldsx_tx s hs _ _ (blk0 _ _)).mono ?_
  rintro e w1 ⟨rfl, hk⟩
  go_wp2_with fail
  go_ret
  exact ⟨rfl, Kp.extOf (Ext.alloc _ _) hk (Nat.le_refl _)⟩
end Go.Proofs.YtecabbifkcnbeaaGreatDoor
/-
  Whether values are of the sorts that a signature's text asks, as data.
-/
namespace Go.Proofs.YtecabbifkcnbeaaGreatDoor
open Go.RowKit
/-- The name of a value's sort, by its kind. -/
def sortN (k : Int) : List UInt8 := if k = 1 then [117, 110, 105, 116] else if k = 2 then [116, 114, 117, 116, 104] else if k = 3 then [105, 110, 116] else if k = 4 then [116, 101, 120, 116] else [108, 105, 115, 116]
/-- Is a sort of that name one that a kid may have of which the signature says inn? -/
def nameOk (inn : List UInt8) (k : Int) : Bool := !(decide (1 < (Lib.cut inn [32]).1.length) && !(decide ((Lib.cut inn [32]).1 = sortN k)))
def rightGo (rest : Bool) : Bool → List UInt8 → List UInt8 → Bool → List Int → Bool
  | _, _, _, _, [] => true
  | first, inn, ins, more, k :: ks =>
    if !first && more then nameOk (Lib.cut ins [44, 32]).1 k && rightGo rest false (Lib.cut ins [44, 32]).1 (Lib.cut ins [44, 32]).2.1 (Lib.cut ins [44, 32]).2.2 ks
    else if !first && !rest then false
    else nameOk inn k && rightGo rest false inn ins more ks
def insOf (s : List UInt8) : List UInt8 := Lib.trimSuffix (Lib.cut s [32, 62, 32]).1 [32, 46, 46]
def restOf (s : List UInt8) : Bool := Lib.hasSuffix (Lib.cut s [32, 62, 32]).1 [32, 46, 46]
/-- Are values of these kinds of the sorts that the signature s asks? -/
def rightB (s : List UInt8) (ks : List Int) : Bool := rightGo (restOf s) true (Lib.cut (insOf s) [44, 32]).1 (Lib.cut (insOf s) [44, 32]).2.1 (Lib.cut (insOf s) [44, 32]).2.2 ks
theorem cut_len1 (s p : List UInt8) : (Lib.cut s p).1.length ≤ s.length := by unfold Lib.cut; split <;> simp; try omega
theorem cut_len2 (s p : List UInt8) : (Lib.cut s p).2.1.length ≤ s.length := by unfold Lib.cut; split <;> simp
theorem trim_len (s p : List UInt8) : (Lib.trimSuffix s p).length ≤ s.length := by unfold Lib.trimSuffix; split <;> simp; try omega
theorem rightGo_more {rest : Bool} {inn ins : List UInt8} {k : Int} {ks : List Int} : rightGo rest false inn ins true (k :: ks) = (nameOk (Lib.cut ins [44, 32]).1 k && rightGo rest false (Lib.cut ins [44, 32]).1 (Lib.cut ins [44, 32]).2.1 (Lib.cut ins [44, 32]).2.2 ks) := by simp [rightGo]
theorem rightGo_none {inn ins : List UInt8} {k : Int} {ks : List Int} : rightGo false false inn ins false (k :: ks) = false := by simp [rightGo]
theorem rightGo_rest {inn ins : List UInt8} {k : Int} {ks : List Int} : rightGo true false inn ins false (k :: ks) = (nameOk inn k && rightGo true false inn ins false ks) := by simp [rightGo]
theorem rightGo_first {rest more : Bool} {inn ins : List UInt8} {k : Int} {ks : List Int} : rightGo rest true inn ins more (k :: ks) = (nameOk inn k && rightGo rest false inn ins more ks) := by simp [rightGo]
end Go.Proofs.YtecabbifkcnbeaaGreatDoor
/-
  part.Right by a contract: whether values are of the sorts that a signature asks.
-/
namespace Go.Proofs.YtecabbifkcnbeaaGreatDoor
open Go.RowKit
/-- The library's variable holds a number. -/
def MaxAt (w : World) : Prop := ∃ m, w.cell? ⟨2, 0, none⟩ = some (.int .i64 m)
theorem MaxAt.later {w w' : World} (h : MaxAt w) (hx : Ext w w') : MaxAt w' := by
  obtain ⟨m, h⟩ := h
  exact ⟨m, (Below.cell hx (lt_of_cell h)).trans h⟩
theorem cutB (s : ByteArray) (sep : ByteArray) (l : List UInt8) (p : List UInt8) (hl : s.data.toList = l) (hp : sep.data.toList = p) (hb : s.size ≤ 4000) (w : World) (hm : MaxAt w) : Calls Tryz.prog 149 #[.string s, .string sep] w fun e w' => e = .returned (.tuple #[.string ⟨(Lib.cut l p).1.toArray⟩, .string ⟨(Lib.cut l p).2.1.toArray⟩, .bool (Lib.cut l p).2.2]) ∧ Ext w w' := by
  subst hl hp
  obtain ⟨m, hm⟩ := hm
  refine (Tryz.strings_Cut s sep m w (by omega) hm).mono ?_
  rintro e w' ⟨rfl, n, rfl⟩
  exact ⟨rfl, (Ext.refl _).drewN n⟩
theorem sufB (s : ByteArray) (sep : ByteArray) (l : List UInt8) (p : List UInt8) (hl : s.data.toList = l) (hp : sep.data.toList = p) (hb : s.size ≤ 4000) (w : World) : Calls Tryz.prog 150 #[.string s, .string sep] w fun e w' => e = .returned (.tuple #[.string ⟨(Lib.trimSuffix l p).toArray⟩, .bool (Lib.hasSuffix l p)]) ∧ w' = w := by
  subst hl hp
  exact Tryz.strings_CutSuffix s sep w (by omega)
theorem sort_un (w : World) : Calls Tryz.prog 273 #[.agg #[]] w fun e w' => e = .returned (.string ⟨(sortN 1).toArray⟩) ∧ Ext w w' := by
  go_enter Tryz.func273, Tryz.ntmps273
  go_wp2
  go_ret
  exact ⟨rfl, Ext.alloc _ _⟩
theorem sort_tu (b : Bool) (w : World) : Calls Tryz.prog 274 #[.bool b] w fun e w' => e = .returned (.string ⟨(sortN 2).toArray⟩) ∧ Ext w w' := by
  go_enter Tryz.func274, Tryz.ntmps274
  go_wp2
  go_ret
  exact ⟨rfl, Ext.refl _⟩
theorem sort_in (n : Int) (w : World) : Calls Tryz.prog 270 #[.int .i64 n] w fun e w' => e = .returned (.string ⟨(sortN 3).toArray⟩) ∧ Ext w w' := by
  go_enter Tryz.func270, Tryz.ntmps270
  go_wp2
  go_ret
  exact ⟨rfl, Ext.refl _⟩
theorem sort_tx (x : ByteArray) (w : World) : Calls Tryz.prog 272 #[.string x] w fun e w' => e = .returned (.string ⟨(sortN 4).toArray⟩) ∧ Ext w w' := by
  go_enter Tryz.func272, Tryz.ntmps272
  go_wp2
  go_ret
  exact ⟨rfl, Ext.refl _⟩
theorem sort_li (a : Option Addr) (l c : Nat) (w : World) : Calls Tryz.prog 275 #[.slice a l c] w fun e w' => e = .returned (.string ⟨(sortN 5).toArray⟩) ∧ Ext w w' := by
  go_enter Tryz.func275, Tryz.ntmps275
  go_wp2
  go_ret
  exact ⟨rfl, Ext.refl _⟩

/-- Values in a row, of these kinds. -/
def VRow (w : World) (g : Nat) (ks : List Int) : Prop := ∀ j, (h : j < ks.length) → ∃ K d v t, w.cell? ⟨g, j, none⟩ = some v ∧ VRd K w d v t ∧ t.kind = ks[j]
theorem VRow.later {w w' : World} {g : Nat} {ks : List Int} (h : VRow w g ks) (hx : Ext w w') : VRow w' g ks := fun j hj => by
  obtain ⟨K, d, v, t, h1, h2, h3⟩ := h j hj
  exact ⟨K, d, v, t, (Below.cell hx (lt_of_cell h1)).trans h1, h2.later hx, h3⟩
/-- What a value is, by its kind. -/
theorem VRd.five {K : Nat → Prop} {w : World} {d : Nat} {v : Value} {t : T} (h : VRd K w d v t) : (t.kind = 1 ∧ v = .iface 137 (.agg #[])) ∨ (t.kind = 2 ∧ ∃ b, v = .iface 138 (.bool b)) ∨ (t.kind = 3 ∧ ∃ n, v = .iface 51 (.int .i64 n)) ∨ (t.kind = 4 ∧ ∃ x, v = .iface 98 (.string x)) ∨ (t.kind = 5 ∧ ∃ a l c, v = .iface 139 (.slice a l c)) := by
  obtain ⟨k, n, x, ks⟩ := t
  cases d with
  | zero => exact h.elim
  | succ d =>
    rcases h with ⟨rfl, _, _, _, rfl⟩ | ⟨rfl, _, _, b, _, rfl⟩ | ⟨rfl, _, _, rfl⟩ | ⟨rfl, _, _, _, rfl⟩ | ⟨rfl, _, _, _, a, c, rfl, _⟩
    · exact .inl ⟨rfl, rfl⟩
    · exact .inr (.inl ⟨rfl, _, rfl⟩)
    · exact .inr (.inr (.inl ⟨rfl, _, rfl⟩))
    · exact .inr (.inr (.inr (.inl ⟨rfl, _, rfl⟩)))
    · exact .inr (.inr (.inr (.inr ⟨rfl, _, _, _, rfl⟩)))
theorem nameOk_short {inn : List UInt8} {k : Int} (h : ¬ 1 < (Lib.cut inn [32]).1.length) : nameOk inn k = true := by simp [nameOk, h]
theorem nameOk_same {inn : List UInt8} {k : Int} (h : (Lib.cut inn [32]).1 = sortN k) : nameOk inn k = true := by simp [nameOk, h]
theorem nameOk_other {inn : List UInt8} {k : Int} (h : 1 < (Lib.cut inn [32]).1.length) (h2 : (Lib.cut inn [32]).1 ≠ sortN k) : nameOk inn k = false := by simp [nameOk, h, h2]
theorem bytes_eqb (x y : List UInt8) : ((⟨x.toArray⟩ : ByteArray).toList == (⟨y.toArray⟩ : ByteArray).toList) = decide (x = y) := by
  rw [ByteArray.toList_eq, ByteArray.toList_eq]
  by_cases h : x = y
  · subst h; simp
  · rw [decide_eq_false h, beq_eq_false_iff_ne]
    exact h
end Go.Proofs.YtecabbifkcnbeaaGreatDoor
