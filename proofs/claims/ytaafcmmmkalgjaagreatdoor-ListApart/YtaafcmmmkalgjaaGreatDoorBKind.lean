/-
  Kinds of a kit as data, and their table in memory.
-/
import Derived.Test.YtaafcmmmkalgjaaGreatDoorTFit
import Derived.WalkMore
import Derived.LoopTactic
import Derived.Laws.EntriesVeiled
namespace Go.Proofs.YtaafcmmmkalgjaaGreatDoor
open Go.RowKit
/-- A kind of a kit: what its row tells, its sorts, its maker, what it does. -/
structure Kd where
  name : ByteArray
  min : Int
  max : Int
  text : Int
  has : ByteArray
  signs : ByteArray
  make : Nat
  does : Option Nat
  joins : Bool
/-- A function as a value; nil: there is none. -/
def fnV : Option Nat → Value
  | none => .nilFunc
  | some f => .func (.func f) #[] #[]
def Kd.cells (k : Kd) : List Value := [.string k.name, .int .i64 k.min, .int .i64 k.max, .int .i64 k.text, .string k.has, .string k.signs, fnV (some k.make), fnV k.does, .bool k.joins]
def Kd.val (k : Kd) : Value := .agg #[.string k.name, .int .i64 k.min, .int .i64 k.max, .int .i64 k.text, .string k.has, .string k.signs, fnV (some k.make), fnV k.does, .bool k.joins]
/-- The kind that a search gave; none: the zero kind. -/
def kdVal : Option Kd → Value
  | none => .agg #[.string ⟨#[]⟩, .int .i64 0, .int .i64 0, .int .i64 0, .string ⟨#[]⟩, .string ⟨#[]⟩, .nilFunc, .nilFunc, .bool false]
  | some k => k.val
def tabL : List Kd → List Value
  | [] => []
  | k :: r => .string k.name :: .int .i64 k.min :: .int .i64 k.max :: .int .i64 k.text :: .string k.has :: .string k.signs :: fnV (some k.make) :: fnV k.does :: .bool k.joins :: tabL r
theorem tab_at : ∀ (ks : List Kd) (j : Nat) (h : j < ks.length), (tabL ks)[j * 9]? = some (.string ks[j].name) ∧ (tabL ks)[j * 9 + 1]? = some (.int .i64 ks[j].min) ∧ (tabL ks)[j * 9 + 2]? = some (.int .i64 ks[j].max) ∧ (tabL ks)[j * 9 + 3]? = some (.int .i64 ks[j].text) ∧ (tabL ks)[j * 9 + 4]? = some (.string ks[j].has) ∧ (tabL ks)[j * 9 + 5]? = some (.string ks[j].signs) ∧ (tabL ks)[j * 9 + 6]? = some (fnV (some ks[j].make)) ∧ (tabL ks)[j * 9 + 7]? = some (fnV ks[j].does) ∧ (tabL ks)[j * 9 + 8]? = some (.bool ks[j].joins)
  | [], j, h => absurd h (Nat.not_lt_zero _)
  | k :: r, 0, _ => ⟨rfl, rfl, rfl, rfl, rfl, rfl, rfl, rfl, rfl⟩
  | k :: r, j + 1, h => by
    have := tab_at r j (by simpa using h)
    have e : (j + 1) * 9 = j * 9 + 9 := by omega
    rw [e]
    exact this
theorem tab_len : ∀ ks : List Kd, (tabL ks).length = ks.length * 9
  | [] => rfl
  | k :: r => by have := tab_len r; simp only [tabL, List.length_cons, this]; omega
/-- The table lies in block b. -/
def TabAt (w : World) (b : Nat) (ks : List Kd) : Prop := ∃ t, w.heap[b]? = some (.cells (tabL ks).toArray t)
theorem TabAt.later {w w' : World} {b : Nat} {ks : List Kd} (h : TabAt w b ks) (hx : Ext w w') : TabAt w' b ks := h.imp fun _ h => hx.block h
theorem TabAt.lt {w : World} {b : Nat} {ks : List Kd} (h : TabAt w b ks) : b < w.heap.size := by obtain ⟨t, h⟩ := h; exact lt_of_block h
/-- Nine cells in a row. -/
def Nine (w : World) (g i : Nat) (k : Kd) : Prop :=
  w.cell? ⟨g, i, none⟩ = some (.string k.name) ∧ w.cell? ⟨g, i + 1, none⟩ = some (.int .i64 k.min) ∧ w.cell? ⟨g, i + 2, none⟩ = some (.int .i64 k.max) ∧ w.cell? ⟨g, i + 3, none⟩ = some (.int .i64 k.text) ∧ w.cell? ⟨g, i + 4, none⟩ = some (.string k.has) ∧ w.cell? ⟨g, i + 5, none⟩ = some (.string k.signs) ∧ w.cell? ⟨g, i + 6, none⟩ = some (fnV (some k.make)) ∧ w.cell? ⟨g, i + 7, none⟩ = some (fnV k.does) ∧ w.cell? ⟨g, i + 8, none⟩ = some (.bool k.joins)
theorem TabAt.nine {w : World} {b : Nat} {ks : List Kd} (h : TabAt w b ks) (j : Nat) (hj : j < ks.length) : Nine w b (j * 9) ks[j] := by
  obtain ⟨t, h⟩ := h
  obtain ⟨a0, a1, a2, a3, a4, a5, a6, a7, a8⟩ := tab_at ks j hj
  exact ⟨cell_of h (by simpa using a0), cell_of h (by simpa using a1), cell_of h (by simpa using a2), cell_of h (by simpa using a3), cell_of h (by simpa using a4), cell_of h (by simpa using a5), cell_of h (by simpa using a6), cell_of h (by simpa using a7), cell_of h (by simpa using a8)⟩
def kdArr (k : Kd) : Array Value := #[.string k.name, .int .i64 k.min, .int .i64 k.max, .int .i64 k.text, .string k.has, .string k.signs, fnV (some k.make), fnV k.does, .bool k.joins]
theorem nine_of {w : World} {b : Nat} {v0 v1 v2 v3 v4 v5 v6 v7 v8 : Value} {t : TypeId} (h : w.heap[b]? = some (.cells #[v0, v1, v2, v3, v4, v5, v6, v7, v8] t)) : w.cell? ⟨b, 0, none⟩ = some v0 ∧ w.cell? ⟨b, 1, none⟩ = some v1 ∧ w.cell? ⟨b, 2, none⟩ = some v2 ∧ w.cell? ⟨b, 3, none⟩ = some v3 ∧ w.cell? ⟨b, 4, none⟩ = some v4 ∧ w.cell? ⟨b, 5, none⟩ = some v5 ∧ w.cell? ⟨b, 6, none⟩ = some v6 ∧ w.cell? ⟨b, 7, none⟩ = some v7 ∧ w.cell? ⟨b, 8, none⟩ = some v8 := ⟨cell_of h rfl, cell_of h rfl, cell_of h rfl, cell_of h rfl, cell_of h rfl, cell_of h rfl, cell_of h rfl, cell_of h rfl, cell_of h rfl⟩
theorem nine_free {w : World} {b : Nat} {cs : Array Value} {t : TypeId} (h : w.heap[b]? = some (.cells cs t)) : w.frozen? ⟨b, 0, none⟩ = false ∧ w.frozen? ⟨b, 1, none⟩ = false ∧ w.frozen? ⟨b, 2, none⟩ = false ∧ w.frozen? ⟨b, 3, none⟩ = false ∧ w.frozen? ⟨b, 4, none⟩ = false ∧ w.frozen? ⟨b, 5, none⟩ = false ∧ w.frozen? ⟨b, 6, none⟩ = false ∧ w.frozen? ⟨b, 7, none⟩ = false ∧ w.frozen? ⟨b, 8, none⟩ = false := ⟨frozen_of h, frozen_of h, frozen_of h, frozen_of h, frozen_of h, frozen_of h, frozen_of h, frozen_of h, frozen_of h⟩
theorem nine_set {w : World} {b : Nat} {v0 v1 v2 v3 v4 v5 v6 v7 v8 u0 u1 u2 u3 u4 u5 u6 u7 u8 : Value} {t : TypeId} (h : w.heap[b]? = some (.cells #[v0, v1, v2, v3, v4, v5, v6, v7, v8] t)) : (((((((((w.setCell ⟨b, 0, none⟩ u0).setCell ⟨b, 1, none⟩ u1).setCell ⟨b, 2, none⟩ u2).setCell ⟨b, 3, none⟩ u3).setCell ⟨b, 4, none⟩ u4).setCell ⟨b, 5, none⟩ u5).setCell ⟨b, 6, none⟩ u6).setCell ⟨b, 7, none⟩ u7).setCell ⟨b, 8, none⟩ u8).heap[b]? = some (.cells #[u0, u1, u2, u3, u4, u5, u6, u7, u8] t) := (set_at (set_at (set_at (set_at (set_at (set_at (set_at (set_at (set_at h 0 u0) 1 u1) 2 u2) 3 u3) 4 u4) 5 u5) 6 u6) 7 u7) 8 u8).trans (by simp)
theorem Kp.set9 (w : World) (g : Nat) (v0 v1 v2 v3 v4 v5 v6 v7 v8 : Value) : Kp (· ≠ g) w (((((((((w.setCell ⟨g, 0, none⟩ v0).setCell ⟨g, 1, none⟩ v1).setCell ⟨g, 2, none⟩ v2).setCell ⟨g, 3, none⟩ v3).setCell ⟨g, 4, none⟩ v4).setCell ⟨g, 5, none⟩ v5).setCell ⟨g, 6, none⟩ v6).setCell ⟨g, 7, none⟩ v7).setCell ⟨g, 8, none⟩ v8) :=
  ((((((((Kp.set w g 0 v0 (fun h => h rfl)).trans (Kp.set _ g 1 v1 (fun h => h rfl))).trans (Kp.set _ g 2 v2 (fun h => h rfl))).trans (Kp.set _ g 3 v3 (fun h => h rfl))).trans (Kp.set _ g 4 v4 (fun h => h rfl))).trans (Kp.set _ g 5 v5 (fun h => h rfl))).trans (Kp.set _ g 6 v6 (fun h => h rfl))).trans (Kp.set _ g 7 v7 (fun h => h rfl))).trans (Kp.set _ g 8 v8 (fun h => h rfl))
/-- The first kind of that name; the zero kind: there is none. -/
def kdFind (ks : List Kd) (name : ByteArray) : Option Kd := ks.find? (fun k => decide (k.name = name))
theorem kdFind_at {ks : List Kd} {name : ByteArray} {j : Nat} (hj : j < ks.length) (h : ks[j].name = name) (hn : ∀ i, (hi : i < j) → ks[i].name ≠ name) : kdFind ks name = some ks[j] :=
  List.find?_eq_some_iff_getElem.2 ⟨by simpa using h, j, hj, rfl, fun i hi => by simpa using hn i hi⟩
theorem kdFind_none {ks : List Kd} {name : ByteArray} (hn : ∀ i, (hi : i < ks.length) → ks[i].name ≠ name) : kdFind ks name = none :=
  List.find?_eq_none.2 fun x hx => by
    obtain ⟨i, hi, rfl⟩ := List.getElem_of_mem hx
    simpa using hn i hi
end Go.Proofs.YtaafcmmmkalgjaaGreatDoor
/-
  craft.find by a contract: the first kind of that name in a table, or the zero kind.
-/
namespace Go.Proofs.YtaafcmmmkalgjaaGreatDoor
open Go.RowKit
theorem str_eqb (x y : ByteArray) : (x.toList == y.toList) = decide (x = y) := by
  by_cases h : x = y
  · subst h; simp
  · rw [decide_eq_false h, beq_eq_false_iff_ne]
    intro e
    exact h (toList_inj e)
set_option maxRecDepth 100000 in
set_option maxHeartbeats 2000000 in
theorem find_any (ks : List Kd) (tb : Nat) (name : ByteArray) (w : World) (hl : ks.length ≤ 1000) (ht : TabAt w tb ks) : Calls Tryz.prog 49 #[.slice (some ⟨tb, 0, none⟩) ks.length ks.length, .string name] w fun e w' => e = .returned (.tuple #[kdVal (kdFind ks name), .bool (kdFind ks name).isSome]) ∧ Ext w w' := by
  have hl' : (ks.length : Int) ≤ 1000 := by omega
  obtain ⟨M, hM⟩ : ∃ M, w.alloc (.cells #[.string ⟨#[]⟩, .int .i64 0, .int .i64 0, .int .i64 0, .string ⟨#[]⟩, .string ⟨#[]⟩, .nilFunc, .nilFunc, .bool false] 76) = M := ⟨_, rfl⟩
  have XM := hid (show Ext w M from hM ▸ Ext.alloc _ _)
  have HM0 := hid (show M.heap[w.heap.size]? = some (.cells #[.string ⟨#[]⟩, .int .i64 0, .int .i64 0, .int .i64 0, .string ⟨#[]⟩, .string ⟨#[]⟩, .nilFunc, .nilFunc, .bool false] 76) from hM ▸ blk0 _ _)
  have HT := hid ht
  have HL := hid hl
  obtain ⟨n, hn⟩ : ∃ n, ks.length = n := ⟨_, rfl⟩
  have HN := hid hn
  rw [hn] at hl' ⊢
  clear ht hl hn
  go_enter Tryz.func49, Tryz.ntmps49
  go_wp2_with fail
  clear hM
  go_loopw [10] (fun q10 wr => ∃ j : Nat, j ≤ n ∧ q10 = .int .i64 j ∧ (∀ i, (hi : i < ks.length) → i < j → ks[i].name ≠ name) ∧ Ext M wr) (fun q10 _ => n - (intOf q10).toNat)
  case atStart => exact ⟨0, Nat.zero_le _, rfl, fun i _ h => absurd h (Nat.not_lt_zero _), Ext.refl _⟩
  case round =>
    obtain ⟨j, hj, rfl, hno, hx⟩ := hrel
    have HNO := hid hno
    have XR := hid hx
    have HZ := hid (hx.block HM0.out)
    have XW := hid (XM.out.trans hx)
    obtain ⟨f0, f1, f2, f3, f4, f5, f6, f7, f8⟩ := nine_free HZ.out
    obtain ⟨r0, r1, r2, r3, r4, r5, r6, r7, r8⟩ := nine_of HZ.out
    have hlw : w.heap.size < wr.heap.size := lt_of_block HZ.out
    clear hno hx
    by_cases hlt : j < n
    · have hlt' : (j : Int) < n := by omega
      have hjk : j < ks.length := by rw [HN.out]; exact hlt
      obtain ⟨p0, p1, p2, p3, p4, p5, p6, p7, p8⟩ := (HT.out.later (XM.out.trans XR.out)).nine j hjk
      have heq := str_eqb ks[j].name name
      have HF := hid (fun h => kdFind_at hjk h (fun i hi => HNO.out i (by omega) hi))
      have HS := hid (show ks[j].name ≠ name → ∀ i, (hi : i < ks.length) → i < j + 1 → ks[i].name ≠ name from fun h i hi hij => by
        by_cases e : i = j
        · subst e; exact h
        · exact HNO.out i hi (by omega))
      generalize ks[j] = kj at *
      have HV := hid (show kdVal (some kj) = .agg #[.string kj.name, .int .i64 kj.min, .int .i64 kj.max, .int .i64 kj.text, .string kj.has, .string kj.signs, .func (.func kj.make) #[] #[], fnV kj.does, .bool kj.joins] from rfl)
      clear hjk
      obtain ⟨k0, k1, k2, k3, k4, k5, k6, k7, k8⟩ := kj
      dsimp only at *
      have p6' : wr.cell? ⟨tb, j * 9 + 6, none⟩ = some (.func (.func k6) #[] #[]) := p6
      clear p6
      cases k7 with
      | none =>
        have p7' : wr.cell? ⟨tb, j * 9 + 7, none⟩ = some .nilFunc := p7
        clear p7
        by_cases he : k0 = name
        · rw [decide_eq_true he] at heq
          have HFD := hid (HF.out he)
          clear he
          go_wp2_with fail
          obtain ⟨z0, z1, z2, z3, z4, z5, z6, z7, z8⟩ := nine_of (blkOld (.cells #[.string k0, .int .i64 k1, .int .i64 k2, .int .i64 k3, .string k4, .string k5, .func (.func k6) #[] #[], .nilFunc, .bool k8] 76) (nine_set (u0 := .string k0) (u1 := .int .i64 k1) (u2 := .int .i64 k2) (u3 := .int .i64 k3) (u4 := .string k4) (u5 := .string k5) (u6 := .func (.func k6) #[] #[]) (u7 := .nilFunc) (u8 := .bool k8) HZ.out))
          refine bodyPost_ret (v := .tuple #[.agg #[.string k0, .int .i64 k1, .int .i64 k2, .int .i64 k3, .string k4, .string k5, .func (.func k6) #[] #[], .nilFunc, .bool k8], .bool true]) (by simp [results, Tryz.results49, go_sem, z0, z1, z2, z3, z4, z5, z6, z7, z8]) rfl ?_
          have HK := Kp.set9 wr w.heap.size (.string k0) (.int .i64 k1) (.int .i64 k2) (.int .i64 k3) (.string k4) (.string k5) (.func (.func k6) #[] #[]) .nilFunc (.bool k8)
          have HX := Kp.extOf XW.out HK (Nat.le_refl _)
          exact ⟨by rw [HFD.out, HV.out]; rfl, HX.trans (Ext.alloc _ _)⟩
        · rw [decide_eq_false he] at heq
          have HNX := hid (HS.out he)
          clear he
          go_wp2_with fail
          go_roundw
          case rel => exact ⟨j + 1, by omega, by go_num, HNX.out, XR.out.trans (Ext.alloc _ _)⟩
          case measure => simp [intOf]; omega
      | some fd =>
        have p7' : wr.cell? ⟨tb, j * 9 + 7, none⟩ = some (.func (.func fd) #[] #[]) := p7
        clear p7
        by_cases he : k0 = name
        · rw [decide_eq_true he] at heq
          have HFD := hid (HF.out he)
          clear he
          go_wp2_with fail
          obtain ⟨z0, z1, z2, z3, z4, z5, z6, z7, z8⟩ := nine_of (blkOld (.cells #[.string k0, .int .i64 k1, .int .i64 k2, .int .i64 k3, .string k4, .string k5, .func (.func k6) #[] #[], .func (.func fd) #[] #[], .bool k8] 76) (nine_set (u0 := .string k0) (u1 := .int .i64 k1) (u2 := .int .i64 k2) (u3 := .int .i64 k3) (u4 := .string k4) (u5 := .string k5) (u6 := .func (.func k6) #[] #[]) (u7 := .func (.func fd) #[] #[]) (u8 := .bool k8) HZ.out))
          refine bodyPost_ret (v := .tuple #[.agg #[.string k0, .int .i64 k1, .int .i64 k2, .int .i64 k3, .string k4, .string k5, .func (.func k6) #[] #[], .func (.func fd) #[] #[], .bool k8], .bool true]) (by simp [results, Tryz.results49, go_sem, z0, z1, z2, z3, z4, z5, z6, z7, z8]) rfl ?_
          have HK := Kp.set9 wr w.heap.size (.string k0) (.int .i64 k1) (.int .i64 k2) (.int .i64 k3) (.string k4) (.string k5) (.func (.func k6) #[] #[]) (.func (.func fd) #[] #[]) (.bool k8)
          have HX := Kp.extOf XW.out HK (Nat.le_refl _)
          exact ⟨by rw [HFD.out, HV.out]; rfl, HX.trans (Ext.alloc _ _)⟩
        · rw [decide_eq_false he] at heq
          have HNX := hid (HS.out he)
          clear he
          go_wp2_with fail
          go_roundw
          case rel => exact ⟨j + 1, by omega, by go_num, HNX.out, XR.out.trans (Ext.alloc _ _)⟩
          case measure => simp [intOf]; omega
    · have hje : j = n := by omega
      have hlt' : ¬ (j : Int) < n := by omega
      have hlt2 : decide ((j : Int) < n) = false := decide_eq_false hlt'
      have HFN := hid (kdFind_none (ks := ks) (name := name) (fun i hi => HNO.out i hi (by have := HN.out; omega)))
      clear hje hlt
      go_wp2_with fail
      obtain ⟨z0, z1, z2, z3, z4, z5, z6, z7, z8⟩ := nine_of (nine_set (u0 := .string ⟨#[]⟩) (u1 := .int .i64 0) (u2 := .int .i64 0) (u3 := .int .i64 0) (u4 := .string ⟨#[]⟩) (u5 := .string ⟨#[]⟩) (u6 := .nilFunc) (u7 := .nilFunc) (u8 := .bool false) HZ.out)
      refine bodyPost_ret (v := .tuple #[.agg #[.string ⟨#[]⟩, .int .i64 0, .int .i64 0, .int .i64 0, .string ⟨#[]⟩, .string ⟨#[]⟩, .nilFunc, .nilFunc, .bool false], .bool false]) (by simp [results, Tryz.results49, go_sem, z0, z1, z2, z3, z4, z5, z6, z7, z8]) rfl ?_
      refine ⟨?_, Kp.extOf XW.out (Kp.set9 wr w.heap.size _ _ _ _ _ _ _ _ _) (Nat.le_refl _)⟩
      rw [HFN.out]
      rfl
end Go.Proofs.YtaafcmmmkalgjaaGreatDoor
/-
  The kit base's table of kinds, and one by its name; by contracts.
-/
namespace Go.Proofs.YtaafcmmmkalgjaaGreatDoor.Nd
open Go.RowKit
/-- The kinds: name, fewest and most kids, whether there is a number, what text, what abilities, the maker. -/
def nmK : Nat → ByteArray
  | 0 => ⟨#[98, 97, 115, 101, 46, 117, 110, 105, 116]⟩
  | 1 => ⟨#[98, 97, 115, 101, 46, 121, 101, 115]⟩
  | 2 => ⟨#[98, 97, 115, 101, 46, 110, 111]⟩
  | 3 => ⟨#[98, 97, 115, 101, 46, 105, 110, 116]⟩
  | 4 => ⟨#[98, 97, 115, 101, 46, 116, 101, 120, 116]⟩
  | 5 => ⟨#[98, 97, 115, 101, 46, 118, 97, 114]⟩
  | 6 => ⟨#[98, 97, 115, 101, 46, 102, 114, 97, 109, 101]⟩
  | _ => ⟨#[]⟩
def minK : Nat → Int
  | 0 => 0
  | 1 => 0
  | 2 => 0
  | 3 => 0
  | 4 => 0
  | 5 => 0
  | 6 => 1
  | _ => 0
def maxK : Nat → Int
  | 0 => 0
  | 1 => 0
  | 2 => 0
  | 3 => 0
  | 4 => 0
  | 5 => 0
  | 6 => 65
  | _ => 0
def numK : Nat → Bool
  | 0 => false
  | 1 => false
  | 2 => false
  | 3 => true
  | 4 => false
  | 5 => false
  | 6 => false
  | _ => false
def textK : Nat → Int
  | 0 => 0
  | 1 => 0
  | 2 => 0
  | 3 => 0
  | 4 => 1
  | 5 => 4
  | 6 => 0
  | _ => 0
def hasK : Nat → ByteArray
  | 0 => ⟨#[76, 105, 116, 101, 114, 97, 108, 32, 80, 117, 114, 101, 32, 84, 111, 116, 97, 108, 32, 83, 111, 114, 116, 101, 100]⟩
  | 1 => ⟨#[76, 105, 116, 101, 114, 97, 108, 32, 80, 117, 114, 101, 32, 84, 111, 116, 97, 108, 32, 83, 111, 114, 116, 101, 100]⟩
  | 2 => ⟨#[76, 105, 116, 101, 114, 97, 108, 32, 80, 117, 114, 101, 32, 84, 111, 116, 97, 108, 32, 83, 111, 114, 116, 101, 100]⟩
  | 3 => ⟨#[76, 105, 116, 101, 114, 97, 108, 32, 80, 117, 114, 101, 32, 84, 111, 116, 97, 108, 32, 83, 111, 114, 116, 101, 100]⟩
  | 4 => ⟨#[76, 105, 116, 101, 114, 97, 108, 32, 80, 117, 114, 101, 32, 84, 111, 116, 97, 108, 32, 83, 111, 114, 116, 101, 100]⟩
  | 5 => ⟨#[85, 115, 101, 114, 32, 80, 117, 114, 101]⟩
  | 6 => ⟨#[80, 117, 114, 101, 32, 84, 111, 116, 97, 108, 32, 70, 114, 97, 109, 101, 100]⟩
  | _ => ⟨#[]⟩
def fnK : Nat → Nat
  | 0 => 111
  | 1 => 112
  | 2 => 113
  | 3 => 114
  | 4 => 116
  | 5 => 118
  | 6 => 119
  | _ => 0
def capK : Nat → Bool
  | 0 => true
  | 1 => true
  | 2 => true
  | 3 => true
  | 4 => true
  | 5 => false
  | 6 => false
  | _ => false
def mkK (g j : Nat) : Value := .func (.func (fnK j)) #[] (if capK j = true then #[.pointer (some ⟨g, 0, none⟩)] else #[])
def kdC (g : Nat) : Array Value := #[.string ⟨#[98, 97, 115, 101, 46, 117, 110, 105, 116]⟩, .int .i64 0, .int .i64 0, .bool false, .int .i64 0, .string ⟨#[76, 105, 116, 101, 114, 97, 108, 32, 80, 117, 114, 101, 32, 84, 111, 116, 97, 108, 32, 83, 111, 114, 116, 101, 100]⟩, .func (.func 111) #[] #[.pointer (some ⟨g, 0, none⟩)], .string ⟨#[98, 97, 115, 101, 46, 121, 101, 115]⟩, .int .i64 0, .int .i64 0, .bool false, .int .i64 0, .string ⟨#[76, 105, 116, 101, 114, 97, 108, 32, 80, 117, 114, 101, 32, 84, 111, 116, 97, 108, 32, 83, 111, 114, 116, 101, 100]⟩, .func (.func 112) #[] #[.pointer (some ⟨g, 0, none⟩)], .string ⟨#[98, 97, 115, 101, 46, 110, 111]⟩, .int .i64 0, .int .i64 0, .bool false, .int .i64 0, .string ⟨#[76, 105, 116, 101, 114, 97, 108, 32, 80, 117, 114, 101, 32, 84, 111, 116, 97, 108, 32, 83, 111, 114, 116, 101, 100]⟩, .func (.func 113) #[] #[.pointer (some ⟨g, 0, none⟩)], .string ⟨#[98, 97, 115, 101, 46, 105, 110, 116]⟩, .int .i64 0, .int .i64 0, .bool true, .int .i64 0, .string ⟨#[76, 105, 116, 101, 114, 97, 108, 32, 80, 117, 114, 101, 32, 84, 111, 116, 97, 108, 32, 83, 111, 114, 116, 101, 100]⟩, .func (.func 114) #[] #[.pointer (some ⟨g, 0, none⟩)], .string ⟨#[98, 97, 115, 101, 46, 116, 101, 120, 116]⟩, .int .i64 0, .int .i64 0, .bool false, .int .i64 1, .string ⟨#[76, 105, 116, 101, 114, 97, 108, 32, 80, 117, 114, 101, 32, 84, 111, 116, 97, 108, 32, 83, 111, 114, 116, 101, 100]⟩, .func (.func 116) #[] #[.pointer (some ⟨g, 0, none⟩)], .string ⟨#[98, 97, 115, 101, 46, 118, 97, 114]⟩, .int .i64 0, .int .i64 0, .bool false, .int .i64 4, .string ⟨#[85, 115, 101, 114, 32, 80, 117, 114, 101]⟩, .func (.func 118) #[] #[], .string ⟨#[98, 97, 115, 101, 46, 102, 114, 97, 109, 101]⟩, .int .i64 1, .int .i64 65, .bool false, .int .i64 0, .string ⟨#[80, 117, 114, 101, 32, 84, 111, 116, 97, 108, 32, 70, 114, 97, 109, 101, 100]⟩, .func (.func 119) #[] #[]]
theorem kd_at (g : Nat) : ∀ j, j < 7 → (kdC g)[j * 7]? = some (.string (nmK j)) ∧ (kdC g)[j * 7 + 1]? = some (.int .i64 (minK j)) ∧ (kdC g)[j * 7 + 2]? = some (.int .i64 (maxK j)) ∧ (kdC g)[j * 7 + 3]? = some (.bool (numK j)) ∧ (kdC g)[j * 7 + 4]? = some (.int .i64 (textK j)) ∧ (kdC g)[j * 7 + 5]? = some (.string (hasK j)) ∧ (kdC g)[j * 7 + 6]? = some (mkK g j)
  | 0, _ => ⟨rfl, rfl, rfl, rfl, rfl, rfl, rfl⟩
  | 1, _ => ⟨rfl, rfl, rfl, rfl, rfl, rfl, rfl⟩
  | 2, _ => ⟨rfl, rfl, rfl, rfl, rfl, rfl, rfl⟩
  | 3, _ => ⟨rfl, rfl, rfl, rfl, rfl, rfl, rfl⟩
  | 4, _ => ⟨rfl, rfl, rfl, rfl, rfl, rfl, rfl⟩
  | 5, _ => ⟨rfl, rfl, rfl, rfl, rfl, rfl, rfl⟩
  | 6, _ => ⟨rfl, rfl, rfl, rfl, rfl, rfl, rfl⟩
  | n + 7, h => absurd h (by omega)

/-- A kind, as a value. -/
def kdV (g j : Nat) : Value := .agg #[.string (nmK j), .int .i64 (minK j), .int .i64 (maxK j), .bool (numK j), .int .i64 (textK j), .string (hasK j), mkK g j]
def kdFind (name : ByteArray) : Option Nat := (List.range 7).find? (fun j => decide (nmK j = name))
theorem kdFind_some {name : ByteArray} {j : Nat} (hj : j < 7) (h : nmK j = name) (hn : ∀ i, i < j → nmK i ≠ name) : kdFind name = some j := by
  unfold kdFind
  rw [List.find?_range_eq_some]
  refine ⟨by simpa using h, by simpa using hj, fun i hi => by simpa using hn i hi⟩
theorem kdFind_none {name : ByteArray} (hn : ∀ i, i < 7 → nmK i ≠ name) : kdFind name = none := by
  unfold kdFind
  rw [List.find?_eq_none]
  intro x hx
  simpa using hn x (by simpa using hx)
/-- The function that makes literals, in its variable. -/
abbrev OfAt (w : World) (g : Nat) : Prop := w.heap[g]? = some (.cells #[.func (.func 110) #[] #[]] 231)
set_option maxRecDepth 100000 in
theorem kinds_any (w : World) : Calls Tryz.prog 91 #[] w fun e w' => e = .returned (.slice (some ⟨w.heap.size + 1, 0, none⟩) 7 7) ∧ w' = (w.alloc (.cells #[.func (.func 110) #[] #[]] 231)).alloc (.cells (kdC w.heap.size) 125) := by
  have hmf : ∀ (fn : Fn) (first cap : Array Value) (w : World), (Instr.makeFunc fn first cap).run Tryz.prog w = .ok (.func fn first cap) w := fun _ _ _ _ => rfl
  go_enter Tryz.func91, Tryz.ntmps91
  go_wp2_with fail
  go_ret
  exact ⟨rfl, rfl⟩
theorem seven_set {w : World} {b : Nat} {v0 v1 v2 v3 v4 v5 v6 u0 u1 u2 u3 u4 u5 u6 : Value} {t : TypeId} (h : w.heap[b]? = some (.cells #[v0, v1, v2, v3, v4, v5, v6] t)) : (((((((w.setCell ⟨b, 0, none⟩ u0).setCell ⟨b, 1, none⟩ u1).setCell ⟨b, 2, none⟩ u2).setCell ⟨b, 3, none⟩ u3).setCell ⟨b, 4, none⟩ u4).setCell ⟨b, 5, none⟩ u5).setCell ⟨b, 6, none⟩ u6).heap[b]? = some (.cells #[u0, u1, u2, u3, u4, u5, u6] t) := (set_at (set_at (set_at (set_at (set_at (set_at (set_at h 0 u0) 1 u1) 2 u2) 3 u3) 4 u4) 5 u5) 6 u6).trans (by simp)
theorem Kp.set7 (w : World) (g : Nat) (v0 v1 v2 v3 v4 v5 v6 : Value) : Kp (· ≠ g) w (((((((w.setCell ⟨g, 0, none⟩ v0).setCell ⟨g, 1, none⟩ v1).setCell ⟨g, 2, none⟩ v2).setCell ⟨g, 3, none⟩ v3).setCell ⟨g, 4, none⟩ v4).setCell ⟨g, 5, none⟩ v5).setCell ⟨g, 6, none⟩ v6) :=
  ((((((Kp.set w g 0 v0 (fun h => h rfl)).trans (Kp.set _ g 1 v1 (fun h => h rfl))).trans (Kp.set _ g 2 v2 (fun h => h rfl))).trans (Kp.set _ g 3 v3 (fun h => h rfl))).trans (Kp.set _ g 4 v4 (fun h => h rfl))).trans (Kp.set _ g 5 v5 (fun h => h rfl))).trans (Kp.set _ g 6 v6 (fun h => h rfl))
theorem seven_of {w : World} {b : Nat} {v0 v1 v2 v3 v4 v5 v6 : Value} {t : TypeId} (h : w.heap[b]? = some (.cells #[v0, v1, v2, v3, v4, v5, v6] t)) : w.cell? ⟨b, 0, none⟩ = some v0 ∧ w.cell? ⟨b, 1, none⟩ = some v1 ∧ w.cell? ⟨b, 2, none⟩ = some v2 ∧ w.cell? ⟨b, 3, none⟩ = some v3 ∧ w.cell? ⟨b, 4, none⟩ = some v4 ∧ w.cell? ⟨b, 5, none⟩ = some v5 ∧ w.cell? ⟨b, 6, none⟩ = some v6 := ⟨cell_of h rfl, cell_of h rfl, cell_of h rfl, cell_of h rfl, cell_of h rfl, cell_of h rfl, cell_of h rfl⟩
/-- What kindOf answers. -/
def KofR (name : ByteArray) (w : World) (e : Ending) (w' : World) : Prop := Ext w w' ∧
  match kdFind name with
  | some j => ∃ g, w.heap.size ≤ g ∧ OfAt w' g ∧ e = .returned (.tuple #[kdV g j, .bool true])
  | none => e = .returned (.tuple #[.agg #[.string ⟨#[]⟩, .int .i64 0, .int .i64 0, .bool false, .int .i64 0, .string ⟨#[]⟩, .nilFunc], .bool false])
set_option maxRecDepth 100000 in
set_option maxHeartbeats 2000000 in
theorem kindOf_any (name : ByteArray) (w : World) : Calls Tryz.prog 64 #[.string name] w (KofR name w) := by
  obtain ⟨M, hM⟩ : ∃ M, w.alloc (.cells #[.string ⟨#[]⟩, .int .i64 0, .int .i64 0, .bool false, .int .i64 0, .string ⟨#[]⟩, .nilFunc] 125) = M := ⟨_, rfl⟩
  have XM := hid (show Ext w M from hM ▸ Ext.alloc _ _)
  have HM0 := hid (show M.heap[w.heap.size]? = some (.cells #[.string ⟨#[]⟩, .int .i64 0, .int .i64 0, .bool false, .int .i64 0, .string ⟨#[]⟩, .nilFunc] 125) from hM ▸ blk0 _ _)
  have HMS := hid (show M.heap.size = w.heap.size + 1 from hM ▸ blkS _ _)
  go_enter Tryz.func64, Tryz.ntmps64
  go_wp2_with fail
  go_at_call 91
  refine (kinds_any M).mono ?_
  rintro e w1 ⟨rfl, hw1⟩
  have X1 := hid (show Ext M w1 from hw1 ▸ Ext.alloc2 _ _ _)
  have HO := hid (show OfAt w1 M.heap.size from hw1 ▸ blkOld _ (blk0 _ _))
  have HA := hid (show w1.heap[M.heap.size + 1]? = some (.cells (kdC M.heap.size) 125) from hw1 ▸ blk1 _ _ _)
  clear hM hw1
  go_wp2_with fail
  go_loopw [8] (fun q8 wr => ∃ j : Nat, j ≤ 7 ∧ q8 = .int .i64 j ∧ (∀ i, i < j → nmK i ≠ name) ∧ Ext w1 wr) (fun q8 _ => 7 - (intOf q8).toNat)
  case atStart => exact ⟨0, Nat.zero_le _, rfl, fun i h => absurd h (Nat.not_lt_zero _), Ext.refl _⟩
  case round =>
    obtain ⟨j, hj, rfl, hno, hx⟩ := hrel
    have HNO := hid hno
    have XR := hid hx
    have HZ := hid (hx.block (X1.out.block HM0.out))
    have XW := hid (XM.out.trans (X1.out.trans hx))
    obtain ⟨f0, f1, f2, f3, f4, f5, f6⟩ : wr.frozen? ⟨w.heap.size, 0, none⟩ = false ∧ wr.frozen? ⟨w.heap.size, 1, none⟩ = false ∧ wr.frozen? ⟨w.heap.size, 2, none⟩ = false ∧ wr.frozen? ⟨w.heap.size, 3, none⟩ = false ∧ wr.frozen? ⟨w.heap.size, 4, none⟩ = false ∧ wr.frozen? ⟨w.heap.size, 5, none⟩ = false ∧ wr.frozen? ⟨w.heap.size, 6, none⟩ = false := ⟨frozen_of HZ.out, frozen_of HZ.out, frozen_of HZ.out, frozen_of HZ.out, frozen_of HZ.out, frozen_of HZ.out, frozen_of HZ.out⟩
    obtain ⟨r0, r1, r2, r3, r4, r5, r6⟩ := seven_of HZ.out
    have hlw : w.heap.size < wr.heap.size := lt_of_block HZ.out
    clear hno hx
    by_cases hlt : j < 7
    · have hlt' : (j : Int) < 7 := by omega
      obtain ⟨a0, a1, a2, a3, a4, a5, a6⟩ := kd_at M.heap.size j hlt
      have HAB := XR.out.block HA.out
      have p0 : wr.cell? ⟨M.heap.size + 1, j * 7, none⟩ = some (.string (nmK j)) := cell_of HAB a0
      have p1 : wr.cell? ⟨M.heap.size + 1, j * 7 + 1, none⟩ = some (.int .i64 (minK j)) := cell_of HAB a1
      have p2 : wr.cell? ⟨M.heap.size + 1, j * 7 + 2, none⟩ = some (.int .i64 (maxK j)) := cell_of HAB a2
      have p3 : wr.cell? ⟨M.heap.size + 1, j * 7 + 3, none⟩ = some (.bool (numK j)) := cell_of HAB a3
      have p4 : wr.cell? ⟨M.heap.size + 1, j * 7 + 4, none⟩ = some (.int .i64 (textK j)) := cell_of HAB a4
      have p5 : wr.cell? ⟨M.heap.size + 1, j * 7 + 5, none⟩ = some (.string (hasK j)) := cell_of HAB a5
      have p6 : wr.cell? ⟨M.heap.size + 1, j * 7 + 6, none⟩ = some (mkK M.heap.size j) := cell_of HAB a6
      have heq := str_eqb (nmK j) name
      have HF := hid (fun h => kdFind_some hlt h HNO.out)
      have HS := hid (show nmK j ≠ name → ∀ i, i < j + 1 → nmK i ≠ name from fun h i hi => by
        by_cases e : i = j
        · subst e; exact h
        · exact HNO.out i (by omega))
      have HV := hid (show kdV M.heap.size j = .agg #[.string (nmK j), .int .i64 (minK j), .int .i64 (maxK j), .bool (numK j), .int .i64 (textK j), .string (hasK j), mkK M.heap.size j] from rfl)
      unfold mkK at p6 HV
      generalize nmK j = nj at *
      generalize minK j = mj at *
      generalize maxK j = xj at *
      generalize numK j = bj at *
      generalize textK j = tj at *
      generalize hasK j = hj' at *
      generalize fnK j = fj at *
      generalize (if capK j = true then #[Value.pointer (some ⟨M.heap.size, 0, none⟩)] else #[]) = cj at *
      clear a0 a1 a2 a3 a4 a5 a6 HAB
      by_cases he : nj = name
      · rw [decide_eq_true he] at heq
        have HFD := hid (HF.out he)
        clear he
        go_wp2_with fail
        obtain ⟨z0, z1, z2, z3, z4, z5, z6⟩ := seven_of (blkOld (.cells #[.string nj, .int .i64 mj, .int .i64 xj, .bool bj, .int .i64 tj, .string hj', .func (.func fj) #[] cj] 125) (seven_set (u0 := .string nj) (u1 := .int .i64 mj) (u2 := .int .i64 xj) (u3 := .bool bj) (u4 := .int .i64 tj) (u5 := .string hj') (u6 := .func (.func fj) #[] cj) HZ.out))
        refine bodyPost_ret (v := .tuple #[.agg #[.string nj, .int .i64 mj, .int .i64 xj, .bool bj, .int .i64 tj, .string hj', .func (.func fj) #[] cj], .bool true]) (by simp [results, Tryz.results64, go_sem, z0, z1, z2, z3, z4, z5, z6]) rfl ?_
        have HK := Kp.set7 wr w.heap.size (.string nj) (.int .i64 mj) (.int .i64 xj) (.bool bj) (.int .i64 tj) (.string hj') (.func (.func fj) #[] cj)
        have HX := Kp.extOf XW.out HK (Nat.le_refl _)
        refine ⟨HX.trans (Ext.alloc _ _), ?_⟩
        rw [HFD.out]
        exact ⟨M.heap.size, by have := HMS.out; omega, blkOld _ (HK.block' (XR.out.block HO.out) (by have := HMS.out; omega)), by rw [HV.out]⟩
      · rw [decide_eq_false he] at heq
        have HNX := hid (HS.out he)
        clear he
        go_wp2_with fail
        go_roundw
        case rel => exact ⟨j + 1, by omega, by go_num, HNX.out, XR.out.trans (Ext.alloc _ _)⟩
        case measure => simp [intOf]; omega
    · have hje : j = 7 := by omega
      subst hje
      have HFN := hid (kdFind_none HNO.out)
      go_wp2_with fail
      obtain ⟨z0, z1, z2, z3, z4, z5, z6⟩ := seven_of (seven_set (u0 := .string ⟨#[]⟩) (u1 := .int .i64 0) (u2 := .int .i64 0) (u3 := .bool false) (u4 := .int .i64 0) (u5 := .string ⟨#[]⟩) (u6 := .nilFunc) HZ.out)
      refine bodyPost_ret (v := .tuple #[.agg #[.string ⟨#[]⟩, .int .i64 0, .int .i64 0, .bool false, .int .i64 0, .string ⟨#[]⟩, .nilFunc], .bool false]) (by simp [results, Tryz.results64, go_sem, z0, z1, z2, z3, z4, z5, z6]) rfl ?_
      refine ⟨Kp.extOf XW.out (Kp.set7 wr w.heap.size _ _ _ _ _ _ _) (Nat.le_refl _), ?_⟩
      rw [HFN.out]
end Go.Proofs.YtaafcmmmkalgjaaGreatDoor.Nd
