/-
  The kit base's table of kinds, and one by its name; by contracts.
-/
import Derived.Test.YtaafcmmmkalgjaaGreatDoorCFind
import Derived.Laws.EntriesVeiled
import Derived.Stop.Asserts
import Derived.Deep.RegionHeld3
import Derived.WalkMore
import Derived.Maps.AppendAt
import Derived.Deep.LoopGhost
import Derived.Deep.CutRange
import Derived.Deep.CutBlock
import Derived.Deep.Cut
namespace Go.Proofs.YtaafcmmmkalgjaaGreatDoor.Nd
open Go.RowKit
/-- The kinds: name, fewest and most kids, whether there is a number, what text, what abilities, the maker. -/
def nmK : Nat → ByteArray
  | 0 => ⟨#[98, 97, 115, 101, 46, 117, 110, 105, 116]⟩
  | 1 => ⟨#[98, 97, 115, 101, 46, 121, 101, 115]⟩
  | 2 => ⟨#[98, 97, 115, 101, 46, 110, 111]⟩
  | 3 => ⟨#[98, 97, 115, 101, 46, 105, 110, 116]⟩
  | 4 => ⟨#[98, 97, 115, 101, 46, 116, 101, 120, 116]⟩
  | 5 => ⟨#[98, 97, 115, 101, 46, 118, 97, 114]⟩
  | 6 => ⟨#[98, 97, 115, 101, 46, 102, 114, 97, 109, 101]⟩
  | _ => ⟨#[]⟩
def minK : Nat → Int
  | 0 => 0
  | 1 => 0
  | 2 => 0
  | 3 => 0
  | 4 => 0
  | 5 => 0
  | 6 => 1
  | _ => 0
def maxK : Nat → Int
  | 0 => 0
  | 1 => 0
  | 2 => 0
  | 3 => 0
  | 4 => 0
  | 5 => 0
  | 6 => 65
  | _ => 0
def numK : Nat → Bool
  | 0 => false
  | 1 => false
  | 2 => false
  | 3 => true
  | 4 => false
  | 5 => false
  | 6 => false
  | _ => false
def textK : Nat → Int
  | 0 => 0
  | 1 => 0
  | 2 => 0
  | 3 => 0
  | 4 => 1
  | 5 => 4
  | 6 => 0
  | _ => 0
def hasK : Nat → ByteArray
  | 0 => ⟨#[76, 105, 116, 101, 114, 97, 108, 32, 80, 117, 114, 101, 32, 84, 111, 116, 97, 108, 32, 83, 111, 114, 116, 101, 100]⟩
  | 1 => ⟨#[76, 105, 116, 101, 114, 97, 108, 32, 80, 117, 114, 101, 32, 84, 111, 116, 97, 108, 32, 83, 111, 114, 116, 101, 100]⟩
  | 2 => ⟨#[76, 105, 116, 101, 114, 97, 108, 32, 80, 117, 114, 101, 32, 84, 111, 116, 97, 108, 32, 83, 111, 114, 116, 101, 100]⟩
  | 3 => ⟨#[76, 105, 116, 101, 114, 97, 108, 32, 80, 117, 114, 101, 32, 84, 111, 116, 97, 108, 32, 83, 111, 114, 116, 101, 100]⟩
  | 4 => ⟨#[76, 105, 116, 101, 114, 97, 108, 32, 80, 117, 114, 101, 32, 84, 111, 116, 97, 108, 32, 83, 111, 114, 116, 101, 100]⟩
  | 5 => ⟨#[85, 115, 101, 114, 32, 80, 117, 114, 101]⟩
  | 6 => ⟨#[80, 117, 114, 101, 32, 84, 111, 116, 97, 108, 32, 70, 114, 97, 109, 101, 100]⟩
  | _ => ⟨#[]⟩
def fnK : Nat → Nat
  | 0 => 111
  | 1 => 112
  | 2 => 113
  | 3 => 114
  | 4 => 116
  | 5 => 118
  | 6 => 119
  | _ => 0
def capK : Nat → Bool
  | 0 => true
  | 1 => true
  | 2 => true
  | 3 => true
  | 4 => true
  | 5 => false
  | 6 => false
  | _ => false
def mkK (g j : Nat) : Value := .func (.func (fnK j)) #[] (if capK j = true then #[.pointer (some ⟨g, 0, none⟩)] else #[])
def kdC (g : Nat) : Array Value := #[.string ⟨#[98, 97, 115, 101, 46, 117, 110, 105, 116]⟩, .int .i64 0, .int .i64 0, .bool false, .int .i64 0, .string ⟨#[76, 105, 116, 101, 114, 97, 108, 32, 80, 117, 114, 101, 32, 84, 111, 116, 97, 108, 32, 83, 111, 114, 116, 101, 100]⟩, .func (.func 111) #[] #[.pointer (some ⟨g, 0, none⟩)], .string ⟨#[98, 97, 115, 101, 46, 121, 101, 115]⟩, .int .i64 0, .int .i64 0, .bool false, .int .i64 0, .string ⟨#[76, 105, 116, 101, 114, 97, 108, 32, 80, 117, 114, 101, 32, 84, 111, 116, 97, 108, 32, 83, 111, 114, 116, 101, 100]⟩, .func (.func 112) #[] #[.pointer (some ⟨g, 0, none⟩)], .string ⟨#[98, 97, 115, 101, 46, 110, 111]⟩, .int .i64 0, .int .i64 0, .bool false, .int .i64 0, .string ⟨#[76, 105, 116, 101, 114, 97, 108, 32, 80, 117, 114, 101, 32, 84, 111, 116, 97, 108, 32, 83, 111, 114, 116, 101, 100]⟩, .func (.func 113) #[] #[.pointer (some ⟨g, 0, none⟩)], .string ⟨#[98, 97, 115, 101, 46, 105, 110, 116]⟩, .int .i64 0, .int .i64 0, .bool true, .int .i64 0, .string ⟨#[76, 105, 116, 101, 114, 97, 108, 32, 80, 117, 114, 101, 32, 84, 111, 116, 97, 108, 32, 83, 111, 114, 116, 101, 100]⟩, .func (.func 114) #[] #[.pointer (some ⟨g, 0, none⟩)], .string ⟨#[98, 97, 115, 101, 46, 116, 101, 120, 116]⟩, .int .i64 0, .int .i64 0, .bool false, .int .i64 1, .string ⟨#[76, 105, 116, 101, 114, 97, 108, 32, 80, 117, 114, 101, 32, 84, 111, 116, 97, 108, 32, 83, 111, 114, 116, 101, 100]⟩, .func (.func 116) #[] #[.pointer (some ⟨g, 0, none⟩)], .string ⟨#[98, 97, 115, 101, 46, 118, 97, 114]⟩, .int .i64 0, .int .i64 0, .bool false, .int .i64 4, .string ⟨#[85, 115, 101, 114, 32, 80, 117, 114, 101]⟩, .func (.func 118) #[] #[], .string ⟨#[98, 97, 115, 101, 46, 102, 114, 97, 109, 101]⟩, .int .i64 1, .int .i64 65, .bool false, .int .i64 0, .string ⟨#[80, 117, 114, 101, 32, 84, 111, 116, 97, 108, 32, 70, 114, 97, 109, 101, 100]⟩, .func (.func 119) #[] #[]]
theorem kd_at (g : Nat) : ∀ j, j < 7 → (kdC g)[j * 7]? = some (.string (nmK j)) ∧ (kdC g)[j * 7 + 1]? = some (.int .i64 (minK j)) ∧ (kdC g)[j * 7 + 2]? = some (.int .i64 (maxK j)) ∧ (kdC g)[j * 7 + 3]? = some (.bool (numK j)) ∧ (kdC g)[j * 7 + 4]? = some (.int .i64 (textK j)) ∧ (kdC g)[j * 7 + 5]? = some (.string (hasK j)) ∧ (kdC g)[j * 7 + 6]? = some (mkK g j)
  | 0, _ => ⟨rfl, rfl, rfl, rfl, rfl, rfl, rfl⟩
  | 1, _ => ⟨rfl, rfl, rfl, rfl, rfl, rfl, rfl⟩
  | 2, _ => ⟨rfl, rfl, rfl, rfl, rfl, rfl, rfl⟩
  | 3, _ => ⟨rfl, rfl, rfl, rfl, rfl, rfl, rfl⟩
  | 4, _ => ⟨rfl, rfl, rfl, rfl, rfl, rfl, rfl⟩
  | 5, _ => ⟨rfl, rfl, rfl, rfl, rfl, rfl, rfl⟩
  | 6, _ => ⟨rfl, rfl, rfl, rfl, rfl, rfl, rfl⟩
  | n + 7, h => absurd h (by omega)

/-- A kind, as a value. -/
def kdV (g j : Nat) : Value := .agg #[.string (nmK j), .int .i64 (minK j), .int .i64 (maxK j), .bool (numK j), .int .i64 (textK j), .string (hasK j), mkK g j]
def kdFind (name : ByteArray) : Option Nat := (List.range 7).find? (fun j => decide (nmK j = name))
theorem kdFind_some {name : ByteArray} {j : Nat} (hj : j < 7) (h : nmK j = name) (hn : ∀ i, i < j → nmK i ≠ name) : kdFind name = some j := by
  unfold kdFind
  rw [List.find?_range_eq_some]
  refine ⟨by simpa using h, by simpa using hj, fun i hi => by simpa using hn i hi⟩
theorem kdFind_none {name : ByteArray} (hn : ∀ i, i < 7 → nmK i ≠ name) : kdFind name = none := by
  unfold kdFind
  rw [List.find?_eq_none]
  intro x hx
  simpa using hn x (by simpa using hx)
/-- The function that makes literals, in its variable. -/
abbrev OfAt (w : World) (g : Nat) : Prop := w.heap[g]? = some (.cells #[.func (.func 110) #[] #[]] 231)
set_option maxRecDepth 100000 in
theorem kinds_any (w : World) : Calls Tryz.prog 91 #[] w fun e w' => e = .returned (.slice (some ⟨w.heap.size + 1, 0, none⟩) 7 7) ∧ w' = (w.alloc (.cells #[.func (.func 110) #[] #[]] 231)).alloc (.cells (kdC w.heap.size) 125) := by
  have hmf : ∀ (fn : Fn) (first cap : Array Value) (w : World), (Instr.makeFunc fn first cap).run Tryz.prog w = .ok (.func fn first cap) w := fun _ _ _ _ => rfl
  go_enter Tryz.func91, Tryz.ntmps91
  go_wp2_with fail
  go_ret
  exact ⟨rfl, rfl⟩
theorem seven_set {w : World} {b : Nat} {v0 v1 v2 v3 v4 v5 v6 u0 u1 u2 u3 u4 u5 u6 : Value} {t : TypeId} (h : w.heap[b]? = some (.cells #[v0, v1, v2, v3, v4, v5, v6] t)) : (((((((w.setCell ⟨b, 0, none⟩ u0).setCell ⟨b, 1, none⟩ u1).setCell ⟨b, 2, none⟩ u2).setCell ⟨b, 3, none⟩ u3).setCell ⟨b, 4, none⟩ u4).setCell ⟨b, 5, none⟩ u5).setCell ⟨b, 6, none⟩ u6).heap[b]? = some (.cells #[u0, u1, u2, u3, u4, u5, u6] t) := (set_at (set_at (set_at (set_at (set_at (set_at (set_at h 0 u0) 1 u1) 2 u2) 3 u3) 4 u4) 5 u5) 6 u6).trans (by simp)
theorem Kp.set7 (w : World) (g : Nat) (v0 v1 v2 v3 v4 v5 v6 : Value) : Kp (· ≠ g) w (((((((w.setCell ⟨g, 0, none⟩ v0).setCell ⟨g, 1, none⟩ v1).setCell ⟨g, 2, none⟩ v2).setCell ⟨g, 3, none⟩ v3).setCell ⟨g, 4, none⟩ v4).setCell ⟨g, 5, none⟩ v5).setCell ⟨g, 6, none⟩ v6) :=
  ((((((Kp.set w g 0 v0 (fun h => h rfl)).trans (Kp.set _ g 1 v1 (fun h => h rfl))).trans (Kp.set _ g 2 v2 (fun h => h rfl))).trans (Kp.set _ g 3 v3 (fun h => h rfl))).trans (Kp.set _ g 4 v4 (fun h => h rfl))).trans (Kp.set _ g 5 v5 (fun h => h rfl))).trans (Kp.set _ g 6 v6 (fun h => h rfl))
theorem seven_of {w : World} {b : Nat} {v0 v1 v2 v3 v4 v5 v6 : Value} {t : TypeId} (h : w.heap[b]? = some (.cells #[v0, v1, v2, v3, v4, v5, v6] t)) : w.cell? ⟨b, 0, none⟩ = some v0 ∧ w.cell? ⟨b, 1, none⟩ = some v1 ∧ w.cell? ⟨b, 2, none⟩ = some v2 ∧ w.cell? ⟨b, 3, none⟩ = some v3 ∧ w.cell? ⟨b, 4, none⟩ = some v4 ∧ w.cell? ⟨b, 5, none⟩ = some v5 ∧ w.cell? ⟨b, 6, none⟩ = some v6 := ⟨cell_of h rfl, cell_of h rfl, cell_of h rfl, cell_of h rfl, cell_of h rfl, cell_of h rfl, cell_of h rfl⟩
/-- What kindOf answers. -/
def KofR (name : ByteArray) (w : World) (e : Ending) (w' : World) : Prop := Ext w w' ∧
  match kdFind name with
  | some j => ∃ g, w.heap.size ≤ g ∧ OfAt w' g ∧ e = .returned (.tuple #[kdV g j, .bool true])
  | none => e = .returned (.tuple #[.agg #[.string ⟨#[]⟩, .int .i64 0, .int .i64 0, .bool false, .int .i64 0, .string ⟨#[]⟩, .nilFunc], .bool false])
set_option maxRecDepth 100000 in
set_option maxHeartbeats 2000000 in
theorem kindOf_any (name : ByteArray) (w : World) : Calls Tryz.prog 64 #[.string name] w (KofR name w) := by
  obtain ⟨M, hM⟩ : ∃ M, w.alloc (.cells #[.string ⟨#[]⟩, .int .i64 0, .int .i64 0, .bool false, .int .i64 0, .string ⟨#[]⟩, .nilFunc] 125) = M := ⟨_, rfl⟩
  have XM := hid (show Ext w M from hM ▸ Ext.alloc _ _)
  have HM0 := hid (show M.heap[w.heap.size]? = some (.cells #[.string ⟨#[]⟩, .int .i64 0, .int .i64 0, .bool false, .int .i64 0, .string ⟨#[]⟩, .nilFunc] 125) from hM ▸ blk0 _ _)
  have HMS := hid (show M.heap.size = w.heap.size + 1 from hM ▸ blkS _ _)
  go_enter Tryz.func64, Tryz.ntmps64
  go_wp2_with fail
  go_at_call 91
  refine (kinds_any M).mono ?_
  rintro e w1 ⟨rfl, hw1⟩
  have X1 := hid (show Ext M w1 from hw1 ▸ Ext.alloc2 _ _ _)
  have HO := hid (show OfAt w1 M.heap.size from hw1 ▸ blkOld _ (blk0 _ _))
  have HA := hid (show w1.heap[M.heap.size + 1]? = some (.cells (kdC M.heap.size) 125) from hw1 ▸ blk1 _ _ _)
  clear hM hw1
  go_wp2_with fail
  go_loopw [8] (fun q8 wr => ∃ j : Nat, j ≤ 7 ∧ q8 = .int .i64 j ∧ (∀ i, i < j → nmK i ≠ name) ∧ Ext w1 wr) (fun q8 _ => 7 - (intOf q8).toNat)
  case atStart => exact ⟨0, Nat.zero_le _, rfl, fun i h => absurd h (Nat.not_lt_zero _), Ext.refl _⟩
  case round =>
    obtain ⟨j, hj, rfl, hno, hx⟩ := hrel
    have HNO := hid hno
    have XR := hid hx
    have HZ := hid (hx.block (X1.out.block HM0.out))
    have XW := hid (XM.out.trans (X1.out.trans hx))
    obtain ⟨f0, f1, f2, f3, f4, f5, f6⟩ : wr.frozen? ⟨w.heap.size, 0, none⟩ = false ∧ wr.frozen? ⟨w.heap.size, 1, none⟩ = false ∧ wr.frozen? ⟨w.heap.size, 2, none⟩ = false ∧ wr.frozen? ⟨w.heap.size, 3, none⟩ = false ∧ wr.frozen? ⟨w.heap.size, 4, none⟩ = false ∧ wr.frozen? ⟨w.heap.size, 5, none⟩ = false ∧ wr.frozen? ⟨w.heap.size, 6, none⟩ = false := ⟨frozen_of HZ.out, frozen_of HZ.out, frozen_of HZ.out, frozen_of HZ.out, frozen_of HZ.out, frozen_of HZ.out, frozen_of HZ.out⟩
    obtain ⟨r0, r1, r2, r3, r4, r5, r6⟩ := seven_of HZ.out
    have hlw : w.heap.size < wr.heap.size := lt_of_block HZ.out
    clear hno hx
    by_cases hlt : j < 7
    · have hlt' : (j : Int) < 7 := by omega
      obtain ⟨a0, a1, a2, a3, a4, a5, a6⟩ := kd_at M.heap.size j hlt
      have HAB := XR.out.block HA.out
      have p0 : wr.cell? ⟨M.heap.size + 1, j * 7, none⟩ = some (.string (nmK j)) := cell_of HAB a0
      have p1 : wr.cell? ⟨M.heap.size + 1, j * 7 + 1, none⟩ = some (.int .i64 (minK j)) := cell_of HAB a1
      have p2 : wr.cell? ⟨M.heap.size + 1, j * 7 + 2, none⟩ = some (.int .i64 (maxK j)) := cell_of HAB a2
      have p3 : wr.cell? ⟨M.heap.size + 1, j * 7 + 3, none⟩ = some (.bool (numK j)) := cell_of HAB a3
      have p4 : wr.cell? ⟨M.heap.size + 1, j * 7 + 4, none⟩ = some (.int .i64 (textK j)) := cell_of HAB a4
      have p5 : wr.cell? ⟨M.heap.size + 1, j * 7 + 5, none⟩ = some (.string (hasK j)) := cell_of HAB a5
      have p6 : wr.cell? ⟨M.heap.size + 1, j * 7 + 6, none⟩ = some (mkK M.heap.size j) := cell_of HAB a6
      have heq := str_eqb (nmK j) name
      have HF := hid (fun h => kdFind_some hlt h HNO.out)
      have HS := hid (show nmK j ≠ name → ∀ i, i < j + 1 → nmK i ≠ name from fun h i hi => by
        by_cases e : i = j
        · subst e; exact h
        · exact HNO.out i (by omega))
      have HV := hid (show kdV M.heap.size j = .agg #[.string (nmK j), .int .i64 (minK j), .int .i64 (maxK j), .bool (numK j), .int .i64 (textK j), .string (hasK j), mkK M.heap.size j] from rfl)
      unfold mkK at p6 HV
      generalize nmK j = nj at *
      generalize minK j = mj at *
      generalize maxK j = xj at *
      generalize numK j = bj at *
      generalize textK j = tj at *
      generalize hasK j = hj' at *
      generalize fnK j = fj at *
      generalize (if capK j = true then #[Value.pointer (some ⟨M.heap.size, 0, none⟩)] else #[]) = cj at *
      clear a0 a1 a2 a3 a4 a5 a6 HAB
      by_cases he : nj = name
      · rw [decide_eq_true he] at heq
        have HFD := hid (HF.out he)
        clear he
        go_wp2_with fail
        obtain ⟨z0, z1, z2, z3, z4, z5, z6⟩ := seven_of (blkOld (.cells #[.string nj, .int .i64 mj, .int .i64 xj, .bool bj, .int .i64 tj, .string hj', .func (.func fj) #[] cj] 125) (seven_set (u0 := .string nj) (u1 := .int .i64 mj) (u2 := .int .i64 xj) (u3 := .bool bj) (u4 := .int .i64 tj) (u5 := .string hj') (u6 := .func (.func fj) #[] cj) HZ.out))
        refine bodyPost_ret (v := .tuple #[.agg #[.string nj, .int .i64 mj, .int .i64 xj, .bool bj, .int .i64 tj, .string hj', .func (.func fj) #[] cj], .bool true]) (by simp [results, Tryz.results64, go_sem, z0, z1, z2, z3, z4, z5, z6]) rfl ?_
        have HK := Kp.set7 wr w.heap.size (.string nj) (.int .i64 mj) (.int .i64 xj) (.bool bj) (.int .i64 tj) (.string hj') (.func (.func fj) #[] cj)
        have HX := Kp.extOf XW.out HK (Nat.le_refl _)
        refine ⟨HX.trans (Ext.alloc _ _), ?_⟩
        rw [HFD.out]
        exact ⟨M.heap.size, by have := HMS.out; omega, blkOld _ (HK.block' (XR.out.block HO.out) (by have := HMS.out; omega)), by rw [HV.out]⟩
      · rw [decide_eq_false he] at heq
        have HNX := hid (HS.out he)
        clear he
        go_wp2_with fail
        go_roundw
        case rel => exact ⟨j + 1, by omega, by go_num, HNX.out, XR.out.trans (Ext.alloc _ _)⟩
        case measure => simp [intOf]; omega
    · have hje : j = 7 := by omega
      subst hje
      have HFN := hid (kdFind_none HNO.out)
      go_wp2_with fail
      obtain ⟨z0, z1, z2, z3, z4, z5, z6⟩ := seven_of (seven_set (u0 := .string ⟨#[]⟩) (u1 := .int .i64 0) (u2 := .int .i64 0) (u3 := .bool false) (u4 := .int .i64 0) (u5 := .string ⟨#[]⟩) (u6 := .nilFunc) HZ.out)
      refine bodyPost_ret (v := .tuple #[.agg #[.string ⟨#[]⟩, .int .i64 0, .int .i64 0, .bool false, .int .i64 0, .string ⟨#[]⟩, .nilFunc], .bool false]) (by simp [results, Tryz.results64, go_sem, z0, z1, z2, z3, z4, z5, z6]) rfl ?_
      refine ⟨Kp.extOf XW.out (Kp.set7 wr w.heap.size _ _ _ _ _ _ _) (Nat.le_refl _), ?_⟩
      rw [HFN.out]
end Go.Proofs.YtaafcmmmkalgjaaGreatDoor.Nd
/-
  Closed facts over the program's tables: what a node of each type asserts to, and which function a method of it is. No condition.
-/
namespace Go.Proofs.YtaafcmmmkalgjaaGreatDoor.Nd
open Go.RowKit Go.Stop
theorem isLitLiteral (v : Value) (xT : TypeId) (w : World) : (Instr.typeAssert (.iface 226 v) xT 241 true).run Tryz.prog w = .ok (.tuple #[.iface 226 v, .bool true]) w := run_typeAssert_hasB Tryz.underlying241 (by kernel_rfl) v xT w
theorem isLitStrict (v : Value) (xT : TypeId) (w : World) : (Instr.typeAssert (.iface 226 v) xT 62 true).run Tryz.prog w = .ok (.tuple #[.nilIface, .bool false]) w := run_typeAssert_lacksB Tryz.underlying62 (by kernel_rfl) (by kernel_rfl) v xT w
theorem isLitLazy (v : Value) (xT : TypeId) (w : World) : (Instr.typeAssert (.iface 226 v) xT 56 true).run Tryz.prog w = .ok (.tuple #[.nilIface, .bool false]) w := run_typeAssert_lacksB Tryz.underlying56 (by kernel_rfl) (by kernel_rfl) v xT w
theorem isLitBinder (v : Value) (xT : TypeId) (w : World) : (Instr.typeAssert (.iface 226 v) xT 59 true).run Tryz.prog w = .ok (.tuple #[.nilIface, .bool false]) w := run_typeAssert_lacksB Tryz.underlying59 (by kernel_rfl) (by kernel_rfl) v xT w
theorem isLitUser (v : Value) (xT : TypeId) (w : World) : (Instr.typeAssert (.iface 226 v) xT 244 true).run Tryz.prog w = .ok (.tuple #[.nilIface, .bool false]) w := run_typeAssert_lacksB Tryz.underlying244 (by kernel_rfl) (by kernel_rfl) v xT w
theorem isLitCaller (v : Value) (xT : TypeId) (w : World) : (Instr.typeAssert (.iface 226 v) xT 247 true).run Tryz.prog w = .ok (.tuple #[.nilIface, .bool false]) w := run_typeAssert_lacksB Tryz.underlying247 (by kernel_rfl) (by kernel_rfl) v xT w
theorem isLitPure (v : Value) (xT : TypeId) (w : World) : (Instr.typeAssert (.iface 226 v) xT 250 true).run Tryz.prog w = .ok (.tuple #[.iface 226 v, .bool true]) w := run_typeAssert_hasB Tryz.underlying250 (by kernel_rfl) v xT w
theorem isLitTotal (v : Value) (xT : TypeId) (w : World) : (Instr.typeAssert (.iface 226 v) xT 253 true).run Tryz.prog w = .ok (.tuple #[.iface 226 v, .bool true]) w := run_typeAssert_hasB Tryz.underlying253 (by kernel_rfl) v xT w
theorem isLitSorted (v : Value) (xT : TypeId) (w : World) : (Instr.typeAssert (.iface 226 v) xT 256 true).run Tryz.prog w = .ok (.tuple #[.iface 226 v, .bool true]) w := run_typeAssert_hasB Tryz.underlying256 (by kernel_rfl) v xT w
theorem isLitSugar (v : Value) (xT : TypeId) (w : World) : (Instr.typeAssert (.iface 226 v) xT 259 true).run Tryz.prog w = .ok (.tuple #[.nilIface, .bool false]) w := run_typeAssert_lacksB Tryz.underlying259 (by kernel_rfl) (by kernel_rfl) v xT w
theorem isLitFramed (v : Value) (xT : TypeId) (w : World) : (Instr.typeAssert (.iface 226 v) xT 262 true).run Tryz.prog w = .ok (.tuple #[.nilIface, .bool false]) w := run_typeAssert_lacksB Tryz.underlying262 (by kernel_rfl) (by kernel_rfl) v xT w
theorem isLitWrapped (v : Value) (xT : TypeId) (w : World) : (Instr.typeAssert (.iface 226 v) xT 225 true).run Tryz.prog w = .ok (.tuple #[.nilIface, .bool false]) w := run_typeAssert_lacksB Tryz.underlying225 (by kernel_rfl) (by kernel_rfl) v xT w
theorem isLitOrigin (v : Value) (xT : TypeId) (w : World) : (Instr.typeAssert (.iface 226 v) xT 266 true).run Tryz.prog w = .ok (.tuple #[.nilIface, .bool false]) w := run_typeAssert_lacksB Tryz.underlying266 (by kernel_rfl) (by kernel_rfl) v xT w
theorem isLitOpaque (v : Value) (xT : TypeId) (w : World) : (Instr.typeAssert (.iface 226 v) xT 269 true).run Tryz.prog w = .ok (.tuple #[.nilIface, .bool false]) w := run_typeAssert_lacksB Tryz.underlying269 (by kernel_rfl) (by kernel_rfl) v xT w
theorem mLitKind (b : Nat) (w : World) : (method 428 226 (.pointer (some ⟨b, 0, none⟩)) "Kind").run Tryz.prog w = .ok (184, .pointer (some ⟨b, 0, none⟩)) w := by kernel_rfl
theorem mLitNum (b : Nat) (w : World) : (method 428 226 (.pointer (some ⟨b, 0, none⟩)) "Num").run Tryz.prog w = .ok (115, .pointer (some ⟨b, 0, none⟩)) w := by kernel_rfl
theorem mLitText (b : Nat) (w : World) : (method 428 226 (.pointer (some ⟨b, 0, none⟩)) "Text").run Tryz.prog w = .ok (117, .pointer (some ⟨b, 0, none⟩)) w := by kernel_rfl
theorem mLitLen (b : Nat) (w : World) : (method 428 226 (.pointer (some ⟨b, 0, none⟩)) "Len").run Tryz.prog w = .ok (185, .pointer (some ⟨b, 0, none⟩)) w := by kernel_rfl
theorem mLitKid (b : Nat) (w : World) : (method 428 226 (.pointer (some ⟨b, 0, none⟩)) "Kid").run Tryz.prog w = .ok (183, .pointer (some ⟨b, 0, none⟩)) w := by kernel_rfl
theorem isVarLiteral (v : Value) (xT : TypeId) (w : World) : (Instr.typeAssert (.iface 232 v) xT 241 true).run Tryz.prog w = .ok (.tuple #[.nilIface, .bool false]) w := run_typeAssert_lacksB Tryz.underlying241 (by kernel_rfl) (by kernel_rfl) v xT w
theorem isVarStrict (v : Value) (xT : TypeId) (w : World) : (Instr.typeAssert (.iface 232 v) xT 62 true).run Tryz.prog w = .ok (.tuple #[.nilIface, .bool false]) w := run_typeAssert_lacksB Tryz.underlying62 (by kernel_rfl) (by kernel_rfl) v xT w
theorem isVarLazy (v : Value) (xT : TypeId) (w : World) : (Instr.typeAssert (.iface 232 v) xT 56 true).run Tryz.prog w = .ok (.tuple #[.nilIface, .bool false]) w := run_typeAssert_lacksB Tryz.underlying56 (by kernel_rfl) (by kernel_rfl) v xT w
theorem isVarBinder (v : Value) (xT : TypeId) (w : World) : (Instr.typeAssert (.iface 232 v) xT 59 true).run Tryz.prog w = .ok (.tuple #[.nilIface, .bool false]) w := run_typeAssert_lacksB Tryz.underlying59 (by kernel_rfl) (by kernel_rfl) v xT w
theorem isVarUser (v : Value) (xT : TypeId) (w : World) : (Instr.typeAssert (.iface 232 v) xT 244 true).run Tryz.prog w = .ok (.tuple #[.iface 232 v, .bool true]) w := run_typeAssert_hasB Tryz.underlying244 (by kernel_rfl) v xT w
theorem isVarCaller (v : Value) (xT : TypeId) (w : World) : (Instr.typeAssert (.iface 232 v) xT 247 true).run Tryz.prog w = .ok (.tuple #[.nilIface, .bool false]) w := run_typeAssert_lacksB Tryz.underlying247 (by kernel_rfl) (by kernel_rfl) v xT w
theorem isVarPure (v : Value) (xT : TypeId) (w : World) : (Instr.typeAssert (.iface 232 v) xT 250 true).run Tryz.prog w = .ok (.tuple #[.iface 232 v, .bool true]) w := run_typeAssert_hasB Tryz.underlying250 (by kernel_rfl) v xT w
theorem isVarTotal (v : Value) (xT : TypeId) (w : World) : (Instr.typeAssert (.iface 232 v) xT 253 true).run Tryz.prog w = .ok (.tuple #[.nilIface, .bool false]) w := run_typeAssert_lacksB Tryz.underlying253 (by kernel_rfl) (by kernel_rfl) v xT w
theorem isVarSorted (v : Value) (xT : TypeId) (w : World) : (Instr.typeAssert (.iface 232 v) xT 256 true).run Tryz.prog w = .ok (.tuple #[.nilIface, .bool false]) w := run_typeAssert_lacksB Tryz.underlying256 (by kernel_rfl) (by kernel_rfl) v xT w
theorem isVarSugar (v : Value) (xT : TypeId) (w : World) : (Instr.typeAssert (.iface 232 v) xT 259 true).run Tryz.prog w = .ok (.tuple #[.nilIface, .bool false]) w := run_typeAssert_lacksB Tryz.underlying259 (by kernel_rfl) (by kernel_rfl) v xT w
theorem isVarFramed (v : Value) (xT : TypeId) (w : World) : (Instr.typeAssert (.iface 232 v) xT 262 true).run Tryz.prog w = .ok (.tuple #[.nilIface, .bool false]) w := run_typeAssert_lacksB Tryz.underlying262 (by kernel_rfl) (by kernel_rfl) v xT w
theorem isVarWrapped (v : Value) (xT : TypeId) (w : World) : (Instr.typeAssert (.iface 232 v) xT 225 true).run Tryz.prog w = .ok (.tuple #[.nilIface, .bool false]) w := run_typeAssert_lacksB Tryz.underlying225 (by kernel_rfl) (by kernel_rfl) v xT w
theorem isVarOrigin (v : Value) (xT : TypeId) (w : World) : (Instr.typeAssert (.iface 232 v) xT 266 true).run Tryz.prog w = .ok (.tuple #[.nilIface, .bool false]) w := run_typeAssert_lacksB Tryz.underlying266 (by kernel_rfl) (by kernel_rfl) v xT w
theorem isVarOpaque (v : Value) (xT : TypeId) (w : World) : (Instr.typeAssert (.iface 232 v) xT 269 true).run Tryz.prog w = .ok (.tuple #[.nilIface, .bool false]) w := run_typeAssert_lacksB Tryz.underlying269 (by kernel_rfl) (by kernel_rfl) v xT w
theorem mVarKind (b : Nat) (w : World) : (method 428 232 (.pointer (some ⟨b, 0, none⟩)) "Kind").run Tryz.prog w = .ok (184, .pointer (some ⟨b, 0, none⟩)) w := by kernel_rfl
theorem mVarNum (b : Nat) (w : World) : (method 428 232 (.pointer (some ⟨b, 0, none⟩)) "Num").run Tryz.prog w = .ok (115, .pointer (some ⟨b, 0, none⟩)) w := by kernel_rfl
theorem mVarText (b : Nat) (w : World) : (method 428 232 (.pointer (some ⟨b, 0, none⟩)) "Text").run Tryz.prog w = .ok (117, .pointer (some ⟨b, 0, none⟩)) w := by kernel_rfl
theorem mVarLen (b : Nat) (w : World) : (method 428 232 (.pointer (some ⟨b, 0, none⟩)) "Len").run Tryz.prog w = .ok (185, .pointer (some ⟨b, 0, none⟩)) w := by kernel_rfl
theorem mVarKid (b : Nat) (w : World) : (method 428 232 (.pointer (some ⟨b, 0, none⟩)) "Kid").run Tryz.prog w = .ok (183, .pointer (some ⟨b, 0, none⟩)) w := by kernel_rfl
theorem isFraLiteral (v : Value) (xT : TypeId) (w : World) : (Instr.typeAssert (.iface 235 v) xT 241 true).run Tryz.prog w = .ok (.tuple #[.nilIface, .bool false]) w := run_typeAssert_lacksB Tryz.underlying241 (by kernel_rfl) (by kernel_rfl) v xT w
theorem isFraStrict (v : Value) (xT : TypeId) (w : World) : (Instr.typeAssert (.iface 235 v) xT 62 true).run Tryz.prog w = .ok (.tuple #[.nilIface, .bool false]) w := run_typeAssert_lacksB Tryz.underlying62 (by kernel_rfl) (by kernel_rfl) v xT w
theorem isFraLazy (v : Value) (xT : TypeId) (w : World) : (Instr.typeAssert (.iface 235 v) xT 56 true).run Tryz.prog w = .ok (.tuple #[.nilIface, .bool false]) w := run_typeAssert_lacksB Tryz.underlying56 (by kernel_rfl) (by kernel_rfl) v xT w
theorem isFraBinder (v : Value) (xT : TypeId) (w : World) : (Instr.typeAssert (.iface 235 v) xT 59 true).run Tryz.prog w = .ok (.tuple #[.nilIface, .bool false]) w := run_typeAssert_lacksB Tryz.underlying59 (by kernel_rfl) (by kernel_rfl) v xT w
theorem isFraUser (v : Value) (xT : TypeId) (w : World) : (Instr.typeAssert (.iface 235 v) xT 244 true).run Tryz.prog w = .ok (.tuple #[.nilIface, .bool false]) w := run_typeAssert_lacksB Tryz.underlying244 (by kernel_rfl) (by kernel_rfl) v xT w
theorem isFraCaller (v : Value) (xT : TypeId) (w : World) : (Instr.typeAssert (.iface 235 v) xT 247 true).run Tryz.prog w = .ok (.tuple #[.nilIface, .bool false]) w := run_typeAssert_lacksB Tryz.underlying247 (by kernel_rfl) (by kernel_rfl) v xT w
theorem isFraPure (v : Value) (xT : TypeId) (w : World) : (Instr.typeAssert (.iface 235 v) xT 250 true).run Tryz.prog w = .ok (.tuple #[.iface 235 v, .bool true]) w := run_typeAssert_hasB Tryz.underlying250 (by kernel_rfl) v xT w
theorem isFraTotal (v : Value) (xT : TypeId) (w : World) : (Instr.typeAssert (.iface 235 v) xT 253 true).run Tryz.prog w = .ok (.tuple #[.iface 235 v, .bool true]) w := run_typeAssert_hasB Tryz.underlying253 (by kernel_rfl) v xT w
theorem isFraSorted (v : Value) (xT : TypeId) (w : World) : (Instr.typeAssert (.iface 235 v) xT 256 true).run Tryz.prog w = .ok (.tuple #[.nilIface, .bool false]) w := run_typeAssert_lacksB Tryz.underlying256 (by kernel_rfl) (by kernel_rfl) v xT w
theorem isFraSugar (v : Value) (xT : TypeId) (w : World) : (Instr.typeAssert (.iface 235 v) xT 259 true).run Tryz.prog w = .ok (.tuple #[.nilIface, .bool false]) w := run_typeAssert_lacksB Tryz.underlying259 (by kernel_rfl) (by kernel_rfl) v xT w
theorem isFraFramed (v : Value) (xT : TypeId) (w : World) : (Instr.typeAssert (.iface 235 v) xT 262 true).run Tryz.prog w = .ok (.tuple #[.iface 235 v, .bool true]) w := run_typeAssert_hasB Tryz.underlying262 (by kernel_rfl) v xT w
theorem isFraWrapped (v : Value) (xT : TypeId) (w : World) : (Instr.typeAssert (.iface 235 v) xT 225 true).run Tryz.prog w = .ok (.tuple #[.nilIface, .bool false]) w := run_typeAssert_lacksB Tryz.underlying225 (by kernel_rfl) (by kernel_rfl) v xT w
theorem isFraOrigin (v : Value) (xT : TypeId) (w : World) : (Instr.typeAssert (.iface 235 v) xT 266 true).run Tryz.prog w = .ok (.tuple #[.nilIface, .bool false]) w := run_typeAssert_lacksB Tryz.underlying266 (by kernel_rfl) (by kernel_rfl) v xT w
theorem isFraOpaque (v : Value) (xT : TypeId) (w : World) : (Instr.typeAssert (.iface 235 v) xT 269 true).run Tryz.prog w = .ok (.tuple #[.nilIface, .bool false]) w := run_typeAssert_lacksB Tryz.underlying269 (by kernel_rfl) (by kernel_rfl) v xT w
theorem mFraKind (b : Nat) (w : World) : (method 428 235 (.pointer (some ⟨b, 0, none⟩)) "Kind").run Tryz.prog w = .ok (184, .pointer (some ⟨b, 0, none⟩)) w := by kernel_rfl
theorem mFraNum (b : Nat) (w : World) : (method 428 235 (.pointer (some ⟨b, 0, none⟩)) "Num").run Tryz.prog w = .ok (115, .pointer (some ⟨b, 0, none⟩)) w := by kernel_rfl
theorem mFraText (b : Nat) (w : World) : (method 428 235 (.pointer (some ⟨b, 0, none⟩)) "Text").run Tryz.prog w = .ok (117, .pointer (some ⟨b, 0, none⟩)) w := by kernel_rfl
theorem mFraLen (b : Nat) (w : World) : (method 428 235 (.pointer (some ⟨b, 0, none⟩)) "Len").run Tryz.prog w = .ok (185, .pointer (some ⟨b, 0, none⟩)) w := by kernel_rfl
theorem mFraKid (b : Nat) (w : World) : (method 428 235 (.pointer (some ⟨b, 0, none⟩)) "Kid").run Tryz.prog w = .ok (183, .pointer (some ⟨b, 0, none⟩)) w := by kernel_rfl
theorem isEcLiteral (v : Value) (xT : TypeId) (w : World) : (Instr.typeAssert (.iface 164 v) xT 241 true).run Tryz.prog w = .ok (.tuple #[.nilIface, .bool false]) w := run_typeAssert_lacksB Tryz.underlying241 (by kernel_rfl) (by kernel_rfl) v xT w
theorem isEcStrict (v : Value) (xT : TypeId) (w : World) : (Instr.typeAssert (.iface 164 v) xT 62 true).run Tryz.prog w = .ok (.tuple #[.nilIface, .bool false]) w := run_typeAssert_lacksB Tryz.underlying62 (by kernel_rfl) (by kernel_rfl) v xT w
theorem isEcLazy (v : Value) (xT : TypeId) (w : World) : (Instr.typeAssert (.iface 164 v) xT 56 true).run Tryz.prog w = .ok (.tuple #[.iface 164 v, .bool true]) w := run_typeAssert_hasB Tryz.underlying56 (by kernel_rfl) v xT w
theorem isEcBinder (v : Value) (xT : TypeId) (w : World) : (Instr.typeAssert (.iface 164 v) xT 59 true).run Tryz.prog w = .ok (.tuple #[.iface 164 v, .bool true]) w := run_typeAssert_hasB Tryz.underlying59 (by kernel_rfl) v xT w
theorem isEcUser (v : Value) (xT : TypeId) (w : World) : (Instr.typeAssert (.iface 164 v) xT 244 true).run Tryz.prog w = .ok (.tuple #[.nilIface, .bool false]) w := run_typeAssert_lacksB Tryz.underlying244 (by kernel_rfl) (by kernel_rfl) v xT w
theorem isEcCaller (v : Value) (xT : TypeId) (w : World) : (Instr.typeAssert (.iface 164 v) xT 247 true).run Tryz.prog w = .ok (.tuple #[.nilIface, .bool false]) w := run_typeAssert_lacksB Tryz.underlying247 (by kernel_rfl) (by kernel_rfl) v xT w
theorem isEcPure (v : Value) (xT : TypeId) (w : World) : (Instr.typeAssert (.iface 164 v) xT 250 true).run Tryz.prog w = .ok (.tuple #[.iface 164 v, .bool true]) w := run_typeAssert_hasB Tryz.underlying250 (by kernel_rfl) v xT w
theorem isEcTotal (v : Value) (xT : TypeId) (w : World) : (Instr.typeAssert (.iface 164 v) xT 253 true).run Tryz.prog w = .ok (.tuple #[.nilIface, .bool false]) w := run_typeAssert_lacksB Tryz.underlying253 (by kernel_rfl) (by kernel_rfl) v xT w
theorem isEcSorted (v : Value) (xT : TypeId) (w : World) : (Instr.typeAssert (.iface 164 v) xT 256 true).run Tryz.prog w = .ok (.tuple #[.iface 164 v, .bool true]) w := run_typeAssert_hasB Tryz.underlying256 (by kernel_rfl) v xT w
theorem isEcSugar (v : Value) (xT : TypeId) (w : World) : (Instr.typeAssert (.iface 164 v) xT 259 true).run Tryz.prog w = .ok (.tuple #[.nilIface, .bool false]) w := run_typeAssert_lacksB Tryz.underlying259 (by kernel_rfl) (by kernel_rfl) v xT w
theorem isEcFramed (v : Value) (xT : TypeId) (w : World) : (Instr.typeAssert (.iface 164 v) xT 262 true).run Tryz.prog w = .ok (.tuple #[.nilIface, .bool false]) w := run_typeAssert_lacksB Tryz.underlying262 (by kernel_rfl) (by kernel_rfl) v xT w
theorem isEcWrapped (v : Value) (xT : TypeId) (w : World) : (Instr.typeAssert (.iface 164 v) xT 225 true).run Tryz.prog w = .ok (.tuple #[.nilIface, .bool false]) w := run_typeAssert_lacksB Tryz.underlying225 (by kernel_rfl) (by kernel_rfl) v xT w
theorem isEcOrigin (v : Value) (xT : TypeId) (w : World) : (Instr.typeAssert (.iface 164 v) xT 266 true).run Tryz.prog w = .ok (.tuple #[.nilIface, .bool false]) w := run_typeAssert_lacksB Tryz.underlying266 (by kernel_rfl) (by kernel_rfl) v xT w
theorem isEcOpaque (v : Value) (xT : TypeId) (w : World) : (Instr.typeAssert (.iface 164 v) xT 269 true).run Tryz.prog w = .ok (.tuple #[.nilIface, .bool false]) w := run_typeAssert_lacksB Tryz.underlying269 (by kernel_rfl) (by kernel_rfl) v xT w
theorem mEcKind (b : Nat) (w : World) : (method 428 164 (.pointer (some ⟨b, 0, none⟩)) "Kind").run Tryz.prog w = .ok (184, .pointer (some ⟨b, 0, none⟩)) w := by kernel_rfl
theorem mEcNum (b : Nat) (w : World) : (method 428 164 (.pointer (some ⟨b, 0, none⟩)) "Num").run Tryz.prog w = .ok (115, .pointer (some ⟨b, 0, none⟩)) w := by kernel_rfl
theorem mEcText (b : Nat) (w : World) : (method 428 164 (.pointer (some ⟨b, 0, none⟩)) "Text").run Tryz.prog w = .ok (117, .pointer (some ⟨b, 0, none⟩)) w := by kernel_rfl
theorem mEcLen (b : Nat) (w : World) : (method 428 164 (.pointer (some ⟨b, 0, none⟩)) "Len").run Tryz.prog w = .ok (185, .pointer (some ⟨b, 0, none⟩)) w := by kernel_rfl
theorem mEcKid (b : Nat) (w : World) : (method 428 164 (.pointer (some ⟨b, 0, none⟩)) "Kid").run Tryz.prog w = .ok (183, .pointer (some ⟨b, 0, none⟩)) w := by kernel_rfl
theorem mLitWorth (b : Nat) (w : World) : (method 428 226 (.pointer (some ⟨b, 0, none⟩)) "Worth").run Tryz.prog w = .ok (200, .pointer (some ⟨b, 0, none⟩)) w := by kernel_rfl

end Go.Proofs.YtaafcmmmkalgjaaGreatDoor.Nd
/-
  Nodes in memory, their handles; by contracts.
-/
namespace Go.Proofs.YtaafcmmmkalgjaaGreatDoor.Nd
open Go.RowKit
/-- A handle's block. -/
abbrev HandAt (w : World) (b : Nat) (n c : Value) : Prop := w.heap[b]? = some (.cells #[n, c] 145)
theorem node_nil (w : World) : Calls Tryz.prog 33 #[.pointer none] w fun e w' => e = .returned .nilIface ∧ w' = w := by
  go_enter Tryz.func33, Tryz.ntmps33
  go_wp2
  go_ret
  exact ⟨rfl, rfl⟩
theorem node_cell (b : Nat) (n : Value) (w : World) (h : w.cell? ⟨b, 0, none⟩ = some n) : Calls Tryz.prog 33 #[.pointer (some ⟨b, 0, none⟩)] w fun e w' => e = .returned n ∧ w' = w := by
  go_enter Tryz.func33, Tryz.ntmps33
  go_wp2
  go_ret
  exact ⟨rfl, rfl⟩
theorem node_at (b : Nat) (n c : Value) (w : World) (h : HandAt w b n c) : Calls Tryz.prog 33 #[.pointer (some ⟨b, 0, none⟩)] w fun e w' => e = .returned n ∧ w' = w := node_cell b n w (cell_of h rfl)
theorem ndInfo : (Tryz.prog.info? 50).map (fun i => (i.zero, i.size, i.bytes)) = some (some .nilIface, 1, 16) := by kernel_rfl
theorem nil_iface (t : TypeId) (v : Value) (w : World) : (binOp .eql 50 (.iface t v) .nilIface).run Tryz.prog w = .ok (.bool false) w := by kernel_rfl
theorem four_of {w : World} {b : Nat} {v0 v1 v2 v3 : Value} {t : TypeId} (h : w.heap[b]? = some (.cells #[v0, v1, v2, v3] t)) : w.cell? ⟨b, 0, none⟩ = some v0 ∧ w.cell? ⟨b, 1, none⟩ = some v1 ∧ w.cell? ⟨b, 2, none⟩ = some v2 ∧ w.cell? ⟨b, 3, none⟩ = some v3 := ⟨cell_of h rfl, cell_of h rfl, cell_of h rfl, cell_of h rfl⟩
theorem jsix_of {w : World} {b : Nat} {v0 v1 v2 v3 v4 v5 : Value} {t : TypeId} (h : w.heap[b]? = some (.cells #[v0, v1, v2, v3, v4, v5] t)) : w.cell? ⟨b, 0, none⟩ = some v0 ∧ w.cell? ⟨b, 1, none⟩ = some v1 ∧ w.cell? ⟨b, 2, none⟩ = some v2 ∧ w.cell? ⟨b, 3, none⟩ = some v3 ∧ w.cell? ⟨b, 4, none⟩ = some v4 ∧ w.cell? ⟨b, 5, none⟩ = some v5 := ⟨cell_of h rfl, cell_of h rfl, cell_of h rfl, cell_of h rfl, cell_of h rfl, cell_of h rfl⟩
theorem jsix_set {w : World} {b : Nat} {v0 v1 v2 v3 v4 v5 u0 u1 u2 u3 u4 u5 : Value} {t : TypeId} (h : w.heap[b]? = some (.cells #[v0, v1, v2, v3, v4, v5] t)) : ((((((w.setCell ⟨b, 0, none⟩ u0).setCell ⟨b, 1, none⟩ u1).setCell ⟨b, 2, none⟩ u2).setCell ⟨b, 3, none⟩ u3).setCell ⟨b, 4, none⟩ u4).setCell ⟨b, 5, none⟩ u5).heap[b]? = some (.cells #[u0, u1, u2, u3, u4, u5] t) := (set_at (set_at (set_at (set_at (set_at (set_at h 0 u0) 1 u1) 2 u2) 3 u3) 4 u4) 5 u5).trans (by simp)
theorem Kp.jset6 (w : World) (g : Nat) (v0 v1 v2 v3 v4 v5 : Value) : Kp (· ≠ g) w ((((((w.setCell ⟨g, 0, none⟩ v0).setCell ⟨g, 1, none⟩ v1).setCell ⟨g, 2, none⟩ v2).setCell ⟨g, 3, none⟩ v3).setCell ⟨g, 4, none⟩ v4).setCell ⟨g, 5, none⟩ v5) :=
  (((((Kp.set w g 0 v0 (fun h => h rfl)).trans (Kp.set _ g 1 v1 (fun h => h rfl))).trans (Kp.set _ g 2 v2 (fun h => h rfl))).trans (Kp.set _ g 3 v3 (fun h => h rfl))).trans (Kp.set _ g 4 v4 (fun h => h rfl))).trans (Kp.set _ g 5 v5 (fun h => h rfl))
theorem jsix_steps {w : World} {b : Nat} {v0 v1 v2 v3 v4 v5 : Value} {t : TypeId} (h : w.heap[b]? = some (.cells #[v0, v1, v2, v3, v4, v5] t)) (u0 u1 u2 u3 u4 : Value) : w.cell? ⟨b, 0, none⟩ = some v0 ∧ w.frozen? ⟨b, 0, none⟩ = false ∧ (w.setCell ⟨b, 0, none⟩ u0).cell? ⟨b, 1, none⟩ = some v1 ∧ (w.setCell ⟨b, 0, none⟩ u0).frozen? ⟨b, 1, none⟩ = false ∧ ((w.setCell ⟨b, 0, none⟩ u0).setCell ⟨b, 1, none⟩ u1).cell? ⟨b, 2, none⟩ = some v2 ∧ ((w.setCell ⟨b, 0, none⟩ u0).setCell ⟨b, 1, none⟩ u1).frozen? ⟨b, 2, none⟩ = false ∧ (((w.setCell ⟨b, 0, none⟩ u0).setCell ⟨b, 1, none⟩ u1).setCell ⟨b, 2, none⟩ u2).cell? ⟨b, 3, none⟩ = some v3 ∧ (((w.setCell ⟨b, 0, none⟩ u0).setCell ⟨b, 1, none⟩ u1).setCell ⟨b, 2, none⟩ u2).frozen? ⟨b, 3, none⟩ = false ∧ ((((w.setCell ⟨b, 0, none⟩ u0).setCell ⟨b, 1, none⟩ u1).setCell ⟨b, 2, none⟩ u2).setCell ⟨b, 3, none⟩ u3).cell? ⟨b, 4, none⟩ = some v4 ∧ ((((w.setCell ⟨b, 0, none⟩ u0).setCell ⟨b, 1, none⟩ u1).setCell ⟨b, 2, none⟩ u2).setCell ⟨b, 3, none⟩ u3).frozen? ⟨b, 4, none⟩ = false ∧ (((((w.setCell ⟨b, 0, none⟩ u0).setCell ⟨b, 1, none⟩ u1).setCell ⟨b, 2, none⟩ u2).setCell ⟨b, 3, none⟩ u3).setCell ⟨b, 4, none⟩ u4).cell? ⟨b, 5, none⟩ = some v5 ∧ (((((w.setCell ⟨b, 0, none⟩ u0).setCell ⟨b, 1, none⟩ u1).setCell ⟨b, 2, none⟩ u2).setCell ⟨b, 3, none⟩ u3).setCell ⟨b, 4, none⟩ u4).frozen? ⟨b, 5, none⟩ = false := by
  have h0 := h
  have h1 := set_at h0 0 u0
  simp at h1
  have h2 := set_at h1 1 u1
  simp at h2
  have h3 := set_at h2 2 u2
  simp at h3
  have h4 := set_at h3 3 u3
  simp at h4
  have h5 := set_at h4 4 u4
  simp at h5
  exact ⟨cell_of h0 rfl, frozen_of h0, cell_of h1 rfl, frozen_of h1, cell_of h2 rfl, frozen_of h2, cell_of h3 rfl, frozen_of h3, cell_of h4 rfl, frozen_of h4, cell_of h5 rfl, frozen_of h5⟩
/-- A node in memory: its kind (what it does is its own kind's), number, text and kids. -/
def NodeB (w : World) (b : Nat) (k : ByteArray) (n : Int) (x : ByteArray) (kv : Value) : Prop := ∃ cs ty, w.heap[b]? = some (.cells cs ty) ∧ cs[0]? = some (.string k) ∧ cs[1]? = some (.string k) ∧ cs[2]? = some (.int .i64 n) ∧ cs[3]? = some (.string x) ∧ cs[4]? = some kv
theorem NodeB.later {w w' : World} {b : Nat} {k : ByteArray} {n : Int} {x : ByteArray} {kv : Value} (h : NodeB w b k n x kv) (hx : Ext w w') : NodeB w' b k n x kv := by
  obtain ⟨cs, ty, hb, hr⟩ := h
  exact ⟨cs, ty, hx.block hb, hr⟩
theorem NodeB.cells {w : World} {b : Nat} {k : ByteArray} {n : Int} {x : ByteArray} {kv : Value} (h : NodeB w b k n x kv) : w.cell? ⟨b, 0, none⟩ = some (.string k) ∧ w.cell? ⟨b, 2, none⟩ = some (.int .i64 n) ∧ w.cell? ⟨b, 3, none⟩ = some (.string x) ∧ w.cell? ⟨b, 4, none⟩ = some kv := by
  obtain ⟨cs, ty, hb, h0, _, h1, h2, h3⟩ := h
  exact ⟨cell_of hb h0, cell_of hb h1, cell_of hb h2, cell_of hb h3⟩
/-- A literal's worth. -/
def LitW (w : World) (b : Nat) (v : Value) : Prop := w.cell? ⟨b, 6, none⟩ = some v
theorem LitW.later {w w' : World} {b : Nat} {v : Value} (h : LitW w b v) (hx : Ext w w') : LitW w' b v := (hx.kp (fun _ => True)).cell h trivial
/-- What a type must not be: a wrapper. -/
def Bare (τ : TypeId) : Prop := ∀ (v : Value) (xT : TypeId) (w : World), (Instr.typeAssert (.iface τ v) xT 225 true).run Tryz.prog w = .ok (.tuple #[.nilIface, .bool false]) w
theorem coreOf_gen (τ : TypeId) (hW : Bare τ) (v : Value) (w : World) : Calls Tryz.prog 89 #[.iface τ v] w fun e w' => e = .returned (.iface τ v) ∧ w' = w := by
  unfold Bare at hW
  go_enter Tryz.func89, Tryz.ntmps89
  go_wp2
  refine wp_loop_rounds 1 ?_
  rw [rounds_succ]
  go_wp2
  go_ret
  exact ⟨rfl, rfl⟩
theorem hold_gen (τ : TypeId) (hW : Bare τ) (v : Value) (w : World) : Calls Tryz.prog 60 #[.iface τ v] w fun e w' => e = .returned (.pointer (some ⟨w.heap.size, 0, none⟩)) ∧ HandAt w' w.heap.size (.iface τ v) (.iface τ v) ∧ Ext w w' := by
  have HC := hid (fun w => coreOf_gen τ hW v w)
  have hnil := nil_iface τ v
  clear hW
  go_enter Tryz.func60, Tryz.ntmps60
  go_wp2_with fail
  refine (HC.out _).mono ?_
  rintro r w1 ⟨rfl, rfl⟩
  go_wp2_with fail
  go_ret
  exact ⟨rfl, blk0 _ _, Ext.alloc _ _⟩
theorem one_cells (nk : Nat) (t : Nat → TypeId) (v : Nat → Value) : ∀ u ∈ ((List.range nk).map fun i => Value.iface (t i) (v i)), u.oneCell' = true := by
  intro u hu
  obtain ⟨i, _, rfl⟩ := List.mem_map.1 hu
  rfl
theorem row_base {w : World} {B B' : Nat} {t : TypeId} {v : Value} {n : Nat} {xs : List Value} (h : w.ownsRow B t 1 v n xs) (hb : B' ≤ B) : w.ownsRow B' t 1 v n xs := by
  refine ⟨h.1, ?_⟩
  rcases h.2 with h | ⟨g, cap, cur, hv, hg, hr⟩
  · exact .inl h
  · exact .inr ⟨g, cap, cur, hv, Nat.le_trans hb hg, hr⟩
end Go.Proofs.YtaafcmmmkalgjaaGreatDoor.Nd
