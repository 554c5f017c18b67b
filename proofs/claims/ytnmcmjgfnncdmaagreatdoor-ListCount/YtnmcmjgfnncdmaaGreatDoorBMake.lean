/-
  The kit base's table of kinds, and one by its name; by contracts.
-/
import Derived.Test.YtnmcmjgfnncdmaaGreatDoorCFind
import Derived.Laws.EntriesVeiled
import Derived.Stop.Asserts
import Derived.Deep.RegionHeld3
import Derived.WalkMore
namespace Go.Proofs.YtnmcmjgfnncdmaaGreatDoor.Nd
open Go.RowKit
/-- The kinds: name, fewest and most kids, whether there is a number, what text, what abilities, the maker. -/
def nmK : Nat → ByteArray
  | 0 => ⟨#[98, 97, 115, 101, 46, 117, 110, 105, 116]⟩
  | 1 => ⟨#[98, 97, 115, 101, 46, 121, 101, 115]⟩
  | 2 => ⟨#[98, 97, 115, 101, 46, 110, 111]⟩
  | 3 => ⟨#[98, 97, 115, 101, 46, 105, 110, 116]⟩
  | 4 => ⟨#[98, 97, 115, 101, 46, 116, 101, 120, 116]⟩
  | 5 => ⟨#[98, 97, 115, 101, 46, 118, 97, 114]⟩
  | 6 => ⟨#[98, 97, 115, 101, 46, 102, 114, 97, 109, 101]⟩
  | _ => ⟨#[]⟩
def minK : Nat → Int
  | 0 => 0
  | 1 => 0
  | 2 => 0
  | 3 => 0
  | 4 => 0
  | 5 => 0
  | 6 => 1
  | _ => 0
def maxK : Nat → Int
  | 0 => 0
  | 1 => 0
  | 2 => 0
  | 3 => 0
  | 4 => 0
  | 5 => 0
  | 6 => 65
  | _ => 0
def numK : Nat → Bool
  | 0 => false
  | 1 => false
  | 2 => false
  | 3 => true
  | 4 => false
  | 5 => false
  | 6 => false
  | _ => false
def textK : Nat → Int
  | 0 => 0
  | 1 => 0
  | 2 => 0
  | 3 => 0
  | 4 => 1
  | 5 => 4
  | 6 => 0
  | _ => 0
def hasK : Nat → ByteArray
  | 0 => ⟨#[76, 105, 116, 101, 114, 97, 108, 32, 80, 117, 114, 101, 32, 84, 111, 116, 97, 108, 32, 83, 111, 114, 116, 101, 100]⟩
  | 1 => ⟨#[76, 105, 116, 101, 114, 97, 108, 32, 80, 117, 114, 101, 32, 84, 111, 116, 97, 108, 32, 83, 111, 114, 116, 101, 100]⟩
  | 2 => ⟨#[76, 105, 116, 101, 114, 97, 108, 32, 80, 117, 114, 101, 32, 84, 111, 116, 97, 108, 32, 83, 111, 114, 116, 101, 100]⟩
  | 3 => ⟨#[76, 105, 116, 101, 114, 97, 108, 32, 80, 117, 114, 101, 32, 84, 111, 116, 97, 108, 32, 83, 111, 114, 116, 101, 100]⟩
  | 4 => ⟨#[76, 105, 116, 101, 114, 97, 108, 32, 80, 117, 114, 101, 32, 84, 111, 116, 97, 108, 32, 83, 111, 114, 116, 101, 100]⟩
  | 5 => ⟨#[85, 115, 101, 114, 32, 80, 117, 114, 101]⟩
  | 6 => ⟨#[80, 117, 114, 101, 32, 84, 111, 116, 97, 108, 32, 70, 114, 97, 109, 101, 100]⟩
  | _ => ⟨#[]⟩
def fnK : Nat → Nat
  | 0 => 233
  | 1 => 234
  | 2 => 235
  | 3 => 236
  | 4 => 238
  | 5 => 240
  | 6 => 241
  | _ => 0
def capK : Nat → Bool
  | 0 => true
  | 1 => true
  | 2 => true
  | 3 => true
  | 4 => true
  | 5 => false
  | 6 => false
  | _ => false
def mkK (g j : Nat) : Value := .func (.func (fnK j)) #[] (if capK j = true then #[.pointer (some ⟨g, 0, none⟩)] else #[])
def kdC (g : Nat) : Array Value := #[.string ⟨#[98, 97, 115, 101, 46, 117, 110, 105, 116]⟩, .int .i64 0, .int .i64 0, .bool false, .int .i64 0, .string ⟨#[76, 105, 116, 101, 114, 97, 108, 32, 80, 117, 114, 101, 32, 84, 111, 116, 97, 108, 32, 83, 111, 114, 116, 101, 100]⟩, .func (.func 233) #[] #[.pointer (some ⟨g, 0, none⟩)], .string ⟨#[98, 97, 115, 101, 46, 121, 101, 115]⟩, .int .i64 0, .int .i64 0, .bool false, .int .i64 0, .string ⟨#[76, 105, 116, 101, 114, 97, 108, 32, 80, 117, 114, 101, 32, 84, 111, 116, 97, 108, 32, 83, 111, 114, 116, 101, 100]⟩, .func (.func 234) #[] #[.pointer (some ⟨g, 0, none⟩)], .string ⟨#[98, 97, 115, 101, 46, 110, 111]⟩, .int .i64 0, .int .i64 0, .bool false, .int .i64 0, .string ⟨#[76, 105, 116, 101, 114, 97, 108, 32, 80, 117, 114, 101, 32, 84, 111, 116, 97, 108, 32, 83, 111, 114, 116, 101, 100]⟩, .func (.func 235) #[] #[.pointer (some ⟨g, 0, none⟩)], .string ⟨#[98, 97, 115, 101, 46, 105, 110, 116]⟩, .int .i64 0, .int .i64 0, .bool true, .int .i64 0, .string ⟨#[76, 105, 116, 101, 114, 97, 108, 32, 80, 117, 114, 101, 32, 84, 111, 116, 97, 108, 32, 83, 111, 114, 116, 101, 100]⟩, .func (.func 236) #[] #[.pointer (some ⟨g, 0, none⟩)], .string ⟨#[98, 97, 115, 101, 46, 116, 101, 120, 116]⟩, .int .i64 0, .int .i64 0, .bool false, .int .i64 1, .string ⟨#[76, 105, 116, 101, 114, 97, 108, 32, 80, 117, 114, 101, 32, 84, 111, 116, 97, 108, 32, 83, 111, 114, 116, 101, 100]⟩, .func (.func 238) #[] #[.pointer (some ⟨g, 0, none⟩)], .string ⟨#[98, 97, 115, 101, 46, 118, 97, 114]⟩, .int .i64 0, .int .i64 0, .bool false, .int .i64 4, .string ⟨#[85, 115, 101, 114, 32, 80, 117, 114, 101]⟩, .func (.func 240) #[] #[], .string ⟨#[98, 97, 115, 101, 46, 102, 114, 97, 109, 101]⟩, .int .i64 1, .int .i64 65, .bool false, .int .i64 0, .string ⟨#[80, 117, 114, 101, 32, 84, 111, 116, 97, 108, 32, 70, 114, 97, 109, 101, 100]⟩, .func (.func 241) #[] #[]]
theorem kd_at (g : Nat) : ∀ j, j < 7 → (kdC g)[j * 7]? = some (.string (nmK j)) ∧ (kdC g)[j * 7 + 1]? = some (.int .i64 (minK j)) ∧ (kdC g)[j * 7 + 2]? = some (.int .i64 (maxK j)) ∧ (kdC g)[j * 7 + 3]? = some (.bool (numK j)) ∧ (kdC g)[j * 7 + 4]? = some (.int .i64 (textK j)) ∧ (kdC g)[j * 7 + 5]? = some (.string (hasK j)) ∧ (kdC g)[j * 7 + 6]? = some (mkK g j)
  | 0, _ => ⟨rfl, rfl, rfl, rfl, rfl, rfl, rfl⟩
  | 1, _ => ⟨rfl, rfl, rfl, rfl, rfl, rfl, rfl⟩
  | 2, _ => ⟨rfl, rfl, rfl, rfl, rfl, rfl, rfl⟩
  | 3, _ => ⟨rfl, rfl, rfl, rfl, rfl, rfl, rfl⟩
  | 4, _ => ⟨rfl, rfl, rfl, rfl, rfl, rfl, rfl⟩
  | 5, _ => ⟨rfl, rfl, rfl, rfl, rfl, rfl, rfl⟩
  | 6, _ => ⟨rfl, rfl, rfl, rfl, rfl, rfl, rfl⟩
  | n + 7, h => absurd h (by omega)

/-- A kind, as a value. -/
def kdV (g j : Nat) : Value := .agg #[.string (nmK j), .int .i64 (minK j), .int .i64 (maxK j), .bool (numK j), .int .i64 (textK j), .string (hasK j), mkK g j]
def kdFind (name : ByteArray) : Option Nat := (List.range 7).find? (fun j => decide (nmK j = name))
theorem kdFind_some {name : ByteArray} {j : Nat} (hj : j < 7) (h : nmK j = name) (hn : ∀ i, i < j → nmK i ≠ name) : kdFind name = some j := by
  unfold kdFind
  rw [List.find?_range_eq_some]
  refine ⟨by simpa using h, by simpa using hj, fun i hi => by simpa using hn i hi⟩
theorem kdFind_none {name : ByteArray} (hn : ∀ i, i < 7 → nmK i ≠ name) : kdFind name = none := by
  unfold kdFind
  rw [List.find?_eq_none]
  intro x hx
  simpa using hn x (by simpa using hx)
/-- The function that makes literals, in its variable. -/
abbrev OfAt (w : World) (g : Nat) : Prop := w.heap[g]? = some (.cells #[.func (.func 232) #[] #[]] 391)
set_option maxRecDepth 100000 in
theorem kinds_any (w : World) : Calls Tryz.prog 180 #[] w fun e w' => e = .returned (.slice (some ⟨w.heap.size + 1, 0, none⟩) 7 7) ∧ w' = (w.alloc (.cells #[.func (.func 232) #[] #[]] 391)).alloc (.cells (kdC w.heap.size) 193) := by
  have hmf : ∀ (fn : Fn) (first cap : Array Value) (w : World), (Instr.makeFunc fn first cap).run Tryz.prog w = .ok (.func fn first cap) w := fun _ _ _ _ => rfl
  go_enter Tryz.func180, Tryz.ntmps180
  go_wp2_with fail
  go_ret
  exact ⟨rfl, rfl⟩
theorem seven_set {w : World} {b : Nat} {v0 v1 v2 v3 v4 v5 v6 u0 u1 u2 u3 u4 u5 u6 : Value} {t : TypeId} (h : w.heap[b]? = some (.cells #[v0, v1, v2, v3, v4, v5, v6] t)) : (((((((w.setCell ⟨b, 0, none⟩ u0).setCell ⟨b, 1, none⟩ u1).setCell ⟨b, 2, none⟩ u2).setCell ⟨b, 3, none⟩ u3).setCell ⟨b, 4, none⟩ u4).setCell ⟨b, 5, none⟩ u5).setCell ⟨b, 6, none⟩ u6).heap[b]? = some (.cells #[u0, u1, u2, u3, u4, u5, u6] t) := (set_at (set_at (set_at (set_at (set_at (set_at (set_at h 0 u0) 1 u1) 2 u2) 3 u3) 4 u4) 5 u5) 6 u6).trans (by simp)
theorem Kp.set7 (w : World) (g : Nat) (v0 v1 v2 v3 v4 v5 v6 : Value) : Kp (· ≠ g) w (((((((w.setCell ⟨g, 0, none⟩ v0).setCell ⟨g, 1, none⟩ v1).setCell ⟨g, 2, none⟩ v2).setCell ⟨g, 3, none⟩ v3).setCell ⟨g, 4, none⟩ v4).setCell ⟨g, 5, none⟩ v5).setCell ⟨g, 6, none⟩ v6) :=
  ((((((Kp.set w g 0 v0 (fun h => h rfl)).trans (Kp.set _ g 1 v1 (fun h => h rfl))).trans (Kp.set _ g 2 v2 (fun h => h rfl))).trans (Kp.set _ g 3 v3 (fun h => h rfl))).trans (Kp.set _ g 4 v4 (fun h => h rfl))).trans (Kp.set _ g 5 v5 (fun h => h rfl))).trans (Kp.set _ g 6 v6 (fun h => h rfl))
theorem seven_of {w : World} {b : Nat} {v0 v1 v2 v3 v4 v5 v6 : Value} {t : TypeId} (h : w.heap[b]? = some (.cells #[v0, v1, v2, v3, v4, v5, v6] t)) : w.cell? ⟨b, 0, none⟩ = some v0 ∧ w.cell? ⟨b, 1, none⟩ = some v1 ∧ w.cell? ⟨b, 2, none⟩ = some v2 ∧ w.cell? ⟨b, 3, none⟩ = some v3 ∧ w.cell? ⟨b, 4, none⟩ = some v4 ∧ w.cell? ⟨b, 5, none⟩ = some v5 ∧ w.cell? ⟨b, 6, none⟩ = some v6 := ⟨cell_of h rfl, cell_of h rfl, cell_of h rfl, cell_of h rfl, cell_of h rfl, cell_of h rfl, cell_of h rfl⟩
/-- What kindOf answers. -/
def KofR (name : ByteArray) (w : World) (e : Ending) (w' : World) : Prop := Ext w w' ∧
  match kdFind name with
  | some j => ∃ g, w.heap.size ≤ g ∧ OfAt w' g ∧ e = .returned (.tuple #[kdV g j, .bool true])
  | none => e = .returned (.tuple #[.agg #[.string ⟨#[]⟩, .int .i64 0, .int .i64 0, .bool false, .int .i64 0, .string ⟨#[]⟩, .nilFunc], .bool false])
set_option maxRecDepth 100000 in
set_option maxHeartbeats 2000000 in
theorem kindOf_any (name : ByteArray) (w : World) : Calls Tryz.prog 129 #[.string name] w (KofR name w) := by
  obtain ⟨M, hM⟩ : ∃ M, w.alloc (.cells #[.string ⟨#[]⟩, .int .i64 0, .int .i64 0, .bool false, .int .i64 0, .string ⟨#[]⟩, .nilFunc] 193) = M := ⟨_, rfl⟩
  have XM := hid (show Ext w M from hM ▸ Ext.alloc _ _)
  have HM0 := hid (show M.heap[w.heap.size]? = some (.cells #[.string ⟨#[]⟩, .int .i64 0, .int .i64 0, .bool false, .int .i64 0, .string ⟨#[]⟩, .nilFunc] 193) from hM ▸ blk0 _ _)
  have HMS := hid (show M.heap.size = w.heap.size + 1 from hM ▸ blkS _ _)
  go_enter Tryz.func129, Tryz.ntmps129
  go_wp2_with fail
  go_at_call 180
  refine (kinds_any M).mono ?_
  rintro e w1 ⟨rfl, hw1⟩
  have X1 := hid (show Ext M w1 from hw1 ▸ Ext.alloc2 _ _ _)
  have HO := hid (show OfAt w1 M.heap.size from hw1 ▸ blkOld _ (blk0 _ _))
  have HA := hid (show w1.heap[M.heap.size + 1]? = some (.cells (kdC M.heap.size) 193) from hw1 ▸ blk1 _ _ _)
  clear hM hw1
  go_wp2_with fail
  go_loopw [8] (fun q8 wr => ∃ j : Nat, j ≤ 7 ∧ q8 = .int .i64 j ∧ (∀ i, i < j → nmK i ≠ name) ∧ Ext w1 wr) (fun q8 _ => 7 - (intOf q8).toNat)
  case atStart => exact ⟨0, Nat.zero_le _, rfl, fun i h => absurd h (Nat.not_lt_zero _), Ext.refl _⟩
  case round =>
    obtain ⟨j, hj, rfl, hno, hx⟩ := hrel
    have HNO := hid hno
    have XR := hid hx
    have HZ := hid (hx.block (X1.out.block HM0.out))
    have XW := hid (XM.out.trans (X1.out.trans hx))
    obtain ⟨f0, f1, f2, f3, f4, f5, f6⟩ : wr.frozen? ⟨w.heap.size, 0, none⟩ = false ∧ wr.frozen? ⟨w.heap.size, 1, none⟩ = false ∧ wr.frozen? ⟨w.heap.size, 2, none⟩ = false ∧ wr.frozen? ⟨w.heap.size, 3, none⟩ = false ∧ wr.frozen? ⟨w.heap.size, 4, none⟩ = false ∧ wr.frozen? ⟨w.heap.size, 5, none⟩ = false ∧ wr.frozen? ⟨w.heap.size, 6, none⟩ = false := ⟨frozen_of HZ.out, frozen_of HZ.out, frozen_of HZ.out, frozen_of HZ.out, frozen_of HZ.out, frozen_of HZ.out, frozen_of HZ.out⟩
    obtain ⟨r0, r1, r2, r3, r4, r5, r6⟩ := seven_of HZ.out
    have hlw : w.heap.size < wr.heap.size := lt_of_block HZ.out
    clear hno hx
    by_cases hlt : j < 7
    · have hlt' : (j : Int) < 7 := by omega
      obtain ⟨a0, a1, a2, a3, a4, a5, a6⟩ := kd_at M.heap.size j hlt
      have HAB := XR.out.block HA.out
      have p0 : wr.cell? ⟨M.heap.size + 1, j * 7, none⟩ = some (.string (nmK j)) := cell_of HAB a0
      have p1 : wr.cell? ⟨M.heap.size + 1, j * 7 + 1, none⟩ = some (.int .i64 (minK j)) := cell_of HAB a1
      have p2 : wr.cell? ⟨M.heap.size + 1, j * 7 + 2, none⟩ = some (.int .i64 (maxK j)) := cell_of HAB a2
      have p3 : wr.cell? ⟨M.heap.size + 1, j * 7 + 3, none⟩ = some (.bool (numK j)) := cell_of HAB a3
      have p4 : wr.cell? ⟨M.heap.size + 1, j * 7 + 4, none⟩ = some (.int .i64 (textK j)) := cell_of HAB a4
      have p5 : wr.cell? ⟨M.heap.size + 1, j * 7 + 5, none⟩ = some (.string (hasK j)) := cell_of HAB a5
      have p6 : wr.cell? ⟨M.heap.size + 1, j * 7 + 6, none⟩ = some (mkK M.heap.size j) := cell_of HAB a6
      have heq := str_eqb (nmK j) name
      have HF := hid (fun h => kdFind_some hlt h HNO.out)
      have HS := hid (show nmK j ≠ name → ∀ i, i < j + 1 → nmK i ≠ name from fun h i hi => by
        by_cases e : i = j
        · subst e; exact h
        · exact HNO.out i (by omega))
      have HV := hid (show kdV M.heap.size j = .agg #[.string (nmK j), .int .i64 (minK j), .int .i64 (maxK j), .bool (numK j), .int .i64 (textK j), .string (hasK j), mkK M.heap.size j] from rfl)
      unfold mkK at p6 HV
      generalize nmK j = nj at *
      generalize minK j = mj at *
      generalize maxK j = xj at *
      generalize numK j = bj at *
      generalize textK j = tj at *
      generalize hasK j = hj' at *
      generalize fnK j = fj at *
      generalize (if capK j = true then #[Value.pointer (some ⟨M.heap.size, 0, none⟩)] else #[]) = cj at *
      clear a0 a1 a2 a3 a4 a5 a6 HAB
      by_cases he : nj = name
      · rw [decide_eq_true he] at heq
        have HFD := hid (HF.out he)
        clear he
        go_wp2_with fail
        obtain ⟨z0, z1, z2, z3, z4, z5, z6⟩ := seven_of (blkOld (.cells #[.string nj, .int .i64 mj, .int .i64 xj, .bool bj, .int .i64 tj, .string hj', .func (.func fj) #[] cj] 193) (seven_set (u0 := .string nj) (u1 := .int .i64 mj) (u2 := .int .i64 xj) (u3 := .bool bj) (u4 := .int .i64 tj) (u5 := .string hj') (u6 := .func (.func fj) #[] cj) HZ.out))
        refine bodyPost_ret (v := .tuple #[.agg #[.string nj, .int .i64 mj, .int .i64 xj, .bool bj, .int .i64 tj, .string hj', .func (.func fj) #[] cj], .bool true]) (by simp [results, Tryz.results129, go_sem, z0, z1, z2, z3, z4, z5, z6]) rfl ?_
        have HK := Kp.set7 wr w.heap.size (.string nj) (.int .i64 mj) (.int .i64 xj) (.bool bj) (.int .i64 tj) (.string hj') (.func (.func fj) #[] cj)
        have HX := Kp.extOf XW.out HK (Nat.le_refl _)
        refine ⟨HX.trans (Ext.alloc _ _), ?_⟩
        rw [HFD.out]
        exact ⟨M.heap.size, by have := HMS.out; omega, blkOld _ (HK.block' (XR.out.block HO.out) (by have := HMS.out; omega)), by rw [HV.out]⟩
      · rw [decide_eq_false he] at heq
        have HNX := hid (HS.out he)
        clear he
        go_wp2_with fail
        go_roundw
        case rel => exact ⟨j + 1, by omega, by go_num, HNX.out, XR.out.trans (Ext.alloc _ _)⟩
        case measure => simp [intOf]; omega
    · have hje : j = 7 := by omega
      subst hje
      have HFN := hid (kdFind_none HNO.out)
      go_wp2_with fail
      obtain ⟨z0, z1, z2, z3, z4, z5, z6⟩ := seven_of (seven_set (u0 := .string ⟨#[]⟩) (u1 := .int .i64 0) (u2 := .int .i64 0) (u3 := .bool false) (u4 := .int .i64 0) (u5 := .string ⟨#[]⟩) (u6 := .nilFunc) HZ.out)
      refine bodyPost_ret (v := .tuple #[.agg #[.string ⟨#[]⟩, .int .i64 0, .int .i64 0, .bool false, .int .i64 0, .string ⟨#[]⟩, .nilFunc], .bool false]) (by simp [results, Tryz.results129, go_sem, z0, z1, z2, z3, z4, z5, z6]) rfl ?_
      refine ⟨Kp.extOf XW.out (Kp.set7 wr w.heap.size _ _ _ _ _ _ _) (Nat.le_refl _), ?_⟩
      rw [HFN.out]
end Go.Proofs.YtnmcmjgfnncdmaaGreatDoor.Nd
/-
  Closed facts over the program's tables: what a node of each type asserts to, and which function a method of it is. No condition.
-/
namespace Go.Proofs.YtnmcmjgfnncdmaaGreatDoor.Nd
open Go.RowKit Go.Stop
theorem isLitLiteral (v : Value) (xT : TypeId) (w : World) : (Instr.typeAssert (.iface 388 v) xT 297 true).run Tryz.prog w = .ok (.tuple #[.iface 388 v, .bool true]) w := run_typeAssert_hasB Tryz.underlying297 (by kernel_rfl) v xT w
theorem isLitStrict (v : Value) (xT : TypeId) (w : World) : (Instr.typeAssert (.iface 388 v) xT 82 true).run Tryz.prog w = .ok (.tuple #[.nilIface, .bool false]) w := run_typeAssert_lacksB Tryz.underlying82 (by kernel_rfl) (by kernel_rfl) v xT w
theorem isLitLazy (v : Value) (xT : TypeId) (w : World) : (Instr.typeAssert (.iface 388 v) xT 79 true).run Tryz.prog w = .ok (.tuple #[.nilIface, .bool false]) w := run_typeAssert_lacksB Tryz.underlying79 (by kernel_rfl) (by kernel_rfl) v xT w
theorem isLitBinder (v : Value) (xT : TypeId) (w : World) : (Instr.typeAssert (.iface 388 v) xT 110 true).run Tryz.prog w = .ok (.tuple #[.nilIface, .bool false]) w := run_typeAssert_lacksB Tryz.underlying110 (by kernel_rfl) (by kernel_rfl) v xT w
theorem isLitUser (v : Value) (xT : TypeId) (w : World) : (Instr.typeAssert (.iface 388 v) xT 300 true).run Tryz.prog w = .ok (.tuple #[.nilIface, .bool false]) w := run_typeAssert_lacksB Tryz.underlying300 (by kernel_rfl) (by kernel_rfl) v xT w
theorem isLitCaller (v : Value) (xT : TypeId) (w : World) : (Instr.typeAssert (.iface 388 v) xT 117 true).run Tryz.prog w = .ok (.tuple #[.nilIface, .bool false]) w := run_typeAssert_lacksB Tryz.underlying117 (by kernel_rfl) (by kernel_rfl) v xT w
theorem isLitPure (v : Value) (xT : TypeId) (w : World) : (Instr.typeAssert (.iface 388 v) xT 303 true).run Tryz.prog w = .ok (.tuple #[.iface 388 v, .bool true]) w := run_typeAssert_hasB Tryz.underlying303 (by kernel_rfl) v xT w
theorem isLitTotal (v : Value) (xT : TypeId) (w : World) : (Instr.typeAssert (.iface 388 v) xT 306 true).run Tryz.prog w = .ok (.tuple #[.iface 388 v, .bool true]) w := run_typeAssert_hasB Tryz.underlying306 (by kernel_rfl) v xT w
theorem isLitSorted (v : Value) (xT : TypeId) (w : World) : (Instr.typeAssert (.iface 388 v) xT 309 true).run Tryz.prog w = .ok (.tuple #[.iface 388 v, .bool true]) w := run_typeAssert_hasB Tryz.underlying309 (by kernel_rfl) v xT w
theorem isLitSugar (v : Value) (xT : TypeId) (w : World) : (Instr.typeAssert (.iface 388 v) xT 312 true).run Tryz.prog w = .ok (.tuple #[.nilIface, .bool false]) w := run_typeAssert_lacksB Tryz.underlying312 (by kernel_rfl) (by kernel_rfl) v xT w
theorem isLitFramed (v : Value) (xT : TypeId) (w : World) : (Instr.typeAssert (.iface 388 v) xT 315 true).run Tryz.prog w = .ok (.tuple #[.nilIface, .bool false]) w := run_typeAssert_lacksB Tryz.underlying315 (by kernel_rfl) (by kernel_rfl) v xT w
theorem isLitWrapped (v : Value) (xT : TypeId) (w : World) : (Instr.typeAssert (.iface 388 v) xT 318 true).run Tryz.prog w = .ok (.tuple #[.nilIface, .bool false]) w := run_typeAssert_lacksB Tryz.underlying318 (by kernel_rfl) (by kernel_rfl) v xT w
theorem isLitOrigin (v : Value) (xT : TypeId) (w : World) : (Instr.typeAssert (.iface 388 v) xT 321 true).run Tryz.prog w = .ok (.tuple #[.nilIface, .bool false]) w := run_typeAssert_lacksB Tryz.underlying321 (by kernel_rfl) (by kernel_rfl) v xT w
theorem isLitOpaque (v : Value) (xT : TypeId) (w : World) : (Instr.typeAssert (.iface 388 v) xT 324 true).run Tryz.prog w = .ok (.tuple #[.nilIface, .bool false]) w := run_typeAssert_lacksB Tryz.underlying324 (by kernel_rfl) (by kernel_rfl) v xT w
theorem mLitKind (b : Nat) (w : World) : (method 627 388 (.pointer (some ⟨b, 0, none⟩)) "Kind").run Tryz.prog w = .ok (340, .pointer (some ⟨b, 0, none⟩)) w := by kernel_rfl
theorem mLitNum (b : Nat) (w : World) : (method 627 388 (.pointer (some ⟨b, 0, none⟩)) "Num").run Tryz.prog w = .ok (237, .pointer (some ⟨b, 0, none⟩)) w := by kernel_rfl
theorem mLitText (b : Nat) (w : World) : (method 627 388 (.pointer (some ⟨b, 0, none⟩)) "Text").run Tryz.prog w = .ok (239, .pointer (some ⟨b, 0, none⟩)) w := by kernel_rfl
theorem mLitLen (b : Nat) (w : World) : (method 627 388 (.pointer (some ⟨b, 0, none⟩)) "Len").run Tryz.prog w = .ok (341, .pointer (some ⟨b, 0, none⟩)) w := by kernel_rfl
theorem mLitKid (b : Nat) (w : World) : (method 627 388 (.pointer (some ⟨b, 0, none⟩)) "Kid").run Tryz.prog w = .ok (339, .pointer (some ⟨b, 0, none⟩)) w := by kernel_rfl
theorem isByLiteral (v : Value) (xT : TypeId) (w : World) : (Instr.typeAssert (.iface 289 v) xT 297 true).run Tryz.prog w = .ok (.tuple #[.nilIface, .bool false]) w := run_typeAssert_lacksB Tryz.underlying297 (by kernel_rfl) (by kernel_rfl) v xT w
theorem isByStrict (v : Value) (xT : TypeId) (w : World) : (Instr.typeAssert (.iface 289 v) xT 82 true).run Tryz.prog w = .ok (.tuple #[.nilIface, .bool false]) w := run_typeAssert_lacksB Tryz.underlying82 (by kernel_rfl) (by kernel_rfl) v xT w
theorem isByLazy (v : Value) (xT : TypeId) (w : World) : (Instr.typeAssert (.iface 289 v) xT 79 true).run Tryz.prog w = .ok (.tuple #[.nilIface, .bool false]) w := run_typeAssert_lacksB Tryz.underlying79 (by kernel_rfl) (by kernel_rfl) v xT w
theorem isByBinder (v : Value) (xT : TypeId) (w : World) : (Instr.typeAssert (.iface 289 v) xT 110 true).run Tryz.prog w = .ok (.tuple #[.iface 289 v, .bool true]) w := run_typeAssert_hasB Tryz.underlying110 (by kernel_rfl) v xT w
theorem isByUser (v : Value) (xT : TypeId) (w : World) : (Instr.typeAssert (.iface 289 v) xT 300 true).run Tryz.prog w = .ok (.tuple #[.nilIface, .bool false]) w := run_typeAssert_lacksB Tryz.underlying300 (by kernel_rfl) (by kernel_rfl) v xT w
theorem isByCaller (v : Value) (xT : TypeId) (w : World) : (Instr.typeAssert (.iface 289 v) xT 117 true).run Tryz.prog w = .ok (.tuple #[.iface 289 v, .bool true]) w := run_typeAssert_hasB Tryz.underlying117 (by kernel_rfl) v xT w
theorem isByPure (v : Value) (xT : TypeId) (w : World) : (Instr.typeAssert (.iface 289 v) xT 303 true).run Tryz.prog w = .ok (.tuple #[.nilIface, .bool false]) w := run_typeAssert_lacksB Tryz.underlying303 (by kernel_rfl) (by kernel_rfl) v xT w
theorem isByTotal (v : Value) (xT : TypeId) (w : World) : (Instr.typeAssert (.iface 289 v) xT 306 true).run Tryz.prog w = .ok (.tuple #[.nilIface, .bool false]) w := run_typeAssert_lacksB Tryz.underlying306 (by kernel_rfl) (by kernel_rfl) v xT w
theorem isBySorted (v : Value) (xT : TypeId) (w : World) : (Instr.typeAssert (.iface 289 v) xT 309 true).run Tryz.prog w = .ok (.tuple #[.nilIface, .bool false]) w := run_typeAssert_lacksB Tryz.underlying309 (by kernel_rfl) (by kernel_rfl) v xT w
theorem isBySugar (v : Value) (xT : TypeId) (w : World) : (Instr.typeAssert (.iface 289 v) xT 312 true).run Tryz.prog w = .ok (.tuple #[.nilIface, .bool false]) w := run_typeAssert_lacksB Tryz.underlying312 (by kernel_rfl) (by kernel_rfl) v xT w
theorem isByFramed (v : Value) (xT : TypeId) (w : World) : (Instr.typeAssert (.iface 289 v) xT 315 true).run Tryz.prog w = .ok (.tuple #[.nilIface, .bool false]) w := run_typeAssert_lacksB Tryz.underlying315 (by kernel_rfl) (by kernel_rfl) v xT w
theorem isByWrapped (v : Value) (xT : TypeId) (w : World) : (Instr.typeAssert (.iface 289 v) xT 318 true).run Tryz.prog w = .ok (.tuple #[.nilIface, .bool false]) w := run_typeAssert_lacksB Tryz.underlying318 (by kernel_rfl) (by kernel_rfl) v xT w
theorem isByOrigin (v : Value) (xT : TypeId) (w : World) : (Instr.typeAssert (.iface 289 v) xT 321 true).run Tryz.prog w = .ok (.tuple #[.nilIface, .bool false]) w := run_typeAssert_lacksB Tryz.underlying321 (by kernel_rfl) (by kernel_rfl) v xT w
theorem isByOpaque (v : Value) (xT : TypeId) (w : World) : (Instr.typeAssert (.iface 289 v) xT 324 true).run Tryz.prog w = .ok (.tuple #[.nilIface, .bool false]) w := run_typeAssert_lacksB Tryz.underlying324 (by kernel_rfl) (by kernel_rfl) v xT w
theorem mByKind (b : Nat) (w : World) : (method 627 289 (.pointer (some ⟨b, 0, none⟩)) "Kind").run Tryz.prog w = .ok (340, .pointer (some ⟨b, 0, none⟩)) w := by kernel_rfl
theorem mByNum (b : Nat) (w : World) : (method 627 289 (.pointer (some ⟨b, 0, none⟩)) "Num").run Tryz.prog w = .ok (237, .pointer (some ⟨b, 0, none⟩)) w := by kernel_rfl
theorem mByText (b : Nat) (w : World) : (method 627 289 (.pointer (some ⟨b, 0, none⟩)) "Text").run Tryz.prog w = .ok (239, .pointer (some ⟨b, 0, none⟩)) w := by kernel_rfl
theorem mByLen (b : Nat) (w : World) : (method 627 289 (.pointer (some ⟨b, 0, none⟩)) "Len").run Tryz.prog w = .ok (341, .pointer (some ⟨b, 0, none⟩)) w := by kernel_rfl
theorem mByKid (b : Nat) (w : World) : (method 627 289 (.pointer (some ⟨b, 0, none⟩)) "Kid").run Tryz.prog w = .ok (339, .pointer (some ⟨b, 0, none⟩)) w := by kernel_rfl
theorem isToLiteral (v : Value) (xT : TypeId) (w : World) : (Instr.typeAssert (.iface 286 v) xT 297 true).run Tryz.prog w = .ok (.tuple #[.nilIface, .bool false]) w := run_typeAssert_lacksB Tryz.underlying297 (by kernel_rfl) (by kernel_rfl) v xT w
theorem isToStrict (v : Value) (xT : TypeId) (w : World) : (Instr.typeAssert (.iface 286 v) xT 82 true).run Tryz.prog w = .ok (.tuple #[.nilIface, .bool false]) w := run_typeAssert_lacksB Tryz.underlying82 (by kernel_rfl) (by kernel_rfl) v xT w
theorem isToLazy (v : Value) (xT : TypeId) (w : World) : (Instr.typeAssert (.iface 286 v) xT 79 true).run Tryz.prog w = .ok (.tuple #[.nilIface, .bool false]) w := run_typeAssert_lacksB Tryz.underlying79 (by kernel_rfl) (by kernel_rfl) v xT w
theorem isToBinder (v : Value) (xT : TypeId) (w : World) : (Instr.typeAssert (.iface 286 v) xT 110 true).run Tryz.prog w = .ok (.tuple #[.nilIface, .bool false]) w := run_typeAssert_lacksB Tryz.underlying110 (by kernel_rfl) (by kernel_rfl) v xT w
theorem isToUser (v : Value) (xT : TypeId) (w : World) : (Instr.typeAssert (.iface 286 v) xT 300 true).run Tryz.prog w = .ok (.tuple #[.nilIface, .bool false]) w := run_typeAssert_lacksB Tryz.underlying300 (by kernel_rfl) (by kernel_rfl) v xT w
theorem isToCaller (v : Value) (xT : TypeId) (w : World) : (Instr.typeAssert (.iface 286 v) xT 117 true).run Tryz.prog w = .ok (.tuple #[.iface 286 v, .bool true]) w := run_typeAssert_hasB Tryz.underlying117 (by kernel_rfl) v xT w
theorem isToPure (v : Value) (xT : TypeId) (w : World) : (Instr.typeAssert (.iface 286 v) xT 303 true).run Tryz.prog w = .ok (.tuple #[.nilIface, .bool false]) w := run_typeAssert_lacksB Tryz.underlying303 (by kernel_rfl) (by kernel_rfl) v xT w
theorem isToTotal (v : Value) (xT : TypeId) (w : World) : (Instr.typeAssert (.iface 286 v) xT 306 true).run Tryz.prog w = .ok (.tuple #[.nilIface, .bool false]) w := run_typeAssert_lacksB Tryz.underlying306 (by kernel_rfl) (by kernel_rfl) v xT w
theorem isToSorted (v : Value) (xT : TypeId) (w : World) : (Instr.typeAssert (.iface 286 v) xT 309 true).run Tryz.prog w = .ok (.tuple #[.nilIface, .bool false]) w := run_typeAssert_lacksB Tryz.underlying309 (by kernel_rfl) (by kernel_rfl) v xT w
theorem isToSugar (v : Value) (xT : TypeId) (w : World) : (Instr.typeAssert (.iface 286 v) xT 312 true).run Tryz.prog w = .ok (.tuple #[.nilIface, .bool false]) w := run_typeAssert_lacksB Tryz.underlying312 (by kernel_rfl) (by kernel_rfl) v xT w
theorem isToFramed (v : Value) (xT : TypeId) (w : World) : (Instr.typeAssert (.iface 286 v) xT 315 true).run Tryz.prog w = .ok (.tuple #[.nilIface, .bool false]) w := run_typeAssert_lacksB Tryz.underlying315 (by kernel_rfl) (by kernel_rfl) v xT w
theorem isToWrapped (v : Value) (xT : TypeId) (w : World) : (Instr.typeAssert (.iface 286 v) xT 318 true).run Tryz.prog w = .ok (.tuple #[.nilIface, .bool false]) w := run_typeAssert_lacksB Tryz.underlying318 (by kernel_rfl) (by kernel_rfl) v xT w
theorem isToOrigin (v : Value) (xT : TypeId) (w : World) : (Instr.typeAssert (.iface 286 v) xT 321 true).run Tryz.prog w = .ok (.tuple #[.nilIface, .bool false]) w := run_typeAssert_lacksB Tryz.underlying321 (by kernel_rfl) (by kernel_rfl) v xT w
theorem isToOpaque (v : Value) (xT : TypeId) (w : World) : (Instr.typeAssert (.iface 286 v) xT 324 true).run Tryz.prog w = .ok (.tuple #[.nilIface, .bool false]) w := run_typeAssert_lacksB Tryz.underlying324 (by kernel_rfl) (by kernel_rfl) v xT w
theorem mToKind (b : Nat) (w : World) : (method 627 286 (.pointer (some ⟨b, 0, none⟩)) "Kind").run Tryz.prog w = .ok (340, .pointer (some ⟨b, 0, none⟩)) w := by kernel_rfl
theorem mToNum (b : Nat) (w : World) : (method 627 286 (.pointer (some ⟨b, 0, none⟩)) "Num").run Tryz.prog w = .ok (237, .pointer (some ⟨b, 0, none⟩)) w := by kernel_rfl
theorem mToText (b : Nat) (w : World) : (method 627 286 (.pointer (some ⟨b, 0, none⟩)) "Text").run Tryz.prog w = .ok (239, .pointer (some ⟨b, 0, none⟩)) w := by kernel_rfl
theorem mToLen (b : Nat) (w : World) : (method 627 286 (.pointer (some ⟨b, 0, none⟩)) "Len").run Tryz.prog w = .ok (341, .pointer (some ⟨b, 0, none⟩)) w := by kernel_rfl
theorem mToKid (b : Nat) (w : World) : (method 627 286 (.pointer (some ⟨b, 0, none⟩)) "Kid").run Tryz.prog w = .ok (339, .pointer (some ⟨b, 0, none⟩)) w := by kernel_rfl
theorem isLzLiteral (v : Value) (xT : TypeId) (w : World) : (Instr.typeAssert (.iface 351 v) xT 297 true).run Tryz.prog w = .ok (.tuple #[.nilIface, .bool false]) w := run_typeAssert_lacksB Tryz.underlying297 (by kernel_rfl) (by kernel_rfl) v xT w
theorem isLzStrict (v : Value) (xT : TypeId) (w : World) : (Instr.typeAssert (.iface 351 v) xT 82 true).run Tryz.prog w = .ok (.tuple #[.nilIface, .bool false]) w := run_typeAssert_lacksB Tryz.underlying82 (by kernel_rfl) (by kernel_rfl) v xT w
theorem isLzLazy (v : Value) (xT : TypeId) (w : World) : (Instr.typeAssert (.iface 351 v) xT 79 true).run Tryz.prog w = .ok (.tuple #[.iface 351 v, .bool true]) w := run_typeAssert_hasB Tryz.underlying79 (by kernel_rfl) v xT w
theorem isLzBinder (v : Value) (xT : TypeId) (w : World) : (Instr.typeAssert (.iface 351 v) xT 110 true).run Tryz.prog w = .ok (.tuple #[.nilIface, .bool false]) w := run_typeAssert_lacksB Tryz.underlying110 (by kernel_rfl) (by kernel_rfl) v xT w
theorem isLzUser (v : Value) (xT : TypeId) (w : World) : (Instr.typeAssert (.iface 351 v) xT 300 true).run Tryz.prog w = .ok (.tuple #[.nilIface, .bool false]) w := run_typeAssert_lacksB Tryz.underlying300 (by kernel_rfl) (by kernel_rfl) v xT w
theorem isLzCaller (v : Value) (xT : TypeId) (w : World) : (Instr.typeAssert (.iface 351 v) xT 117 true).run Tryz.prog w = .ok (.tuple #[.nilIface, .bool false]) w := run_typeAssert_lacksB Tryz.underlying117 (by kernel_rfl) (by kernel_rfl) v xT w
theorem isLzPure (v : Value) (xT : TypeId) (w : World) : (Instr.typeAssert (.iface 351 v) xT 303 true).run Tryz.prog w = .ok (.tuple #[.iface 351 v, .bool true]) w := run_typeAssert_hasB Tryz.underlying303 (by kernel_rfl) v xT w
theorem isLzTotal (v : Value) (xT : TypeId) (w : World) : (Instr.typeAssert (.iface 351 v) xT 306 true).run Tryz.prog w = .ok (.tuple #[.iface 351 v, .bool true]) w := run_typeAssert_hasB Tryz.underlying306 (by kernel_rfl) v xT w
theorem isLzSorted (v : Value) (xT : TypeId) (w : World) : (Instr.typeAssert (.iface 351 v) xT 309 true).run Tryz.prog w = .ok (.tuple #[.iface 351 v, .bool true]) w := run_typeAssert_hasB Tryz.underlying309 (by kernel_rfl) v xT w
theorem isLzSugar (v : Value) (xT : TypeId) (w : World) : (Instr.typeAssert (.iface 351 v) xT 312 true).run Tryz.prog w = .ok (.tuple #[.nilIface, .bool false]) w := run_typeAssert_lacksB Tryz.underlying312 (by kernel_rfl) (by kernel_rfl) v xT w
theorem isLzFramed (v : Value) (xT : TypeId) (w : World) : (Instr.typeAssert (.iface 351 v) xT 315 true).run Tryz.prog w = .ok (.tuple #[.nilIface, .bool false]) w := run_typeAssert_lacksB Tryz.underlying315 (by kernel_rfl) (by kernel_rfl) v xT w
theorem isLzWrapped (v : Value) (xT : TypeId) (w : World) : (Instr.typeAssert (.iface 351 v) xT 318 true).run Tryz.prog w = .ok (.tuple #[.nilIface, .bool false]) w := run_typeAssert_lacksB Tryz.underlying318 (by kernel_rfl) (by kernel_rfl) v xT w
theorem isLzOrigin (v : Value) (xT : TypeId) (w : World) : (Instr.typeAssert (.iface 351 v) xT 321 true).run Tryz.prog w = .ok (.tuple #[.nilIface, .bool false]) w := run_typeAssert_lacksB Tryz.underlying321 (by kernel_rfl) (by kernel_rfl) v xT w
theorem isLzOpaque (v : Value) (xT : TypeId) (w : World) : (Instr.typeAssert (.iface 351 v) xT 324 true).run Tryz.prog w = .ok (.tuple #[.nilIface, .bool false]) w := run_typeAssert_lacksB Tryz.underlying324 (by kernel_rfl) (by kernel_rfl) v xT w
theorem mLzKind (b : Nat) (w : World) : (method 627 351 (.pointer (some ⟨b, 0, none⟩)) "Kind").run Tryz.prog w = .ok (340, .pointer (some ⟨b, 0, none⟩)) w := by kernel_rfl
theorem mLzNum (b : Nat) (w : World) : (method 627 351 (.pointer (some ⟨b, 0, none⟩)) "Num").run Tryz.prog w = .ok (237, .pointer (some ⟨b, 0, none⟩)) w := by kernel_rfl
theorem mLzText (b : Nat) (w : World) : (method 627 351 (.pointer (some ⟨b, 0, none⟩)) "Text").run Tryz.prog w = .ok (239, .pointer (some ⟨b, 0, none⟩)) w := by kernel_rfl
theorem mLzLen (b : Nat) (w : World) : (method 627 351 (.pointer (some ⟨b, 0, none⟩)) "Len").run Tryz.prog w = .ok (341, .pointer (some ⟨b, 0, none⟩)) w := by kernel_rfl
theorem mLzKid (b : Nat) (w : World) : (method 627 351 (.pointer (some ⟨b, 0, none⟩)) "Kid").run Tryz.prog w = .ok (339, .pointer (some ⟨b, 0, none⟩)) w := by kernel_rfl
theorem isEcLiteral (v : Value) (xT : TypeId) (w : World) : (Instr.typeAssert (.iface 275 v) xT 297 true).run Tryz.prog w = .ok (.tuple #[.nilIface, .bool false]) w := run_typeAssert_lacksB Tryz.underlying297 (by kernel_rfl) (by kernel_rfl) v xT w
theorem isEcStrict (v : Value) (xT : TypeId) (w : World) : (Instr.typeAssert (.iface 275 v) xT 82 true).run Tryz.prog w = .ok (.tuple #[.nilIface, .bool false]) w := run_typeAssert_lacksB Tryz.underlying82 (by kernel_rfl) (by kernel_rfl) v xT w
theorem isEcLazy (v : Value) (xT : TypeId) (w : World) : (Instr.typeAssert (.iface 275 v) xT 79 true).run Tryz.prog w = .ok (.tuple #[.iface 275 v, .bool true]) w := run_typeAssert_hasB Tryz.underlying79 (by kernel_rfl) v xT w
theorem isEcBinder (v : Value) (xT : TypeId) (w : World) : (Instr.typeAssert (.iface 275 v) xT 110 true).run Tryz.prog w = .ok (.tuple #[.iface 275 v, .bool true]) w := run_typeAssert_hasB Tryz.underlying110 (by kernel_rfl) v xT w
theorem isEcUser (v : Value) (xT : TypeId) (w : World) : (Instr.typeAssert (.iface 275 v) xT 300 true).run Tryz.prog w = .ok (.tuple #[.nilIface, .bool false]) w := run_typeAssert_lacksB Tryz.underlying300 (by kernel_rfl) (by kernel_rfl) v xT w
theorem isEcCaller (v : Value) (xT : TypeId) (w : World) : (Instr.typeAssert (.iface 275 v) xT 117 true).run Tryz.prog w = .ok (.tuple #[.nilIface, .bool false]) w := run_typeAssert_lacksB Tryz.underlying117 (by kernel_rfl) (by kernel_rfl) v xT w
theorem isEcPure (v : Value) (xT : TypeId) (w : World) : (Instr.typeAssert (.iface 275 v) xT 303 true).run Tryz.prog w = .ok (.tuple #[.iface 275 v, .bool true]) w := run_typeAssert_hasB Tryz.underlying303 (by kernel_rfl) v xT w
theorem isEcTotal (v : Value) (xT : TypeId) (w : World) : (Instr.typeAssert (.iface 275 v) xT 306 true).run Tryz.prog w = .ok (.tuple #[.nilIface, .bool false]) w := run_typeAssert_lacksB Tryz.underlying306 (by kernel_rfl) (by kernel_rfl) v xT w
theorem isEcSorted (v : Value) (xT : TypeId) (w : World) : (Instr.typeAssert (.iface 275 v) xT 309 true).run Tryz.prog w = .ok (.tuple #[.iface 275 v, .bool true]) w := run_typeAssert_hasB Tryz.underlying309 (by kernel_rfl) v xT w
theorem isEcSugar (v : Value) (xT : TypeId) (w : World) : (Instr.typeAssert (.iface 275 v) xT 312 true).run Tryz.prog w = .ok (.tuple #[.nilIface, .bool false]) w := run_typeAssert_lacksB Tryz.underlying312 (by kernel_rfl) (by kernel_rfl) v xT w
theorem isEcFramed (v : Value) (xT : TypeId) (w : World) : (Instr.typeAssert (.iface 275 v) xT 315 true).run Tryz.prog w = .ok (.tuple #[.nilIface, .bool false]) w := run_typeAssert_lacksB Tryz.underlying315 (by kernel_rfl) (by kernel_rfl) v xT w
theorem isEcWrapped (v : Value) (xT : TypeId) (w : World) : (Instr.typeAssert (.iface 275 v) xT 318 true).run Tryz.prog w = .ok (.tuple #[.nilIface, .bool false]) w := run_typeAssert_lacksB Tryz.underlying318 (by kernel_rfl) (by kernel_rfl) v xT w
theorem isEcOrigin (v : Value) (xT : TypeId) (w : World) : (Instr.typeAssert (.iface 275 v) xT 321 true).run Tryz.prog w = .ok (.tuple #[.nilIface, .bool false]) w := run_typeAssert_lacksB Tryz.underlying321 (by kernel_rfl) (by kernel_rfl) v xT w
theorem isEcOpaque (v : Value) (xT : TypeId) (w : World) : (Instr.typeAssert (.iface 275 v) xT 324 true).run Tryz.prog w = .ok (.tuple #[.nilIface, .bool false]) w := run_typeAssert_lacksB Tryz.underlying324 (by kernel_rfl) (by kernel_rfl) v xT w
theorem mEcKind (b : Nat) (w : World) : (method 627 275 (.pointer (some ⟨b, 0, none⟩)) "Kind").run Tryz.prog w = .ok (340, .pointer (some ⟨b, 0, none⟩)) w := by kernel_rfl
theorem mEcNum (b : Nat) (w : World) : (method 627 275 (.pointer (some ⟨b, 0, none⟩)) "Num").run Tryz.prog w = .ok (237, .pointer (some ⟨b, 0, none⟩)) w := by kernel_rfl
theorem mEcText (b : Nat) (w : World) : (method 627 275 (.pointer (some ⟨b, 0, none⟩)) "Text").run Tryz.prog w = .ok (239, .pointer (some ⟨b, 0, none⟩)) w := by kernel_rfl
theorem mEcLen (b : Nat) (w : World) : (method 627 275 (.pointer (some ⟨b, 0, none⟩)) "Len").run Tryz.prog w = .ok (341, .pointer (some ⟨b, 0, none⟩)) w := by kernel_rfl
theorem mEcKid (b : Nat) (w : World) : (method 627 275 (.pointer (some ⟨b, 0, none⟩)) "Kid").run Tryz.prog w = .ok (339, .pointer (some ⟨b, 0, none⟩)) w := by kernel_rfl

end Go.Proofs.YtnmcmjgfnncdmaaGreatDoor.Nd
/-
  A node of the kit base that is a truth is made (node.Make), with all that this calls; by contracts.
-/
namespace Go.Proofs.YtnmcmjgfnncdmaaGreatDoor.Nd
open Go.RowKit
attribute [local go_sem] isLitWrapped
/-- A handle's block. -/
abbrev HandAt (w : World) (b : Nat) (n c : Value) : Prop := w.heap[b]? = some (.cells #[n, c] 198)
theorem node_nil (w : World) : Calls Tryz.prog 63 #[.pointer none] w fun e w' => e = .returned .nilIface ∧ w' = w := by
  go_enter Tryz.func63, Tryz.ntmps63
  go_wp2
  go_ret
  exact ⟨rfl, rfl⟩
theorem node_at (b : Nat) (n c : Value) (w : World) (h : HandAt w b n c) : Calls Tryz.prog 63 #[.pointer (some ⟨b, 0, none⟩)] w fun e w' => e = .returned n ∧ w' = w := by
  have c0 : w.cell? ⟨b, 0, none⟩ = some n := cell_of h rfl
  clear h
  go_enter Tryz.func63, Tryz.ntmps63
  go_wp2
  go_ret
  exact ⟨rfl, rfl⟩
theorem nodesOf_none (w : World) : Calls Tryz.prog 65 #[.slice none 0 0] w fun e w' => e = .returned (.tuple #[.slice none 0 0, .bool true]) ∧ w' = w := by
  go_enter Tryz.func65, Tryz.ntmps65
  go_wp2
  refine wp_loop_rounds 1 ?_
  rw [rounds_succ]
  go_wp2
  go_ret2
  exact ⟨rfl, rfl⟩
theorem cloneN_nil (w : World) : Calls Tryz.prog 179 #[.slice none 0 0] w fun e w' => e = .returned (.slice none 0 0) ∧ w' = w := by
  have hq : ∀ w : World, (binOp .eql 131 (.slice none 0 0) (.slice none 0 0)).run Tryz.prog w = .ok (.bool true) w := fun _ => by kernel_rfl
  go_enter Tryz.func179, Tryz.ntmps179
  go_wp2
  go_ret
  exact ⟨rfl, rfl⟩
theorem four_set0 {w : World} {b : Nat} {v0 v1 v2 v3 u0 u1 u2 u3 : Value} {t : TypeId} (h : w.heap[b]? = some (.cells #[v0, v1, v2, v3] t)) : ((((w.setCell ⟨b, 0, none⟩ u0).setCell ⟨b, 1, none⟩ u1).setCell ⟨b, 2, none⟩ u2).setCell ⟨b, 3, none⟩ u3).heap[b]? = some (.cells #[u0, u1, u2, u3] t) := (set_at (set_at (set_at (set_at h 0 u0) 1 u1) 2 u2) 3 u3).trans (by simp)
theorem four_of {w : World} {b : Nat} {v0 v1 v2 v3 : Value} {t : TypeId} (h : w.heap[b]? = some (.cells #[v0, v1, v2, v3] t)) : w.cell? ⟨b, 0, none⟩ = some v0 ∧ w.cell? ⟨b, 1, none⟩ = some v1 ∧ w.cell? ⟨b, 2, none⟩ = some v2 ∧ w.cell? ⟨b, 3, none⟩ = some v3 := ⟨cell_of h rfl, cell_of h rfl, cell_of h rfl, cell_of h rfl⟩
set_option maxRecDepth 100000 in
set_option maxHeartbeats 1000000 in
theorem new_none (k x : ByteArray) (n : Int) (kv : Value) (w : World) : Calls Tryz.prog 126 #[.agg #[.string k, .int .i64 n, .string x, kv], .slice none 0 0] w fun e w' => e = .returned (.agg #[.string k, .int .i64 n, .string x, .slice none 0 0]) ∧ Ext w w' := by
  obtain ⟨M, hM⟩ : ∃ M, (w.alloc (.cells #[.string k, .int .i64 n, .string x, kv] 69)).alloc (.cells #[.string ⟨#[]⟩, .int .i64 0, .string ⟨#[]⟩, .slice none 0 0] 189) = M := ⟨_, rfl⟩
  have XM := hid (show Ext w M from hM ▸ Ext.alloc2 _ _ _)
  have HM0 := hid (show M.heap[w.heap.size]? = some (.cells #[.string k, .int .i64 n, .string x, kv] 69) from hM ▸ blkOld _ (blk0 _ _))
  have HM1 := hid (show M.heap[w.heap.size + 1]? = some (.cells #[.string ⟨#[]⟩, .int .i64 0, .string ⟨#[]⟩, .slice none 0 0] 189) from hM ▸ blk1 _ _ _)
  obtain ⟨t0, t1, t2, t3⟩ := four_of HM0.out
  obtain ⟨r0, r1, r2, r3⟩ := four_of HM1.out
  obtain ⟨f0, f1, f2, f3⟩ : M.frozen? ⟨w.heap.size + 1, 0, none⟩ = false ∧ M.frozen? ⟨w.heap.size + 1, 1, none⟩ = false ∧ M.frozen? ⟨w.heap.size + 1, 2, none⟩ = false ∧ M.frozen? ⟨w.heap.size + 1, 3, none⟩ = false := ⟨frozen_of HM1.out, frozen_of HM1.out, frozen_of HM1.out, frozen_of HM1.out⟩
  go_enter Tryz.func126, Tryz.ntmps126
  go_wp2_with fail
  clear hM
  go_region_held3 (fun W' => W'.cell? ⟨w.heap.size, 0, none⟩ = some (.string k) ∧ W'.cell? ⟨w.heap.size, 1, none⟩ = some (.int .i64 n) ∧ W'.cell? ⟨w.heap.size, 2, none⟩ = some (.string x))
    (first | with_reducible exact ⟨t0, t1, t2⟩ | go_keep)
    (first | (go_at_call 179; refine (cloneN_nil _).mono ?_; rintro r w1 ⟨rfl, rfl⟩))
  all_goals
    go_wp2_with fail
    obtain ⟨z0, z1, z2, z3⟩ := four_of (four_set0 (u0 := .string k) (u1 := .int .i64 n) (u2 := .string x) (u3 := .slice none 0 0) HM1.out)
    refine bodyPost_ret (v := .agg #[.string k, .int .i64 n, .string x, .slice none 0 0]) (by simp [results, Tryz.results126, go_sem, z0, z1, z2, z3]) rfl ?_
    exact ⟨rfl, (Kp.extOf XM.out (((((Kp.set M (w.heap.size + 1) 0 _ (fun h => h rfl)).trans (Kp.set _ (w.heap.size + 1) 1 _ (fun h => h rfl))).trans (Kp.set _ (w.heap.size + 1) 2 _ (fun h => h rfl))).trans (Kp.set _ (w.heap.size + 1) 3 _ (fun h => h rfl)))) (by omega)).drew⟩
theorem coreOf_lit (v : Value) (w : World) : Calls Tryz.prog 178 #[.iface 388 v] w fun e w' => e = .returned (.iface 388 v) ∧ w' = w := by
  go_enter Tryz.func178, Tryz.ntmps178
  go_wp2
  refine wp_loop_rounds 1 ?_
  rw [rounds_succ]
  go_wp2
  go_ret
  exact ⟨rfl, rfl⟩
theorem hold_lit (v : Value) (w : World) : Calls Tryz.prog 125 #[.iface 388 v] w fun e w' => e = .returned (.pointer (some ⟨w.heap.size, 0, none⟩)) ∧ HandAt w' w.heap.size (.iface 388 v) (.iface 388 v) ∧ Ext w w' := by
  go_enter Tryz.func125, Tryz.ntmps125
  go_wp2_with fail
  go_at_call 178
  refine (coreOf_lit v _).mono ?_
  rintro r w1 ⟨rfl, rfl⟩
  go_wp2_with fail
  go_ret
  exact ⟨rfl, blk0 _ _, Ext.alloc _ _⟩
/-- A literal's block. -/
abbrev LitAt (w : World) (b : Nat) (k : ByteArray) (n : Int) (x : ByteArray) (v : Value) : Prop := w.heap[b]? = some (.cells #[.string k, .int .i64 n, .string x, .slice none 0 0, v] 390)
theorem lit_of (k x : ByteArray) (n : Int) (vt : TypeId) (vv : Value) (w : World) : Calls Tryz.prog 232 #[.agg #[.string k, .int .i64 n, .string x, .slice none 0 0], .iface vt vv] w fun e w' => ∃ b, e = .returned (.iface 388 (.pointer (some ⟨b, 0, none⟩))) ∧ w.heap.size ≤ b ∧ LitAt w' b k n x (.iface vt vv) ∧ Ext w w' := by
  go_enter Tryz.func232, Tryz.ntmps232
  go_wp2_with fail
  go_ret
  exact ⟨_, rfl, Nat.le_succ _, blk1 _ _ _, Ext.alloc2 _ _ _⟩
set_option maxRecDepth 100000 in
theorem takes_void (nj hj : ByteArray) (mj xj : Int) (bj : Bool) (fv : Value) (w : World) (hf : ∃ fn c d, fv = .func fn c d) : Calls Tryz.prog 181 #[.agg #[.string nj, .int .i64 mj, .int .i64 xj, .bool bj, .int .i64 0, .string hj, fv], .string ⟨#[]⟩] w fun e w' => e = .returned (.bool true) ∧ Ext w w' := by
  obtain ⟨fn, c, d, rfl⟩ := hf
  go_enter Tryz.func181, Tryz.ntmps181
  go_wp2_with fail
  go_ret
  exact ⟨rfl, Ext.alloc _ _⟩
def hLit : ByteArray := ⟨#[76, 105, 116, 101, 114, 97, 108, 32, 80, 117, 114, 101, 32, 84, 111, 116, 97, 108, 32, 83, 111, 114, 116, 101, 100]⟩
def nYes : ByteArray := ⟨#[98, 97, 115, 101, 46, 121, 101, 115]⟩
theorem find_yes : kdFind nYes = some 1 := by decide
set_option maxRecDepth 100000 in
theorem mkYes_any (k x : ByteArray) (n : Int) (g : Nat) (w : World) (hg : OfAt w g) : Calls Tryz.prog 234 #[.agg #[.string k, .int .i64 n, .string x, .slice none 0 0], .pointer (some ⟨g, 0, none⟩)] w fun e w' => ∃ b, e = .returned (.iface 388 (.pointer (some ⟨b, 0, none⟩))) ∧ w.heap.size ≤ b ∧ LitAt w' b k n x (.iface 85 (.bool true)) ∧ Ext w w' := by
  have hgc : (w.alloc (.cells #[.string k, .int .i64 n, .string x, .slice none 0 0] 189)).cell? ⟨g, 0, none⟩ = some (.func (.func 232) #[] #[]) := cell_of (blkOld _ hg) rfl
  have hgw : w.cell? ⟨g, 0, none⟩ = some (.func (.func 232) #[] #[]) := cell_of hg rfl
  have hgl : g < w.heap.size := lt_of_block hg
  go_enter Tryz.func234, Tryz.ntmps234
  go_wp2_with fail
  go_at_call 232
  refine (lit_of k x n _ _ _).mono ?_
  rintro r w1 ⟨b, rfl, hb, hl, hx⟩
  go_wp2_with fail
  go_ret
  exact ⟨_, rfl, Nat.le_trans (Ext.alloc w _).size hb, hl, (Ext.alloc w _).trans hx⟩
set_option maxRecDepth 100000 in
set_option maxHeartbeats 2000000 in
theorem fits_none (nj hj : ByteArray) (kv : Value) (k : ByteArray) (fv : Value) (w : World) (hf : ∃ fn c d, fv = .func fn c d) : Calls Tryz.prog 130 #[.agg #[.string nj, .int .i64 0, .int .i64 0, .bool false, .int .i64 0, .string hj, fv], .agg #[.string k, .int .i64 0, .string ⟨#[]⟩, kv], .int .i64 0] w fun e w' => e = .returned (.int .i64 0) ∧ Ext w w' := by
  have HT := hid (fun w1 => takes_void nj hj 0 0 false fv w1 hf)
  obtain ⟨fn, c, d, rfl⟩ := hf
  obtain ⟨M, hM⟩ : ∃ M, (w.alloc (.cells #[.string nj, .int .i64 0, .int .i64 0, .bool false, .int .i64 0, .string hj, .func fn c d] 193)).alloc (.cells #[.string k, .int .i64 0, .string ⟨#[]⟩, kv] 69) = M := ⟨_, rfl⟩
  have XM := hid (show Ext w M from hM ▸ Ext.alloc2 _ _ _)
  have HM0 := hid (show M.heap[w.heap.size]? = some (.cells #[.string nj, .int .i64 0, .int .i64 0, .bool false, .int .i64 0, .string hj, .func fn c d] 193) from hM ▸ blkOld _ (blk0 _ _))
  have HM1 := hid (show M.heap[w.heap.size + 1]? = some (.cells #[.string k, .int .i64 0, .string ⟨#[]⟩, kv] 69) from hM ▸ blk1 _ _ _)
  obtain ⟨t0, t1, t2, t3⟩ := four_of HM1.out
  obtain ⟨r0, r1, r2, r3, r4, r5, r6⟩ := seven_of HM0.out
  go_enter Tryz.func130, Tryz.ntmps130
  go_wp2_with fail
  go_at_call 181
  refine (HT.out M).mono ?_
  rintro r w1 ⟨rfl, hx⟩
  have X1 := hid (XM.out.trans hx)
  clear hx
  go_wp2_with fail
  go_ret
  exact ⟨rfl, X1.out⟩
set_option maxRecDepth 100000 in
set_option maxHeartbeats 4000000 in
theorem make_yes (w : World) : Calls Tryz.prog 62 #[.agg #[.string nYes, .int .i64 0, .string ⟨#[]⟩, .slice none 0 0], .slice none 0 0] w fun e w' => ∃ b h, e = .returned (.tuple #[.pointer (some ⟨h, 0, none⟩), .nilIface]) ∧ w.heap.size ≤ b ∧ w.heap.size ≤ h ∧ HandAt w' h (.iface 388 (.pointer (some ⟨b, 0, none⟩))) (.iface 388 (.pointer (some ⟨b, 0, none⟩))) ∧ LitAt w' b nYes 0 ⟨#[]⟩ (.iface 85 (.bool true)) ∧ Ext w w' := by
  obtain ⟨M, hM⟩ : ∃ M, w.alloc (.cells #[.string nYes, .int .i64 0, .string ⟨#[]⟩, .slice none 0 0] 69) = M := ⟨_, rfl⟩
  have XM := hid (show Ext w M from hM ▸ Ext.alloc _ _)
  have HM0 := hid (show M.heap[w.heap.size]? = some (.cells #[.string nYes, .int .i64 0, .string ⟨#[]⟩, .slice none 0 0] 69) from hM ▸ blk0 _ _)
  obtain ⟨t0, t1, t2, t3⟩ := four_of HM0.out
  have HKF := hid find_yes
  generalize hnn : nYes = nn at *
  have HNN := hid hnn
  clear hnn
  go_enter Tryz.func62, Tryz.ntmps62
  go_wp2_with fail
  clear hM
  go_at_call 129
  refine (kindOf_any nn M).mono ?_
  rintro e w1 ⟨hx1, hk⟩
  rw [HKF.out] at hk
  obtain ⟨g, hg, hO, rfl⟩ := hk
  rw [show kdV g 1 = .agg #[.string nYes, .int .i64 0, .int .i64 0, .bool false, .int .i64 0, .string hLit, .func (.func 234) #[] #[.pointer (some ⟨g, 0, none⟩)]] from rfl]
  rw [HNN.out]
  generalize hhl : hLit = hl at *
  clear hhl
  obtain ⟨V, hV⟩ : ∃ V, w1.alloc (.cells #[.string nn, .int .i64 0, .int .i64 0, .bool false, .int .i64 0, .string hl, .func (.func 234) #[] #[.pointer (some ⟨g, 0, none⟩)]] 193) = V := ⟨_, rfl⟩
  have X1 := hid (show Ext M V from hV ▸ hx1.trans (Ext.alloc _ _))
  have HOV := hid (show OfAt V g from hV ▸ blkOld _ hO)
  have HKB := hid (show V.heap[w1.heap.size]? = some (.cells #[.string nn, .int .i64 0, .int .i64 0, .bool false, .int .i64 0, .string hl, .func (.func 234) #[] #[.pointer (some ⟨g, 0, none⟩)]] 193) from hV ▸ blk0 _ _)
  obtain ⟨r0, r1, r2, r3, r4, r5, r6⟩ := seven_of HKB.out
  have HTB := hid (X1.out.block HM0.out)
  clear t0 t1 t2 t3 hx1 hO hg
  obtain ⟨t0, t1, t2, t3⟩ := four_of HTB.out
  go_wp2_with fail
  clear hV
  go_at_call 65
  refine (nodesOf_none _).mono ?_
  rintro e wn ⟨rfl, hwn⟩
  rw [hwn]
  clear hwn wn
  go_wp2_with fail
  go_at_call 130
  refine (fits_none nn hl (.slice none 0 0) nn _ V ⟨_, _, _, rfl⟩).mono ?_
  rintro e w2 ⟨rfl, hx2⟩
  have X2 := hid (X1.out.trans hx2)
  have HK2 := hid (hx2.block HKB.out)
  have HT2 := hid (hx2.block HTB.out)
  have HO2 := hid (hx2.block HOV.out)
  clear hx2 r0 r1 r2 r3 r4 r5 r6 t0 t1 t2 t3
  have HSK := hid (show ∀ W', Ext w2 W' → (Ext w2 W' ∧ W'.cell? ⟨w1.heap.size, 6, none⟩ = some (.func (.func 234) #[] #[.pointer (some ⟨g, 0, none⟩)]) ∧ W'.cell? ⟨w.heap.size, 0, none⟩ = some (.string nn) ∧ W'.cell? ⟨w.heap.size, 1, none⟩ = some (.int .i64 0) ∧ W'.cell? ⟨w.heap.size, 2, none⟩ = some (.string ⟨#[]⟩) ∧ W'.cell? ⟨w.heap.size, 3, none⟩ = some (.slice none 0 0)) from fun W' X => by
    obtain ⟨s0, s1, s2, s3⟩ := four_of (X.block HT2.out)
    exact ⟨X, cell_of (X.block HK2.out) rfl, s0, s1, s2, s3⟩)
  go_wp2_with fail
  go_region_held3 (fun W' => Ext w2 W' ∧ W'.cell? ⟨w1.heap.size, 6, none⟩ = some (.func (.func 234) #[] #[.pointer (some ⟨g, 0, none⟩)]) ∧ W'.cell? ⟨w.heap.size, 0, none⟩ = some (.string nn) ∧ W'.cell? ⟨w.heap.size, 1, none⟩ = some (.int .i64 0) ∧ W'.cell? ⟨w.heap.size, 2, none⟩ = some (.string ⟨#[]⟩) ∧ W'.cell? ⟨w.heap.size, 3, none⟩ = some (.slice none 0 0))
    (first | with_reducible exact HSK.out _ (Ext.refl _) | with_reducible exact HSK.out _ (Ext.refl _).drew | with_reducible exact HSK.out _ Z3 | with_reducible exact HSK.out _ Z2 | with_reducible exact HSK.out _ Z1 | go_keep)
    (first
      | (go_at_call 126; refine (new_none nn ⟨#[]⟩ 0 _ _).mono ?_; rintro r u1 ⟨rfl, hy⟩; have Z1 : Ext w2 u1 := Ext.trans (by repeat (first | with_reducible exact Ext.refl _ | with_reducible refine Ext.drew ?_)) hy)
      | (go_at_call 234; refine (mkYes_any nn ⟨#[]⟩ 0 g _ ((Ext.trans (by repeat (first | with_reducible exact Z1 | with_reducible refine Ext.drew ?_)) (Ext.refl _)).block HO2.out)).mono ?_; rintro r u2 ⟨b, rfl, hb, hl2, hy⟩; have Z2 : Ext w2 u2 := Ext.trans (by repeat (first | with_reducible exact Z1 | with_reducible refine Ext.drew ?_)) hy; have ZB : w2.heap.size ≤ b := Nat.le_trans Z1.size hb)
      | (go_at_call 125; refine (hold_lit _ _).mono ?_; rintro r u3 ⟨rfl, hh, hy⟩; have Z3 : Ext w2 u3 := Ext.trans (by repeat (first | with_reducible exact Z2 | with_reducible refine Ext.drew ?_)) hy; have ZH := hy.block hl2))
  all_goals
    go_wp2_with fail
    go_ret2
    exact ⟨_, _, rfl, Nat.le_trans (XM.out.trans X2.out).size ZB, Nat.le_trans (XM.out.trans X2.out).size Z2.size, hh, ZH, XM.out.trans (X2.out.trans Z3)⟩
end Go.Proofs.YtnmcmjgfnncdmaaGreatDoor.Nd
