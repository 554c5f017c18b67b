/-
  The kit base's table of kinds, and one by its name; by contracts.
-/
import Derived.Test.YtaodkfchmaendaaGreatDoorCFind
import Derived.Laws.EntriesVeiled
import Derived.Stop.Asserts
namespace Go.Proofs.YtaodkfchmaendaaGreatDoor.Nd
open Go.RowKit
/-- The kinds: name, fewest and most kids, whether there is a number, what text, what abilities, the maker. -/
def nmK : Nat → ByteArray
  | 0 => ⟨#[98, 97, 115, 101, 46, 117, 110, 105, 116]⟩
  | 1 => ⟨#[98, 97, 115, 101, 46, 121, 101, 115]⟩
  | 2 => ⟨#[98, 97, 115, 101, 46, 110, 111]⟩
  | 3 => ⟨#[98, 97, 115, 101, 46, 105, 110, 116]⟩
  | 4 => ⟨#[98, 97, 115, 101, 46, 116, 101, 120, 116]⟩
  | 5 => ⟨#[98, 97, 115, 101, 46, 118, 97, 114]⟩
  | 6 => ⟨#[98, 97, 115, 101, 46, 102, 114, 97, 109, 101]⟩
  | _ => ⟨#[]⟩
def minK : Nat → Int
  | 0 => 0
  | 1 => 0
  | 2 => 0
  | 3 => 0
  | 4 => 0
  | 5 => 0
  | 6 => 1
  | _ => 0
def maxK : Nat → Int
  | 0 => 0
  | 1 => 0
  | 2 => 0
  | 3 => 0
  | 4 => 0
  | 5 => 0
  | 6 => 65
  | _ => 0
def numK : Nat → Bool
  | 0 => false
  | 1 => false
  | 2 => false
  | 3 => true
  | 4 => false
  | 5 => false
  | 6 => false
  | _ => false
def textK : Nat → Int
  | 0 => 0
  | 1 => 0
  | 2 => 0
  | 3 => 0
  | 4 => 1
  | 5 => 4
  | 6 => 0
  | _ => 0
def hasK : Nat → ByteArray
  | 0 => ⟨#[76, 105, 116, 101, 114, 97, 108, 32, 80, 117, 114, 101, 32, 84, 111, 116, 97, 108, 32, 83, 111, 114, 116, 101, 100]⟩
  | 1 => ⟨#[76, 105, 116, 101, 114, 97, 108, 32, 80, 117, 114, 101, 32, 84, 111, 116, 97, 108, 32, 83, 111, 114, 116, 101, 100]⟩
  | 2 => ⟨#[76, 105, 116, 101, 114, 97, 108, 32, 80, 117, 114, 101, 32, 84, 111, 116, 97, 108, 32, 83, 111, 114, 116, 101, 100]⟩
  | 3 => ⟨#[76, 105, 116, 101, 114, 97, 108, 32, 80, 117, 114, 101, 32, 84, 111, 116, 97, 108, 32, 83, 111, 114, 116, 101, 100]⟩
  | 4 => ⟨#[76, 105, 116, 101, 114, 97, 108, 32, 80, 117, 114, 101, 32, 84, 111, 116, 97, 108, 32, 83, 111, 114, 116, 101, 100]⟩
  | 5 => ⟨#[85, 115, 101, 114, 32, 80, 117, 114, 101]⟩
  | 6 => ⟨#[80, 117, 114, 101, 32, 84, 111, 116, 97, 108, 32, 70, 114, 97, 109, 101, 100]⟩
  | _ => ⟨#[]⟩
def fnK : Nat → Nat
  | 0 => 82
  | 1 => 83
  | 2 => 84
  | 3 => 85
  | 4 => 87
  | 5 => 89
  | 6 => 90
  | _ => 0
def capK : Nat → Bool
  | 0 => true
  | 1 => true
  | 2 => true
  | 3 => true
  | 4 => true
  | 5 => false
  | 6 => false
  | _ => false
def mkK (g j : Nat) : Value := .func (.func (fnK j)) #[] (if capK j = true then #[.pointer (some ⟨g, 0, none⟩)] else #[])
def kdC (g : Nat) : Array Value := #[.string ⟨#[98, 97, 115, 101, 46, 117, 110, 105, 116]⟩, .int .i64 0, .int .i64 0, .bool false, .int .i64 0, .string ⟨#[76, 105, 116, 101, 114, 97, 108, 32, 80, 117, 114, 101, 32, 84, 111, 116, 97, 108, 32, 83, 111, 114, 116, 101, 100]⟩, .func (.func 82) #[] #[.pointer (some ⟨g, 0, none⟩)], .string ⟨#[98, 97, 115, 101, 46, 121, 101, 115]⟩, .int .i64 0, .int .i64 0, .bool false, .int .i64 0, .string ⟨#[76, 105, 116, 101, 114, 97, 108, 32, 80, 117, 114, 101, 32, 84, 111, 116, 97, 108, 32, 83, 111, 114, 116, 101, 100]⟩, .func (.func 83) #[] #[.pointer (some ⟨g, 0, none⟩)], .string ⟨#[98, 97, 115, 101, 46, 110, 111]⟩, .int .i64 0, .int .i64 0, .bool false, .int .i64 0, .string ⟨#[76, 105, 116, 101, 114, 97, 108, 32, 80, 117, 114, 101, 32, 84, 111, 116, 97, 108, 32, 83, 111, 114, 116, 101, 100]⟩, .func (.func 84) #[] #[.pointer (some ⟨g, 0, none⟩)], .string ⟨#[98, 97, 115, 101, 46, 105, 110, 116]⟩, .int .i64 0, .int .i64 0, .bool true, .int .i64 0, .string ⟨#[76, 105, 116, 101, 114, 97, 108, 32, 80, 117, 114, 101, 32, 84, 111, 116, 97, 108, 32, 83, 111, 114, 116, 101, 100]⟩, .func (.func 85) #[] #[.pointer (some ⟨g, 0, none⟩)], .string ⟨#[98, 97, 115, 101, 46, 116, 101, 120, 116]⟩, .int .i64 0, .int .i64 0, .bool false, .int .i64 1, .string ⟨#[76, 105, 116, 101, 114, 97, 108, 32, 80, 117, 114, 101, 32, 84, 111, 116, 97, 108, 32, 83, 111, 114, 116, 101, 100]⟩, .func (.func 87) #[] #[.pointer (some ⟨g, 0, none⟩)], .string ⟨#[98, 97, 115, 101, 46, 118, 97, 114]⟩, .int .i64 0, .int .i64 0, .bool false, .int .i64 4, .string ⟨#[85, 115, 101, 114, 32, 80, 117, 114, 101]⟩, .func (.func 89) #[] #[], .string ⟨#[98, 97, 115, 101, 46, 102, 114, 97, 109, 101]⟩, .int .i64 1, .int .i64 65, .bool false, .int .i64 0, .string ⟨#[80, 117, 114, 101, 32, 84, 111, 116, 97, 108, 32, 70, 114, 97, 109, 101, 100]⟩, .func (.func 90) #[] #[]]
theorem kd_at (g : Nat) : ∀ j, j < 7 → (kdC g)[j * 7]? = some (.string (nmK j)) ∧ (kdC g)[j * 7 + 1]? = some (.int .i64 (minK j)) ∧ (kdC g)[j * 7 + 2]? = some (.int .i64 (maxK j)) ∧ (kdC g)[j * 7 + 3]? = some (.bool (numK j)) ∧ (kdC g)[j * 7 + 4]? = some (.int .i64 (textK j)) ∧ (kdC g)[j * 7 + 5]? = some (.string (hasK j)) ∧ (kdC g)[j * 7 + 6]? = some (mkK g j)
  | 0, _ => ⟨rfl, rfl, rfl, rfl, rfl, rfl, rfl⟩
  | 1, _ => ⟨rfl, rfl, rfl, rfl, rfl, rfl, rfl⟩
  | 2, _ => ⟨rfl, rfl, rfl, rfl, rfl, rfl, rfl⟩
  | 3, _ => ⟨rfl, rfl, rfl, rfl, rfl, rfl, rfl⟩
  | 4, _ => ⟨rfl, rfl, rfl, rfl, rfl, rfl, rfl⟩
  | 5, _ => ⟨rfl, rfl, rfl, rfl, rfl, rfl, rfl⟩
  | 6, _ => ⟨rfl, rfl, rfl, rfl, rfl, rfl, rfl⟩
  | n + 7, h => absurd h (by omega)

/-- A kind, as a value. -/
def kdV (g j : Nat) : Value := .agg #[.string (nmK j), .int .i64 (minK j), .int .i64 (maxK j), .bool (numK j), .int .i64 (textK j), .string (hasK j), mkK g j]
def kdFind (name : ByteArray) : Option Nat := (List.range 7).find? (fun j => decide (nmK j = name))
theorem kdFind_some {name : ByteArray} {j : Nat} (hj : j < 7) (h : nmK j = name) (hn : ∀ i, i < j → nmK i ≠ name) : kdFind name = some j := by
  unfold kdFind
  rw [List.find?_range_eq_some]
  refine ⟨by simpa using h, by simpa using hj, fun i hi => by simpa using hn i hi⟩
theorem kdFind_none {name : ByteArray} (hn : ∀ i, i < 7 → nmK i ≠ name) : kdFind name = none := by
  unfold kdFind
  rw [List.find?_eq_none]
  intro x hx
  simpa using hn x (by simpa using hx)
/-- The function that makes literals, in its variable. -/
abbrev OfAt (w : World) (g : Nat) : Prop := w.heap[g]? = some (.cells #[.func (.func 81) #[] #[]] 182)
set_option maxRecDepth 100000 in
theorem kinds_any (w : World) : Calls Tryz.prog 52 #[] w fun e w' => e = .returned (.slice (some ⟨w.heap.size + 1, 0, none⟩) 7 7) ∧ w' = (w.alloc (.cells #[.func (.func 81) #[] #[]] 182)).alloc (.cells (kdC w.heap.size) 113) := by
  have hmf : ∀ (fn : Fn) (first cap : Array Value) (w : World), (Instr.makeFunc fn first cap).run Tryz.prog w = .ok (.func fn first cap) w := fun _ _ _ _ => rfl
  go_enter Tryz.func52, Tryz.ntmps52
  go_wp2_with fail
  go_ret
  exact ⟨rfl, rfl⟩
theorem seven_set {w : World} {b : Nat} {v0 v1 v2 v3 v4 v5 v6 u0 u1 u2 u3 u4 u5 u6 : Value} {t : TypeId} (h : w.heap[b]? = some (.cells #[v0, v1, v2, v3, v4, v5, v6] t)) : (((((((w.setCell ⟨b, 0, none⟩ u0).setCell ⟨b, 1, none⟩ u1).setCell ⟨b, 2, none⟩ u2).setCell ⟨b, 3, none⟩ u3).setCell ⟨b, 4, none⟩ u4).setCell ⟨b, 5, none⟩ u5).setCell ⟨b, 6, none⟩ u6).heap[b]? = some (.cells #[u0, u1, u2, u3, u4, u5, u6] t) := (set_at (set_at (set_at (set_at (set_at (set_at (set_at h 0 u0) 1 u1) 2 u2) 3 u3) 4 u4) 5 u5) 6 u6).trans (by simp)
theorem Kp.set7 (w : World) (g : Nat) (v0 v1 v2 v3 v4 v5 v6 : Value) : Kp (· ≠ g) w (((((((w.setCell ⟨g, 0, none⟩ v0).setCell ⟨g, 1, none⟩ v1).setCell ⟨g, 2, none⟩ v2).setCell ⟨g, 3, none⟩ v3).setCell ⟨g, 4, none⟩ v4).setCell ⟨g, 5, none⟩ v5).setCell ⟨g, 6, none⟩ v6) :=
  ((((((Kp.set w g 0 v0 (fun h => h rfl)).trans (Kp.set _ g 1 v1 (fun h => h rfl))).trans (Kp.set _ g 2 v2 (fun h => h rfl))).trans (Kp.set _ g 3 v3 (fun h => h rfl))).trans (Kp.set _ g 4 v4 (fun h => h rfl))).trans (Kp.set _ g 5 v5 (fun h => h rfl))).trans (Kp.set _ g 6 v6 (fun h => h rfl))
theorem seven_of {w : World} {b : Nat} {v0 v1 v2 v3 v4 v5 v6 : Value} {t : TypeId} (h : w.heap[b]? = some (.cells #[v0, v1, v2, v3, v4, v5, v6] t)) : w.cell? ⟨b, 0, none⟩ = some v0 ∧ w.cell? ⟨b, 1, none⟩ = some v1 ∧ w.cell? ⟨b, 2, none⟩ = some v2 ∧ w.cell? ⟨b, 3, none⟩ = some v3 ∧ w.cell? ⟨b, 4, none⟩ = some v4 ∧ w.cell? ⟨b, 5, none⟩ = some v5 ∧ w.cell? ⟨b, 6, none⟩ = some v6 := ⟨cell_of h rfl, cell_of h rfl, cell_of h rfl, cell_of h rfl, cell_of h rfl, cell_of h rfl, cell_of h rfl⟩
/-- What kindOf answers. -/
def KofR (name : ByteArray) (w : World) (e : Ending) (w' : World) : Prop := Ext w w' ∧
  match kdFind name with
  | some j => ∃ g, w.heap.size ≤ g ∧ OfAt w' g ∧ e = .returned (.tuple #[kdV g j, .bool true])
  | none => e = .returned (.tuple #[.agg #[.string ⟨#[]⟩, .int .i64 0, .int .i64 0, .bool false, .int .i64 0, .string ⟨#[]⟩, .nilFunc], .bool false])
set_option maxRecDepth 100000 in
set_option maxHeartbeats 2000000 in
theorem kindOf_any (name : ByteArray) (w : World) : Calls Tryz.prog 54 #[.string name] w (KofR name w) := by
  obtain ⟨M, hM⟩ : ∃ M, w.alloc (.cells #[.string ⟨#[]⟩, .int .i64 0, .int .i64 0, .bool false, .int .i64 0, .string ⟨#[]⟩, .nilFunc] 113) = M := ⟨_, rfl⟩
  have XM := hid (show Ext w M from hM ▸ Ext.alloc _ _)
  have HM0 := hid (show M.heap[w.heap.size]? = some (.cells #[.string ⟨#[]⟩, .int .i64 0, .int .i64 0, .bool false, .int .i64 0, .string ⟨#[]⟩, .nilFunc] 113) from hM ▸ blk0 _ _)
  have HMS := hid (show M.heap.size = w.heap.size + 1 from hM ▸ blkS _ _)
  go_enter Tryz.func54, Tryz.ntmps54
  go_wp2_with fail
  go_at_call 52
  refine (kinds_any M).mono ?_
  rintro e w1 ⟨rfl, hw1⟩
  have X1 := hid (show Ext M w1 from hw1 ▸ Ext.alloc2 _ _ _)
  have HO := hid (show OfAt w1 M.heap.size from hw1 ▸ blkOld _ (blk0 _ _))
  have HA := hid (show w1.heap[M.heap.size + 1]? = some (.cells (kdC M.heap.size) 113) from hw1 ▸ blk1 _ _ _)
  clear hM hw1
  go_wp2_with fail
  go_loopw [8] (fun q8 wr => ∃ j : Nat, j ≤ 7 ∧ q8 = .int .i64 j ∧ (∀ i, i < j → nmK i ≠ name) ∧ Ext w1 wr) (fun q8 _ => 7 - (intOf q8).toNat)
  case atStart => exact ⟨0, Nat.zero_le _, rfl, fun i h => absurd h (Nat.not_lt_zero _), Ext.refl _⟩
  case round =>
    obtain ⟨j, hj, rfl, hno, hx⟩ := hrel
    have HNO := hid hno
    have XR := hid hx
    have HZ := hid (hx.block (X1.out.block HM0.out))
    have XW := hid (XM.out.trans (X1.out.trans hx))
    obtain ⟨f0, f1, f2, f3, f4, f5, f6⟩ : wr.frozen? ⟨w.heap.size, 0, none⟩ = false ∧ wr.frozen? ⟨w.heap.size, 1, none⟩ = false ∧ wr.frozen? ⟨w.heap.size, 2, none⟩ = false ∧ wr.frozen? ⟨w.heap.size, 3, none⟩ = false ∧ wr.frozen? ⟨w.heap.size, 4, none⟩ = false ∧ wr.frozen? ⟨w.heap.size, 5, none⟩ = false ∧ wr.frozen? ⟨w.heap.size, 6, none⟩ = false := ⟨frozen_of HZ.out, frozen_of HZ.out, frozen_of HZ.out, frozen_of HZ.out, frozen_of HZ.out, frozen_of HZ.out, frozen_of HZ.out⟩
    obtain ⟨r0, r1, r2, r3, r4, r5, r6⟩ := seven_of HZ.out
    have hlw : w.heap.size < wr.heap.size := lt_of_block HZ.out
    clear hno hx
    by_cases hlt : j < 7
    · have hlt' : (j : Int) < 7 := by omega
      obtain ⟨a0, a1, a2, a3, a4, a5, a6⟩ := kd_at M.heap.size j hlt
      have HAB := XR.out.block HA.out
      have p0 : wr.cell? ⟨M.heap.size + 1, j * 7, none⟩ = some (.string (nmK j)) := cell_of HAB a0
      have p1 : wr.cell? ⟨M.heap.size + 1, j * 7 + 1, none⟩ = some (.int .i64 (minK j)) := cell_of HAB a1
      have p2 : wr.cell? ⟨M.heap.size + 1, j * 7 + 2, none⟩ = some (.int .i64 (maxK j)) := cell_of HAB a2
      have p3 : wr.cell? ⟨M.heap.size + 1, j * 7 + 3, none⟩ = some (.bool (numK j)) := cell_of HAB a3
      have p4 : wr.cell? ⟨M.heap.size + 1, j * 7 + 4, none⟩ = some (.int .i64 (textK j)) := cell_of HAB a4
      have p5 : wr.cell? ⟨M.heap.size + 1, j * 7 + 5, none⟩ = some (.string (hasK j)) := cell_of HAB a5
      have p6 : wr.cell? ⟨M.heap.size + 1, j * 7 + 6, none⟩ = some (mkK M.heap.size j) := cell_of HAB a6
      have heq := str_eqb (nmK j) name
      have HF := hid (fun h => kdFind_some hlt h HNO.out)
      have HS := hid (show nmK j ≠ name → ∀ i, i < j + 1 → nmK i ≠ name from fun h i hi => by
        by_cases e : i = j
        · subst e; exact h
        · exact HNO.out i (by omega))
      have HV := hid (show kdV M.heap.size j = .agg #[.string (nmK j), .int .i64 (minK j), .int .i64 (maxK j), .bool (numK j), .int .i64 (textK j), .string (hasK j), mkK M.heap.size j] from rfl)
      unfold mkK at p6 HV
      generalize nmK j = nj at *
      generalize minK j = mj at *
      generalize maxK j = xj at *
      generalize numK j = bj at *
      generalize textK j = tj at *
      generalize hasK j = hj' at *
      generalize fnK j = fj at *
      generalize (if capK j = true then #[Value.pointer (some ⟨M.heap.size, 0, none⟩)] else #[]) = cj at *
      clear a0 a1 a2 a3 a4 a5 a6 HAB
      by_cases he : nj = name
      · rw [decide_eq_true he] at heq
        have HFD := hid (HF.out he)
        clear he
        go_wp2_with fail
        obtain ⟨z0, z1, z2, z3, z4, z5, z6⟩ := seven_of (blkOld (.cells #[.string nj, .int .i64 mj, .int .i64 xj, .bool bj, .int .i64 tj, .string hj', .func (.func fj) #[] cj] 113) (seven_set (u0 := .string nj) (u1 := .int .i64 mj) (u2 := .int .i64 xj) (u3 := .bool bj) (u4 := .int .i64 tj) (u5 := .string hj') (u6 := .func (.func fj) #[] cj) HZ.out))
        refine bodyPost_ret (v := .tuple #[.agg #[.string nj, .int .i64 mj, .int .i64 xj, .bool bj, .int .i64 tj, .string hj', .func (.func fj) #[] cj], .bool true]) (by simp [results, Tryz.results54, go_sem, z0, z1, z2, z3, z4, z5, z6]) rfl ?_
        have HK := Kp.set7 wr w.heap.size (.string nj) (.int .i64 mj) (.int .i64 xj) (.bool bj) (.int .i64 tj) (.string hj') (.func (.func fj) #[] cj)
        have HX := Kp.extOf XW.out HK (Nat.le_refl _)
        refine ⟨HX.trans (Ext.alloc _ _), ?_⟩
        rw [HFD.out]
        exact ⟨M.heap.size, by have := HMS.out; omega, blkOld _ (HK.block' (XR.out.block HO.out) (by have := HMS.out; omega)), by rw [HV.out]⟩
      · rw [decide_eq_false he] at heq
        have HNX := hid (HS.out he)
        clear he
        go_wp2_with fail
        go_roundw
        case rel => exact ⟨j + 1, by omega, by go_num, HNX.out, XR.out.trans (Ext.alloc _ _)⟩
        case measure => simp [intOf]; omega
    · have hje : j = 7 := by omega
      subst hje
      have HFN := hid (kdFind_none HNO.out)
      go_wp2_with fail
      obtain ⟨z0, z1, z2, z3, z4, z5, z6⟩ := seven_of (seven_set (u0 := .string ⟨#[]⟩) (u1 := .int .i64 0) (u2 := .int .i64 0) (u3 := .bool false) (u4 := .int .i64 0) (u5 := .string ⟨#[]⟩) (u6 := .nilFunc) HZ.out)
      refine bodyPost_ret (v := .tuple #[.agg #[.string ⟨#[]⟩, .int .i64 0, .int .i64 0, .bool false, .int .i64 0, .string ⟨#[]⟩, .nilFunc], .bool false]) (by simp [results, Tryz.results54, go_sem, z0, z1, z2, z3, z4, z5, z6]) rfl ?_
      refine ⟨Kp.extOf XW.out (Kp.set7 wr w.heap.size _ _ _ _ _ _ _) (Nat.le_refl _), ?_⟩
      rw [HFN.out]
end Go.Proofs.YtaodkfchmaendaaGreatDoor.Nd
/-
  Closed facts over the program's tables: what a node of each type asserts to, and which function a method of it is. No condition.
-/
namespace Go.Proofs.YtaodkfchmaendaaGreatDoor.Nd
open Go.RowKit Go.Stop
theorem isLitLiteral (v : Value) (xT : TypeId) (w : World) : (Instr.typeAssert (.iface 175 v) xT 76 true).run Tryz.prog w = .ok (.tuple #[.iface 175 v, .bool true]) w := run_typeAssert_hasB Tryz.underlying76 (by kernel_rfl) v xT w
theorem isLitStrict (v : Value) (xT : TypeId) (w : World) : (Instr.typeAssert (.iface 175 v) xT 208 true).run Tryz.prog w = .ok (.tuple #[.nilIface, .bool false]) w := run_typeAssert_lacksB Tryz.underlying208 (by kernel_rfl) (by kernel_rfl) v xT w
theorem isLitLazy (v : Value) (xT : TypeId) (w : World) : (Instr.typeAssert (.iface 175 v) xT 211 true).run Tryz.prog w = .ok (.tuple #[.nilIface, .bool false]) w := run_typeAssert_lacksB Tryz.underlying211 (by kernel_rfl) (by kernel_rfl) v xT w
theorem isLitBinder (v : Value) (xT : TypeId) (w : World) : (Instr.typeAssert (.iface 175 v) xT 214 true).run Tryz.prog w = .ok (.tuple #[.nilIface, .bool false]) w := run_typeAssert_lacksB Tryz.underlying214 (by kernel_rfl) (by kernel_rfl) v xT w
theorem isLitUser (v : Value) (xT : TypeId) (w : World) : (Instr.typeAssert (.iface 175 v) xT 217 true).run Tryz.prog w = .ok (.tuple #[.nilIface, .bool false]) w := run_typeAssert_lacksB Tryz.underlying217 (by kernel_rfl) (by kernel_rfl) v xT w
theorem isLitCaller (v : Value) (xT : TypeId) (w : World) : (Instr.typeAssert (.iface 175 v) xT 220 true).run Tryz.prog w = .ok (.tuple #[.nilIface, .bool false]) w := run_typeAssert_lacksB Tryz.underlying220 (by kernel_rfl) (by kernel_rfl) v xT w
theorem isLitPure (v : Value) (xT : TypeId) (w : World) : (Instr.typeAssert (.iface 175 v) xT 223 true).run Tryz.prog w = .ok (.tuple #[.iface 175 v, .bool true]) w := run_typeAssert_hasB Tryz.underlying223 (by kernel_rfl) v xT w
theorem isLitTotal (v : Value) (xT : TypeId) (w : World) : (Instr.typeAssert (.iface 175 v) xT 226 true).run Tryz.prog w = .ok (.tuple #[.iface 175 v, .bool true]) w := run_typeAssert_hasB Tryz.underlying226 (by kernel_rfl) v xT w
theorem isLitSorted (v : Value) (xT : TypeId) (w : World) : (Instr.typeAssert (.iface 175 v) xT 229 true).run Tryz.prog w = .ok (.tuple #[.iface 175 v, .bool true]) w := run_typeAssert_hasB Tryz.underlying229 (by kernel_rfl) v xT w
theorem isLitSugar (v : Value) (xT : TypeId) (w : World) : (Instr.typeAssert (.iface 175 v) xT 232 true).run Tryz.prog w = .ok (.tuple #[.nilIface, .bool false]) w := run_typeAssert_lacksB Tryz.underlying232 (by kernel_rfl) (by kernel_rfl) v xT w
theorem isLitFramed (v : Value) (xT : TypeId) (w : World) : (Instr.typeAssert (.iface 175 v) xT 235 true).run Tryz.prog w = .ok (.tuple #[.nilIface, .bool false]) w := run_typeAssert_lacksB Tryz.underlying235 (by kernel_rfl) (by kernel_rfl) v xT w
theorem isLitWrapped (v : Value) (xT : TypeId) (w : World) : (Instr.typeAssert (.iface 175 v) xT 238 true).run Tryz.prog w = .ok (.tuple #[.nilIface, .bool false]) w := run_typeAssert_lacksB Tryz.underlying238 (by kernel_rfl) (by kernel_rfl) v xT w
theorem isLitOrigin (v : Value) (xT : TypeId) (w : World) : (Instr.typeAssert (.iface 175 v) xT 241 true).run Tryz.prog w = .ok (.tuple #[.nilIface, .bool false]) w := run_typeAssert_lacksB Tryz.underlying241 (by kernel_rfl) (by kernel_rfl) v xT w
theorem isLitOpaque (v : Value) (xT : TypeId) (w : World) : (Instr.typeAssert (.iface 175 v) xT 244 true).run Tryz.prog w = .ok (.tuple #[.nilIface, .bool false]) w := run_typeAssert_lacksB Tryz.underlying244 (by kernel_rfl) (by kernel_rfl) v xT w
theorem mLitKind (b : Nat) (w : World) : (method 450 175 (.pointer (some ⟨b, 0, none⟩)) "Kind").run Tryz.prog w = .ok (183, .pointer (some ⟨b, 0, none⟩)) w := by kernel_rfl
theorem mLitNum (b : Nat) (w : World) : (method 450 175 (.pointer (some ⟨b, 0, none⟩)) "Num").run Tryz.prog w = .ok (86, .pointer (some ⟨b, 0, none⟩)) w := by kernel_rfl
theorem mLitText (b : Nat) (w : World) : (method 450 175 (.pointer (some ⟨b, 0, none⟩)) "Text").run Tryz.prog w = .ok (88, .pointer (some ⟨b, 0, none⟩)) w := by kernel_rfl
theorem mLitLen (b : Nat) (w : World) : (method 450 175 (.pointer (some ⟨b, 0, none⟩)) "Len").run Tryz.prog w = .ok (184, .pointer (some ⟨b, 0, none⟩)) w := by kernel_rfl
theorem mLitKid (b : Nat) (w : World) : (method 450 175 (.pointer (some ⟨b, 0, none⟩)) "Kid").run Tryz.prog w = .ok (182, .pointer (some ⟨b, 0, none⟩)) w := by kernel_rfl
theorem isVarLiteral (v : Value) (xT : TypeId) (w : World) : (Instr.typeAssert (.iface 186 v) xT 76 true).run Tryz.prog w = .ok (.tuple #[.nilIface, .bool false]) w := run_typeAssert_lacksB Tryz.underlying76 (by kernel_rfl) (by kernel_rfl) v xT w
theorem isVarStrict (v : Value) (xT : TypeId) (w : World) : (Instr.typeAssert (.iface 186 v) xT 208 true).run Tryz.prog w = .ok (.tuple #[.nilIface, .bool false]) w := run_typeAssert_lacksB Tryz.underlying208 (by kernel_rfl) (by kernel_rfl) v xT w
theorem isVarLazy (v : Value) (xT : TypeId) (w : World) : (Instr.typeAssert (.iface 186 v) xT 211 true).run Tryz.prog w = .ok (.tuple #[.nilIface, .bool false]) w := run_typeAssert_lacksB Tryz.underlying211 (by kernel_rfl) (by kernel_rfl) v xT w
theorem isVarBinder (v : Value) (xT : TypeId) (w : World) : (Instr.typeAssert (.iface 186 v) xT 214 true).run Tryz.prog w = .ok (.tuple #[.nilIface, .bool false]) w := run_typeAssert_lacksB Tryz.underlying214 (by kernel_rfl) (by kernel_rfl) v xT w
theorem isVarUser (v : Value) (xT : TypeId) (w : World) : (Instr.typeAssert (.iface 186 v) xT 217 true).run Tryz.prog w = .ok (.tuple #[.iface 186 v, .bool true]) w := run_typeAssert_hasB Tryz.underlying217 (by kernel_rfl) v xT w
theorem isVarCaller (v : Value) (xT : TypeId) (w : World) : (Instr.typeAssert (.iface 186 v) xT 220 true).run Tryz.prog w = .ok (.tuple #[.nilIface, .bool false]) w := run_typeAssert_lacksB Tryz.underlying220 (by kernel_rfl) (by kernel_rfl) v xT w
theorem isVarPure (v : Value) (xT : TypeId) (w : World) : (Instr.typeAssert (.iface 186 v) xT 223 true).run Tryz.prog w = .ok (.tuple #[.iface 186 v, .bool true]) w := run_typeAssert_hasB Tryz.underlying223 (by kernel_rfl) v xT w
theorem isVarTotal (v : Value) (xT : TypeId) (w : World) : (Instr.typeAssert (.iface 186 v) xT 226 true).run Tryz.prog w = .ok (.tuple #[.nilIface, .bool false]) w := run_typeAssert_lacksB Tryz.underlying226 (by kernel_rfl) (by kernel_rfl) v xT w
theorem isVarSorted (v : Value) (xT : TypeId) (w : World) : (Instr.typeAssert (.iface 186 v) xT 229 true).run Tryz.prog w = .ok (.tuple #[.nilIface, .bool false]) w := run_typeAssert_lacksB Tryz.underlying229 (by kernel_rfl) (by kernel_rfl) v xT w
theorem isVarSugar (v : Value) (xT : TypeId) (w : World) : (Instr.typeAssert (.iface 186 v) xT 232 true).run Tryz.prog w = .ok (.tuple #[.nilIface, .bool false]) w := run_typeAssert_lacksB Tryz.underlying232 (by kernel_rfl) (by kernel_rfl) v xT w
theorem isVarFramed (v : Value) (xT : TypeId) (w : World) : (Instr.typeAssert (.iface 186 v) xT 235 true).run Tryz.prog w = .ok (.tuple #[.nilIface, .bool false]) w := run_typeAssert_lacksB Tryz.underlying235 (by kernel_rfl) (by kernel_rfl) v xT w
theorem isVarWrapped (v : Value) (xT : TypeId) (w : World) : (Instr.typeAssert (.iface 186 v) xT 238 true).run Tryz.prog w = .ok (.tuple #[.nilIface, .bool false]) w := run_typeAssert_lacksB Tryz.underlying238 (by kernel_rfl) (by kernel_rfl) v xT w
theorem isVarOrigin (v : Value) (xT : TypeId) (w : World) : (Instr.typeAssert (.iface 186 v) xT 241 true).run Tryz.prog w = .ok (.tuple #[.nilIface, .bool false]) w := run_typeAssert_lacksB Tryz.underlying241 (by kernel_rfl) (by kernel_rfl) v xT w
theorem isVarOpaque (v : Value) (xT : TypeId) (w : World) : (Instr.typeAssert (.iface 186 v) xT 244 true).run Tryz.prog w = .ok (.tuple #[.nilIface, .bool false]) w := run_typeAssert_lacksB Tryz.underlying244 (by kernel_rfl) (by kernel_rfl) v xT w
theorem mVarKind (b : Nat) (w : World) : (method 450 186 (.pointer (some ⟨b, 0, none⟩)) "Kind").run Tryz.prog w = .ok (183, .pointer (some ⟨b, 0, none⟩)) w := by kernel_rfl
theorem mVarNum (b : Nat) (w : World) : (method 450 186 (.pointer (some ⟨b, 0, none⟩)) "Num").run Tryz.prog w = .ok (86, .pointer (some ⟨b, 0, none⟩)) w := by kernel_rfl
theorem mVarText (b : Nat) (w : World) : (method 450 186 (.pointer (some ⟨b, 0, none⟩)) "Text").run Tryz.prog w = .ok (88, .pointer (some ⟨b, 0, none⟩)) w := by kernel_rfl
theorem mVarLen (b : Nat) (w : World) : (method 450 186 (.pointer (some ⟨b, 0, none⟩)) "Len").run Tryz.prog w = .ok (184, .pointer (some ⟨b, 0, none⟩)) w := by kernel_rfl
theorem mVarKid (b : Nat) (w : World) : (method 450 186 (.pointer (some ⟨b, 0, none⟩)) "Kid").run Tryz.prog w = .ok (182, .pointer (some ⟨b, 0, none⟩)) w := by kernel_rfl
theorem isFraLiteral (v : Value) (xT : TypeId) (w : World) : (Instr.typeAssert (.iface 189 v) xT 76 true).run Tryz.prog w = .ok (.tuple #[.nilIface, .bool false]) w := run_typeAssert_lacksB Tryz.underlying76 (by kernel_rfl) (by kernel_rfl) v xT w
theorem isFraStrict (v : Value) (xT : TypeId) (w : World) : (Instr.typeAssert (.iface 189 v) xT 208 true).run Tryz.prog w = .ok (.tuple #[.nilIface, .bool false]) w := run_typeAssert_lacksB Tryz.underlying208 (by kernel_rfl) (by kernel_rfl) v xT w
theorem isFraLazy (v : Value) (xT : TypeId) (w : World) : (Instr.typeAssert (.iface 189 v) xT 211 true).run Tryz.prog w = .ok (.tuple #[.nilIface, .bool false]) w := run_typeAssert_lacksB Tryz.underlying211 (by kernel_rfl) (by kernel_rfl) v xT w
theorem isFraBinder (v : Value) (xT : TypeId) (w : World) : (Instr.typeAssert (.iface 189 v) xT 214 true).run Tryz.prog w = .ok (.tuple #[.nilIface, .bool false]) w := run_typeAssert_lacksB Tryz.underlying214 (by kernel_rfl) (by kernel_rfl) v xT w
theorem isFraUser (v : Value) (xT : TypeId) (w : World) : (Instr.typeAssert (.iface 189 v) xT 217 true).run Tryz.prog w = .ok (.tuple #[.nilIface, .bool false]) w := run_typeAssert_lacksB Tryz.underlying217 (by kernel_rfl) (by kernel_rfl) v xT w
theorem isFraCaller (v : Value) (xT : TypeId) (w : World) : (Instr.typeAssert (.iface 189 v) xT 220 true).run Tryz.prog w = .ok (.tuple #[.nilIface, .bool false]) w := run_typeAssert_lacksB Tryz.underlying220 (by kernel_rfl) (by kernel_rfl) v xT w
theorem isFraPure (v : Value) (xT : TypeId) (w : World) : (Instr.typeAssert (.iface 189 v) xT 223 true).run Tryz.prog w = .ok (.tuple #[.iface 189 v, .bool true]) w := run_typeAssert_hasB Tryz.underlying223 (by kernel_rfl) v xT w
theorem isFraTotal (v : Value) (xT : TypeId) (w : World) : (Instr.typeAssert (.iface 189 v) xT 226 true).run Tryz.prog w = .ok (.tuple #[.iface 189 v, .bool true]) w := run_typeAssert_hasB Tryz.underlying226 (by kernel_rfl) v xT w
theorem isFraSorted (v : Value) (xT : TypeId) (w : World) : (Instr.typeAssert (.iface 189 v) xT 229 true).run Tryz.prog w = .ok (.tuple #[.nilIface, .bool false]) w := run_typeAssert_lacksB Tryz.underlying229 (by kernel_rfl) (by kernel_rfl) v xT w
theorem isFraSugar (v : Value) (xT : TypeId) (w : World) : (Instr.typeAssert (.iface 189 v) xT 232 true).run Tryz.prog w = .ok (.tuple #[.nilIface, .bool false]) w := run_typeAssert_lacksB Tryz.underlying232 (by kernel_rfl) (by kernel_rfl) v xT w
theorem isFraFramed (v : Value) (xT : TypeId) (w : World) : (Instr.typeAssert (.iface 189 v) xT 235 true).run Tryz.prog w = .ok (.tuple #[.iface 189 v, .bool true]) w := run_typeAssert_hasB Tryz.underlying235 (by kernel_rfl) v xT w
theorem isFraWrapped (v : Value) (xT : TypeId) (w : World) : (Instr.typeAssert (.iface 189 v) xT 238 true).run Tryz.prog w = .ok (.tuple #[.nilIface, .bool false]) w := run_typeAssert_lacksB Tryz.underlying238 (by kernel_rfl) (by kernel_rfl) v xT w
theorem isFraOrigin (v : Value) (xT : TypeId) (w : World) : (Instr.typeAssert (.iface 189 v) xT 241 true).run Tryz.prog w = .ok (.tuple #[.nilIface, .bool false]) w := run_typeAssert_lacksB Tryz.underlying241 (by kernel_rfl) (by kernel_rfl) v xT w
theorem isFraOpaque (v : Value) (xT : TypeId) (w : World) : (Instr.typeAssert (.iface 189 v) xT 244 true).run Tryz.prog w = .ok (.tuple #[.nilIface, .bool false]) w := run_typeAssert_lacksB Tryz.underlying244 (by kernel_rfl) (by kernel_rfl) v xT w
theorem mFraKind (b : Nat) (w : World) : (method 450 189 (.pointer (some ⟨b, 0, none⟩)) "Kind").run Tryz.prog w = .ok (183, .pointer (some ⟨b, 0, none⟩)) w := by kernel_rfl
theorem mFraNum (b : Nat) (w : World) : (method 450 189 (.pointer (some ⟨b, 0, none⟩)) "Num").run Tryz.prog w = .ok (86, .pointer (some ⟨b, 0, none⟩)) w := by kernel_rfl
theorem mFraText (b : Nat) (w : World) : (method 450 189 (.pointer (some ⟨b, 0, none⟩)) "Text").run Tryz.prog w = .ok (88, .pointer (some ⟨b, 0, none⟩)) w := by kernel_rfl
theorem mFraLen (b : Nat) (w : World) : (method 450 189 (.pointer (some ⟨b, 0, none⟩)) "Len").run Tryz.prog w = .ok (184, .pointer (some ⟨b, 0, none⟩)) w := by kernel_rfl
theorem mFraKid (b : Nat) (w : World) : (method 450 189 (.pointer (some ⟨b, 0, none⟩)) "Kid").run Tryz.prog w = .ok (182, .pointer (some ⟨b, 0, none⟩)) w := by kernel_rfl
theorem mLitWorth (b : Nat) (w : World) : (method 450 175 (.pointer (some ⟨b, 0, none⟩)) "Worth").run Tryz.prog w = .ok (185, .pointer (some ⟨b, 0, none⟩)) w := by kernel_rfl

end Go.Proofs.YtaodkfchmaendaaGreatDoor.Nd
