/-
  The table of abilities, and one by its name; by contracts.
-/
import Derived.Test.YtdikcdefpoolfaaNHolds
import Derived.Laws.EntriesVeiled
namespace Go.Proofs.Ytdikcdefpoolfaa
open Go.RowKit
/-- The abilities: name, whether it is asked of a wrapper itself, the claim. -/
def nmA : Nat → ByteArray
  | 0 => ⟨#[76, 105, 116, 101, 114, 97, 108]⟩
  | 1 => ⟨#[83, 116, 114, 105, 99, 116]⟩
  | 2 => ⟨#[76, 97, 122, 121]⟩
  | 3 => ⟨#[66, 105, 110, 100, 101, 114]⟩
  | 4 => ⟨#[85, 115, 101, 114]⟩
  | 5 => ⟨#[67, 97, 108, 108, 101, 114]⟩
  | 6 => ⟨#[80, 117, 114, 101]⟩
  | 7 => ⟨#[84, 111, 116, 97, 108]⟩
  | 8 => ⟨#[83, 111, 114, 116, 101, 100]⟩
  | 9 => ⟨#[83, 117, 103, 97, 114]⟩
  | 10 => ⟨#[70, 114, 97, 109, 101, 100]⟩
  | 11 => ⟨#[87, 114, 97, 112, 112, 101, 100]⟩
  | 12 => ⟨#[79, 114, 105, 103, 105, 110]⟩
  | 13 => ⟨#[79, 112, 97, 113, 117, 101]⟩
  | _ => ⟨#[]⟩
def outA : Nat → Bool
  | 0 => false
  | 1 => false
  | 2 => false
  | 3 => false
  | 4 => false
  | 5 => false
  | 6 => false
  | 7 => false
  | 8 => false
  | 9 => false
  | 10 => false
  | 11 => true
  | 12 => true
  | 13 => false
  | _ => false
def fnA : Nat → Nat
  | 0 => 40
  | 1 => 41
  | 2 => 42
  | 3 => 43
  | 4 => 44
  | 5 => 45
  | 6 => 46
  | 7 => 47
  | 8 => 48
  | 9 => 49
  | 10 => 50
  | 11 => 51
  | 12 => 52
  | 13 => 53
  | _ => 0
def abC : Array Value := #[.string ⟨#[76, 105, 116, 101, 114, 97, 108]⟩, .bool false, .func (.func 40) #[] #[], .string ⟨#[83, 116, 114, 105, 99, 116]⟩, .bool false, .func (.func 41) #[] #[], .string ⟨#[76, 97, 122, 121]⟩, .bool false, .func (.func 42) #[] #[], .string ⟨#[66, 105, 110, 100, 101, 114]⟩, .bool false, .func (.func 43) #[] #[], .string ⟨#[85, 115, 101, 114]⟩, .bool false, .func (.func 44) #[] #[], .string ⟨#[67, 97, 108, 108, 101, 114]⟩, .bool false, .func (.func 45) #[] #[], .string ⟨#[80, 117, 114, 101]⟩, .bool false, .func (.func 46) #[] #[], .string ⟨#[84, 111, 116, 97, 108]⟩, .bool false, .func (.func 47) #[] #[], .string ⟨#[83, 111, 114, 116, 101, 100]⟩, .bool false, .func (.func 48) #[] #[], .string ⟨#[83, 117, 103, 97, 114]⟩, .bool false, .func (.func 49) #[] #[], .string ⟨#[70, 114, 97, 109, 101, 100]⟩, .bool false, .func (.func 50) #[] #[], .string ⟨#[87, 114, 97, 112, 112, 101, 100]⟩, .bool true, .func (.func 51) #[] #[], .string ⟨#[79, 114, 105, 103, 105, 110]⟩, .bool true, .func (.func 52) #[] #[], .string ⟨#[79, 112, 97, 113, 117, 101]⟩, .bool false, .func (.func 53) #[] #[]]
theorem ab_at : ∀ j, j < 14 → abC[j * 3]? = some (.string (nmA j)) ∧ abC[j * 3 + 1]? = some (.bool (outA j)) ∧ abC[j * 3 + 2]? = some (.func (.func (fnA j)) #[] #[])
  | 0, _ => ⟨rfl, rfl, rfl⟩
  | 1, _ => ⟨rfl, rfl, rfl⟩
  | 2, _ => ⟨rfl, rfl, rfl⟩
  | 3, _ => ⟨rfl, rfl, rfl⟩
  | 4, _ => ⟨rfl, rfl, rfl⟩
  | 5, _ => ⟨rfl, rfl, rfl⟩
  | 6, _ => ⟨rfl, rfl, rfl⟩
  | 7, _ => ⟨rfl, rfl, rfl⟩
  | 8, _ => ⟨rfl, rfl, rfl⟩
  | 9, _ => ⟨rfl, rfl, rfl⟩
  | 10, _ => ⟨rfl, rfl, rfl⟩
  | 11, _ => ⟨rfl, rfl, rfl⟩
  | 12, _ => ⟨rfl, rfl, rfl⟩
  | 13, _ => ⟨rfl, rfl, rfl⟩
  | n + 14, h => absurd h (by omega)
def has_literal : Nat → Bool
  | 0 => true
  | 1 => false
  | 2 => false
  | 3 => false
  | 4 => false
  | 5 => false
  | 6 => true
  | 7 => true
  | 8 => true
  | 9 => false
  | 10 => false
  | 11 => false
  | 12 => false
  | 13 => false
  | _ => false
theorem claims_literal (v : Value) : ∀ j, j < 14 → ∀ w, Calls Try.prog (fnA j) #[.iface 165 v] w (ClaimR (has_literal j) w)
  | 0, _ => fun w => claim_literal_0 v w
  | 1, _ => fun w => claim_literal_1 v w
  | 2, _ => fun w => claim_literal_2 v w
  | 3, _ => fun w => claim_literal_3 v w
  | 4, _ => fun w => claim_literal_4 v w
  | 5, _ => fun w => claim_literal_5 v w
  | 6, _ => fun w => claim_literal_6 v w
  | 7, _ => fun w => claim_literal_7 v w
  | 8, _ => fun w => claim_literal_8 v w
  | 9, _ => fun w => claim_literal_9 v w
  | 10, _ => fun w => claim_literal_10 v w
  | 11, _ => fun w => claim_literal_11 v w
  | 12, _ => fun w => claim_literal_12 v w
  | 13, _ => fun w => claim_literal_13 v w
  | n + 14, h => absurd h (by omega)
theorem enters : ∀ j, j < 14 → ∀ a w, (callFunc (fnA j) a).run Try.prog w = .ok (.enter (fnA j) a) w
  | 0, _ => fun a w => by simp [fnA, callFunc, go_sem, Try.func40]; rfl
  | 1, _ => fun a w => by simp [fnA, callFunc, go_sem, Try.func41]; rfl
  | 2, _ => fun a w => by simp [fnA, callFunc, go_sem, Try.func42]; rfl
  | 3, _ => fun a w => by simp [fnA, callFunc, go_sem, Try.func43]; rfl
  | 4, _ => fun a w => by simp [fnA, callFunc, go_sem, Try.func44]; rfl
  | 5, _ => fun a w => by simp [fnA, callFunc, go_sem, Try.func45]; rfl
  | 6, _ => fun a w => by simp [fnA, callFunc, go_sem, Try.func46]; rfl
  | 7, _ => fun a w => by simp [fnA, callFunc, go_sem, Try.func47]; rfl
  | 8, _ => fun a w => by simp [fnA, callFunc, go_sem, Try.func48]; rfl
  | 9, _ => fun a w => by simp [fnA, callFunc, go_sem, Try.func49]; rfl
  | 10, _ => fun a w => by simp [fnA, callFunc, go_sem, Try.func50]; rfl
  | 11, _ => fun a w => by simp [fnA, callFunc, go_sem, Try.func51]; rfl
  | 12, _ => fun a w => by simp [fnA, callFunc, go_sem, Try.func52]; rfl
  | 13, _ => fun a w => by simp [fnA, callFunc, go_sem, Try.func53]; rfl
  | n + 14, h => absurd h (by omega)

/-- Its name's number. -/
def abFind (name : ByteArray) : Option Nat := (List.range 14).find? (fun j => decide (nmA j = name))
theorem abFind_some {name : ByteArray} {j : Nat} (hj : j < 14) (h : nmA j = name) (hn : ∀ i, i < j → nmA i ≠ name) : abFind name = some j := by
  unfold abFind
  rw [List.find?_range_eq_some]
  refine ⟨by simpa using h, by simpa using hj, fun i hi => by simpa using hn i hi⟩
theorem abFind_none {name : ByteArray} (hn : ∀ i, i < 14 → nmA i ≠ name) : abFind name = none := by
  unfold abFind
  rw [List.find?_eq_none]
  intro x hx
  simpa using hn x (by simpa using hx)
set_option maxRecDepth 100000 in
theorem abilities_any (w : World) : Calls Try.prog 29 #[] w fun e w' => e = .returned (.slice (some ⟨w.heap.size, 0, none⟩) 14 14) ∧ w' = w.alloc (.cells abC 105) := by
  go_enter Try.func29, Try.ntmps29
  go_wp2_with fail
  go_ret
  exact ⟨rfl, rfl⟩
theorem str_eqb (x y : ByteArray) : (x.toList == y.toList) = decide (x = y) := by
  by_cases h : x = y
  · subst h; simp
  · rw [decide_eq_false h, beq_eq_false_iff_ne]
    intro e
    rw [ByteArray.toList_eq, ByteArray.toList_eq] at e
    exact h (ByteArray.ext (Array.toList_inj.1 e))
theorem three_set {w : World} {b : Nat} {v0 v1 v2 u0 u1 u2 : Value} {t : TypeId} (h : w.heap[b]? = some (.cells #[v0, v1, v2] t)) : (((w.setCell ⟨b, 0, none⟩ u0).setCell ⟨b, 1, none⟩ u1).setCell ⟨b, 2, none⟩ u2).heap[b]? = some (.cells #[u0, u1, u2] t) := (set_at (set_at (set_at h 0 u0) 1 u1) 2 u2).trans rfl
theorem Kp.set3 (w : World) (g : Nat) (v0 v1 v2 : Value) : Kp (· ≠ g) w (((w.setCell ⟨g, 0, none⟩ v0).setCell ⟨g, 1, none⟩ v1).setCell ⟨g, 2, none⟩ v2) := ((Kp.set w g 0 v0 (fun h => h rfl)).trans (Kp.set _ g 1 v1 (fun h => h rfl))).trans (Kp.set _ g 2 v2 (fun h => h rfl))
theorem three_of {w : World} {b : Nat} {v0 v1 v2 : Value} {t : TypeId} (h : w.heap[b]? = some (.cells #[v0, v1, v2] t)) : w.cell? ⟨b, 0, none⟩ = some v0 ∧ w.cell? ⟨b, 1, none⟩ = some v1 ∧ w.cell? ⟨b, 2, none⟩ = some v2 := ⟨cell_of h rfl, cell_of h rfl, cell_of h rfl⟩
/-- What abilityOf answers. -/
def AofR (name : ByteArray) (w : World) (e : Ending) (w' : World) : Prop := Ext w w' ∧
  match abFind name with
  | some j => e = .returned (.tuple #[abV (nmA j) (outA j) (fnA j), .bool true])
  | none => e = .returned (.tuple #[.agg #[.string ⟨#[]⟩, .bool false, .nilFunc], .bool false])
set_option maxRecDepth 100000 in
set_option maxHeartbeats 1000000 in
theorem abilityOf_any (name : ByteArray) (w : World) : Calls Try.prog 25 #[.string name] w (AofR name w) := by
  obtain ⟨M, hM⟩ : ∃ M, w.alloc (.cells #[.string ⟨#[]⟩, .bool false, .nilFunc] 105) = M := ⟨_, rfl⟩
  have XM := hid (show Ext w M from hM ▸ Ext.alloc _ _)
  have HM0 := hid (show M.heap[w.heap.size]? = some (.cells #[.string ⟨#[]⟩, .bool false, .nilFunc] 105) from hM ▸ blk0 _ _)
  go_enter Try.func25, Try.ntmps25
  go_wp2_with fail
  go_at_call 29
  refine (abilities_any M).mono ?_
  rintro e w1 ⟨rfl, hw1⟩
  have X1 := hid (show Ext M w1 from hw1 ▸ Ext.alloc _ _)
  have HA := hid (show w1.heap[M.heap.size]? = some (.cells abC 105) from hw1 ▸ blk0 _ _)
  clear hM hw1
  go_wp2_with fail
  go_loopw [8] (fun q8 wr => ∃ j : Nat, j ≤ 14 ∧ q8 = .int .i64 j ∧ (∀ i, i < j → nmA i ≠ name) ∧ Ext w1 wr) (fun q8 _ => 14 - (intOf q8).toNat)
  case atStart => exact ⟨0, Nat.zero_le _, rfl, fun i h => absurd h (Nat.not_lt_zero _), Ext.refl _⟩
  case round =>
    obtain ⟨j, hj, rfl, hno, hx⟩ := hrel
    have HNO := hid hno
    have XR := hid hx
    have HZ := hid (hx.block (X1.out.block HM0.out))
    have XW := hid (XM.out.trans (X1.out.trans hx))
    clear hno hx
    by_cases hlt : j < 14
    · have hlt' : (j : Int) < 14 := by omega
      obtain ⟨a0, a1, a2⟩ := ab_at j hlt
      have HAB := XR.out.block HA.out
      have p0 : wr.cell? ⟨M.heap.size, j * 3, none⟩ = some (.string (nmA j)) := cell_of HAB a0
      have p1 : wr.cell? ⟨M.heap.size, j * 3 + 1, none⟩ = some (.bool (outA j)) := cell_of HAB a1
      have p2 : wr.cell? ⟨M.heap.size, j * 3 + 2, none⟩ = some (.func (.func (fnA j)) #[] #[]) := cell_of HAB a2
      have heq := str_eqb (nmA j) name
      have HF := hid (fun h => abFind_some hlt h HNO.out)
      have HS := hid (show nmA j ≠ name → ∀ i, i < j + 1 → nmA i ≠ name from fun h i hi => by
        by_cases e : i = j
        · subst e; exact h
        · exact HNO.out i (by omega))
      have HV := hid (show abV (nmA j) (outA j) (fnA j) = abV (nmA j) (outA j) (fnA j) from rfl)
      obtain ⟨nj, hnj⟩ : ∃ z, nmA j = z := ⟨_, rfl⟩
      obtain ⟨oj, hoj⟩ : ∃ z, outA j = z := ⟨_, rfl⟩
      obtain ⟨fj, hfj⟩ : ∃ z, fnA j = z := ⟨_, rfl⟩
      have HL := hid (show nmA j = nj ∧ outA j = oj ∧ fnA j = fj from ⟨hnj, hoj, hfj⟩)
      rw [hnj] at p0 heq HF HS
      rw [hoj] at p1
      rw [hfj] at p2
      clear hnj hoj hfj a0 a1 a2 HAB HV
      by_cases he : nj = name
      · rw [decide_eq_true he] at heq
        have HFD := hid (HF.out he)
        clear he
        obtain ⟨f0, f1, f2⟩ : wr.frozen? ⟨w.heap.size, 0, none⟩ = false ∧ wr.frozen? ⟨w.heap.size, 1, none⟩ = false ∧ wr.frozen? ⟨w.heap.size, 2, none⟩ = false := ⟨frozen_of HZ.out, frozen_of HZ.out, frozen_of HZ.out⟩
        obtain ⟨r0, r1, r2⟩ : wr.cell? ⟨w.heap.size, 0, none⟩ = some (.string ⟨#[]⟩) ∧ wr.cell? ⟨w.heap.size, 1, none⟩ = some (.bool false) ∧ wr.cell? ⟨w.heap.size, 2, none⟩ = some .nilFunc := ⟨cell_of HZ.out rfl, cell_of HZ.out rfl, cell_of HZ.out rfl⟩
        have hlw : w.heap.size < wr.heap.size := lt_of_block HZ.out
        go_wp2_with fail
        obtain ⟨z0, z1, z2⟩ := three_of (blkOld (.cells #[.string nj, .bool oj, .func (.func fj) #[] #[]] 105) (three_set (u0 := .string nj) (u1 := .bool oj) (u2 := .func (.func fj) #[] #[]) HZ.out))
        refine bodyPost_ret (v := .tuple #[.agg #[.string nj, .bool oj, .func (.func fj) #[] #[]], .bool true]) (by simp [results, Try.results25, go_sem, z0, z1, z2]) rfl ?_
        have HX := Kp.extOf XW.out (Kp.set3 wr w.heap.size (.string nj) (.bool oj) (.func (.func fj) #[] #[])) (Nat.le_refl _)
        refine ⟨HX.trans (Ext.alloc _ _), ?_⟩
        rw [HFD.out]
        show _ = Ending.returned (.tuple #[abV (nmA j) (outA j) (fnA j), .bool true])
        rw [HL.out.1, HL.out.2.1, HL.out.2.2]
      · rw [decide_eq_false he] at heq
        have HNX := hid (HS.out he)
        clear he
        go_wp2_with fail
        go_roundw
        case rel => exact ⟨j + 1, by omega, by go_num, HNX.out, XR.out.trans (Ext.alloc _ _)⟩
        case measure => simp [intOf]; omega
    · have hje : j = 14 := by omega
      subst hje
      have HFN := hid (abFind_none HNO.out)
      obtain ⟨f0, f1, f2⟩ : wr.frozen? ⟨w.heap.size, 0, none⟩ = false ∧ wr.frozen? ⟨w.heap.size, 1, none⟩ = false ∧ wr.frozen? ⟨w.heap.size, 2, none⟩ = false := ⟨frozen_of HZ.out, frozen_of HZ.out, frozen_of HZ.out⟩
      obtain ⟨r0, r1, r2⟩ : wr.cell? ⟨w.heap.size, 0, none⟩ = some (.string ⟨#[]⟩) ∧ wr.cell? ⟨w.heap.size, 1, none⟩ = some (.bool false) ∧ wr.cell? ⟨w.heap.size, 2, none⟩ = some .nilFunc := ⟨cell_of HZ.out rfl, cell_of HZ.out rfl, cell_of HZ.out rfl⟩
      go_wp2_with fail
      obtain ⟨z0, z1, z2⟩ := three_of (three_set (u0 := .string ⟨#[]⟩) (u1 := .bool false) (u2 := .nilFunc) HZ.out)
      refine bodyPost_ret (v := .tuple #[.agg #[.string ⟨#[]⟩, .bool false, .nilFunc], .bool false]) (by simp [results, Try.results25, go_sem, z0, z1, z2]) rfl ?_
      refine ⟨Kp.extOf XW.out (Kp.set3 wr w.heap.size _ _ _) (Nat.le_refl _), ?_⟩
      rw [HFN.out]
end Go.Proofs.Ytdikcdefpoolfaa
