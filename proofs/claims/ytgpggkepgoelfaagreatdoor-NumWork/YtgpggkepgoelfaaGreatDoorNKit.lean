/-
  num.Kit and (*Kit).Name by contracts.
-/
import Derived.Test.YtgpggkepgoelfaaGreatDoorKName
import Derived.Test.YtgpggkepgoelfaaGreatDoorNKinds
namespace Go.Proofs.YtgpggkepgoelfaaGreatDoor
open Go.RowKit
def numPre : List UInt8 := [110, 117, 109]
def numB : ByteArray := ⟨#[110, 117, 109]⟩
theorem numWord : speltB wordI 16 numPre = true := by kernel_rfl
theorem goodN0 : GoodR numPre (kdRow numK[0]) where
  name := ⟨[97, 100, 100], rfl, by kernel_rfl⟩
  nod := by decide
  word := numWord
  size := Nat.le_of_ble_eq_true rfl
  min := by decide
  max := .inr ⟨by decide, by decide⟩
  text := ⟨by decide, by decide⟩
  names := by decide
  ord := by kernel_rfl
  len := Nat.le_of_ble_eq_true (by kernel_rfl)
theorem hasN0 : (numK[0]).has.size ≤ 4000 ∧ (numK[0]).has.data.toList.all (fun b => decide (b.toNat < 128)) = true := ⟨Nat.le_of_ble_eq_true rfl, by kernel_rfl⟩
theorem goodN1 : GoodR numPre (kdRow numK[1]) where
  name := ⟨[115, 117, 98], rfl, by kernel_rfl⟩
  nod := by decide
  word := numWord
  size := Nat.le_of_ble_eq_true rfl
  min := by decide
  max := .inr ⟨by decide, by decide⟩
  text := ⟨by decide, by decide⟩
  names := by decide
  ord := by kernel_rfl
  len := Nat.le_of_ble_eq_true (by kernel_rfl)
theorem hasN1 : (numK[1]).has.size ≤ 4000 ∧ (numK[1]).has.data.toList.all (fun b => decide (b.toNat < 128)) = true := ⟨Nat.le_of_ble_eq_true rfl, by kernel_rfl⟩
theorem goodN2 : GoodR numPre (kdRow numK[2]) where
  name := ⟨[109, 117, 108], rfl, by kernel_rfl⟩
  nod := by decide
  word := numWord
  size := Nat.le_of_ble_eq_true rfl
  min := by decide
  max := .inr ⟨by decide, by decide⟩
  text := ⟨by decide, by decide⟩
  names := by decide
  ord := by kernel_rfl
  len := Nat.le_of_ble_eq_true (by kernel_rfl)
theorem hasN2 : (numK[2]).has.size ≤ 4000 ∧ (numK[2]).has.data.toList.all (fun b => decide (b.toNat < 128)) = true := ⟨Nat.le_of_ble_eq_true rfl, by kernel_rfl⟩
theorem goodN3 : GoodR numPre (kdRow numK[3]) where
  name := ⟨[113, 117, 111], rfl, by kernel_rfl⟩
  nod := by decide
  word := numWord
  size := Nat.le_of_ble_eq_true rfl
  min := by decide
  max := .inr ⟨by decide, by decide⟩
  text := ⟨by decide, by decide⟩
  names := by decide
  ord := by kernel_rfl
  len := Nat.le_of_ble_eq_true (by kernel_rfl)
theorem hasN3 : (numK[3]).has.size ≤ 4000 ∧ (numK[3]).has.data.toList.all (fun b => decide (b.toNat < 128)) = true := ⟨Nat.le_of_ble_eq_true rfl, by kernel_rfl⟩
theorem goodN4 : GoodR numPre (kdRow numK[4]) where
  name := ⟨[109, 111, 100], rfl, by kernel_rfl⟩
  nod := by decide
  word := numWord
  size := Nat.le_of_ble_eq_true rfl
  min := by decide
  max := .inr ⟨by decide, by decide⟩
  text := ⟨by decide, by decide⟩
  names := by decide
  ord := by kernel_rfl
  len := Nat.le_of_ble_eq_true (by kernel_rfl)
theorem hasN4 : (numK[4]).has.size ≤ 4000 ∧ (numK[4]).has.data.toList.all (fun b => decide (b.toNat < 128)) = true := ⟨Nat.le_of_ble_eq_true rfl, by kernel_rfl⟩
theorem goodN5 : GoodR numPre (kdRow numK[5]) where
  name := ⟨[112, 111, 119], rfl, by kernel_rfl⟩
  nod := by decide
  word := numWord
  size := Nat.le_of_ble_eq_true rfl
  min := by decide
  max := .inr ⟨by decide, by decide⟩
  text := ⟨by decide, by decide⟩
  names := by decide
  ord := by kernel_rfl
  len := Nat.le_of_ble_eq_true (by kernel_rfl)
theorem hasN5 : (numK[5]).has.size ≤ 4000 ∧ (numK[5]).has.data.toList.all (fun b => decide (b.toNat < 128)) = true := ⟨Nat.le_of_ble_eq_true rfl, by kernel_rfl⟩
theorem goodN6 : GoodR numPre (kdRow numK[6]) where
  name := ⟨[110, 101, 103], rfl, by kernel_rfl⟩
  nod := by decide
  word := numWord
  size := Nat.le_of_ble_eq_true rfl
  min := by decide
  max := .inr ⟨by decide, by decide⟩
  text := ⟨by decide, by decide⟩
  names := by decide
  ord := by kernel_rfl
  len := Nat.le_of_ble_eq_true (by kernel_rfl)
theorem hasN6 : (numK[6]).has.size ≤ 4000 ∧ (numK[6]).has.data.toList.all (fun b => decide (b.toNat < 128)) = true := ⟨Nat.le_of_ble_eq_true rfl, by kernel_rfl⟩
theorem goodN7 : GoodR numPre (kdRow numK[7]) where
  name := ⟨[97, 98, 115], rfl, by kernel_rfl⟩
  nod := by decide
  word := numWord
  size := Nat.le_of_ble_eq_true rfl
  min := by decide
  max := .inr ⟨by decide, by decide⟩
  text := ⟨by decide, by decide⟩
  names := by decide
  ord := by kernel_rfl
  len := Nat.le_of_ble_eq_true (by kernel_rfl)
theorem hasN7 : (numK[7]).has.size ≤ 4000 ∧ (numK[7]).has.data.toList.all (fun b => decide (b.toNat < 128)) = true := ⟨Nat.le_of_ble_eq_true rfl, by kernel_rfl⟩
theorem goodN8 : GoodR numPre (kdRow numK[8]) where
  name := ⟨[109, 105, 110], rfl, by kernel_rfl⟩
  nod := by decide
  word := numWord
  size := Nat.le_of_ble_eq_true rfl
  min := by decide
  max := .inr ⟨by decide, by decide⟩
  text := ⟨by decide, by decide⟩
  names := by decide
  ord := by kernel_rfl
  len := Nat.le_of_ble_eq_true (by kernel_rfl)
theorem hasN8 : (numK[8]).has.size ≤ 4000 ∧ (numK[8]).has.data.toList.all (fun b => decide (b.toNat < 128)) = true := ⟨Nat.le_of_ble_eq_true rfl, by kernel_rfl⟩
theorem goodN9 : GoodR numPre (kdRow numK[9]) where
  name := ⟨[109, 97, 120], rfl, by kernel_rfl⟩
  nod := by decide
  word := numWord
  size := Nat.le_of_ble_eq_true rfl
  min := by decide
  max := .inr ⟨by decide, by decide⟩
  text := ⟨by decide, by decide⟩
  names := by decide
  ord := by kernel_rfl
  len := Nat.le_of_ble_eq_true (by kernel_rfl)
theorem hasN9 : (numK[9]).has.size ≤ 4000 ∧ (numK[9]).has.data.toList.all (fun b => decide (b.toNat < 128)) = true := ⟨Nat.le_of_ble_eq_true rfl, by kernel_rfl⟩
theorem goodN10 : GoodR numPre (kdRow numK[10]) where
  name := ⟨[108, 101, 115, 115], rfl, by kernel_rfl⟩
  nod := by decide
  word := numWord
  size := Nat.le_of_ble_eq_true rfl
  min := by decide
  max := .inr ⟨by decide, by decide⟩
  text := ⟨by decide, by decide⟩
  names := by decide
  ord := by kernel_rfl
  len := Nat.le_of_ble_eq_true (by kernel_rfl)
theorem hasN10 : (numK[10]).has.size ≤ 4000 ∧ (numK[10]).has.data.toList.all (fun b => decide (b.toNat < 128)) = true := ⟨Nat.le_of_ble_eq_true rfl, by kernel_rfl⟩
theorem goodN11 : GoodR numPre (kdRow numK[11]) where
  name := ⟨[109, 111, 115, 116], rfl, by kernel_rfl⟩
  nod := by decide
  word := numWord
  size := Nat.le_of_ble_eq_true rfl
  min := by decide
  max := .inr ⟨by decide, by decide⟩
  text := ⟨by decide, by decide⟩
  names := by decide
  ord := by kernel_rfl
  len := Nat.le_of_ble_eq_true (by kernel_rfl)
theorem hasN11 : (numK[11]).has.size ≤ 4000 ∧ (numK[11]).has.data.toList.all (fun b => decide (b.toNat < 128)) = true := ⟨Nat.le_of_ble_eq_true rfl, by kernel_rfl⟩
theorem goodN12 : GoodR numPre (kdRow numK[12]) where
  name := ⟨[115, 117, 109], rfl, by kernel_rfl⟩
  nod := by decide
  word := numWord
  size := Nat.le_of_ble_eq_true rfl
  min := by decide
  max := .inl rfl
  text := ⟨by decide, by decide⟩
  names := by decide
  ord := by kernel_rfl
  len := Nat.le_of_ble_eq_true (by kernel_rfl)
theorem hasN12 : (numK[12]).has.size ≤ 4000 ∧ (numK[12]).has.data.toList.all (fun b => decide (b.toNat < 128)) = true := ⟨Nat.le_of_ble_eq_true rfl, by kernel_rfl⟩
theorem goodN13 : GoodR numPre (kdRow numK[13]) where
  name := ⟨[105, 110, 99], rfl, by kernel_rfl⟩
  nod := by decide
  word := numWord
  size := Nat.le_of_ble_eq_true rfl
  min := by decide
  max := .inr ⟨by decide, by decide⟩
  text := ⟨by decide, by decide⟩
  names := by decide
  ord := by kernel_rfl
  len := Nat.le_of_ble_eq_true (by kernel_rfl)
theorem hasN13 : (numK[13]).has.size ≤ 4000 ∧ (numK[13]).has.data.toList.all (fun b => decide (b.toNat < 128)) = true := ⟨Nat.le_of_ble_eq_true rfl, by kernel_rfl⟩
theorem goodN14 : GoodR numPre (kdRow numK[14]) where
  name := ⟨[100, 101, 99], rfl, by kernel_rfl⟩
  nod := by decide
  word := numWord
  size := Nat.le_of_ble_eq_true rfl
  min := by decide
  max := .inr ⟨by decide, by decide⟩
  text := ⟨by decide, by decide⟩
  names := by decide
  ord := by kernel_rfl
  len := Nat.le_of_ble_eq_true (by kernel_rfl)
theorem hasN14 : (numK[14]).has.size ≤ 4000 ∧ (numK[14]).has.data.toList.all (fun b => decide (b.toNat < 128)) = true := ⟨Nat.le_of_ble_eq_true rfl, by kernel_rfl⟩
theorem numGood : GoodK numPre numK where
  pos := by decide
  lim := by decide
  rows := by
    intro k hk
    obtain ⟨i, hi, rfl⟩ := List.getElem_of_mem hk
    have hl : numK.length = 15 := rfl
    rw [hl] at hi
    match i, hi with
    | 0, _ => exact goodN0
    | 1, _ => exact goodN1
    | 2, _ => exact goodN2
    | 3, _ => exact goodN3
    | 4, _ => exact goodN4
    | 5, _ => exact goodN5
    | 6, _ => exact goodN6
    | 7, _ => exact goodN7
    | 8, _ => exact goodN8
    | 9, _ => exact goodN9
    | 10, _ => exact goodN10
    | 11, _ => exact goodN11
    | 12, _ => exact goodN12
    | 13, _ => exact goodN13
    | 14, _ => exact goodN14
    | n + 15, h => exact absurd h (by omega)
  has := by
    intro k hk
    obtain ⟨i, hi, rfl⟩ := List.getElem_of_mem hk
    have hl : numK.length = 15 := rfl
    rw [hl] at hi
    match i, hi with
    | 0, _ => exact hasN0
    | 1, _ => exact hasN1
    | 2, _ => exact hasN2
    | 3, _ => exact hasN3
    | 4, _ => exact hasN4
    | 5, _ => exact hasN5
    | 6, _ => exact hasN6
    | 7, _ => exact hasN7
    | 8, _ => exact hasN8
    | 9, _ => exact hasN9
    | 10, _ => exact hasN10
    | 11, _ => exact hasN11
    | 12, _ => exact hasN12
    | 13, _ => exact hasN13
    | 14, _ => exact hasN14
    | n + 15, h => exact absurd h (by omega)
  nodup := by decide
  word := numWord

set_option maxRecDepth 100000 in
set_option maxHeartbeats 1000000 in
theorem numKit_any (w : World) (hl : Laid w) : Calls Tryz.prog 27 #[] w (CKitR w numB numK) := by
  have HL := hid hl
  clear hl
  go_enter Tryz.func27, Tryz.ntmps27
  go_wp2_with fail
  refine (kindsN_any w).mono ?_
  rintro e w1 ⟨rfl, hx1⟩
  have X1 := hid hx1
  clear hx1
  rw [numA_agg]
  have hsz : numC.size = 135 := numC_size
  go_wp2_with fail
  rw [storeN w1 _ rfl]
  simp only [Result.andThen_ok, Oper.upon_skip]
  have HT := hid (show TabAt (w1.alloc (.cells numC 65)) w1.heap.size numK from ⟨65, by rw [← numC_tab]; exact blk0 _ _⟩)
  go_wp2_with fail
  refine (ckit_any (pre := numPre) numB rfl w1.heap.size numK _ numGood HT.out (HL.out.later (X1.out.trans (Ext.alloc _ _)))).mono ?_
  rintro e w2 ⟨base, kb, mb, lv', bx, rfl, hkm, hb, hx2⟩
  have HKM := hid hkm
  have HX2 := hid ((X1.out.trans (Ext.alloc _ _)).trans hx2)
  have HBS := hid (Nat.le_trans (X1.out.trans (Ext.alloc w1 (.cells numC 65))).size hb)
  clear hkm hx2 hb
  go_wp2_with fail
  go_ret
  exact ⟨base, kb, mb, lv', bx, rfl, HKM.out, HBS.out, HX2.out⟩
end Go.Proofs.YtgpggkepgoelfaaGreatDoor
