/-
  guard.Kit by a contract.
-/
import Derived.Test.YtnmcmjgfnncdmabGreatDoorBLaw
import Derived.Test.YtnmcmjgfnncdmabGreatDoorGKinds
namespace Go.Proofs.YtnmcmjgfnncdmabGreatDoor.Nd
open Go.RowKit
def guardPre : List UInt8 := [103, 117, 97, 114, 100]
def guardB : ByteArray := ⟨#[103, 117, 97, 114, 100]⟩
theorem guardWord : speltB wordI 16 guardPre = true := by kernel_rfl
theorem goodG0 : GoodR guardPre (kdRow guardK[0]) where
  name := ⟨[114, 97, 105, 115, 101], rfl, by kernel_rfl⟩
  nod := by decide
  word := guardWord
  size := Nat.le_of_ble_eq_true rfl
  min := by decide
  max := .inr ⟨by decide, by decide⟩
  text := ⟨by decide, by decide⟩
  names := by decide
  ord := by kernel_rfl
  len := Nat.le_of_ble_eq_true (by kernel_rfl)
theorem hasG0 : (guardK[0]).has.size ≤ 4000 ∧ (guardK[0]).has.data.toList.all (fun b => decide (b.toNat < 128)) = true := ⟨Nat.le_of_ble_eq_true rfl, by kernel_rfl⟩
theorem goodG1 : GoodR guardPre (kdRow guardK[1]) where
  name := ⟨[99, 104, 101, 99, 107], rfl, by kernel_rfl⟩
  nod := by decide
  word := guardWord
  size := Nat.le_of_ble_eq_true rfl
  min := by decide
  max := .inr ⟨by decide, by decide⟩
  text := ⟨by decide, by decide⟩
  names := by decide
  ord := by kernel_rfl
  len := Nat.le_of_ble_eq_true (by kernel_rfl)
theorem hasG1 : (guardK[1]).has.size ≤ 4000 ∧ (guardK[1]).has.data.toList.all (fun b => decide (b.toNat < 128)) = true := ⟨Nat.le_of_ble_eq_true rfl, by kernel_rfl⟩
theorem goodG2 : GoodR guardPre (kdRow guardK[2]) where
  name := ⟨[116, 114, 121], rfl, by kernel_rfl⟩
  nod := by decide
  word := guardWord
  size := Nat.le_of_ble_eq_true rfl
  min := by decide
  max := .inr ⟨by decide, by decide⟩
  text := ⟨by decide, by decide⟩
  names := by decide
  ord := by kernel_rfl
  len := Nat.le_of_ble_eq_true (by kernel_rfl)
theorem hasG2 : (guardK[2]).has.size ≤ 4000 ∧ (guardK[2]).has.data.toList.all (fun b => decide (b.toNat < 128)) = true := ⟨Nat.le_of_ble_eq_true rfl, by kernel_rfl⟩
theorem goodG3 : GoodR guardPre (kdRow guardK[3]) where
  name := ⟨[99, 97, 116, 99, 104], rfl, by kernel_rfl⟩
  nod := by decide
  word := guardWord
  size := Nat.le_of_ble_eq_true rfl
  min := by decide
  max := .inr ⟨by decide, by decide⟩
  text := ⟨by decide, by decide⟩
  names := by decide
  ord := by kernel_rfl
  len := Nat.le_of_ble_eq_true (by kernel_rfl)
theorem hasG3 : (guardK[3]).has.size ≤ 4000 ∧ (guardK[3]).has.data.toList.all (fun b => decide (b.toNat < 128)) = true := ⟨Nat.le_of_ble_eq_true rfl, by kernel_rfl⟩
theorem guardGood : GoodK guardPre guardK where
  pos := by decide
  lim := by decide
  rows := by
    intro k hk
    obtain ⟨i, hi, rfl⟩ := List.getElem_of_mem hk
    have hl : guardK.length = 4 := rfl
    rw [hl] at hi
    match i, hi with
    | 0, _ => exact goodG0
    | 1, _ => exact goodG1
    | 2, _ => exact goodG2
    | 3, _ => exact goodG3
    | n + 4, h => exact absurd h (by omega)
  has := by
    intro k hk
    obtain ⟨i, hi, rfl⟩ := List.getElem_of_mem hk
    have hl : guardK.length = 4 := rfl
    rw [hl] at hi
    match i, hi with
    | 0, _ => exact hasG0
    | 1, _ => exact hasG1
    | 2, _ => exact hasG2
    | 3, _ => exact hasG3
    | n + 4, h => exact absurd h (by omega)
  nodup := by decide
  word := guardWord

set_option maxRecDepth 100000 in
set_option maxHeartbeats 1000000 in
theorem guardKit_any (w : World) (hl : Laid w) : Calls Tryz.prog 9 #[] w (CKitR w guardB guardK) := by
  have HL := hid hl
  clear hl
  go_enter Tryz.func9, Tryz.ntmps9
  go_wp2_with fail
  refine (kindsG_any w).mono ?_
  rintro e w1 ⟨rfl, hx1⟩
  have X1 := hid hx1
  clear hx1
  rw [guardA_agg]
  have hsz : guardC.size = 36 := guardC_size
  go_wp2_with fail
  rw [storeG w1 _ _ rfl]
  simp only [Result.andThen_ok, Oper.upon_skip]
  have HT := hid (show TabAt (w1.alloc (.cells guardC 68)) w1.heap.size guardK from ⟨68, by rw [← guardC_tab]; exact blk0 _ _⟩)
  go_wp2_with fail
  refine (ckit_any (pre := guardPre) guardB rfl w1.heap.size guardK _ guardGood HT.out (HL.out.later (X1.out.trans (Ext.alloc _ _)))).mono ?_
  rintro e w2 ⟨base, kb, mb, lv', bx, rfl, hkm, htab, hb, hx2⟩
  have HKM := hid hkm
  have HTB := hid htab
  have HX2 := hid ((X1.out.trans (Ext.alloc _ _)).trans hx2)
  have HBS := hid (Nat.le_trans (X1.out.trans (Ext.alloc w1 (.cells guardC 68))).size hb)
  clear hkm hx2 hb htab
  go_wp2_with fail
  go_ret
  exact ⟨base, kb, mb, lv', bx, rfl, HKM.out, HTB.out, HBS.out, HX2.out⟩
  exact rfl
end Go.Proofs.YtnmcmjgfnncdmabGreatDoor.Nd
