/-
  words.Kit by a contract.
-/
import Derived.Test.YtecabbifkcnbeaaGreatDoorCRight
import Derived.Test.YtecabbifkcnbeaaGreatDoorWKinds
import Derived.Test.YtecabbifkcnbeaaGreatDoorCWork
namespace Go.Proofs.YtecabbifkcnbeaaGreatDoor
open Go.RowKit
def wordsPre : List UInt8 := [119, 111, 114, 100, 115]
def wordsB : ByteArray := ⟨#[119, 111, 114, 100, 115]⟩
theorem wordsWord : speltB wordI 16 wordsPre = true := by kernel_rfl
theorem goodW0 : GoodR wordsPre (kdRow wordsK[0]) where
  name := ⟨[106, 111, 105, 110], rfl, by kernel_rfl⟩
  nod := by decide
  word := wordsWord
  size := Nat.le_of_ble_eq_true rfl
  min := by decide
  max := .inr ⟨by decide, by decide⟩
  text := ⟨by decide, by decide⟩
  names := by decide
  ord := by kernel_rfl
  len := Nat.le_of_ble_eq_true (by kernel_rfl)
theorem hasW0 : (wordsK[0]).has.size ≤ 4000 ∧ (wordsK[0]).has.data.toList.all (fun b => decide (b.toNat < 128)) = true := ⟨Nat.le_of_ble_eq_true rfl, by kernel_rfl⟩
theorem goodW1 : GoodR wordsPre (kdRow wordsK[1]) where
  name := ⟨[115, 105, 122, 101], rfl, by kernel_rfl⟩
  nod := by decide
  word := wordsWord
  size := Nat.le_of_ble_eq_true rfl
  min := by decide
  max := .inr ⟨by decide, by decide⟩
  text := ⟨by decide, by decide⟩
  names := by decide
  ord := by kernel_rfl
  len := Nat.le_of_ble_eq_true (by kernel_rfl)
theorem hasW1 : (wordsK[1]).has.size ≤ 4000 ∧ (wordsK[1]).has.data.toList.all (fun b => decide (b.toNat < 128)) = true := ⟨Nat.le_of_ble_eq_true rfl, by kernel_rfl⟩
theorem goodW2 : GoodR wordsPre (kdRow wordsK[2]) where
  name := ⟨[99, 117, 116], rfl, by kernel_rfl⟩
  nod := by decide
  word := wordsWord
  size := Nat.le_of_ble_eq_true rfl
  min := by decide
  max := .inr ⟨by decide, by decide⟩
  text := ⟨by decide, by decide⟩
  names := by decide
  ord := by kernel_rfl
  len := Nat.le_of_ble_eq_true (by kernel_rfl)
theorem hasW2 : (wordsK[2]).has.size ≤ 4000 ∧ (wordsK[2]).has.data.toList.all (fun b => decide (b.toNat < 128)) = true := ⟨Nat.le_of_ble_eq_true rfl, by kernel_rfl⟩
theorem goodW3 : GoodR wordsPre (kdRow wordsK[3]) where
  name := ⟨[102, 105, 110, 100], rfl, by kernel_rfl⟩
  nod := by decide
  word := wordsWord
  size := Nat.le_of_ble_eq_true rfl
  min := by decide
  max := .inr ⟨by decide, by decide⟩
  text := ⟨by decide, by decide⟩
  names := by decide
  ord := by kernel_rfl
  len := Nat.le_of_ble_eq_true (by kernel_rfl)
theorem hasW3 : (wordsK[3]).has.size ≤ 4000 ∧ (wordsK[3]).has.data.toList.all (fun b => decide (b.toNat < 128)) = true := ⟨Nat.le_of_ble_eq_true rfl, by kernel_rfl⟩
theorem goodW4 : GoodR wordsPre (kdRow wordsK[4]) where
  name := ⟨[114, 101, 112], rfl, by kernel_rfl⟩
  nod := by decide
  word := wordsWord
  size := Nat.le_of_ble_eq_true rfl
  min := by decide
  max := .inr ⟨by decide, by decide⟩
  text := ⟨by decide, by decide⟩
  names := by decide
  ord := by kernel_rfl
  len := Nat.le_of_ble_eq_true (by kernel_rfl)
theorem hasW4 : (wordsK[4]).has.size ≤ 4000 ∧ (wordsK[4]).has.data.toList.all (fun b => decide (b.toNat < 128)) = true := ⟨Nat.le_of_ble_eq_true rfl, by kernel_rfl⟩
theorem goodW5 : GoodR wordsPre (kdRow wordsK[5]) where
  name := ⟨[108, 101, 115, 115], rfl, by kernel_rfl⟩
  nod := by decide
  word := wordsWord
  size := Nat.le_of_ble_eq_true rfl
  min := by decide
  max := .inr ⟨by decide, by decide⟩
  text := ⟨by decide, by decide⟩
  names := by decide
  ord := by kernel_rfl
  len := Nat.le_of_ble_eq_true (by kernel_rfl)
theorem hasW5 : (wordsK[5]).has.size ≤ 4000 ∧ (wordsK[5]).has.data.toList.all (fun b => decide (b.toNat < 128)) = true := ⟨Nat.le_of_ble_eq_true rfl, by kernel_rfl⟩
theorem goodW6 : GoodR wordsPre (kdRow wordsK[6]) where
  name := ⟨[111, 102], rfl, by kernel_rfl⟩
  nod := by decide
  word := wordsWord
  size := Nat.le_of_ble_eq_true rfl
  min := by decide
  max := .inr ⟨by decide, by decide⟩
  text := ⟨by decide, by decide⟩
  names := by decide
  ord := by kernel_rfl
  len := Nat.le_of_ble_eq_true (by kernel_rfl)
theorem hasW6 : (wordsK[6]).has.size ≤ 4000 ∧ (wordsK[6]).has.data.toList.all (fun b => decide (b.toNat < 128)) = true := ⟨Nat.le_of_ble_eq_true rfl, by kernel_rfl⟩
theorem goodW7 : GoodR wordsPre (kdRow wordsK[7]) where
  name := ⟨[110, 117, 109], rfl, by kernel_rfl⟩
  nod := by decide
  word := wordsWord
  size := Nat.le_of_ble_eq_true rfl
  min := by decide
  max := .inr ⟨by decide, by decide⟩
  text := ⟨by decide, by decide⟩
  names := by decide
  ord := by kernel_rfl
  len := Nat.le_of_ble_eq_true (by kernel_rfl)
theorem hasW7 : (wordsK[7]).has.size ≤ 4000 ∧ (wordsK[7]).has.data.toList.all (fun b => decide (b.toNat < 128)) = true := ⟨Nat.le_of_ble_eq_true rfl, by kernel_rfl⟩
theorem goodW8 : GoodR wordsPre (kdRow wordsK[8]) where
  name := ⟨[97, 108, 108], rfl, by kernel_rfl⟩
  nod := by decide
  word := wordsWord
  size := Nat.le_of_ble_eq_true rfl
  min := by decide
  max := .inl rfl
  text := ⟨by decide, by decide⟩
  names := by decide
  ord := by kernel_rfl
  len := Nat.le_of_ble_eq_true (by kernel_rfl)
theorem hasW8 : (wordsK[8]).has.size ≤ 4000 ∧ (wordsK[8]).has.data.toList.all (fun b => decide (b.toNat < 128)) = true := ⟨Nat.le_of_ble_eq_true rfl, by kernel_rfl⟩
theorem wordsGood : GoodK wordsPre wordsK where
  pos := by decide
  lim := by decide
  rows := by
    intro k hk
    obtain ⟨i, hi, rfl⟩ := List.getElem_of_mem hk
    have hl : wordsK.length = 9 := rfl
    rw [hl] at hi
    match i, hi with
    | 0, _ => exact goodW0
    | 1, _ => exact goodW1
    | 2, _ => exact goodW2
    | 3, _ => exact goodW3
    | 4, _ => exact goodW4
    | 5, _ => exact goodW5
    | 6, _ => exact goodW6
    | 7, _ => exact goodW7
    | 8, _ => exact goodW8
    | n + 9, h => exact absurd h (by omega)
  has := by
    intro k hk
    obtain ⟨i, hi, rfl⟩ := List.getElem_of_mem hk
    have hl : wordsK.length = 9 := rfl
    rw [hl] at hi
    match i, hi with
    | 0, _ => exact hasW0
    | 1, _ => exact hasW1
    | 2, _ => exact hasW2
    | 3, _ => exact hasW3
    | 4, _ => exact hasW4
    | 5, _ => exact hasW5
    | 6, _ => exact hasW6
    | 7, _ => exact hasW7
    | 8, _ => exact hasW8
    | n + 9, h => exact absurd h (by omega)
  nodup := by decide
  word := wordsWord

set_option maxRecDepth 100000 in
set_option maxHeartbeats 1000000 in
theorem wordsKit_any (w : World) (hl : Laid w) : Calls Tryz.prog 25 #[] w (CKitR w wordsB wordsK) := by
  have HL := hid hl
  clear hl
  go_enter Tryz.func25, Tryz.ntmps25
  go_wp2_with fail
  refine (kindsW_any w).mono ?_
  rintro e w1 ⟨rfl, hx1⟩
  have X1 := hid hx1
  clear hx1
  rw [wordsA_agg]
  have hsz : wordsC.size = 81 := wordsC_size
  go_wp2_with fail
  rw [storeW w1 _ rfl]
  simp only [Result.andThen_ok, Oper.upon_skip]
  have HT := hid (show TabAt (w1.alloc (.cells wordsC 70)) w1.heap.size wordsK from ⟨70, by rw [← wordsC_tab]; exact blk0 _ _⟩)
  go_wp2_with fail
  refine (ckit_any (pre := wordsPre) wordsB rfl w1.heap.size wordsK _ wordsGood HT.out (HL.out.later (X1.out.trans (Ext.alloc _ _)))).mono ?_
  rintro e w2 ⟨base, kb, mb, lv', bx, rfl, hkm, htab, hb, hx2⟩
  have HKM := hid hkm
  have HTB := hid htab
  have HX2 := hid ((X1.out.trans (Ext.alloc _ _)).trans hx2)
  have HBS := hid (Nat.le_trans (X1.out.trans (Ext.alloc w1 (.cells wordsC 70))).size hb)
  clear hkm hx2 hb htab
  go_wp2_with fail
  go_ret
  exact ⟨base, kb, mb, lv', bx, rfl, HKM.out, HTB.out, HBS.out, HX2.out⟩
end Go.Proofs.YtecabbifkcnbeaaGreatDoor
/-
  Numbers and texts as plain values; the answers that operations give.
-/
namespace Go.Proofs.YtecabbifkcnbeaaGreatDoor
open Go.RowKit
/-- A number as a plain value. -/
def intT (n : Int) : T := .node 3 n ⟨#[]⟩ []
def unitT : T := .node 1 0 ⟨#[]⟩ []
theorem intT_may (n : Int) : (intT n).may := by
  refine ⟨⟨.inr (.inr (.inl ⟨rfl, rfl, rfl⟩)), trivial⟩, ?_, ?_⟩
  · show (T.node 3 n ⟨#[]⟩ []).size ≤ 65536
    simp only [T.size, T.sizeL]; decide
  · show (T.node 3 n ⟨#[]⟩ []).deep ≤ 64
    simp only [T.deep]; simp
theorem unitT_may : unitT.may := by
  refine ⟨⟨.inl ⟨rfl, rfl, rfl, rfl⟩, trivial⟩, ?_, ?_⟩
  · show (T.node 1 0 ⟨#[]⟩ []).size ≤ 65536
    simp only [T.size, T.sizeL]; decide
  · show (T.node 1 0 ⟨#[]⟩ []).deep ≤ 64
    simp only [T.deep]; simp
theorem VRd.int {K : Nat → Prop} {w : World} {d : Nat} {v : Value} {n : Int} (h : VRd K w d v (intT n)) : v = .iface 51 (.int .i64 n) := by
  cases d with
  | zero => exact h.elim
  | succ d =>
    rcases h with ⟨h, _⟩ | ⟨h, _⟩ | ⟨_, _, _, h⟩ | ⟨h, _⟩ | ⟨h, _⟩
    · exact absurd h (by decide)
    · exact absurd h (by decide)
    · exact h
    · exact absurd h (by decide)
    · exact absurd h (by decide)
theorem NRes.came (n : Int) : NRes (cameV n) := .inl ⟨n, rfl⟩
theorem NRes.told (b : Bool) : NRes (toldV b) := .inr (.inl ⟨b, rfl⟩)
theorem NRes.ref {c : Int} (h : (c == 0) = false) : NRes (refV c) := .inr (.inr (.inl ⟨c, h, rfl⟩))
theorem NRes.wrote {s : ByteArray} (h : s.size ≤ 65535) : NRes (wroteV s) := .inr (.inr (.inr ⟨s, h, rfl⟩))
theorem NRes.three {R : Value} (h : NRes R) : ∃ x y z, R = .tuple #[x, y, z] := by
  rcases h with ⟨_, rfl⟩ | ⟨_, rfl⟩ | ⟨_, _, rfl⟩ | ⟨_, _, rfl⟩ <;> exact ⟨_, _, _, rfl⟩
/-- A text as a plain value. -/
def textT (s : ByteArray) : T := .node 4 0 s []
theorem textT_may {s : ByteArray} (h : s.size ≤ 65535) : (textT s).may := by
  refine ⟨⟨.inr (.inr (.inr (.inl ⟨rfl, rfl, rfl⟩))), trivial⟩, ?_, ?_⟩
  · show (T.node 4 0 s []).size ≤ 65536
    simp only [T.size, T.sizeL]; omega
  · show (T.node 4 0 s []).deep ≤ 64
    simp only [T.deep]; simp
theorem textT_not {s : ByteArray} (h : 65535 < s.size) : ¬ (textT s).may := by
  intro hm
  have : (T.node 4 0 s []).size ≤ 65536 := hm.2.1
  simp only [T.size, T.sizeL] at this
  omega
theorem VRd.text {K : Nat → Prop} {w : World} {d : Nat} {v : Value} {s : ByteArray} (h : VRd K w d v (textT s)) : v = .iface 98 (.string s) := by
  cases d with
  | zero => exact h.elim
  | succ d =>
    rcases h with ⟨h, _⟩ | ⟨h, _⟩ | ⟨h, _⟩ | ⟨_, _, _, _, h⟩ | ⟨h, _⟩
    · exact absurd h (by decide)
    · exact absurd h (by decide)
    · exact absurd h (by decide)
    · exact h
    · exact absurd h (by decide)
end Go.Proofs.YtecabbifkcnbeaaGreatDoor
