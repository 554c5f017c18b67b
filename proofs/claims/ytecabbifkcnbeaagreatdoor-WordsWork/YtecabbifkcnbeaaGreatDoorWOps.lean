/-
  Digits of the reference, by a contract: a number's digits, for every number of 64 bits.
-/
import Derived.Test.YtecabbifkcnbeaaGreatDoorWrite
import Derived.Laws.BytesArg
import Derived.Test.YtecabbifkcnbeaaGreatDoorCRight
import Derived.Test.YtecabbifkcnbeaaGreatDoorShelf
import Derived.Laws.Concat
import Derived.Deep.RegionHeld3
import Derived.WalkMore
namespace Go.Proofs.YtecabbifkcnbeaaGreatDoor
open Go.RowKit
theorem sizeOf_byte (W : World) : (Go.sizeOf 5).run Tryz.prog W = .ok 1 W := by
  obtain ⟨i, hi, _, h1, _⟩ := info_parts byteInfo
  simp [Go.sizeOf, typeInfo, hi, h1]
/-- The digits of a number, at most f of them. -/
def digs : Nat → Nat → List Int
  | 0, _ => []
  | f + 1, n => if n < 10 then [48 + (n : Int)] else digs f (n / 10) ++ [48 + ((n % 10 : Nat) : Int)]
theorem digs_last {k m : Nat} (hk : 1 ≤ k) (h : m / 10 = 0) : digs k m = [48 + ((m % 10 : Nat) : Int)] := by
  obtain ⟨f, rfl⟩ : ∃ f, k = f + 1 := ⟨k - 1, by omega⟩
  have hm : m < 10 := by omega
  unfold digs
  rw [if_pos hm, Nat.mod_eq_of_lt hm]
theorem digs_more {k m : Nat} (hk : 1 ≤ k) (h : ¬ m / 10 = 0) : digs k m = digs (k - 1) (m / 10) ++ [48 + ((m % 10 : Nat) : Int)] := by
  obtain ⟨f, rfl⟩ : ∃ f, k = f + 1 := ⟨k - 1, by omega⟩
  rw [show digs (f + 1) m = _ from rfl, digs, if_neg (by omega)]
  simp
theorem digs_dec : ∀ (f n : Nat), 1 ≤ f → n < 10 ^ f → (digs f n).map (fun i => UInt8.ofNat i.toNat) = Lib.decDigits n := by
  intro f
  induction f with
  | zero => intro n h _; omega
  | succ f ih =>
    intro n _ hn
    rw [digs, Lib.decDigits]
    by_cases h : n < 10
    · rw [if_pos h, dif_pos h]
      simp only [List.map_cons, List.map_nil]
      rw [show (48 + (n : Int)).toNat = 48 + n by omega]
    · rw [if_neg h, dif_neg h, List.map_append]
      have hf : 1 ≤ f := by
        rcases Nat.eq_zero_or_pos f with e | e
        · subst e; simp at hn; omega
        · exact e
      rw [ih (n / 10) hf (by rw [Nat.div_lt_iff_lt_mul (by decide), ← Nat.pow_succ]; exact hn)]
      simp only [List.map_cons, List.map_nil]
      rw [show (48 + ((n % 10 : Nat) : Int)).toNat = 48 + n % 10 by omega]
/-- What the loop holds. -/
def DgSt (w : World) (n k m : Nat) (acc : List Int) (cs : Array Value) (wr : World) : Prop :=
  m < 10 ^ (k - 1) ∧ Kp (fun q => q ≠ w.heap.size) w wr ∧ wr.heap[w.heap.size]? = some (.cells cs 178) ∧ cs.size = 21 ∧ acc.length = 21 - k ∧ (∀ i, i < acc.length → cs[k + i]? = some (.int .u8 (acc.getD i 0))) ∧ digs k m ++ acc = digs 21 n
set_option maxRecDepth 100000 in
set_option maxHeartbeats 2000000 in
theorem digits_pos (n : Nat) (hn : n < 9223372036854775808) (w : World) : Calls Tryz.prog 67 #[.int .i64 n] w fun e w' => e = .returned (.string (strOfNums (digs 21 n))) ∧ Ext w w' := by
  have hw0 : IntKind.u64.wrap (n : Int) = n := by rw [IntKind.wrap_u64]; omega
  have hn0 : decide ((n : Int) < 0) = false := decide_eq_false (by omega)
  go_enter Tryz.func67, Tryz.ntmps67
  go_wp2_with fail
  go_loopw [4, 5] (fun a u wr => ∃ (k m : Nat) (acc : List Int) (cs : Array Value), 2 ≤ k ∧ k ≤ 21 ∧ m ≤ n ∧ a = .int .i64 k ∧ u = .int .u64 m ∧ DgSt w n k m acc cs wr) (fun a _ _ => (intOf a).toNat)
  case atStart => exact ⟨21, n, [], _, by omega, Nat.le_refl _, Nat.le_refl _, rfl, rfl, (show n < 10 ^ 20 from Nat.lt_of_le_of_lt (Nat.le_of_lt hn) (by decide)), (Ext.alloc _ _).kp _, blk0 _ _, by simp, rfl, fun i hi => absurd hi (by simp), by simp⟩
  case round =>
    obtain ⟨k, m, acc, cs, hk1, hk2, hmn, rfl, rfl, hst⟩ := hrel
    have HST := hid hst
    obtain ⟨hm, hkp, hb, hcs, hal, hcc, hdg⟩ := hst
    have c0 := cell_of (i := k - 1) hb (Array.getElem?_eq_getElem (by omega))
    have f0 := frozen_of (i := k - 1) hb
    have hk0 : ((k : Int) - 1).toNat = k - 1 := by omega
    have hkI : (k : Int) - 1 = ((k - 1 : Nat) : Int) := by omega
    have hw1 : IntKind.u64.wrap (48 + (m : Int) % 10) = 48 + (m : Int) % 10 := by rw [IntKind.wrap_u64]; omega
    have hw2 : IntKind.u8.wrap (48 + (m : Int) % 10) = 48 + (m : Int) % 10 := by rw [IntKind.wrap_u8]; omega
    have hbl := lt_of_block hb
    clear hm hkp hcc hdg hb
    have HC0 := hid (And.intro hcs hal)
    have STEP := hid (show ∃ cs', ((wr.setCell ⟨w.heap.size, k - 1, none⟩ (.int .u8 (48 + (m : Int) % 10))).heap[w.heap.size]? = some (.cells cs' 178) ∧ cs'.size = 21 ∧ Kp (fun q => q ≠ w.heap.size) w (wr.setCell ⟨w.heap.size, k - 1, none⟩ (.int .u8 (48 + (m : Int) % 10))) ∧ ∀ i, i < ((48 + (m : Int) % 10) :: acc).length → cs'[k - 1 + i]? = some (.int .u8 (((48 + (m : Int) % 10) :: acc).getD i 0))) by
      obtain ⟨hm, hkp, hb, hcs, hal, hcc, hdg⟩ := HST.out
      refine ⟨_, set_at hb _ _, by simpa using hcs, hkp.trans (Kp.set _ _ _ _ (fun h => h rfl)), fun i hi => ?_⟩
      match i with
      | 0 => rw [Nat.add_zero, Array.getElem?_setIfInBounds_self_of_lt (by omega)]; rfl
      | i + 1 =>
        rw [Array.getElem?_setIfInBounds_ne (by omega), show k - 1 + (i + 1) = k + i by omega, hcc i (by simpa using hi)]
        rfl)
    by_cases h0 : m / 10 = 0
    · have h0' : (((m : Int) / 10) == 0) = true := by rw [beq_iff_eq]; omega
      have hsl : ∀ W, (Instr.sliceAt 178 (.pointer (some ⟨w.heap.size, 0, none⟩)) (some (.int .i64 ((k - 1 : Nat) : Int))) none none).run Tryz.prog W = .ok (.slice (some ⟨w.heap.size, k - 1, none⟩) (21 - (k - 1)) (21 - (k - 1))) W := fun W => by
        have ht : Tryz.prog.underlying 178 = some (.array (Tryz.prog.arrayLen 178) (Tryz.prog.elem 178)) := by kernel_rfl
        have h21 : Tryz.prog.arrayLen 178 = 21 := by kernel_rfl
        have hel : Tryz.prog.elem 178 = 5 := by kernel_rfl
        rw [run_sliceAt_array_l W 178 _ ht .i64 _ (by omega) (by rw [h21]; omega), h21, hel, sizeOf_byte]
        simp only [Result.andThen, slicedAt, Int.toNat_natCast, Nat.mul_one]
        rw [if_neg (by omega)]
        simp [Addr.add]
        omega
      have hcv : (convert 177 9 (.slice (some ⟨w.heap.size, k - 1, none⟩) (21 - (k - 1)) (21 - (k - 1)))).run Tryz.prog (wr.setCell ⟨w.heap.size, k - 1, none⟩ (.int .u8 (48 + (m : Int) % 10))) = .ok (.string (strOfNums (digs 21 n))) (wr.setCell ⟨w.heap.size, k - 1, none⟩ (.int .u8 (48 + (m : Int) % 10))) := by
        obtain ⟨hm, hkp, hb, hcs, hal, hcc, hdg⟩ := HST.out
        obtain ⟨cs', h1, h2, h3, h4⟩ := STEP.out
        have hmI : (m : Int) % 10 = ((m % 10 : Nat) : Int) := by omega
        have e : digs 21 n = (48 + (m : Int) % 10) :: acc := by rw [← hdg, digs_last (by omega) h0, hmI]; rfl
        rw [e]
        have hl : ((48 + (m : Int) % 10) :: acc).length = 21 - (k - 1) := by simp; omega
        exact run_convert_bytes_arg _ 177 5 (by kernel_rfl) (by kernel_rfl) w.heap.size (k - 1) (21 - (k - 1)) (21 - (k - 1)) _ hl (fun i hi => cell_of h1 (h4 i (by omega))) 9 (by kernel_rfl)
      go_wp2_with fail
      go_ret
      obtain ⟨cs', h1, h2, h3, h4⟩ := STEP.out
      exact ⟨rfl, Kp.ext h3 (fun q hq e => by omega)⟩
    · have h0' : (((m : Int) / 10) == 0) = false := by rw [beq_eq_false_iff_ne]; omega
      go_wp2_with fail
      obtain ⟨hm, hkp, hb, hcs, hal, hcc, hdg⟩ := HST.out
      obtain ⟨cs', h1, h2, h3, h4⟩ := STEP.out
      have hm' : m / 10 < 10 ^ (k - 1 - 1) := by
        rw [Nat.div_lt_iff_lt_mul (by decide)]
        have e : 10 ^ (k - 1) = 10 ^ (k - 1 - 1) * 10 := by rw [← Nat.pow_succ, show (k - 1 - 1).succ = k - 1 by omega]
        omega
      have hk3 : 2 ≤ k - 1 := by
        rcases Nat.lt_or_ge (k - 1) 2 with e | e
        · have e2 : k - 1 - 1 = 0 := by omega
          rw [e2] at hm'; simp at hm'; omega
        · exact e
      refine ⟨⟨k - 1, m / 10, (48 + (m : Int) % 10) :: acc, cs', hk3, by omega, by omega, rfl, by congr 1, hm', h3, h1, h2, by simp; omega, h4, ?_⟩, by simp [intOf]; omega⟩
      have hmI : (m : Int) % 10 = ((m % 10 : Nat) : Int) := by omega
      rw [← hdg, digs_more (by omega) h0, hmI]
      simp
set_option maxRecDepth 100000 in
set_option maxHeartbeats 2000000 in
theorem digits_neg (n : Nat) (h1 : 1 ≤ n) (hn : n ≤ 9223372036854775808) (w : World) : Calls Tryz.prog 67 #[.int .i64 (-(n : Int))] w fun e w' => e = .returned (.string (strOfNums (45 :: digs 21 n))) ∧ Ext w w' := by
  have hw0 : IntKind.u64.wrap (-(n : Int)) = 18446744073709551616 - n := by rw [IntKind.wrap_u64]; omega
  have hw9 : IntKind.u64.wrap (-(18446744073709551616 - (n : Int))) = n := by rw [IntKind.wrap_u64]; omega
  have hw8 : IntKind.u64.wrap ((n : Int) - 18446744073709551616) = n := by rw [IntKind.wrap_u64]; omega
  have hn0 : decide (-(n : Int) < 0) = true := decide_eq_true (by omega)
  have hn1 : decide (0 < n) = true := decide_eq_true (by omega)
  have hn2 : 0 < n := h1
  have hn3 : -(n : Int) < 0 := by omega
  go_enter Tryz.func67, Tryz.ntmps67
  go_wp2_with fail
  go_loopw [4, 5] (fun a u wr => ∃ (k m : Nat) (acc : List Int) (cs : Array Value), 2 ≤ k ∧ k ≤ 21 ∧ m ≤ n ∧ a = .int .i64 k ∧ u = .int .u64 m ∧ DgSt w n k m acc cs wr) (fun a _ _ => (intOf a).toNat)
  case atStart => exact ⟨21, n, [], _, by omega, Nat.le_refl _, Nat.le_refl _, rfl, rfl, (show n < 10 ^ 20 from Nat.lt_of_le_of_lt hn (by decide)), (Ext.alloc _ _).kp _, blk0 _ _, by simp, rfl, fun i hi => absurd hi (by simp), by simp⟩
  case round =>
    obtain ⟨k, m, acc, cs, hk1, hk2, hmn, rfl, rfl, hst⟩ := hrel
    have HST := hid hst
    obtain ⟨hm, hkp, hb, hcs, hal, hcc, hdg⟩ := hst
    have c0 := cell_of (i := k - 1) hb (Array.getElem?_eq_getElem (by omega))
    have f0 := frozen_of (i := k - 1) hb
    have hk0 : ((k : Int) - 1).toNat = k - 1 := by omega
    have hkI : (k : Int) - 1 = ((k - 1 : Nat) : Int) := by omega
    have hw1 : IntKind.u64.wrap (48 + (m : Int) % 10) = 48 + (m : Int) % 10 := by rw [IntKind.wrap_u64]; omega
    have hw2 : IntKind.u8.wrap (48 + (m : Int) % 10) = 48 + (m : Int) % 10 := by rw [IntKind.wrap_u8]; omega
    have hbl := lt_of_block hb
    clear hm hkp hcc hdg hb
    have HC0 := hid (And.intro hcs hal)
    have STEP := hid (show ∃ cs', ((wr.setCell ⟨w.heap.size, k - 1, none⟩ (.int .u8 (48 + (m : Int) % 10))).heap[w.heap.size]? = some (.cells cs' 178) ∧ cs'.size = 21 ∧ Kp (fun q => q ≠ w.heap.size) w (wr.setCell ⟨w.heap.size, k - 1, none⟩ (.int .u8 (48 + (m : Int) % 10))) ∧ ∀ i, i < ((48 + (m : Int) % 10) :: acc).length → cs'[k - 1 + i]? = some (.int .u8 (((48 + (m : Int) % 10) :: acc).getD i 0))) by
      obtain ⟨hm, hkp, hb, hcs, hal, hcc, hdg⟩ := HST.out
      refine ⟨_, set_at hb _ _, by simpa using hcs, hkp.trans (Kp.set _ _ _ _ (fun h => h rfl)), fun i hi => ?_⟩
      match i with
      | 0 => rw [Nat.add_zero, Array.getElem?_setIfInBounds_self_of_lt (by omega)]; rfl
      | i + 1 =>
        rw [Array.getElem?_setIfInBounds_ne (by omega), show k - 1 + (i + 1) = k + i by omega, hcc i (by simpa using hi)]
        rfl)
    by_cases h0 : m / 10 = 0
    · have h0' : (((m : Int) / 10) == 0) = true := by rw [beq_iff_eq]; omega
      have hk9 : ((k - 1 : Nat) : Int) - 1 = ((k - 1 - 1 : Nat) : Int) := by omega
      have hk8 : (k : Int) - 1 - 1 = ((k - 1 - 1 : Nat) : Int) := by omega
      have hk7 : (((k - 1 : Nat) : Int) - 1).toNat = k - 1 - 1 := by omega
      have STEP2 := hid (show ∃ cs', (((wr.setCell ⟨w.heap.size, k - 1, none⟩ (.int .u8 (48 + (m : Int) % 10))).setCell ⟨w.heap.size, k - 1 - 1, none⟩ (.int .u8 45)).heap[w.heap.size]? = some (.cells cs' 178) ∧ cs'.size = 21 ∧ Kp (fun q => q ≠ w.heap.size) w ((wr.setCell ⟨w.heap.size, k - 1, none⟩ (.int .u8 (48 + (m : Int) % 10))).setCell ⟨w.heap.size, k - 1 - 1, none⟩ (.int .u8 45)) ∧ ∀ i, i < (45 :: (48 + (m : Int) % 10) :: acc).length → cs'[k - 1 - 1 + i]? = some (.int .u8 ((45 :: (48 + (m : Int) % 10) :: acc).getD i 0))) by
        obtain ⟨cs', hb, hcs, hkp, hcc⟩ := STEP.out
        refine ⟨_, set_at hb _ _, by simpa using hcs, hkp.trans (Kp.set _ _ _ _ (fun h => h rfl)), fun i hi => ?_⟩
        match i with
        | 0 => rw [Nat.add_zero, Array.getElem?_setIfInBounds_self_of_lt (by omega)]; rfl
        | i + 1 =>
          rw [Array.getElem?_setIfInBounds_ne (by omega), show k - 1 - 1 + (i + 1) = k - 1 + i by omega, hcc i (by simpa using hi)]
          rfl)
      obtain ⟨cs8, hb8, hcs8, _, _⟩ := id STEP.out
      have c8 := cell_of (i := k - 1 - 1) hb8 (Array.getElem?_eq_getElem (by omega))
      have f8 := frozen_of (i := k - 1 - 1) hb8
      clear hb8
      have hsl : ∀ W, (Instr.sliceAt 178 (.pointer (some ⟨w.heap.size, 0, none⟩)) (some (.int .i64 ((k - 1 - 1 : Nat) : Int))) none none).run Tryz.prog W = .ok (.slice (some ⟨w.heap.size, k - 1 - 1, none⟩) (21 - (k - 1 - 1)) (21 - (k - 1 - 1))) W := fun W => by
        have ht : Tryz.prog.underlying 178 = some (.array (Tryz.prog.arrayLen 178) (Tryz.prog.elem 178)) := by kernel_rfl
        have h21 : Tryz.prog.arrayLen 178 = 21 := by kernel_rfl
        have hel : Tryz.prog.elem 178 = 5 := by kernel_rfl
        rw [run_sliceAt_array_l W 178 _ ht .i64 _ (by omega) (by rw [h21]; omega), h21, hel, sizeOf_byte]
        simp only [Result.andThen, slicedAt, Int.toNat_natCast, Nat.mul_one]
        rw [if_neg (by omega)]
        simp [Addr.add]
        omega
      have hcv : (convert 177 9 (.slice (some ⟨w.heap.size, k - 1 - 1, none⟩) (21 - (k - 1 - 1)) (21 - (k - 1 - 1)))).run Tryz.prog ((wr.setCell ⟨w.heap.size, k - 1, none⟩ (.int .u8 (48 + (m : Int) % 10))).setCell ⟨w.heap.size, k - 1 - 1, none⟩ (.int .u8 45)) = .ok (.string (strOfNums (45 :: digs 21 n))) ((wr.setCell ⟨w.heap.size, k - 1, none⟩ (.int .u8 (48 + (m : Int) % 10))).setCell ⟨w.heap.size, k - 1 - 1, none⟩ (.int .u8 45)) := by
        obtain ⟨hm, hkp, hb, hcs, hal, hcc, hdg⟩ := HST.out
        obtain ⟨cs', h1, h2, h3, h4⟩ := STEP2.out
        have hmI : (m : Int) % 10 = ((m % 10 : Nat) : Int) := by omega
        have e : digs 21 n = (48 + (m : Int) % 10) :: acc := by rw [← hdg, digs_last (by omega) h0, hmI]; rfl
        rw [e]
        have hl : (45 :: (48 + (m : Int) % 10) :: acc).length = 21 - (k - 1 - 1) := by simp; omega
        exact run_convert_bytes_arg _ 177 5 (by kernel_rfl) (by kernel_rfl) w.heap.size (k - 1 - 1) (21 - (k - 1 - 1)) (21 - (k - 1 - 1)) _ hl (fun i hi => cell_of h1 (h4 i (by omega))) 9 (by kernel_rfl)
      go_wp2_with fail
      go_ret
      obtain ⟨cs', h1, h2, h3, h4⟩ := STEP2.out
      exact ⟨rfl, Kp.ext h3 (fun q hq e => by omega)⟩
    · have h0' : (((m : Int) / 10) == 0) = false := by rw [beq_eq_false_iff_ne]; omega
      go_wp2_with fail
      obtain ⟨hm, hkp, hb, hcs, hal, hcc, hdg⟩ := HST.out
      obtain ⟨cs', h1, h2, h3, h4⟩ := STEP.out
      have hm' : m / 10 < 10 ^ (k - 1 - 1) := by
        rw [Nat.div_lt_iff_lt_mul (by decide)]
        have e : 10 ^ (k - 1) = 10 ^ (k - 1 - 1) * 10 := by rw [← Nat.pow_succ, show (k - 1 - 1).succ = k - 1 by omega]
        omega
      have hk3 : 2 ≤ k - 1 := by
        rcases Nat.lt_or_ge (k - 1) 2 with e | e
        · have e2 : k - 1 - 1 = 0 := by omega
          rw [e2] at hm'; simp at hm'; omega
        · exact e
      refine ⟨⟨k - 1, m / 10, (48 + (m : Int) % 10) :: acc, cs', hk3, by omega, by omega, rfl, by congr 1, hm', h3, h1, h2, by simp; omega, h4, ?_⟩, by simp [intOf]; omega⟩
      have hmI : (m : Int) % 10 = ((m % 10 : Nat) : Int) := by omega
      rw [← hdg, digs_more (by omega) h0, hmI]
      simp
/-- A number's digits as a text. -/
def itoaS (n : Int) : ByteArray := ⟨(Lib.itoa n).toArray⟩
theorem rdigits_any (n : Int) (h0 : -9223372036854775808 ≤ n) (h1 : n ≤ 9223372036854775807) (w : World) : Calls Tryz.prog 67 #[.int .i64 n] w fun e w' => e = .returned (.string (itoaS n)) ∧ Ext w w' := by
  by_cases hn : n < 0
  · obtain ⟨m, rfl⟩ : ∃ m : Nat, n = -(m : Int) := ⟨n.natAbs, by omega⟩
    refine (digits_neg m (by omega) (by omega) w).mono ?_
    rintro e w' ⟨rfl, hx⟩
    refine ⟨?_, hx⟩
    have e1 := digs_dec 21 m (by decide) (Nat.lt_of_le_of_lt (show m ≤ 9223372036854775808 by omega) (by decide))
    unfold itoaS strOfNums
    rw [Lib.itoa, if_pos hn, List.map_cons, e1, show (-(m : Int)).natAbs = m by omega]
    rfl
  · obtain ⟨m, rfl⟩ : ∃ m : Nat, n = (m : Int) := ⟨n.toNat, by omega⟩
    refine (digits_pos m (by omega) w).mono ?_
    rintro e w' ⟨rfl, hx⟩
    refine ⟨?_, hx⟩
    have e1 := digs_dec 21 m (by decide) (Nat.lt_of_le_of_lt (show m ≤ 9223372036854775808 by omega) (by decide))
    unfold itoaS strOfNums
    rw [Lib.itoa, if_neg hn, e1, Int.toNat_natCast]
end Go.Proofs.YtecabbifkcnbeaaGreatDoor
/-
  The operations on texts (package words), each by a contract.
-/
namespace Go.Proofs.YtecabbifkcnbeaaGreatDoor
open Go.RowKit
theorem wcame_any (n : Int) (w : World) : Calls Tryz.prog 101 #[.int .i64 n] w fun e w' => e = .returned (cameV n) ∧ w' = w := by
  go_enter Tryz.func101, Tryz.ntmps101
  go_wp2_with fail
  go_ret3
  exact ⟨rfl, rfl⟩
theorem wrote_any (s : ByteArray) (w : World) : Calls Tryz.prog 100 #[.string s] w fun e w' => e = .returned (wroteV s) ∧ w' = w := by
  go_enter Tryz.func100, Tryz.ntmps100
  go_wp2_with fail
  go_ret3
  exact ⟨rfl, rfl⟩
theorem wref_any (c : Int) (w : World) : Calls Tryz.prog 99 #[.int .i64 c] w fun e w' => e = .returned (refV c) ∧ w' = w := by
  go_enter Tryz.func99, Tryz.ntmps99
  go_wp2_with fail
  go_ret3
  exact ⟨rfl, rfl⟩
theorem wtext0 (g n c : Nat) (s : ByteArray) (w : World) (hn : 0 < n) (h : w.cell? ⟨g, 0, none⟩ = some (.iface 98 (.string s))) : Calls Tryz.prog 98 #[.slice (some ⟨g, 0, none⟩) n c, .int .i64 0] w fun e w' => e = .returned (.string s) ∧ w' = w := by
  have hta := fun (v : Value) (w : World) => to_tx v w
  have hn' : (0 : Int) < n := by omega
  go_enter Tryz.func98, Tryz.ntmps98
  go_wp2_with fail
  go_ret
  exact ⟨rfl, rfl⟩
theorem wnum0 (g n c : Nat) (s : Int) (w : World) (hn : 0 < n) (h : w.cell? ⟨g, 0, none⟩ = some (.iface 51 (.int .i64 s))) : Calls Tryz.prog 102 #[.slice (some ⟨g, 0, none⟩) n c, .int .i64 0] w fun e w' => e = .returned (.int .i64 s) ∧ w' = w := by
  have hta := fun (v : Value) (w : World) => to_in v w
  have hn' : (0 : Int) < n := by omega
  go_enter Tryz.func102, Tryz.ntmps102
  go_wp2_with fail
  go_ret
  exact ⟨rfl, rfl⟩
theorem wtext1 (g n c : Nat) (s : ByteArray) (w : World) (hn : 1 < n) (h : w.cell? ⟨g, 1, none⟩ = some (.iface 98 (.string s))) : Calls Tryz.prog 98 #[.slice (some ⟨g, 0, none⟩) n c, .int .i64 1] w fun e w' => e = .returned (.string s) ∧ w' = w := by
  have hta := fun (v : Value) (w : World) => to_tx v w
  have hn' : (1 : Int) < n := by omega
  go_enter Tryz.func98, Tryz.ntmps98
  go_wp2_with fail
  go_ret
  exact ⟨rfl, rfl⟩
theorem wnum1 (g n c : Nat) (s : Int) (w : World) (hn : 1 < n) (h : w.cell? ⟨g, 1, none⟩ = some (.iface 51 (.int .i64 s))) : Calls Tryz.prog 102 #[.slice (some ⟨g, 0, none⟩) n c, .int .i64 1] w fun e w' => e = .returned (.int .i64 s) ∧ w' = w := by
  have hta := fun (v : Value) (w : World) => to_in v w
  have hn' : (1 : Int) < n := by omega
  go_enter Tryz.func102, Tryz.ntmps102
  go_wp2_with fail
  go_ret
  exact ⟨rfl, rfl⟩
theorem wtext2 (g n c : Nat) (s : ByteArray) (w : World) (hn : 2 < n) (h : w.cell? ⟨g, 2, none⟩ = some (.iface 98 (.string s))) : Calls Tryz.prog 98 #[.slice (some ⟨g, 0, none⟩) n c, .int .i64 2] w fun e w' => e = .returned (.string s) ∧ w' = w := by
  have hta := fun (v : Value) (w : World) => to_tx v w
  have hn' : (2 : Int) < n := by omega
  go_enter Tryz.func98, Tryz.ntmps98
  go_wp2_with fail
  go_ret
  exact ⟨rfl, rfl⟩
theorem wnum2 (g n c : Nat) (s : Int) (w : World) (hn : 2 < n) (h : w.cell? ⟨g, 2, none⟩ = some (.iface 51 (.int .i64 s))) : Calls Tryz.prog 102 #[.slice (some ⟨g, 0, none⟩) n c, .int .i64 2] w fun e w' => e = .returned (.int .i64 s) ∧ w' = w := by
  have hta := fun (v : Value) (w : World) => to_in v w
  have hn' : (2 : Int) < n := by omega
  go_enter Tryz.func102, Tryz.ntmps102
  go_wp2_with fail
  go_ret
  exact ⟨rfl, rfl⟩

/-- Cell i holds a text; a number. -/
def TxA (w : World) (g i : Nat) (s : ByteArray) : Prop := w.cell? ⟨g, i, none⟩ = some (.iface 98 (.string s))
def InA (w : World) (g i : Nat) (n : Int) : Prop := w.cell? ⟨g, i, none⟩ = some (.iface 51 (.int .i64 n))
def joinV (s t : ByteArray) : Value := if s.size + t.size ≤ 65535 then wroteV (s ++ t) else refV 2
def sizeV (s : ByteArray) : Value := cameV s.size
def lessV (s t : ByteArray) : Value := toldV (Op.bytesLess s.toList t.toList)
theorem ret_eq {V V' : Value} (h : V' = V) : Ending.returned V = Ending.returned V' := by rw [h]
set_option maxRecDepth 100000 in
set_option maxHeartbeats 1000000 in
theorem wsize_any (g : Nat) (s : ByteArray) (w : World) (h0 : TxA w g 0 s)  : Calls Tryz.prog 46 #[.slice (some ⟨g, 0, none⟩) 1 1] w fun e w' => e = .returned (sizeV s) ∧ Ext w w' := by
  unfold TxA at h0
  have HV := hid (show sizeV s = cameV s.size from rfl)
  go_enter Tryz.func46, Tryz.ntmps46
  go_wp2_with fail
  refine (wtext0 g 1 1 s _ (by decide) h0).mono ?_
  rintro e w1 ⟨rfl, rfl⟩
  go_wp2_with fail
  refine (wcame_any _ _).mono ?_
  rintro e w1 ⟨rfl, rfl⟩
  unfold cameV
  go_wp2_with fail
  go_ret3
  exact ⟨ret_eq (by rw [HV.out]; rfl), Ext.refl _⟩
set_option maxRecDepth 100000 in
set_option maxHeartbeats 1000000 in
theorem wjoin_any (g : Nat) (s : ByteArray) (t : ByteArray) (w : World) (h0 : TxA w g 0 s) (h1 : TxA w g 1 t) (hs : s.size ≤ 65535) (ht : t.size ≤ 65535) : Calls Tryz.prog 44 #[.slice (some ⟨g, 0, none⟩) 2 2] w fun e w' => e = .returned (joinV s t) ∧ Ext w w' := by
  unfold TxA at h0
  unfold TxA at h1
  have hs' : (s.size : Int) ≤ 65535 := by omega
  have ht' : (t.size : Int) ≤ 65535 := by omega
  have hadd := fun W => run_string_add_sum (P := Tryz.prog) (w := W) s t (by omega)
  go_enter Tryz.func44, Tryz.ntmps44
  go_wp2_with fail
  refine (wtext0 g 2 2 s _ (by decide) h0).mono ?_
  rintro e w1 ⟨rfl, rfl⟩
  go_wp2_with fail
  refine (wtext1 g 2 2 t _ (by decide) h1).mono ?_
  rintro e w1 ⟨rfl, rfl⟩
  by_cases hc : s.size + t.size ≤ 65535
  · have hc' : ¬ (65535 : Int) < (s.size : Int) + t.size := by omega
    have HV := hid (show joinV s t = wroteV (s ++ t) from if_pos hc)
    clear hc
    go_wp2_with fail
    refine (wrote_any _ _).mono ?_
    rintro e w1 ⟨rfl, rfl⟩
    unfold wroteV
    go_wp2_with fail
    go_ret3
    exact ⟨ret_eq (by rw [HV.out]; rfl), Ext.refl _⟩
  · have hc' : (65535 : Int) < (s.size : Int) + t.size := by omega
    have HV := hid (show joinV s t = refV 2 from if_neg hc)
    clear hc
    go_wp2_with fail
    refine (wref_any _ _).mono ?_
    rintro e w1 ⟨rfl, rfl⟩
    unfold refV
    go_wp2_with fail
    go_ret3
    exact ⟨ret_eq (by rw [HV.out]; rfl), Ext.refl _⟩

end Go.Proofs.YtecabbifkcnbeaaGreatDoor
