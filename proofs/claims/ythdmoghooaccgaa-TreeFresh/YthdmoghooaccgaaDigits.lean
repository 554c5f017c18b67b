/-
  Digits of the reference of stage 2, by a contract: a number's digits.
-/
import Derived.Test.YthdmoghooaccgaaBase
import Derived.Laws.BytesArg
namespace Go.Proofs.Ythdmoghooaccgaa
open Go.RowKit
theorem byteInfo : (Try.prog.info? 5).map (fun i => (i.zero, i.size, i.bytes)) = some (some (.int .u8 0), 1, 1) := by kernel_rfl
theorem sizeOf_byte (W : World) : (Go.sizeOf 5).run Try.prog W = .ok 1 W := by
  obtain ⟨i, hi, _, h1, _⟩ := info_parts byteInfo
  simp [Go.sizeOf, typeInfo, hi, h1]
/-- The digits of a number, at most f of them. -/
def digs : Nat → Nat → List Int
  | 0, _ => []
  | f + 1, n => if n < 10 then [48 + (n : Int)] else digs f (n / 10) ++ [48 + ((n % 10 : Nat) : Int)]
theorem digs_last {k m : Nat} (hk : 1 ≤ k) (h : m / 10 = 0) : digs k m = [48 + ((m % 10 : Nat) : Int)] := by
  obtain ⟨f, rfl⟩ : ∃ f, k = f + 1 := ⟨k - 1, by omega⟩
  have hm : m < 10 := by omega
  unfold digs
  rw [if_pos hm, Nat.mod_eq_of_lt hm]
theorem digs_more {k m : Nat} (hk : 1 ≤ k) (h : ¬ m / 10 = 0) : digs k m = digs (k - 1) (m / 10) ++ [48 + ((m % 10 : Nat) : Int)] := by
  obtain ⟨f, rfl⟩ : ∃ f, k = f + 1 := ⟨k - 1, by omega⟩
  rw [show digs (f + 1) m = _ from rfl, digs, if_neg (by omega)]
  simp
/-- What the loop holds. -/
def DgSt (w : World) (n k m : Nat) (acc : List Int) (cs : Array Value) (wr : World) : Prop :=
  m < 10 ^ k ∧ Kp (fun q => q ≠ w.heap.size) w wr ∧ wr.heap[w.heap.size]? = some (.cells cs 98) ∧ cs.size = 21 ∧ acc.length = 21 - k ∧ (∀ i, i < acc.length → cs[k + i]? = some (.int .u8 (acc.getD i 0))) ∧ digs k m ++ acc = digs 21 n
set_option maxRecDepth 100000 in
set_option maxHeartbeats 2000000 in
theorem digits_any (n : Nat) (hn : n < 1000000000000) (w : World) : Calls Try.prog 57 #[.int .i64 n] w fun e w' => e = .returned (.string (strOfNums (digs 21 n))) ∧ Ext w w' := by
  have hw0 : IntKind.u64.wrap (n : Int) = n := by rw [IntKind.wrap_u64]; omega
  have hn0 : decide ((n : Int) < 0) = false := decide_eq_false (by omega)
  go_enter Try.func57, Try.ntmps57
  go_wp2_with fail
  go_loopw [4, 5] (fun a u wr => ∃ (k m : Nat) (acc : List Int) (cs : Array Value), 1 ≤ k ∧ k ≤ 21 ∧ m ≤ n ∧ a = .int .i64 k ∧ u = .int .u64 m ∧ DgSt w n k m acc cs wr) (fun a _ _ => (intOf a).toNat)
  case atStart => exact ⟨21, n, [], _, by omega, Nat.le_refl _, Nat.le_refl _, rfl, rfl, Nat.lt_of_lt_of_le hn (by decide), (Ext.alloc _ _).kp _, blk0 _ _, by simp, rfl, fun i hi => absurd hi (by simp), by simp⟩
  case round =>
    obtain ⟨k, m, acc, cs, hk1, hk2, hmn, rfl, rfl, hst⟩ := hrel
    have HST := hid hst
    obtain ⟨hm, hkp, hb, hcs, hal, hcc, hdg⟩ := hst
    have c0 := cell_of (i := k - 1) hb (Array.getElem?_eq_getElem (by omega))
    have f0 := frozen_of (i := k - 1) hb
    have hk0 : ((k : Int) - 1).toNat = k - 1 := by omega
    have hkI : (k : Int) - 1 = ((k - 1 : Nat) : Int) := by omega
    have hw1 : IntKind.u64.wrap (48 + (m : Int) % 10) = 48 + (m : Int) % 10 := by rw [IntKind.wrap_u64]; omega
    have hw2 : IntKind.u8.wrap (48 + (m : Int) % 10) = 48 + (m : Int) % 10 := by rw [IntKind.wrap_u8]; omega
    have hbl := lt_of_block hb
    clear hm hkp hcc hdg hb
    have HC0 := hid (And.intro hcs hal)
    have STEP := hid (show ∃ cs', ((wr.setCell ⟨w.heap.size, k - 1, none⟩ (.int .u8 (48 + (m : Int) % 10))).heap[w.heap.size]? = some (.cells cs' 98) ∧ cs'.size = 21 ∧ Kp (fun q => q ≠ w.heap.size) w (wr.setCell ⟨w.heap.size, k - 1, none⟩ (.int .u8 (48 + (m : Int) % 10))) ∧ ∀ i, i < ((48 + (m : Int) % 10) :: acc).length → cs'[k - 1 + i]? = some (.int .u8 (((48 + (m : Int) % 10) :: acc).getD i 0))) by
      obtain ⟨hm, hkp, hb, hcs, hal, hcc, hdg⟩ := HST.out
      refine ⟨_, set_at hb _ _, by simpa using hcs, hkp.trans (Kp.set _ _ _ _ (fun h => h rfl)), fun i hi => ?_⟩
      match i with
      | 0 => rw [Nat.add_zero, Array.getElem?_setIfInBounds_self_of_lt (by omega)]; rfl
      | i + 1 =>
        rw [Array.getElem?_setIfInBounds_ne (by omega), show k - 1 + (i + 1) = k + i by omega, hcc i (by simpa using hi)]
        rfl)
    by_cases h0 : m / 10 = 0
    · have h0' : (((m : Int) / 10) == 0) = true := by rw [beq_iff_eq]; omega
      have hsl : ∀ W, (Instr.sliceAt 98 (.pointer (some ⟨w.heap.size, 0, none⟩)) (some (.int .i64 ((k - 1 : Nat) : Int))) none none).run Try.prog W = .ok (.slice (some ⟨w.heap.size, k - 1, none⟩) (21 - (k - 1)) (21 - (k - 1))) W := fun W => by
        have ht : Try.prog.underlying 98 = some (.array (Try.prog.arrayLen 98) (Try.prog.elem 98)) := by kernel_rfl
        have h21 : Try.prog.arrayLen 98 = 21 := by kernel_rfl
        have hel : Try.prog.elem 98 = 5 := by kernel_rfl
        rw [run_sliceAt_array_l W 98 _ ht .i64 _ (by omega) (by rw [h21]; omega), h21, hel, sizeOf_byte]
        simp only [Result.andThen, slicedAt, Int.toNat_natCast, Nat.mul_one]
        rw [if_neg (by omega)]
        simp [Addr.add]
        omega
      have hcv : (convert 100 9 (.slice (some ⟨w.heap.size, k - 1, none⟩) (21 - (k - 1)) (21 - (k - 1)))).run Try.prog (wr.setCell ⟨w.heap.size, k - 1, none⟩ (.int .u8 (48 + (m : Int) % 10))) = .ok (.string (strOfNums (digs 21 n))) (wr.setCell ⟨w.heap.size, k - 1, none⟩ (.int .u8 (48 + (m : Int) % 10))) := by
        obtain ⟨hm, hkp, hb, hcs, hal, hcc, hdg⟩ := HST.out
        obtain ⟨cs', h1, h2, h3, h4⟩ := STEP.out
        have hmI : (m : Int) % 10 = ((m % 10 : Nat) : Int) := by omega
        have e : digs 21 n = (48 + (m : Int) % 10) :: acc := by rw [← hdg, digs_last hk1 h0, hmI]; rfl
        rw [e]
        have hl : ((48 + (m : Int) % 10) :: acc).length = 21 - (k - 1) := by simp; omega
        exact run_convert_bytes_arg _ 100 5 (by kernel_rfl) (by kernel_rfl) w.heap.size (k - 1) (21 - (k - 1)) (21 - (k - 1)) _ hl (fun i hi => cell_of h1 (h4 i (by omega))) 9 (by kernel_rfl)
      go_wp2_with fail
      go_ret
      obtain ⟨cs', h1, h2, h3, h4⟩ := STEP.out
      exact ⟨rfl, Kp.ext h3 (fun q hq e => by omega)⟩
    · have h0' : (((m : Int) / 10) == 0) = false := by rw [beq_eq_false_iff_ne]; omega
      go_wp2_with fail
      obtain ⟨hm, hkp, hb, hcs, hal, hcc, hdg⟩ := HST.out
      obtain ⟨cs', h1, h2, h3, h4⟩ := STEP.out
      have hm' : m / 10 < 10 ^ (k - 1) := by
        rw [Nat.div_lt_iff_lt_mul (by decide)]
        have e : 10 ^ k = 10 ^ (k - 1) * 10 := by rw [← Nat.pow_succ, show (k - 1).succ = k by omega]
        omega
      have hk3 : 1 ≤ k - 1 := by
        rcases Nat.eq_zero_or_pos (k - 1) with e | e
        · rw [e] at hm'; simp at hm'; omega
        · exact e
      refine ⟨⟨k - 1, m / 10, (48 + (m : Int) % 10) :: acc, cs', hk3, by omega, by omega, rfl, by congr 1, hm', h3, h1, h2, by simp; omega, h4, ?_⟩, by simp [intOf]; omega⟩
      have hmI : (m : Int) % 10 = ((m % 10 : Nat) : Int) := by omega
      rw [← hdg, digs_more hk1 h0, hmI]
      simp
end Go.Proofs.Ythdmoghooaccgaa
