/-
  The reader's word by a contract.
-/
import Derived.Test.YtbpbkihcfdnphaaGreatDoorRdr
namespace Go.Proofs.YtbpbkihcfdnphaaGreatDoor
open Go.RowKit
/-- How many bytes of a word stand there. -/
def wordK (s : ByteArray) : Nat → List UInt8 → Nat
  | _, [] => 0
  | i, c :: r => if nxt s i = c.toNat then 1 + wordK s (i + 1) r else 0
theorem wordK_of (s : ByteArray) : ∀ (l : List UInt8) (i j : Nat), j ≤ l.length → (∀ k, (h : k < l.length) → k < j → nxt s (i + k) = l[k].toNat) → (j = l.length ∨ ∃ h : j < l.length, nxt s (i + j) ≠ l[j].toNat) → wordK s i l = j
  | [], i, j, hj, _, _ => by simp at hj; subst hj; rfl
  | c :: r, i, j, hj, h1, h2 => by
    cases j with
    | zero =>
      rcases h2 with h2 | ⟨h, h2⟩
      · simp at h2
      · simp only [wordK]; rw [if_neg (by simpa using h2)]
    | succ j =>
      have h0 := h1 0 (by simp) (by omega)
      simp only [wordK]
      have e := wordK_of s r (i + 1) j (by simpa using hj) (fun k h hk => by
        have := h1 (k + 1) (by simpa using h) (by omega)
        rw [show i + 1 + k = i + (k + 1) by omega]
        simpa using this) (by
        rcases h2 with h2 | ⟨h, h2⟩
        · exact .inl (by simpa using h2)
        · exact .inr ⟨by simpa using h, by rw [show i + 1 + j = i + (j + 1) by omega]; simpa using h2⟩)
      rw [if_pos (by simpa using h0), e]
      omega
/-- What word answers. -/
def wordV (W m : Nat) (v : Value) : Value := if W = m then .tuple #[v, .int .i64 0] else .tuple #[.nilIface, .int .i64 5]
set_option maxRecDepth 100000 in
set_option maxHeartbeats 2000000 in
theorem word_any (w : World) (b : Nat) (s : ByteArray) (i n : Nat) (x : ByteArray) (τ : TypeId) (p : Value) (h : RdAt w b s i n) (hi : i ≤ s.size) (hs : s.size ≤ 1048576) (hx : x.size ≤ 10) (hx0 : ∀ k, (h : k < x.size) → x[k].toNat ≠ 0) :
    Calls Tryz.prog 63 #[.pointer (some ⟨b, 0, none⟩), .string x, .iface τ p] w fun e w' => e = .returned (wordV (wordK s i x.data.toList) x.size (.iface τ p)) ∧
      Kp (· ≠ b) w w' ∧ w'.heap.size = w.heap.size ∧ RdAt w' b s (i + wordK s i x.data.toList) n ∧ i + wordK s i x.data.toList ≤ s.size := by
  have hxl : x.data.toList.length = x.size := by rw [Array.length_toList]; rfl
  obtain ⟨W, hW⟩ : ∃ W, wordK s i x.data.toList = W := ⟨_, rfl⟩
  rw [hW]
  have HK := hid (show ∀ j, j ≤ x.size → (∀ k, (h : k < x.size) → k < j → nxt s (i + k) = x[k].toNat) → (j = x.size ∨ ∃ h : j < x.size, nxt s (i + j) ≠ x[j].toNat) → W = j from fun j h1 h2 h3 => by
    rw [← hW]
    refine wordK_of s x.data.toList i j (by omega) (fun k h hk => ?_) ?_
    · rw [Array.getElem_toList]; exact h2 k (by omega) hk
    · rcases h3 with h3 | ⟨h, h3⟩
      · exact .inl (by omega)
      · exact .inr ⟨by omega, by rw [Array.getElem_toList]; exact h3⟩)
  clear hW
  have HX0 := hid hx0
  have HH := hid h
  have hx' : (x.size : Int) ≤ 10 := by omega
  clear h hx0
  go_enter Tryz.func63, Tryz.ntmps63
  go_wp2_with fail
  go_loopw [11] (fun q wr => ∃ j : Nat, j ≤ x.size ∧ q = .int .i64 j ∧ RdAt wr b s (i + j) n ∧ i + j ≤ s.size ∧ Kp (· ≠ b) w wr ∧ wr.heap.size = w.heap.size ∧ (∀ k, (h : k < x.size) → k < j → nxt s (i + k) = x[k].toNat)) (fun q _ => x.size - (intOf q).toNat)
  case atStart => exact ⟨0, Nat.zero_le _, rfl, HH.out, hi, Kp.refl _ _, rfl, fun k _ h => absurd h (Nat.not_lt_zero _)⟩
  case round =>
    obtain ⟨j, hj, rfl, hr, hij, hkp, hsz, hall⟩ := hrel
    have HR := hid hr
    have HKP := hid hkp
    have HSZ := hid hsz
    have HALL := hid hall
    clear hr hkp hsz hall
    by_cases hlt : j < x.size
    · have hlt' : (j : Int) < x.size := by omega
      have HT := hid (take_any wr b s (i + j) n x[j].toNat HR.out hij hs)
      have HXJ := hid (HX0.out j hlt)
      by_cases hm : nxt s (i + j) = x[j].toNat
      · have hin : i + j < s.size := by
          rcases Nat.lt_or_ge (i + j) s.size with h | h
          · exact h
          · rw [nxt_end (by omega)] at hm; exact absurd hm.symm HXJ.out
        rw [decide_eq_true hm, if_pos hm] at HT
        have HM := hid hm
        clear hm
        go_wp2_with fail
        refine HT.out.mono ?_
        rintro e w2 ⟨rfl, hk2, hs2, hr2⟩
        have HREL := hid (show ∃ j' : Nat, j' ≤ x.size ∧ Value.int .i64 ((j : Int) + 1) = .int .i64 j' ∧ RdAt w2 b s (i + j') n ∧ i + j' ≤ s.size ∧ Kp (· ≠ b) w w2 ∧ w2.heap.size = w.heap.size ∧ (∀ k, (h : k < x.size) → k < j' → nxt s (i + k) = x[k].toNat) from
          ⟨j + 1, hlt, by go_num, by rw [← Nat.add_assoc]; exact hr2, by omega, HKP.out.trans hk2, hs2.trans HSZ.out, fun k h hk => by
            rcases Nat.lt_or_eq_of_le (Nat.le_of_lt_succ hk) with e | e
            · exact HALL.out k h e
            · subst e; exact HM.out⟩)
        clear hk2 hs2 hr2
        go_wp2_with fail
        go_roundw
        case rel => first | exact HREL.out | ((repeat apply Exists.intro); exact ⟨HREL.out, rfl⟩)
        case measure => simp [intOf]; omega
      · rw [decide_eq_false hm, if_neg hm] at HT
        have HW := hid (HK.out j hj HALL.out (.inr ⟨hlt, hm⟩))
        clear hm
        go_wp2_with fail
        refine HT.out.mono ?_
        rintro e w2 ⟨rfl, hk2, hs2, hr2⟩
        go_wp2_with fail
        go_ret2
        rw [HW.out, wordV, if_neg (by omega)]
        exact ⟨rfl, HKP.out.trans hk2, hs2.trans HSZ.out, hr2, hij⟩
    · have hje : j = x.size := by omega
      have HW := hid (HK.out j hj HALL.out (.inl hje))
      go_wp2_with fail
      go_ret2
      rw [HW.out, wordV, if_pos hje]
      exact ⟨rfl, HKP.out, HSZ.out, HR.out, hij⟩
end Go.Proofs.YtbpbkihcfdnphaaGreatDoor
