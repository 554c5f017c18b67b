/-
  A number's text is read as that number.
-/
import Derived.Test.YtgpggkepgoelfaaGreatDoorWOpsC
import Derived.Lib.ParseIntBCases
import Derived.Lib.ParseIntBTie
namespace Go.Proofs.YtgpggkepgoelfaaGreatDoor
open Go.RowKit
theorem par_append (M : Nat) : ∀ (l m : List UInt8) (acc v : Nat), Lib.parseUintM M acc l = .ok v → Lib.parseUintM M acc (l ++ m) = Lib.parseUintM M v m
  | [], m, acc, v, h => by simp only [Lib.parseUintM] at h; injection h with h; rw [h]; rfl
  | c :: r, m, acc, v, h => by
    simp only [Lib.parseUintM, List.cons_append] at h ⊢
    split at h
    · rename_i q
      rw [if_pos q]
      split at h
      · cases h
      rename_i q2
      rw [if_neg q2]
      split at h
      · cases h
      rename_i q3
      rw [if_neg q3]
      exact par_append M r m _ v h
    · cases h
theorem dig_nat (d : Nat) (h : d < 10) : (UInt8.ofNat (48 + d)).toNat = 48 + d := by
  have : (48 + d) % 256 = 48 + d := Nat.mod_eq_of_lt (by omega)
  simpa using this
theorem par_fwd (u : Nat) : u ≤ 18446744073709551615 → Lib.parseUintM 18446744073709551615 0 (Lib.decDigits u) = .ok u := by
  induction u using Nat.strongRecOn with
  | _ u ih =>
    intro hu
    by_cases h : u < 10
    · rw [Lib.decDigits_one h]
      simp only [Lib.parseUintM, dig_nat u h]
      rw [if_pos (by omega), if_neg (by omega), if_neg (by omega)]
      rw [show 0 * 10 + (48 + u - 48) = u by omega]
    · rw [Lib.decDigits, dif_neg h, par_append _ _ _ _ _ (ih (u / 10) (by omega) (by omega))]
      simp only [Lib.parseUintM, dig_nat (u % 10) (by omega)]
      rw [if_pos (by omega), if_neg (by omega), if_neg (by omega)]
      rw [show u / 10 * 10 + (48 + u % 10 - 48) = u by omega]
theorem dec_head (u : Nat) : 1 ≤ u → ∃ c r, Lib.decDigits u = c :: r ∧ 49 ≤ c.toNat ∧ c.toNat ≤ 57 := by
  induction u using Nat.strongRecOn with
  | _ u ih =>
    intro hu
    by_cases h : u < 10
    · exact ⟨_, _, Lib.decDigits_one h, by rw [dig_nat u h]; omega, by rw [dig_nat u h]; omega⟩
    · obtain ⟨c, r, e, h1, h2⟩ := ih (u / 10) (by omega) (by omega)
      exact ⟨c, r ++ _, by rw [Lib.decDigits, dif_neg h, e]; rfl, h1, h2⟩
theorem par64 (c : UInt8) (r : List UInt8) (hc : 49 ≤ c.toNat ∧ c.toNat ≤ 57) : Lib.parseIntB 64 (c :: r) = Lib.signlessC 9223372036854775808 (Lib.parseUintM 18446744073709551615 0 (c :: r)) := by
  rw [Lib.parseIntB_plain 64 c r (by omega) (by omega), Lib.parseUintB, if_neg (by simp)]
theorem par64m (c : UInt8) (r : List UInt8) : Lib.parseIntB 64 (45 :: c :: r) = Lib.signedC 9223372036854775808 (Lib.parseUintM 18446744073709551615 0 (c :: r)) := by
  rw [Lib.parseIntB_minus 64 (c :: r), Lib.parseUintB, if_neg (by simp)]
theorem par_itoa {n : Int} (hn : inR n) : Lib.parseIntB 64 (Lib.itoa n) = .ok n := by
  obtain ⟨h0, h1⟩ := hn
  by_cases hneg : n < 0
  · obtain ⟨u, rfl⟩ : ∃ u : Nat, n = -(u : Int) := ⟨n.natAbs, by omega⟩
    obtain ⟨c, r, e, c1, c2⟩ := dec_head u (by omega)
    rw [Lib.itoa_neg u (by omega)]
    have hf := par_fwd u (by omega)
    rw [e] at hf ⊢
    rw [par64m, hf, Lib.signedC, if_neg (by omega)]
  · obtain ⟨u, rfl⟩ : ∃ u : Nat, n = (u : Int) := ⟨n.toNat, by omega⟩
    rw [Lib.itoa_nonneg]
    by_cases hu : u = 0
    · subst hu
      rw [Lib.decDigits_one (by decide)]
      kernel_rfl
    · obtain ⟨c, r, e, c1, c2⟩ := dec_head u (by omega)
      have hf := par_fwd u (by omega)
      rw [e] at hf ⊢
      rw [par64 c r ⟨c1, c2⟩, hf, Lib.signlessC, if_neg (by omega)]
theorem numO_itoa {n : Int} (hn : inR n) : numO (itoaS n) = some n := by
  have h : Lib.parseIntB 64 (itoaS n).data.toList = .ok n := par_itoa hn
  unfold numO
  rw [h]
  dsimp only
  rw [if_pos rfl]
theorem numO_some {s : ByteArray} {v : Int} (h : numO s = some v) : itoaS v = s ∧ inR v := by
  unfold numO at h
  split at h
  · rename_i q hq
    split at h
    · rename_i e
      obtain rfl := Option.some.inj h
      have hb := Lib.parseIntB_bounds hq
      exact ⟨e, by unfold inR; omega⟩
    · cases h
  · cases h
theorem numV_itoa {n : Int} (hn : inR n) : numV (itoaS n) = cameV n := by unfold numV; rw [numO_itoa hn]
end Go.Proofs.YtgpggkepgoelfaaGreatDoor
