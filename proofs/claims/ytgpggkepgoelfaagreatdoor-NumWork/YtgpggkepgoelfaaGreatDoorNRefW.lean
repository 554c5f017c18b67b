/-
  espalierref8's add, sub, mul, divided and pow, each by a contract: the same numbers as package num's.
-/
import Derived.Test.YtgpggkepgoelfaaGreatDoorNLaw
import Derived.Test.YtgpggkepgoelfaaGreatDoorNOpsC
import Derived.Deep.LoopGhost
namespace Go.Proofs.YtgpggkepgoelfaaGreatDoor
open Go.RowKit
theorem addO (a b : Int) (ha : inR a) (hb : inR b) : (0 < a ∧ 0 < b ∧ wrap64 (a + b) < 0 ∨ a < 0 ∧ b < 0 ∧ 0 ≤ wrap64 (a + b)) ↔ ¬ inR (a + b) := by
  unfold inR wrap64 at *
  omega
theorem subO (a b : Int) (ha : inR a) (hb : inR b) : (0 ≤ a ∧ b < 0 ∧ wrap64 (a - b) < 0 ∨ a < 0 ∧ 0 < b ∧ 0 ≤ wrap64 (a - b)) ↔ ¬ inR (a - b) := by
  unfold inR wrap64 at *
  omega
theorem wrap_eq {x : Int} (h : inR x) : wrap64 x = x := IntWalk.wrap64_in _ h
theorem law_add_in {a b : Int} (h : inR (a + b)) : lawV (addV a b) = .tuple #[.int .i64 (wrap64 (a + b)), .int .i64 0] := by unfold addV; rw [if_pos h, lawV_came, wrap_eq h]
theorem law_add_out {a b : Int} (h : ¬ inR (a + b)) : lawV (addV a b) = .tuple #[.int .i64 0, .int .i64 21] := by unfold addV; rw [if_neg h, lawV_ref]
theorem law_sub_in {a b : Int} (h : inR (a - b)) : lawV (subV a b) = .tuple #[.int .i64 (wrap64 (a - b)), .int .i64 0] := by unfold subV; rw [if_pos h, lawV_came, wrap_eq h]
theorem law_sub_out {a b : Int} (h : ¬ inR (a - b)) : lawV (subV a b) = .tuple #[.int .i64 0, .int .i64 21] := by unfold subV; rw [if_neg h, lawV_ref]
theorem retV_eq {V V' : Value} (h : V' = V) : Ending.returned V = Ending.returned V' := by rw [h]
theorem wrapR (x : Int) : inR (wrap64 x) := by unfold inR wrap64; omega
set_option maxRecDepth 100000 in
set_option maxHeartbeats 2000000 in
theorem radd_any (a b : Int) (w : World) (ha : inR a) (hb : inR b) : Calls Tryz.prog 73 #[.int .i64 a, .int .i64 b] w fun e w' => e = .returned (lawV (addV a b)) ∧ w' = w := by
  have HO := hid (addO a b ha hb)
  have HI := hid (fun h => law_add_in (a := a) (b := b) h)
  have HU := hid (fun h => law_add_out (a := a) (b := b) h)
  clear ha hb
  obtain ⟨c, hc⟩ : ∃ c, wrap64 (a + b) = c := ⟨_, rfl⟩
  rw [hc] at HO HI
  have HC := hid hc
  rcases Int.lt_trichotomy a 0 with aq | aq | aq
  · rcases Int.lt_trichotomy b 0 with bq | bq | bq
    · by_cases cq : c < 0
      · have HV := hid (HI.out (Classical.byContradiction fun h => by have := HO.out.2 h; omega))
        have aq2 : ¬ 0 < a := by omega
        have aq3 : ¬ 0 ≤ a := by omega
        have aq4 : decide (0 ≤ a) = false := decide_eq_false aq3
        have bq2 : ¬ 0 < b := by omega
        have bq3 : ¬ 0 ≤ b := by omega
        have bq4 : decide (0 ≤ b) = false := decide_eq_false bq3
        have cq3 : ¬ 0 ≤ c := by omega
        have cq4 : decide (0 ≤ c) = false := decide_eq_false cq3
        clear HO HI HU
        go_enter Tryz.func73, Tryz.ntmps73
        go_wp2_with fail
        go_ret2
        exact ⟨retV_eq (by first | exact HV.out | (rw [HV.out, ← HC.out, wrap_eq (by unfold inR; omega)]; rfl)), rfl⟩
      · have HV := hid (HU.out (HO.out.1 (by omega)))
        have aq2 : ¬ 0 < a := by omega
        have aq3 : ¬ 0 ≤ a := by omega
        have aq4 : decide (0 ≤ a) = false := decide_eq_false aq3
        have bq2 : ¬ 0 < b := by omega
        have bq3 : ¬ 0 ≤ b := by omega
        have bq4 : decide (0 ≤ b) = false := decide_eq_false bq3
        have cq3 : 0 ≤ c := by omega
        clear HO HI HU
        go_enter Tryz.func73, Tryz.ntmps73
        go_wp2_with fail
        go_ret2
        exact ⟨retV_eq (by first | exact HV.out | (rw [HV.out, ← HC.out, wrap_eq (by unfold inR; omega)]; rfl)), rfl⟩
    · by_cases cq : c < 0
      · have HV := hid (HI.out (Classical.byContradiction fun h => by have := HO.out.2 h; omega))
        have aq2 : ¬ 0 < a := by omega
        have aq3 : ¬ 0 ≤ a := by omega
        have aq4 : decide (0 ≤ a) = false := decide_eq_false aq3
        have bq2 : ¬ 0 < b := by omega
        have bq5 : ¬ b < 0 := by omega
        have bq3 : 0 ≤ b := by omega
        clear bq
        have cq3 : ¬ 0 ≤ c := by omega
        have cq4 : decide (0 ≤ c) = false := decide_eq_false cq3
        clear HO HI HU
        go_enter Tryz.func73, Tryz.ntmps73
        go_wp2_with fail
        go_ret2
        exact ⟨retV_eq (by first | exact HV.out | (rw [HV.out, ← HC.out, wrap_eq (by unfold inR; omega)]; rfl)), rfl⟩
      · have HV := hid (HI.out (Classical.byContradiction fun h => by have := HO.out.2 h; omega))
        have aq2 : ¬ 0 < a := by omega
        have aq3 : ¬ 0 ≤ a := by omega
        have aq4 : decide (0 ≤ a) = false := decide_eq_false aq3
        have bq2 : ¬ 0 < b := by omega
        have bq5 : ¬ b < 0 := by omega
        have bq3 : 0 ≤ b := by omega
        clear bq
        have cq3 : 0 ≤ c := by omega
        clear HO HI HU
        go_enter Tryz.func73, Tryz.ntmps73
        go_wp2_with fail
        go_ret2
        exact ⟨retV_eq (by first | exact HV.out | (rw [HV.out, ← HC.out, wrap_eq (by unfold inR; omega)]; rfl)), rfl⟩
    · by_cases cq : c < 0
      · have HV := hid (HI.out (Classical.byContradiction fun h => by have := HO.out.2 h; omega))
        have aq2 : ¬ 0 < a := by omega
        have aq3 : ¬ 0 ≤ a := by omega
        have aq4 : decide (0 ≤ a) = false := decide_eq_false aq3
        have bq2 : ¬ b < 0 := by omega
        have bq3 : 0 ≤ b := by omega
        have cq3 : ¬ 0 ≤ c := by omega
        have cq4 : decide (0 ≤ c) = false := decide_eq_false cq3
        clear HO HI HU
        go_enter Tryz.func73, Tryz.ntmps73
        go_wp2_with fail
        go_ret2
        exact ⟨retV_eq (by first | exact HV.out | (rw [HV.out, ← HC.out, wrap_eq (by unfold inR; omega)]; rfl)), rfl⟩
      · have HV := hid (HI.out (Classical.byContradiction fun h => by have := HO.out.2 h; omega))
        have aq2 : ¬ 0 < a := by omega
        have aq3 : ¬ 0 ≤ a := by omega
        have aq4 : decide (0 ≤ a) = false := decide_eq_false aq3
        have bq2 : ¬ b < 0 := by omega
        have bq3 : 0 ≤ b := by omega
        have cq3 : 0 ≤ c := by omega
        clear HO HI HU
        go_enter Tryz.func73, Tryz.ntmps73
        go_wp2_with fail
        go_ret2
        exact ⟨retV_eq (by first | exact HV.out | (rw [HV.out, ← HC.out, wrap_eq (by unfold inR; omega)]; rfl)), rfl⟩
  · rcases Int.lt_trichotomy b 0 with bq | bq | bq
    · by_cases cq : c < 0
      · have HV := hid (HI.out (Classical.byContradiction fun h => by have := HO.out.2 h; omega))
        have aq2 : ¬ 0 < a := by omega
        have aq5 : ¬ a < 0 := by omega
        have aq3 : 0 ≤ a := by omega
        have bq2 : ¬ 0 < b := by omega
        have bq3 : ¬ 0 ≤ b := by omega
        have bq4 : decide (0 ≤ b) = false := decide_eq_false bq3
        clear aq
        have cq3 : ¬ 0 ≤ c := by omega
        have cq4 : decide (0 ≤ c) = false := decide_eq_false cq3
        clear HO HI HU
        go_enter Tryz.func73, Tryz.ntmps73
        go_wp2_with fail
        go_ret2
        exact ⟨retV_eq (by first | exact HV.out | (rw [HV.out, ← HC.out, wrap_eq (by unfold inR; omega)]; rfl)), rfl⟩
      · have HV := hid (HI.out (Classical.byContradiction fun h => by have := HO.out.2 h; omega))
        have aq2 : ¬ 0 < a := by omega
        have aq5 : ¬ a < 0 := by omega
        have aq3 : 0 ≤ a := by omega
        have bq2 : ¬ 0 < b := by omega
        have bq3 : ¬ 0 ≤ b := by omega
        have bq4 : decide (0 ≤ b) = false := decide_eq_false bq3
        clear aq
        have cq3 : 0 ≤ c := by omega
        clear HO HI HU
        go_enter Tryz.func73, Tryz.ntmps73
        go_wp2_with fail
        go_ret2
        exact ⟨retV_eq (by first | exact HV.out | (rw [HV.out, ← HC.out, wrap_eq (by unfold inR; omega)]; rfl)), rfl⟩
    · by_cases cq : c < 0
      · have HV := hid (HI.out (Classical.byContradiction fun h => by have := HO.out.2 h; omega))
        have aq2 : ¬ 0 < a := by omega
        have aq5 : ¬ a < 0 := by omega
        have aq3 : 0 ≤ a := by omega
        have bq2 : ¬ 0 < b := by omega
        have bq5 : ¬ b < 0 := by omega
        have bq3 : 0 ≤ b := by omega
        clear aq
        clear bq
        have cq3 : ¬ 0 ≤ c := by omega
        have cq4 : decide (0 ≤ c) = false := decide_eq_false cq3
        clear HO HI HU
        go_enter Tryz.func73, Tryz.ntmps73
        go_wp2_with fail
        go_ret2
        exact ⟨retV_eq (by first | exact HV.out | (rw [HV.out, ← HC.out, wrap_eq (by unfold inR; omega)]; rfl)), rfl⟩
      · have HV := hid (HI.out (Classical.byContradiction fun h => by have := HO.out.2 h; omega))
        have aq2 : ¬ 0 < a := by omega
        have aq5 : ¬ a < 0 := by omega
        have aq3 : 0 ≤ a := by omega
        have bq2 : ¬ 0 < b := by omega
        have bq5 : ¬ b < 0 := by omega
        have bq3 : 0 ≤ b := by omega
        clear aq
        clear bq
        have cq3 : 0 ≤ c := by omega
        clear HO HI HU
        go_enter Tryz.func73, Tryz.ntmps73
        go_wp2_with fail
        go_ret2
        exact ⟨retV_eq (by first | exact HV.out | (rw [HV.out, ← HC.out, wrap_eq (by unfold inR; omega)]; rfl)), rfl⟩
    · by_cases cq : c < 0
      · have HV := hid (HI.out (Classical.byContradiction fun h => by have := HO.out.2 h; omega))
        have aq2 : ¬ 0 < a := by omega
        have aq5 : ¬ a < 0 := by omega
        have aq3 : 0 ≤ a := by omega
        have bq2 : ¬ b < 0 := by omega
        have bq3 : 0 ≤ b := by omega
        clear aq
        have cq3 : ¬ 0 ≤ c := by omega
        have cq4 : decide (0 ≤ c) = false := decide_eq_false cq3
        clear HO HI HU
        go_enter Tryz.func73, Tryz.ntmps73
        go_wp2_with fail
        go_ret2
        exact ⟨retV_eq (by first | exact HV.out | (rw [HV.out, ← HC.out, wrap_eq (by unfold inR; omega)]; rfl)), rfl⟩
      · have HV := hid (HI.out (Classical.byContradiction fun h => by have := HO.out.2 h; omega))
        have aq2 : ¬ 0 < a := by omega
        have aq5 : ¬ a < 0 := by omega
        have aq3 : 0 ≤ a := by omega
        have bq2 : ¬ b < 0 := by omega
        have bq3 : 0 ≤ b := by omega
        clear aq
        have cq3 : 0 ≤ c := by omega
        clear HO HI HU
        go_enter Tryz.func73, Tryz.ntmps73
        go_wp2_with fail
        go_ret2
        exact ⟨retV_eq (by first | exact HV.out | (rw [HV.out, ← HC.out, wrap_eq (by unfold inR; omega)]; rfl)), rfl⟩
  · rcases Int.lt_trichotomy b 0 with bq | bq | bq
    · by_cases cq : c < 0
      · have HV := hid (HI.out (Classical.byContradiction fun h => by have := HO.out.2 h; omega))
        have aq2 : ¬ a < 0 := by omega
        have aq3 : 0 ≤ a := by omega
        have bq2 : ¬ 0 < b := by omega
        have bq3 : ¬ 0 ≤ b := by omega
        have bq4 : decide (0 ≤ b) = false := decide_eq_false bq3
        have cq3 : ¬ 0 ≤ c := by omega
        have cq4 : decide (0 ≤ c) = false := decide_eq_false cq3
        clear HO HI HU
        go_enter Tryz.func73, Tryz.ntmps73
        go_wp2_with fail
        go_ret2
        exact ⟨retV_eq (by first | exact HV.out | (rw [HV.out, ← HC.out, wrap_eq (by unfold inR; omega)]; rfl)), rfl⟩
      · have HV := hid (HI.out (Classical.byContradiction fun h => by have := HO.out.2 h; omega))
        have aq2 : ¬ a < 0 := by omega
        have aq3 : 0 ≤ a := by omega
        have bq2 : ¬ 0 < b := by omega
        have bq3 : ¬ 0 ≤ b := by omega
        have bq4 : decide (0 ≤ b) = false := decide_eq_false bq3
        have cq3 : 0 ≤ c := by omega
        clear HO HI HU
        go_enter Tryz.func73, Tryz.ntmps73
        go_wp2_with fail
        go_ret2
        exact ⟨retV_eq (by first | exact HV.out | (rw [HV.out, ← HC.out, wrap_eq (by unfold inR; omega)]; rfl)), rfl⟩
    · by_cases cq : c < 0
      · have HV := hid (HI.out (Classical.byContradiction fun h => by have := HO.out.2 h; omega))
        have aq2 : ¬ a < 0 := by omega
        have aq3 : 0 ≤ a := by omega
        have bq2 : ¬ 0 < b := by omega
        have bq5 : ¬ b < 0 := by omega
        have bq3 : 0 ≤ b := by omega
        clear bq
        have cq3 : ¬ 0 ≤ c := by omega
        have cq4 : decide (0 ≤ c) = false := decide_eq_false cq3
        clear HO HI HU
        go_enter Tryz.func73, Tryz.ntmps73
        go_wp2_with fail
        go_ret2
        exact ⟨retV_eq (by first | exact HV.out | (rw [HV.out, ← HC.out, wrap_eq (by unfold inR; omega)]; rfl)), rfl⟩
      · have HV := hid (HI.out (Classical.byContradiction fun h => by have := HO.out.2 h; omega))
        have aq2 : ¬ a < 0 := by omega
        have aq3 : 0 ≤ a := by omega
        have bq2 : ¬ 0 < b := by omega
        have bq5 : ¬ b < 0 := by omega
        have bq3 : 0 ≤ b := by omega
        clear bq
        have cq3 : 0 ≤ c := by omega
        clear HO HI HU
        go_enter Tryz.func73, Tryz.ntmps73
        go_wp2_with fail
        go_ret2
        exact ⟨retV_eq (by first | exact HV.out | (rw [HV.out, ← HC.out, wrap_eq (by unfold inR; omega)]; rfl)), rfl⟩
    · by_cases cq : c < 0
      · have HV := hid (HU.out (HO.out.1 (by omega)))
        have aq2 : ¬ a < 0 := by omega
        have aq3 : 0 ≤ a := by omega
        have bq2 : ¬ b < 0 := by omega
        have bq3 : 0 ≤ b := by omega
        have cq3 : ¬ 0 ≤ c := by omega
        have cq4 : decide (0 ≤ c) = false := decide_eq_false cq3
        clear HO HI HU
        go_enter Tryz.func73, Tryz.ntmps73
        go_wp2_with fail
        go_ret2
        exact ⟨retV_eq (by first | exact HV.out | (rw [HV.out, ← HC.out, wrap_eq (by unfold inR; omega)]; rfl)), rfl⟩
      · have HV := hid (HI.out (Classical.byContradiction fun h => by have := HO.out.2 h; omega))
        have aq2 : ¬ a < 0 := by omega
        have aq3 : 0 ≤ a := by omega
        have bq2 : ¬ b < 0 := by omega
        have bq3 : 0 ≤ b := by omega
        have cq3 : 0 ≤ c := by omega
        clear HO HI HU
        go_enter Tryz.func73, Tryz.ntmps73
        go_wp2_with fail
        go_ret2
        exact ⟨retV_eq (by first | exact HV.out | (rw [HV.out, ← HC.out, wrap_eq (by unfold inR; omega)]; rfl)), rfl⟩
set_option maxRecDepth 100000 in
set_option maxHeartbeats 2000000 in
theorem rsub_any (a b : Int) (w : World) (ha : inR a) (hb : inR b) : Calls Tryz.prog 74 #[.int .i64 a, .int .i64 b] w fun e w' => e = .returned (lawV (subV a b)) ∧ w' = w := by
  have HO := hid (subO a b ha hb)
  have HI := hid (fun h => law_sub_in (a := a) (b := b) h)
  have HU := hid (fun h => law_sub_out (a := a) (b := b) h)
  clear ha hb
  obtain ⟨c, hc⟩ : ∃ c, wrap64 (a - b) = c := ⟨_, rfl⟩
  rw [hc] at HO HI
  have HC := hid hc
  rcases Int.lt_trichotomy a 0 with aq | aq | aq
  · rcases Int.lt_trichotomy b 0 with bq | bq | bq
    · by_cases cq : c < 0
      · have HV := hid (HI.out (Classical.byContradiction fun h => by have := HO.out.2 h; omega))
        have aq2 : ¬ 0 < a := by omega
        have aq3 : ¬ 0 ≤ a := by omega
        have aq4 : decide (0 ≤ a) = false := decide_eq_false aq3
        have bq2 : ¬ 0 < b := by omega
        have bq3 : ¬ 0 ≤ b := by omega
        have bq4 : decide (0 ≤ b) = false := decide_eq_false bq3
        have cq3 : ¬ 0 ≤ c := by omega
        have cq4 : decide (0 ≤ c) = false := decide_eq_false cq3
        clear HO HI HU
        go_enter Tryz.func74, Tryz.ntmps74
        go_wp2_with fail
        go_ret2
        exact ⟨retV_eq (by first | exact HV.out | (rw [HV.out, ← HC.out, wrap_eq (by unfold inR; omega)]; rfl)), rfl⟩
      · have HV := hid (HI.out (Classical.byContradiction fun h => by have := HO.out.2 h; omega))
        have aq2 : ¬ 0 < a := by omega
        have aq3 : ¬ 0 ≤ a := by omega
        have aq4 : decide (0 ≤ a) = false := decide_eq_false aq3
        have bq2 : ¬ 0 < b := by omega
        have bq3 : ¬ 0 ≤ b := by omega
        have bq4 : decide (0 ≤ b) = false := decide_eq_false bq3
        have cq3 : 0 ≤ c := by omega
        clear HO HI HU
        go_enter Tryz.func74, Tryz.ntmps74
        go_wp2_with fail
        go_ret2
        exact ⟨retV_eq (by first | exact HV.out | (rw [HV.out, ← HC.out, wrap_eq (by unfold inR; omega)]; rfl)), rfl⟩
    · by_cases cq : c < 0
      · have HV := hid (HI.out (Classical.byContradiction fun h => by have := HO.out.2 h; omega))
        have aq2 : ¬ 0 < a := by omega
        have aq3 : ¬ 0 ≤ a := by omega
        have aq4 : decide (0 ≤ a) = false := decide_eq_false aq3
        have bq2 : ¬ 0 < b := by omega
        have bq5 : ¬ b < 0 := by omega
        have bq3 : 0 ≤ b := by omega
        clear bq
        have cq3 : ¬ 0 ≤ c := by omega
        have cq4 : decide (0 ≤ c) = false := decide_eq_false cq3
        clear HO HI HU
        go_enter Tryz.func74, Tryz.ntmps74
        go_wp2_with fail
        go_ret2
        exact ⟨retV_eq (by first | exact HV.out | (rw [HV.out, ← HC.out, wrap_eq (by unfold inR; omega)]; rfl)), rfl⟩
      · have HV := hid (HI.out (Classical.byContradiction fun h => by have := HO.out.2 h; omega))
        have aq2 : ¬ 0 < a := by omega
        have aq3 : ¬ 0 ≤ a := by omega
        have aq4 : decide (0 ≤ a) = false := decide_eq_false aq3
        have bq2 : ¬ 0 < b := by omega
        have bq5 : ¬ b < 0 := by omega
        have bq3 : 0 ≤ b := by omega
        clear bq
        have cq3 : 0 ≤ c := by omega
        clear HO HI HU
        go_enter Tryz.func74, Tryz.ntmps74
        go_wp2_with fail
        go_ret2
        exact ⟨retV_eq (by first | exact HV.out | (rw [HV.out, ← HC.out, wrap_eq (by unfold inR; omega)]; rfl)), rfl⟩
    · by_cases cq : c < 0
      · have HV := hid (HI.out (Classical.byContradiction fun h => by have := HO.out.2 h; omega))
        have aq2 : ¬ 0 < a := by omega
        have aq3 : ¬ 0 ≤ a := by omega
        have aq4 : decide (0 ≤ a) = false := decide_eq_false aq3
        have bq2 : ¬ b < 0 := by omega
        have bq3 : 0 ≤ b := by omega
        have cq3 : ¬ 0 ≤ c := by omega
        have cq4 : decide (0 ≤ c) = false := decide_eq_false cq3
        clear HO HI HU
        go_enter Tryz.func74, Tryz.ntmps74
        go_wp2_with fail
        go_ret2
        exact ⟨retV_eq (by first | exact HV.out | (rw [HV.out, ← HC.out, wrap_eq (by unfold inR; omega)]; rfl)), rfl⟩
      · have HV := hid (HU.out (HO.out.1 (by omega)))
        have aq2 : ¬ 0 < a := by omega
        have aq3 : ¬ 0 ≤ a := by omega
        have aq4 : decide (0 ≤ a) = false := decide_eq_false aq3
        have bq2 : ¬ b < 0 := by omega
        have bq3 : 0 ≤ b := by omega
        have cq3 : 0 ≤ c := by omega
        clear HO HI HU
        go_enter Tryz.func74, Tryz.ntmps74
        go_wp2_with fail
        go_ret2
        exact ⟨retV_eq (by first | exact HV.out | (rw [HV.out, ← HC.out, wrap_eq (by unfold inR; omega)]; rfl)), rfl⟩
  · rcases Int.lt_trichotomy b 0 with bq | bq | bq
    · by_cases cq : c < 0
      · have HV := hid (HU.out (HO.out.1 (by omega)))
        have aq2 : ¬ 0 < a := by omega
        have aq5 : ¬ a < 0 := by omega
        have aq3 : 0 ≤ a := by omega
        have bq2 : ¬ 0 < b := by omega
        have bq3 : ¬ 0 ≤ b := by omega
        have bq4 : decide (0 ≤ b) = false := decide_eq_false bq3
        clear aq
        have cq3 : ¬ 0 ≤ c := by omega
        have cq4 : decide (0 ≤ c) = false := decide_eq_false cq3
        clear HO HI HU
        go_enter Tryz.func74, Tryz.ntmps74
        go_wp2_with fail
        go_ret2
        exact ⟨retV_eq (by first | exact HV.out | (rw [HV.out, ← HC.out, wrap_eq (by unfold inR; omega)]; rfl)), rfl⟩
      · have HV := hid (HI.out (Classical.byContradiction fun h => by have := HO.out.2 h; omega))
        have aq2 : ¬ 0 < a := by omega
        have aq5 : ¬ a < 0 := by omega
        have aq3 : 0 ≤ a := by omega
        have bq2 : ¬ 0 < b := by omega
        have bq3 : ¬ 0 ≤ b := by omega
        have bq4 : decide (0 ≤ b) = false := decide_eq_false bq3
        clear aq
        have cq3 : 0 ≤ c := by omega
        clear HO HI HU
        go_enter Tryz.func74, Tryz.ntmps74
        go_wp2_with fail
        go_ret2
        exact ⟨retV_eq (by first | exact HV.out | (rw [HV.out, ← HC.out, wrap_eq (by unfold inR; omega)]; rfl)), rfl⟩
    · by_cases cq : c < 0
      · have HV := hid (HI.out (Classical.byContradiction fun h => by have := HO.out.2 h; omega))
        have aq2 : ¬ 0 < a := by omega
        have aq5 : ¬ a < 0 := by omega
        have aq3 : 0 ≤ a := by omega
        have bq2 : ¬ 0 < b := by omega
        have bq5 : ¬ b < 0 := by omega
        have bq3 : 0 ≤ b := by omega
        clear aq
        clear bq
        have cq3 : ¬ 0 ≤ c := by omega
        have cq4 : decide (0 ≤ c) = false := decide_eq_false cq3
        clear HO HI HU
        go_enter Tryz.func74, Tryz.ntmps74
        go_wp2_with fail
        go_ret2
        exact ⟨retV_eq (by first | exact HV.out | (rw [HV.out, ← HC.out, wrap_eq (by unfold inR; omega)]; rfl)), rfl⟩
      · have HV := hid (HI.out (Classical.byContradiction fun h => by have := HO.out.2 h; omega))
        have aq2 : ¬ 0 < a := by omega
        have aq5 : ¬ a < 0 := by omega
        have aq3 : 0 ≤ a := by omega
        have bq2 : ¬ 0 < b := by omega
        have bq5 : ¬ b < 0 := by omega
        have bq3 : 0 ≤ b := by omega
        clear aq
        clear bq
        have cq3 : 0 ≤ c := by omega
        clear HO HI HU
        go_enter Tryz.func74, Tryz.ntmps74
        go_wp2_with fail
        go_ret2
        exact ⟨retV_eq (by first | exact HV.out | (rw [HV.out, ← HC.out, wrap_eq (by unfold inR; omega)]; rfl)), rfl⟩
    · by_cases cq : c < 0
      · have HV := hid (HI.out (Classical.byContradiction fun h => by have := HO.out.2 h; omega))
        have aq2 : ¬ 0 < a := by omega
        have aq5 : ¬ a < 0 := by omega
        have aq3 : 0 ≤ a := by omega
        have bq2 : ¬ b < 0 := by omega
        have bq3 : 0 ≤ b := by omega
        clear aq
        have cq3 : ¬ 0 ≤ c := by omega
        have cq4 : decide (0 ≤ c) = false := decide_eq_false cq3
        clear HO HI HU
        go_enter Tryz.func74, Tryz.ntmps74
        go_wp2_with fail
        go_ret2
        exact ⟨retV_eq (by first | exact HV.out | (rw [HV.out, ← HC.out, wrap_eq (by unfold inR; omega)]; rfl)), rfl⟩
      · have HV := hid (HI.out (Classical.byContradiction fun h => by have := HO.out.2 h; omega))
        have aq2 : ¬ 0 < a := by omega
        have aq5 : ¬ a < 0 := by omega
        have aq3 : 0 ≤ a := by omega
        have bq2 : ¬ b < 0 := by omega
        have bq3 : 0 ≤ b := by omega
        clear aq
        have cq3 : 0 ≤ c := by omega
        clear HO HI HU
        go_enter Tryz.func74, Tryz.ntmps74
        go_wp2_with fail
        go_ret2
        exact ⟨retV_eq (by first | exact HV.out | (rw [HV.out, ← HC.out, wrap_eq (by unfold inR; omega)]; rfl)), rfl⟩
  · rcases Int.lt_trichotomy b 0 with bq | bq | bq
    · by_cases cq : c < 0
      · have HV := hid (HU.out (HO.out.1 (by omega)))
        have aq2 : ¬ a < 0 := by omega
        have aq3 : 0 ≤ a := by omega
        have bq2 : ¬ 0 < b := by omega
        have bq3 : ¬ 0 ≤ b := by omega
        have bq4 : decide (0 ≤ b) = false := decide_eq_false bq3
        have cq3 : ¬ 0 ≤ c := by omega
        have cq4 : decide (0 ≤ c) = false := decide_eq_false cq3
        clear HO HI HU
        go_enter Tryz.func74, Tryz.ntmps74
        go_wp2_with fail
        go_ret2
        exact ⟨retV_eq (by first | exact HV.out | (rw [HV.out, ← HC.out, wrap_eq (by unfold inR; omega)]; rfl)), rfl⟩
      · have HV := hid (HI.out (Classical.byContradiction fun h => by have := HO.out.2 h; omega))
        have aq2 : ¬ a < 0 := by omega
        have aq3 : 0 ≤ a := by omega
        have bq2 : ¬ 0 < b := by omega
        have bq3 : ¬ 0 ≤ b := by omega
        have bq4 : decide (0 ≤ b) = false := decide_eq_false bq3
        have cq3 : 0 ≤ c := by omega
        clear HO HI HU
        go_enter Tryz.func74, Tryz.ntmps74
        go_wp2_with fail
        go_ret2
        exact ⟨retV_eq (by first | exact HV.out | (rw [HV.out, ← HC.out, wrap_eq (by unfold inR; omega)]; rfl)), rfl⟩
    · by_cases cq : c < 0
      · have HV := hid (HI.out (Classical.byContradiction fun h => by have := HO.out.2 h; omega))
        have aq2 : ¬ a < 0 := by omega
        have aq3 : 0 ≤ a := by omega
        have bq2 : ¬ 0 < b := by omega
        have bq5 : ¬ b < 0 := by omega
        have bq3 : 0 ≤ b := by omega
        clear bq
        have cq3 : ¬ 0 ≤ c := by omega
        have cq4 : decide (0 ≤ c) = false := decide_eq_false cq3
        clear HO HI HU
        go_enter Tryz.func74, Tryz.ntmps74
        go_wp2_with fail
        go_ret2
        exact ⟨retV_eq (by first | exact HV.out | (rw [HV.out, ← HC.out, wrap_eq (by unfold inR; omega)]; rfl)), rfl⟩
      · have HV := hid (HI.out (Classical.byContradiction fun h => by have := HO.out.2 h; omega))
        have aq2 : ¬ a < 0 := by omega
        have aq3 : 0 ≤ a := by omega
        have bq2 : ¬ 0 < b := by omega
        have bq5 : ¬ b < 0 := by omega
        have bq3 : 0 ≤ b := by omega
        clear bq
        have cq3 : 0 ≤ c := by omega
        clear HO HI HU
        go_enter Tryz.func74, Tryz.ntmps74
        go_wp2_with fail
        go_ret2
        exact ⟨retV_eq (by first | exact HV.out | (rw [HV.out, ← HC.out, wrap_eq (by unfold inR; omega)]; rfl)), rfl⟩
    · by_cases cq : c < 0
      · have HV := hid (HI.out (Classical.byContradiction fun h => by have := HO.out.2 h; omega))
        have aq2 : ¬ a < 0 := by omega
        have aq3 : 0 ≤ a := by omega
        have bq2 : ¬ b < 0 := by omega
        have bq3 : 0 ≤ b := by omega
        have cq3 : ¬ 0 ≤ c := by omega
        have cq4 : decide (0 ≤ c) = false := decide_eq_false cq3
        clear HO HI HU
        go_enter Tryz.func74, Tryz.ntmps74
        go_wp2_with fail
        go_ret2
        exact ⟨retV_eq (by first | exact HV.out | (rw [HV.out, ← HC.out, wrap_eq (by unfold inR; omega)]; rfl)), rfl⟩
      · have HV := hid (HI.out (Classical.byContradiction fun h => by have := HO.out.2 h; omega))
        have aq2 : ¬ a < 0 := by omega
        have aq3 : 0 ≤ a := by omega
        have bq2 : ¬ b < 0 := by omega
        have bq3 : 0 ≤ b := by omega
        have cq3 : 0 ≤ c := by omega
        clear HO HI HU
        go_enter Tryz.func74, Tryz.ntmps74
        go_wp2_with fail
        go_ret2
        exact ⟨retV_eq (by first | exact HV.out | (rw [HV.out, ← HC.out, wrap_eq (by unfold inR; omega)]; rfl)), rfl⟩

end Go.Proofs.YtgpggkepgoelfaaGreatDoor
/-
  espalierref8's mul, divided and pow, each by a contract.
-/
namespace Go.Proofs.YtgpggkepgoelfaaGreatDoor
open Go.RowKit
theorem mulO (a b : Int) (hb : inR b) (h0 : b ≠ 0) : inR (a * b) ↔ (wrap64 (a * b)).tdiv b = a := by
  constructor
  · intro h
    rw [wrap_eq h, Int.mul_tdiv_cancel a h0]
  · intro h
    have h1 := Int.mul_tdiv_add_tmod (wrap64 (a * b)) b
    have h2 := (tmod_facts (wrap64 (a * b)) b h0).1
    rw [h, Int.mul_comm] at h1
    have h3 := wrapR (a * b)
    generalize (wrap64 (a * b)).tmod b = r at *
    generalize hp : a * b = p at *
    have h4 : ∃ k : Int, wrap64 p = p + k * 18446744073709551616 := ⟨-((p + 9223372036854775808) / 18446744073709551616), by unfold wrap64; omega⟩
    obtain ⟨k, hk⟩ := h4
    unfold inR at *
    omega
theorem law_mul_in {a b : Int} (h : inR (a * b)) : lawV (mulV a b) = .tuple #[.int .i64 (wrap64 (a * b)), .int .i64 0] := by unfold mulV; rw [if_pos h, lawV_came, wrap_eq h]
theorem law_mul_out {a b : Int} (h : ¬ inR (a * b)) : lawV (mulV a b) = .tuple #[.int .i64 0, .int .i64 21] := by unfold mulV; rw [if_neg h, lawV_ref]
set_option maxRecDepth 100000 in
set_option maxHeartbeats 2000000 in
theorem rmul_any (a b : Int) (w : World) (ha : inR a) (hb : inR b) : Calls Tryz.prog 75 #[.int .i64 a, .int .i64 b] w fun e w' => e = .returned (lawV (mulV a b)) ∧ w' = w := by
  by_cases a0 : a = 0
  · subst a0
    have HV := hid (show lawV (mulV 0 b) = .tuple #[.int .i64 0, .int .i64 0] by unfold mulV; rw [Int.zero_mul, if_pos (by unfold inR; omega), lawV_came])
    clear ha hb
    go_enter Tryz.func75, Tryz.ntmps75
    go_wp2_with fail
    go_ret2
    exact ⟨retV_eq (by first | exact HV.out | (rw [HV.out, ← HC.out]; rfl)), rfl⟩
  by_cases b0 : b = 0
  · subst b0
    have az : (a == 0) = false := by rw [beq_eq_false_iff_ne]; exact a0
    have HV := hid (show lawV (mulV a 0) = .tuple #[.int .i64 0, .int .i64 0] by unfold mulV; rw [Int.mul_zero, if_pos (by unfold inR; omega), lawV_came])
    clear ha hb
    go_enter Tryz.func75, Tryz.ntmps75
    go_wp2_with fail
    go_ret2
    exact ⟨retV_eq (by first | exact HV.out | (rw [HV.out, ← HC.out]; rfl)), rfl⟩
  have az : (a == 0) = false := by rw [beq_eq_false_iff_ne]; exact a0
  have bz : (b == 0) = false := by rw [beq_eq_false_iff_ne]; exact b0
  by_cases s1 : a = -1 ∧ b = -9223372036854775808
  · obtain ⟨rfl, rfl⟩ := s1
    have HV := hid (law_mul_out (a := -1) (b := -9223372036854775808) (by unfold inR; omega))
    clear ha hb
    go_enter Tryz.func75, Tryz.ntmps75
    go_wp2_with fail
    go_ret2
    exact ⟨retV_eq (by first | exact HV.out | (rw [HV.out, ← HC.out]; rfl)), rfl⟩
  by_cases s2 : b = -1 ∧ a = -9223372036854775808
  · obtain ⟨rfl, rfl⟩ := s2
    have HV := hid (law_mul_out (a := -9223372036854775808) (b := -1) (by unfold inR; omega))
    clear ha hb
    go_enter Tryz.func75, Tryz.ntmps75
    go_wp2_with fail
    go_ret2
    exact ⟨retV_eq (by first | exact HV.out | (rw [HV.out, ← HC.out]; rfl)), rfl⟩
  have HO := hid (mulO a b hb b0)
  have HI := hid (fun h => law_mul_in (a := a) (b := b) h)
  have HU := hid (fun h => law_mul_out (a := a) (b := b) h)
  have hcr := wrapR (a * b)
  have hq : inR ((wrap64 (a * b)).tdiv b) := tdiv_in _ b hcr hb b0 (fun ⟨e1, e2⟩ => s2 ⟨e2, by
    subst e2
    unfold wrap64 at e1
    unfold inR at ha
    omega⟩)
  obtain ⟨c, hc⟩ : ∃ c, wrap64 (a * b) = c := ⟨_, rfl⟩
  rw [hc] at HO HI hq
  have HC := hid hc
  obtain ⟨q, hqq⟩ : ∃ q, c.tdiv b = q := ⟨_, rfl⟩
  rw [hqq] at HO hq
  obtain ⟨q1, q2⟩ := hq
  have hb00 : ¬ b = 0 := b0
  clear hcr ha
  by_cases a1 : a = -1
  · have a2 : (a == -1) = true := by rw [beq_iff_eq]; exact a1
    have b3 : (b == -9223372036854775808) = false := by rw [beq_eq_false_iff_ne]; exact fun e => s1 ⟨a1, e⟩
    by_cases b1 : b = -1
    · have b2 : (b == -1) = true := by rw [beq_iff_eq]; exact b1
      have a3 : (a == -9223372036854775808) = false := by rw [beq_eq_false_iff_ne]; exact fun e => s2 ⟨b1, e⟩
      by_cases e : q = a
      · have HV := hid (HI.out (HO.out.2 e))
        have e2 : (q == a) = true := by rw [beq_iff_eq]; exact e
        have e3 : (q != a) = false := by unfold bne; rw [e2]; rfl
        clear HO HI HU s1 s2 hb b0 e a1 b1
        go_enter Tryz.func75, Tryz.ntmps75
        go_wp2_with fail
        go_ret2
        exact ⟨retV_eq (by first | exact HV.out | (rw [HV.out, ← HC.out]; rfl)), rfl⟩
      · have HV := hid (HU.out (fun h => e (HO.out.1 h)))
        have e2 : (q == a) = false := by rw [beq_eq_false_iff_ne]; exact e
        have e3 : (q != a) = true := by unfold bne; rw [e2]; rfl
        clear HO HI HU s1 s2 hb b0 e a1 b1
        go_enter Tryz.func75, Tryz.ntmps75
        go_wp2_with fail
        go_ret2
        exact ⟨retV_eq (by first | exact HV.out | (rw [HV.out, ← HC.out]; rfl)), rfl⟩
    · have b2 : (b == -1) = false := by rw [beq_eq_false_iff_ne]; exact b1
      by_cases e : q = a
      · have HV := hid (HI.out (HO.out.2 e))
        have e2 : (q == a) = true := by rw [beq_iff_eq]; exact e
        have e3 : (q != a) = false := by unfold bne; rw [e2]; rfl
        clear HO HI HU s1 s2 hb b0 e a1 b1
        go_enter Tryz.func75, Tryz.ntmps75
        go_wp2_with fail
        go_ret2
        exact ⟨retV_eq (by first | exact HV.out | (rw [HV.out, ← HC.out]; rfl)), rfl⟩
      · have HV := hid (HU.out (fun h => e (HO.out.1 h)))
        have e2 : (q == a) = false := by rw [beq_eq_false_iff_ne]; exact e
        have e3 : (q != a) = true := by unfold bne; rw [e2]; rfl
        clear HO HI HU s1 s2 hb b0 e a1 b1
        go_enter Tryz.func75, Tryz.ntmps75
        go_wp2_with fail
        go_ret2
        exact ⟨retV_eq (by first | exact HV.out | (rw [HV.out, ← HC.out]; rfl)), rfl⟩

  · have a2 : (a == -1) = false := by rw [beq_eq_false_iff_ne]; exact a1
    by_cases b1 : b = -1
    · have b2 : (b == -1) = true := by rw [beq_iff_eq]; exact b1
      have a3 : (a == -9223372036854775808) = false := by rw [beq_eq_false_iff_ne]; exact fun e => s2 ⟨b1, e⟩
      by_cases e : q = a
      · have HV := hid (HI.out (HO.out.2 e))
        have e2 : (q == a) = true := by rw [beq_iff_eq]; exact e
        have e3 : (q != a) = false := by unfold bne; rw [e2]; rfl
        clear HO HI HU s1 s2 hb b0 e a1 b1
        go_enter Tryz.func75, Tryz.ntmps75
        go_wp2_with fail
        go_ret2
        exact ⟨retV_eq (by first | exact HV.out | (rw [HV.out, ← HC.out]; rfl)), rfl⟩
      · have HV := hid (HU.out (fun h => e (HO.out.1 h)))
        have e2 : (q == a) = false := by rw [beq_eq_false_iff_ne]; exact e
        have e3 : (q != a) = true := by unfold bne; rw [e2]; rfl
        clear HO HI HU s1 s2 hb b0 e a1 b1
        go_enter Tryz.func75, Tryz.ntmps75
        go_wp2_with fail
        go_ret2
        exact ⟨retV_eq (by first | exact HV.out | (rw [HV.out, ← HC.out]; rfl)), rfl⟩
    · have b2 : (b == -1) = false := by rw [beq_eq_false_iff_ne]; exact b1
      by_cases e : q = a
      · have HV := hid (HI.out (HO.out.2 e))
        have e2 : (q == a) = true := by rw [beq_iff_eq]; exact e
        have e3 : (q != a) = false := by unfold bne; rw [e2]; rfl
        clear HO HI HU s1 s2 hb b0 e a1 b1
        go_enter Tryz.func75, Tryz.ntmps75
        go_wp2_with fail
        go_ret2
        exact ⟨retV_eq (by first | exact HV.out | (rw [HV.out, ← HC.out]; rfl)), rfl⟩
      · have HV := hid (HU.out (fun h => e (HO.out.1 h)))
        have e2 : (q == a) = false := by rw [beq_eq_false_iff_ne]; exact e
        have e3 : (q != a) = true := by unfold bne; rw [e2]; rfl
        clear HO HI HU s1 s2 hb b0 e a1 b1
        go_enter Tryz.func75, Tryz.ntmps75
        go_wp2_with fail
        go_ret2
        exact ⟨retV_eq (by first | exact HV.out | (rw [HV.out, ← HC.out]; rfl)), rfl⟩
set_option maxRecDepth 100000 in
set_option maxHeartbeats 2000000 in
theorem rquo_any (a b : Int) (w : World) (ha : inR a) (hb : inR b) : Calls Tryz.prog 76 #[.string ⟨#[110, 117, 109, 46, 113, 117, 111]⟩, .int .i64 a, .int .i64 b] w fun e w' => e = .returned (lawV (quoV a b)) ∧ w' = w := by
  by_cases b0 : b = 0
  · subst b0
    have HV := hid (show lawV (quoV a 0) = .tuple #[.int .i64 0, .int .i64 22] by unfold quoV; rw [if_pos rfl, lawV_ref])
    clear ha hb
    go_enter Tryz.func76, Tryz.ntmps76
    go_wp2_with fail
    go_ret2
    exact ⟨retV_eq HV.out, rfl⟩
  have bz : (b == 0) = false := by rw [beq_eq_false_iff_ne]; exact b0
  by_cases s1 : a = -9223372036854775808 ∧ b = -1
  · obtain ⟨rfl, rfl⟩ := s1
    have HV := hid (show lawV (quoV (-9223372036854775808) (-1)) = .tuple #[.int .i64 0, .int .i64 21] by unfold quoV; rw [if_neg (by decide), if_neg (by unfold inR; decide), lawV_ref])
    clear ha hb
    go_enter Tryz.func76, Tryz.ntmps76
    go_wp2_with fail
    go_ret2
    exact ⟨retV_eq HV.out, rfl⟩
  have hq := tdiv_in a b ha hb b0 s1
  have HV := hid (show lawV (quoV a b) = .tuple #[.int .i64 (a.tdiv b), .int .i64 0] by unfold quoV; rw [if_neg b0, if_pos hq, lawV_came])
  obtain ⟨q, hqq⟩ : ∃ q, a.tdiv b = q := ⟨_, rfl⟩
  rw [hqq] at hq HV
  obtain ⟨q1, q2⟩ := hq
  have hb00 : ¬ b = 0 := b0
  by_cases a1 : a = -9223372036854775808
  · have a2 : (a == -9223372036854775808) = true := by rw [beq_iff_eq]; exact a1
    have b2 : (b == -1) = false := by rw [beq_eq_false_iff_ne]; exact fun e => s1 ⟨a1, e⟩
    clear s1 ha hb b0 a1
    go_enter Tryz.func76, Tryz.ntmps76
    go_wp2_with fail
    go_ret2
    exact ⟨retV_eq HV.out, rfl⟩
  · have a2 : (a == -9223372036854775808) = false := by rw [beq_eq_false_iff_ne]; exact a1
    clear s1 ha hb b0 a1
    go_enter Tryz.func76, Tryz.ntmps76
    go_wp2_with fail
    go_ret2
    exact ⟨retV_eq HV.out, rfl⟩
set_option maxRecDepth 100000 in
set_option maxHeartbeats 2000000 in
theorem rmod_any (a b : Int) (w : World) (_ : inR a) (hb : inR b) : Calls Tryz.prog 76 #[.string ⟨#[110, 117, 109, 46, 109, 111, 100]⟩, .int .i64 a, .int .i64 b] w fun e w' => e = .returned (lawV (modW a b)) ∧ w' = w := by
  by_cases b0 : b = 0
  · subst b0
    have HV := hid (show lawV (modW a 0) = .tuple #[.int .i64 0, .int .i64 22] by unfold modW; rw [if_pos rfl, lawV_ref])
    clear hb
    go_enter Tryz.func76, Tryz.ntmps76
    go_wp2_with fail
    go_ret2
    exact ⟨retV_eq HV.out, rfl⟩
  have bz : (b == 0) = false := by rw [beq_eq_false_iff_ne]; exact b0
  have HV0 := hid (show modW a b = cameV (modI a b) from if_neg b0)
  by_cases b1 : b = -1
  · subst b1
    have HV := hid (show lawV (modW a (-1)) = .tuple #[.int .i64 0, .int .i64 0] by rw [HV0.out, lawV_came]; unfold modI; rw [show a.tmod (-1) = 0 by rw [Int.tmod_neg, Int.tmod_one]]; rfl)
    clear hb HV0
    go_enter Tryz.func76, Tryz.ntmps76
    go_wp2_with fail
    go_ret2
    exact ⟨retV_eq HV.out, rfl⟩
  have b2 : (b == -1) = false := by rw [beq_eq_false_iff_ne]; exact b1
  obtain ⟨t1, t2, t3⟩ := tmod_facts a b b0
  have hb00 : ¬ b = 0 := b0
  obtain ⟨hb1, hb2⟩ := hb
  obtain ⟨r, hr⟩ : ∃ r, a.tmod b = r := ⟨_, rfl⟩
  have HM := hid (show modI a b = if r ≠ 0 ∧ ((r < 0) ≠ (b < 0)) then r + b else r by unfold modI; rw [hr])
  rw [hr] at t1 t2 t3
  have r1 : -9223372036854775808 ≤ r := by omega
  have r2 : r ≤ 9223372036854775807 := by omega
  by_cases z : r = 0
  · have HV := hid (show lawV (modW a b) = .tuple #[.int .i64 r, .int .i64 0] by rw [HV0.out, lawV_came, HM.out, if_neg (fun h => h.1 z)])
    have z1 : (r == 0) = true := by rw [beq_iff_eq]; exact z
    have z2 : (r != 0) = false := by unfold bne; rw [z1]; rfl
    clear HM HV0 t1 t2 t3 z b0 b1
    go_enter Tryz.func76, Tryz.ntmps76
    go_wp2_with fail
    go_ret2
    exact ⟨retV_eq HV.out, rfl⟩
  have z1 : (r == 0) = false := by rw [beq_eq_false_iff_ne]; exact z
  have z2 : (r != 0) = true := by unfold bne; rw [z1]; rfl
  by_cases rn : r < 0
  · by_cases bn : b < 0
    · have HV := hid (show lawV (modW a b) = .tuple #[.int .i64 r, .int .i64 0] by rw [HV0.out, lawV_came, HM.out, if_neg (fun h => h.2 (by simp [rn, bn]))])
      clear HM HV0 t1 t2 t3 z b0 b1
      go_enter Tryz.func76, Tryz.ntmps76
      go_wp2_with fail
      go_ret2
      exact ⟨retV_eq HV.out, rfl⟩
    · have HV := hid (show lawV (modW a b) = .tuple #[.int .i64 (r + b), .int .i64 0] by rw [HV0.out, lawV_came, HM.out, if_pos ⟨z, by simp [rn, bn]⟩])
      have s1 : -9223372036854775808 ≤ r + b := by omega
      have s2 : r + b ≤ 9223372036854775807 := by omega
      clear HM HV0 t1 t2 t3 z b0 b1
      go_enter Tryz.func76, Tryz.ntmps76
      go_wp2_with fail
      go_ret2
      exact ⟨retV_eq HV.out, rfl⟩
  · by_cases bn : b < 0
    · have HV := hid (show lawV (modW a b) = .tuple #[.int .i64 (r + b), .int .i64 0] by rw [HV0.out, lawV_came, HM.out, if_pos ⟨z, by simp [rn, bn]⟩])
      have s1 : -9223372036854775808 ≤ r + b := by omega
      have s2 : r + b ≤ 9223372036854775807 := by omega
      clear HM HV0 t1 t2 t3 z b0 b1
      go_enter Tryz.func76, Tryz.ntmps76
      go_wp2_with fail
      go_ret2
      exact ⟨retV_eq HV.out, rfl⟩
    · have HV := hid (show lawV (modW a b) = .tuple #[.int .i64 r, .int .i64 0] by rw [HV0.out, lawV_came, HM.out, if_neg (fun h => h.2 (by simp [rn, bn]))])
      clear HM HV0 t1 t2 t3 z b0 b1
      go_enter Tryz.func76, Tryz.ntmps76
      go_wp2_with fail
      go_ret2
      exact ⟨retV_eq HV.out, rfl⟩

theorem law_pow {a n : Int} (h : 0 ≤ n) : powV a n = if inR (a ^ n.toNat) then cameV (a ^ n.toNat) else refV 21 := by unfold powV; rw [if_neg (by omega)]
theorem neg1_pow (k : Nat) : (-1 : Int) ^ k = 1 - 2 * ((k % 2 : Nat) : Int) := by
  rcases Nat.mod_two_eq_zero_or_one k with h | h
  · obtain ⟨j, rfl⟩ : ∃ j, k = 2 * j := ⟨k / 2, by omega⟩
    rw [h, Int.pow_mul, show (-1 : Int) ^ 2 = 1 from rfl, one_powI]; rfl
  · obtain ⟨j, rfl⟩ : ∃ j, k = 2 * j + 1 := ⟨k / 2, by omega⟩
    rw [h, Int.pow_succ (n := 2 * j), Int.pow_mul, show (-1 : Int) ^ 2 = 1 from rfl, one_powI]; rfl
set_option maxRecDepth 100000 in
set_option maxHeartbeats 2000000 in
theorem rpow_any (a n : Int) (w : World) (ha : inR a) (hn : inR n) : Calls Tryz.prog 77 #[.int .i64 a, .int .i64 n] w fun e w' => e = .returned (lawV (powV a n)) ∧ w' = w := by
  by_cases h0 : n < 0
  · have HV := hid (show lawV (powV a n) = .tuple #[.int .i64 0, .int .i64 23] by unfold powV; rw [if_pos h0, lawV_ref])
    clear ha hn
    go_enter Tryz.func77, Tryz.ntmps77
    go_wp2_with fail
    go_ret2
    exact ⟨retV_eq HV.out, rfl⟩
  obtain ⟨N, rfl⟩ : ∃ N : Nat, n = N := ⟨n.toNat, by omega⟩
  have HP := hid (show powV a N = if inR (a ^ N) then cameV (a ^ N) else refV 21 by rw [law_pow (by omega), Int.toNat_natCast])
  obtain ⟨hn1, hn2⟩ := hn
  by_cases a0 : a = 0
  · subst a0
    by_cases n0 : N = 0
    · subst n0
      have HV := hid (show lawV (powV 0 (0 : Nat)) = .tuple #[.int .i64 1, .int .i64 0] by rw [HP.out, if_pos (by unfold inR; decide), lawV_came]; rfl)
      go_enter Tryz.func77, Tryz.ntmps77
      go_wp2_with fail
      go_ret2
      exact ⟨retV_eq HV.out, rfl⟩
    · have HV := hid (show lawV (powV 0 N) = .tuple #[.int .i64 0, .int .i64 0] by rw [HP.out, Int.zero_pow n0, if_pos (by unfold inR; decide), lawV_came])
      have n1 : ((N : Int) == 0) = false := by rw [beq_eq_false_iff_ne]; omega
      clear n0
      go_enter Tryz.func77, Tryz.ntmps77
      go_wp2_with fail
      go_ret2
      exact ⟨retV_eq HV.out, rfl⟩
  have az : (a == 0) = false := by rw [beq_eq_false_iff_ne]; exact a0
  by_cases a1 : a = 1
  · subst a1
    have HV := hid (show lawV (powV 1 N) = .tuple #[.int .i64 1, .int .i64 0] by rw [HP.out, one_powI, if_pos (by unfold inR; decide), lawV_came])
    by_cases n0 : N = 0
    · subst n0
      go_enter Tryz.func77, Tryz.ntmps77
      go_wp2_with fail
      go_ret2
      exact ⟨retV_eq HV.out, rfl⟩
    · have n1 : ((N : Int) == 0) = false := by rw [beq_eq_false_iff_ne]; omega
      clear n0
      go_enter Tryz.func77, Tryz.ntmps77
      go_wp2_with fail
      go_ret2
      exact ⟨retV_eq HV.out, rfl⟩
  have ao : (a == 1) = false := by rw [beq_eq_false_iff_ne]; exact a1
  by_cases a2 : a = -1
  · subst a2
    have hk : N % 2 < 2 := Nat.mod_lt _ (by decide)
    have HV := hid (show lawV (powV (-1) N) = .tuple #[.int .i64 (1 - 2 * ((N % 2 : Nat) : Int)), .int .i64 0] by rw [HP.out, neg1_pow, if_pos (by unfold inR; omega), lawV_came])
    have hm : (N : Int).tmod 2 = ((N % 2 : Nat) : Int) := by rw [Int.tmod_eq_emod_of_nonneg (by omega)]; rfl
    generalize N % 2 = r at *
    have hr : (r : Int) ≤ 1 := by omega
    have hr0 : 0 ≤ (r : Int) := by omega
    clear hk
    go_enter Tryz.func77, Tryz.ntmps77
    go_wp2_with fail
    go_ret2
    exact ⟨retV_eq HV.out, rfl⟩
  have am : (a == -1) = false := by rw [beq_eq_false_iff_ne]; exact a2
  have HA := hid ha
  have HM := hid (fun x w hx => rmul_any x a w hx ha)
  clear ha a0 a1 a2 h0
  go_enter Tryz.func77, Tryz.ntmps77
  go_wp2_with fail
  go_loopw [6, 7] (fun q6 q7 wr => ∃ j : Nat, j ≤ N ∧ q7 = .int .i64 j ∧ q6 = .int .i64 (a ^ j) ∧ inR (a ^ j) ∧ wr = w) (fun _ q7 _ => N - (intOf q7).toNat)
  case atStart => exact ⟨0, Nat.zero_le _, rfl, by rw [Int.pow_zero], by unfold inR; rw [Int.pow_zero]; omega, rfl⟩
  case round =>
    obtain ⟨j, hj, rfl, rfl, hin, rfl⟩ := hrel
    by_cases hlt : j < N
    · have hlt' : (j : Int) < N := by omega
      have HC := hid (HM.out (a ^ j) wr hin)
      have HS := hid (show a ^ j * a = a ^ (j + 1) from (Int.pow_succ a j).symm)
      have HO := hid (fun h => pow_out a (j + 1) N hlt h)
      obtain ⟨x, hx⟩ : ∃ x, a ^ j = x := ⟨_, rfl⟩
      rw [hx] at HC HS hin ⊢
      clear hx
      by_cases hi : inR (x * a)
      · have HL := hid (law_mul_in hi)
        have HW := hid (wrap_eq hi)
        rw [HL.out, HW.out] at HC
        have HI := hid hi
        clear hi
        generalize x * a = y at *
        go_wp2_with fail
        refine HC.out.mono ?_
        rintro e w1 ⟨rfl, rfl⟩
        go_wp2_with fail
        go_roundw
        case rel => exact ⟨j + 1, hlt, by go_num, by rw [HS.out], by rw [← HS.out]; exact HI.out, by trivial⟩
        case measure => simp [intOf]; omega
      · have HL := hid (law_mul_out hi)
        rw [HL.out] at HC
        have HV := hid (show lawV (powV a N) = .tuple #[.int .i64 0, .int .i64 21] by rw [HP.out, if_neg (HO.out (by rw [← HS.out]; exact hi)), lawV_ref])
        clear hi
        go_wp2_with fail
        refine HC.out.mono ?_
        rintro e w1 ⟨rfl, rfl⟩
        go_wp2_with fail
        go_ret2
        exact ⟨retV_eq HV.out, rfl⟩
    · have hje : j = N := by omega
      subst hje
      have hlt3 : ¬ (j : Int) < j := by omega
      have HV := hid (show lawV (powV a j) = .tuple #[.int .i64 (a ^ j), .int .i64 0] by rw [HP.out, if_pos hin, lawV_came])
      go_wp2_with fail
      go_ret2
      exact ⟨retV_eq HV.out, rfl⟩
end Go.Proofs.YtgpggkepgoelfaaGreatDoor
/-
  espalierref8's work, operation by operation; num and truth.
-/
namespace Go.Proofs.YtgpggkepgoelfaaGreatDoor
open Go.RowKit
def plV (k n : Int) (x : ByteArray) : Value := .agg #[.int .i64 k, .int .i64 n, .string x, .slice none 0 0]
theorem rnum_any (n : Int) (w : World) : Calls Tryz.prog 36 #[.int .i64 n] w fun e w' => e = .returned (plV 3 n ⟨#[]⟩) ∧ Ext w w' := by
  go_enter Tryz.func36, Tryz.ntmps36
  go_wp2_with fail
  obtain ⟨z0, z1, z2, z3⟩ := four_of (blk0 w (.cells #[.int .i64 3, .int .i64 n, .string ⟨#[]⟩, .slice none 0 0] 34))
  refine bodyPost_ret (v := plV 3 n ⟨#[]⟩) (by simp [results, Tryz.results36, go_sem, z0, z1, z2, z3, plV]) rfl ?_
  exact ⟨rfl, Ext.alloc _ _⟩
theorem IRes.add (a b : Int) : IRes (addV a b) := by unfold addV; split; exact .inl ⟨_, rfl⟩; exact .inr ⟨_, by decide, rfl⟩
theorem IRes.sub (a b : Int) : IRes (subV a b) := by unfold subV; split; exact .inl ⟨_, rfl⟩; exact .inr ⟨_, by decide, rfl⟩
theorem IRes.mul (a b : Int) : IRes (mulV a b) := by unfold mulV; split; exact .inl ⟨_, rfl⟩; exact .inr ⟨_, by decide, rfl⟩
theorem IRes.quo (a b : Int) : IRes (quoV a b) := by unfold quoV; split; exact .inr ⟨_, by decide, rfl⟩; split; exact .inl ⟨_, rfl⟩; exact .inr ⟨_, by decide, rfl⟩
theorem IRes.mod (a b : Int) : IRes (modW a b) := by unfold modW; split; exact .inr ⟨_, by decide, rfl⟩; exact .inl ⟨_, rfl⟩
theorem IRes.pow (a b : Int) : IRes (powV a b) := by unfold powV; split; exact .inr ⟨_, by decide, rfl⟩; split; exact .inl ⟨_, rfl⟩; exact .inr ⟨_, by decide, rfl⟩
theorem IRes.neg (a : Int) : IRes (negV a) := by unfold negV; split; exact .inl ⟨_, rfl⟩; exact .inr ⟨_, by decide, rfl⟩
theorem IRes.abs (a : Int) : IRes (absV a) := by unfold absV; split; exact IRes.neg a; exact .inl ⟨_, rfl⟩
theorem IRes.two {V : Value} (h : IRes V) : ∃ x y, lawV V = .tuple #[.int .i64 x, .int .i64 y] := by
  rcases h with ⟨n, rfl⟩ | ⟨c, _, rfl⟩
  · exact ⟨n, 0, rfl⟩
  · exact ⟨0, c, rfl⟩
theorem neg_sub (a : Int) : subV 0 a = negV a := by unfold subV negV; rw [Int.zero_sub]
set_option maxRecDepth 100000 in
theorem rwk_add (a b : Int) (w : World) (ha : inR a) (hb : inR b) : Calls Tryz.prog 35 #[.string ⟨#[110, 117, 109, 46, 97, 100, 100]⟩, .int .i64 a, .int .i64 b] w fun e w' => e = .returned (lawV (addV a b)) ∧ w' = w := by
  have HC := hid (radd_any a b w ha hb)
  have HT := hid (IRes.two (IRes.add a b))
  clear ha hb
  obtain ⟨x, y, hxy⟩ := HT.out
  rw [hxy] at HC ⊢
  clear hxy HT
  go_enter Tryz.func35, Tryz.ntmps35
  go_wp2_with fail
  refine HC.out.mono ?_
  rintro e w1 ⟨rfl, rfl⟩
  go_wp2_with fail
  go_ret2
  exact ⟨rfl, rfl⟩
set_option maxRecDepth 100000 in
theorem rwk_sub (a b : Int) (w : World) (ha : inR a) (hb : inR b) : Calls Tryz.prog 35 #[.string ⟨#[110, 117, 109, 46, 115, 117, 98]⟩, .int .i64 a, .int .i64 b] w fun e w' => e = .returned (lawV (subV a b)) ∧ w' = w := by
  have HC := hid (rsub_any a b w ha hb)
  have HT := hid (IRes.two (IRes.sub a b))
  clear ha hb
  obtain ⟨x, y, hxy⟩ := HT.out
  rw [hxy] at HC ⊢
  clear hxy HT
  go_enter Tryz.func35, Tryz.ntmps35
  go_wp2_with fail
  refine HC.out.mono ?_
  rintro e w1 ⟨rfl, rfl⟩
  go_wp2_with fail
  go_ret2
  exact ⟨rfl, rfl⟩
set_option maxRecDepth 100000 in
theorem rwk_mul (a b : Int) (w : World) (ha : inR a) (hb : inR b) : Calls Tryz.prog 35 #[.string ⟨#[110, 117, 109, 46, 109, 117, 108]⟩, .int .i64 a, .int .i64 b] w fun e w' => e = .returned (lawV (mulV a b)) ∧ w' = w := by
  have HC := hid (rmul_any a b w ha hb)
  have HT := hid (IRes.two (IRes.mul a b))
  clear ha hb
  obtain ⟨x, y, hxy⟩ := HT.out
  rw [hxy] at HC ⊢
  clear hxy HT
  go_enter Tryz.func35, Tryz.ntmps35
  go_wp2_with fail
  refine HC.out.mono ?_
  rintro e w1 ⟨rfl, rfl⟩
  go_wp2_with fail
  go_ret2
  exact ⟨rfl, rfl⟩
set_option maxRecDepth 100000 in
theorem rwk_quo (a b : Int) (w : World) (ha : inR a) (hb : inR b) : Calls Tryz.prog 35 #[.string ⟨#[110, 117, 109, 46, 113, 117, 111]⟩, .int .i64 a, .int .i64 b] w fun e w' => e = .returned (lawV (quoV a b)) ∧ w' = w := by
  have HC := hid (rquo_any a b w ha hb)
  have HT := hid (IRes.two (IRes.quo a b))
  clear ha hb
  obtain ⟨x, y, hxy⟩ := HT.out
  rw [hxy] at HC ⊢
  clear hxy HT
  go_enter Tryz.func35, Tryz.ntmps35
  go_wp2_with fail
  refine HC.out.mono ?_
  rintro e w1 ⟨rfl, rfl⟩
  go_wp2_with fail
  go_ret2
  exact ⟨rfl, rfl⟩
set_option maxRecDepth 100000 in
theorem rwk_mod (a b : Int) (w : World) (ha : inR a) (hb : inR b) : Calls Tryz.prog 35 #[.string ⟨#[110, 117, 109, 46, 109, 111, 100]⟩, .int .i64 a, .int .i64 b] w fun e w' => e = .returned (lawV (modW a b)) ∧ w' = w := by
  have HC := hid (rmod_any a b w ha hb)
  have HT := hid (IRes.two (IRes.mod a b))
  clear ha hb
  obtain ⟨x, y, hxy⟩ := HT.out
  rw [hxy] at HC ⊢
  clear hxy HT
  go_enter Tryz.func35, Tryz.ntmps35
  go_wp2_with fail
  refine HC.out.mono ?_
  rintro e w1 ⟨rfl, rfl⟩
  go_wp2_with fail
  go_ret2
  exact ⟨rfl, rfl⟩
set_option maxRecDepth 100000 in
theorem rwk_pow (a b : Int) (w : World) (ha : inR a) (hb : inR b) : Calls Tryz.prog 35 #[.string ⟨#[110, 117, 109, 46, 112, 111, 119]⟩, .int .i64 a, .int .i64 b] w fun e w' => e = .returned (lawV (powV a b)) ∧ w' = w := by
  have HC := hid (rpow_any a b w ha hb)
  have HT := hid (IRes.two (IRes.pow a b))
  clear ha hb
  obtain ⟨x, y, hxy⟩ := HT.out
  rw [hxy] at HC ⊢
  clear hxy HT
  go_enter Tryz.func35, Tryz.ntmps35
  go_wp2_with fail
  refine HC.out.mono ?_
  rintro e w1 ⟨rfl, rfl⟩
  go_wp2_with fail
  go_ret2
  exact ⟨rfl, rfl⟩
set_option maxRecDepth 100000 in
theorem rwk_neg (a b : Int) (w : World) (ha : inR a) : Calls Tryz.prog 35 #[.string ⟨#[110, 117, 109, 46, 110, 101, 103]⟩, .int .i64 a, .int .i64 b] w fun e w' => e = .returned (lawV (negV a)) ∧ w' = w := by
  have HC := hid (rsub_any 0 a w (by unfold inR; omega) ha)
  rw [neg_sub] at HC
  have HT := hid (IRes.two (IRes.neg a))
  clear ha
  obtain ⟨x, y, hxy⟩ := HT.out
  rw [hxy] at HC ⊢
  clear hxy HT
  go_enter Tryz.func35, Tryz.ntmps35
  go_wp2_with fail
  refine HC.out.mono ?_
  rintro e w1 ⟨rfl, rfl⟩
  go_wp2_with fail
  go_ret2
  exact ⟨rfl, rfl⟩
set_option maxRecDepth 100000 in
theorem rwk_abs (a b : Int) (w : World) (ha : inR a) : Calls Tryz.prog 35 #[.string ⟨#[110, 117, 109, 46, 97, 98, 115]⟩, .int .i64 a, .int .i64 b] w fun e w' => e = .returned (lawV (absV a)) ∧ w' = w := by
  have HC := hid (rsub_any 0 a w (by unfold inR; omega) ha)
  rw [neg_sub] at HC
  have HT := hid (IRes.two (IRes.neg a))
  clear ha
  by_cases h0 : a < 0
  case neg =>
    have HV := hid (show lawV (absV a) = .tuple #[.int .i64 a, .int .i64 0] by unfold absV; rw [if_neg h0, lawV_came])
    go_enter Tryz.func35, Tryz.ntmps35
    go_wp2_with fail
    go_ret2
    exact ⟨retV_eq HV.out, rfl⟩
  have HV := hid (show lawV (absV a) = lawV (negV a) by unfold absV; rw [if_pos h0])
  rw [HV.out]
  clear HV
  obtain ⟨x, y, hxy⟩ := HT.out
  rw [hxy] at HC ⊢
  clear hxy HT
  go_enter Tryz.func35, Tryz.ntmps35
  go_wp2_with fail
  refine HC.out.mono ?_
  rintro e w1 ⟨rfl, rfl⟩
  go_wp2_with fail
  go_ret2
  exact ⟨rfl, rfl⟩
set_option maxRecDepth 100000 in
theorem rwk_min (a b : Int) (w : World) : Calls Tryz.prog 35 #[.string ⟨#[110, 117, 109, 46, 109, 105, 110]⟩, .int .i64 a, .int .i64 b] w fun e w' => e = .returned (lawV (cameV (min a b))) ∧ w' = w := by
  rw [lawV_came]
  go_enter Tryz.func35, Tryz.ntmps35
  go_wp2_with fail
  go_ret2
  exact ⟨rfl, rfl⟩
set_option maxRecDepth 100000 in
theorem rwk_max (a b : Int) (w : World) : Calls Tryz.prog 35 #[.string ⟨#[110, 117, 109, 46, 109, 97, 120]⟩, .int .i64 a, .int .i64 b] w fun e w' => e = .returned (lawV (cameV (max a b))) ∧ w' = w := by
  rw [lawV_came]
  go_enter Tryz.func35, Tryz.ntmps35
  go_wp2_with fail
  go_ret2
  exact ⟨rfl, rfl⟩
def tellI (b : Bool) : Int := if b then 1 else 0
set_option maxRecDepth 100000 in
theorem rtruth_any (b : Bool) (w : World) : Calls Tryz.prog 34 #[.bool b] w fun e w' => e = .returned (plV 2 (tellI b) ⟨#[]⟩) ∧ Ext w w' := by
  cases b with
  | false =>
    go_enter Tryz.func34, Tryz.ntmps34
    go_wp2_with fail
    obtain ⟨z0, z1, z2, z3⟩ := four_of (blkOld (.cells #[.int .i64 2, .int .i64 0, .string ⟨#[]⟩, .slice none 0 0] 34) (blk0 w (.cells #[.int .i64 2, .int .i64 0, .string ⟨#[]⟩, .slice none 0 0] 34)))
    refine bodyPost_ret (v := plV 2 0 ⟨#[]⟩) (by simp [results, Tryz.results34, go_sem, z0, z1, z2, z3, plV]) rfl ?_
    exact ⟨rfl, Ext.alloc2 _ _ _⟩
  | true =>
    go_enter Tryz.func34, Tryz.ntmps34
    go_wp2_with fail
    obtain ⟨z0, z1, z2, z3⟩ := four_of (blkOld (.cells #[.int .i64 2, .int .i64 1, .string ⟨#[]⟩, .slice none 0 0] 34) (blk0 w (.cells #[.int .i64 2, .int .i64 1, .string ⟨#[]⟩, .slice none 0 0] 34)))
    refine bodyPost_ret (v := plV 2 1 ⟨#[]⟩) (by simp [results, Tryz.results34, go_sem, z0, z1, z2, z3, plV]) rfl ?_
    exact ⟨rfl, Ext.alloc2 _ _ _⟩

end Go.Proofs.YtgpggkepgoelfaaGreatDoor
