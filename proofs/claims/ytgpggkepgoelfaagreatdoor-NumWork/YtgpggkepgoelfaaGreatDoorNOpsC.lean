/-
  size, product, mul, mod, neg, abs of package num, each by a contract.
-/
import Derived.Test.YtgpggkepgoelfaaGreatDoorNOpsA
import Derived.Deep.LoopGhost
namespace Go.Proofs.YtgpggkepgoelfaaGreatDoor
open Go.RowKit
def mulV (a b : Int) : Value := if inR (a * b) then cameV (a * b) else refV 21
def modI (a b : Int) : Int := if a.tmod b ≠ 0 ∧ (a.tmod b < 0) ≠ (b < 0) then a.tmod b + b else a.tmod b
def modW (a b : Int) : Value := if b = 0 then refV 22 else cameV (modI a b)
theorem negU (a : Int) (h1 : -9223372036854775808 ≤ a) (h2 : a < 0) : IntKind.u64.wrap (-IntKind.u64.wrap a) = (a.natAbs : Int) := by
  simp [IntKind.wrap, IntKind.bits, IntKind.signed]
  omega
set_option maxRecDepth 100000 in
theorem size_any (a : Int) (w : World) (ha : inR a) : Calls Tryz.prog 143 #[.int .i64 a] w fun e w' => e = .returned (.int .u64 (a.natAbs : Int)) ∧ w' = w := by
  obtain ⟨h1, h2⟩ := ha
  by_cases h : a < 0
  · go_enter Tryz.func143, Tryz.ntmps143
    go_wp2_with fail
    go_ret
    exact ⟨ret_int (negU a h1 h), rfl⟩
  · go_enter Tryz.func143, Tryz.ntmps143
    go_wp2_with fail
    go_ret
    exact ⟨ret_int (by omega), rfl⟩
theorem mul64_any (x y H L : Nat) (hx : x < 18446744073709551616) (hy : y < 18446744073709551616) (hH : x * y / 18446744073709551616 = H) (hL : x * y % 18446744073709551616 = L) (w : World) : Calls Tryz.prog 142 #[.int .u64 x, .int .u64 y] w fun e w' => e = .returned (.tuple #[.int .u64 H, .int .u64 L]) ∧ w' = w := by
  have := Tryz.bits_Mul64 x y hx hy w
  rw [hH, hL] at this
  exact this
/-- What product answers. -/
def ProdR (a b : Int) (w : World) (e : Ending) (w' : World) : Prop := w' = w ∧ ∃ p ok, e = .returned (.tuple #[.int .i64 p, .bool ok]) ∧ ok = decide (inR (a * b)) ∧ (ok = true → p = a * b)
theorem mul_unlike {a b : Int} (h : (a < 0) ≠ (b < 0)) : a * b = -((a.natAbs * b.natAbs : Nat) : Int) := by
  have e : (a * b).natAbs = a.natAbs * b.natAbs := Int.natAbs_mul a b
  have hs : a * b ≤ 0 := by
    by_cases ha : a < 0
    · have hb : ¬ b < 0 := fun hb => h (by simp [ha, hb])
      exact Int.mul_nonpos_of_nonpos_of_nonneg (by omega) (by omega)
    · have hb : b < 0 := by
        by_cases hb : b < 0
        · exact hb
        · exact absurd (by simp [ha, hb]) h
      exact Int.mul_nonpos_of_nonneg_of_nonpos (by omega) (by omega)
  generalize a.natAbs * b.natAbs = X at *
  generalize a * b = P at *
  omega
theorem mul_like {a b : Int} (h : (a < 0) = (b < 0)) : a * b = ((a.natAbs * b.natAbs : Nat) : Int) := by
  have e : (a * b).natAbs = a.natAbs * b.natAbs := Int.natAbs_mul a b
  have hs : 0 ≤ a * b := by
    by_cases ha : a < 0
    · have hb : b < 0 := by rw [← h]; exact ha
      exact Int.mul_nonneg_of_nonpos_of_nonpos (by omega) (by omega)
    · have hb : ¬ b < 0 := by rw [← h]; exact ha
      exact Int.mul_nonneg (by omega) (by omega)
  generalize a.natAbs * b.natAbs = X at *
  generalize a * b = P at *
  omega
set_option maxRecDepth 100000 in
set_option maxHeartbeats 1000000 in
theorem product_any (a b : Int) (w : World) (ha : inR a) (hb : inR b) : Calls Tryz.prog 112 #[.int .i64 a, .int .i64 b] w (ProdR a b w) := by
  obtain ⟨hxa, hyb⟩ := abs_mul_div a b ha hb
  obtain ⟨H, hH⟩ : ∃ H, a.natAbs * b.natAbs / 18446744073709551616 = H := ⟨_, rfl⟩
  obtain ⟨L, hL⟩ : ∃ L, a.natAbs * b.natAbs % 18446744073709551616 = L := ⟨_, rfl⟩
  have HM := hid (fun w => mul64_any a.natAbs b.natAbs H L hxa hyb hH hL w)
  have HA := hid (fun w => size_any a w ha)
  have HB := hid (fun w => size_any b w hb)
  have HE := hid (show a.natAbs * b.natAbs = H * 18446744073709551616 + L by omega)
  have hL2 : L ≤ 18446744073709551615 := by omega
  have HU := hid (fun h => mul_unlike (a := a) (b := b) h)
  have HK := hid (fun h => mul_like (a := a) (b := b) h)
  clear hH hL hxa hyb ha hb
  generalize a.natAbs = x at *
  generalize b.natAbs = y at *
  go_enter Tryz.func112, Tryz.ntmps112
  go_wp2_with fail
  refine (HA.out _).mono ?_
  rintro e w1 ⟨rfl, rfl⟩
  go_wp2_with fail
  refine (HB.out _).mono ?_
  rintro e w1 ⟨rfl, rfl⟩
  go_wp2_with fail
  refine (HM.out _).mono ?_
  rintro e w1 ⟨rfl, rfl⟩
  by_cases hH0 : H = 0
  · have hz : ((H : Int) != 0) = false := by rw [hH0]; rfl
    have hz' : ((H : Int) == 0) = true := by rw [hH0]; rfl
    have HE2 := hid (show x * y = L by have := HE.out; rw [hH0] at this; omega)
    clear hH0
    by_cases hs : (a < 0) = (b < 0)
    · have HP := hid (HK.out hs)
      have HQ := hid (show a * b = L by rw [HP.out, HE2.out])
      have hs2 : (decide (a < 0) != decide (b < 0)) = false := by simp [hs]
      have hs3 : (decide (a < 0) == decide (b < 0)) = true := by simp [hs]
      clear hs
      have HD := hid (show decide ((L : Int) < 9223372036854775808) = decide (inR (a * b)) by rw [HQ.out]; unfold inR; rw [Bool.eq_iff_iff]; simp; omega)
      have HW := hid (show decide ((L : Int) < 9223372036854775808) = true → wrap64 (L : Int) = a * b from fun h => by rw [HQ.out, IntWalk.wrap64_in _ ⟨by omega, by have := of_decide_eq_true h; omega⟩])
      go_wp2_with fail
      go_ret2
      exact ⟨rfl, _, _, rfl, HD.out, HW.out⟩
    · have HP := hid (HU.out hs)
      have HQ := hid (show a * b = -(L : Int) by rw [HP.out, HE2.out])
      have hs3 : (decide (a < 0) == decide (b < 0)) = false := by
        rw [beq_eq_false_iff_ne]
        intro e
        exact hs (by simpa using e)
      have hs2 : (decide (a < 0) != decide (b < 0)) = true := by unfold bne; rw [hs3]; rfl
      clear hs
      have HD := hid (show decide ((L : Int) ≤ 9223372036854775808) = decide (inR (a * b)) by rw [HQ.out]; unfold inR; rw [Bool.eq_iff_iff]; simp; try omega)
      have HW := hid (show decide ((L : Int) ≤ 9223372036854775808) = true → wrap64 (-wrap64 (L : Int)) = a * b from fun h => by
        have hl := of_decide_eq_true h
        rw [HQ.out]
        by_cases e : L = 9223372036854775808
        · rw [e]; unfold wrap64; decide
        · rw [IntWalk.wrap64_in (L : Int) ⟨by omega, by omega⟩, IntWalk.wrap64_in _ ⟨by omega, by omega⟩])
      go_wp2_with fail
      go_ret2
      exact ⟨rfl, _, _, rfl, HD.out, HW.out⟩
  · have hz : ((H : Int) != 0) = true := by simp; omega
    have hz' : ((H : Int) == 0) = false := by simp; omega
    have HO := hid (show decide (inR (a * b)) = false by
      apply decide_eq_false
      apply out_of_abs
      have e : (a * b).natAbs = x * y := by
        by_cases hs : (a < 0) = (b < 0)
        · rw [HK.out hs, Int.natAbs_natCast]
        · rw [HU.out hs, Int.natAbs_neg, Int.natAbs_natCast]
      rw [e, HE.out]
      have : 1 ≤ H := by omega
      omega)
    clear hH0
    go_wp2_with fail
    go_ret2
    exact ⟨rfl, 0, false, rfl, by rw [HO.out], fun h => by cases h⟩
end Go.Proofs.YtgpggkepgoelfaaGreatDoor
/-
  mul, mod, neg, abs, pow of package num, each by a contract.
-/
namespace Go.Proofs.YtgpggkepgoelfaaGreatDoor
open Go.RowKit
theorem mulV_in {a b : Int} (h : decide (inR (a * b)) = true) : mulV a b = cameV (a * b) := if_pos (of_decide_eq_true h)
theorem mulV_out {a b : Int} (h : decide (inR (a * b)) = false) : mulV a b = refV 21 := if_neg (of_decide_eq_false h)
set_option maxRecDepth 100000 in
theorem mul_any (g : Nat) (a b : Int) (w : World) (ha : inR a) (hb : inR b) (h : Two w g a b) : Calls Tryz.prog 52 #[.slice (some ⟨g, 0, none⟩) 2 2] w fun e w' => e = .returned (mulV a b) ∧ Drew w w' := by
  have HP := hid (fun w => product_any a b w ha hb)
  clear ha hb
  go_enter Tryz.func52, Tryz.ntmps52
  go_wp2_with fail
  refine (two_any g a b w h).mono ?_
  rintro e w1 ⟨rfl, nd, rfl⟩
  clear h
  go_wp2_with fail
  refine (HP.out _).mono ?_
  rintro e w1 ⟨rfl, p, ok, rfl, hok, hp⟩
  cases ok with
  | true =>
    have HV := hid (mulV_in hok.symm)
    have HQ := hid (hp rfl)
    clear hok hp
    go_wp2_with fail
    refine (came_any _ _).mono ?_
    rintro e w' ⟨rfl, rfl⟩
    unfold cameV
    go_wp2_with fail
    go_ret3
    exact ⟨by rw [HV.out, ← HQ.out]; rfl, _, rfl⟩
  | false =>
    have HV := hid (mulV_out hok.symm)
    clear hok hp
    go_wp2_with fail
    refine (refused_any _ _).mono ?_
    rintro e w' ⟨rfl, rfl⟩
    unfold refV
    go_wp2_with fail
    go_ret3
    exact ⟨by rw [HV.out]; rfl, _, rfl⟩
theorem tmod_facts (a b : Int) (hb : b ≠ 0) : (a.tmod b).natAbs < b.natAbs ∧ (0 ≤ a → 0 ≤ a.tmod b) ∧ (a ≤ 0 → a.tmod b ≤ 0) := by
  have e : (a.tmod b).natAbs = a.natAbs % b.natAbs := Int.natAbs_tmod a b
  refine ⟨?_, fun h => Int.tmod_nonneg b h, fun h => ?_⟩
  · rw [e]; exact Nat.mod_lt _ (by omega)
  · have := Int.tmod_nonneg (a := -a) b (by omega)
    rw [Int.neg_tmod] at this
    omega
set_option maxRecDepth 100000 in
set_option maxHeartbeats 1000000 in
theorem mod_any (g : Nat) (a b : Int) (w : World) (ha : inR a) (hb : inR b) (h : Two w g a b) : Calls Tryz.prog 54 #[.slice (some ⟨g, 0, none⟩) 2 2] w fun e w' => e = .returned (modW a b) ∧ Drew w w' := by
  obtain ⟨ha1, ha2⟩ := ha
  obtain ⟨hb1, hb2⟩ := hb
  by_cases hb0 : b = 0
  · have HV := hid (show modW a b = refV 22 from if_pos hb0)
    have hq : (b == 0) = true := by rw [beq_iff_eq]; exact hb0
    clear hb0
    go_enter Tryz.func54, Tryz.ntmps54
    go_wp2_with fail
    refine (two_any g a b w h).mono ?_
    rintro e w1 ⟨rfl, nd, rfl⟩
    clear h
    go_wp2_with (first | (go_at_call 110; refine (refused_any _ _).mono ?_; rintro e w' ⟨rfl, rfl⟩; unfold refV) | (go_at_call 111; refine (came_any _ _).mono ?_; rintro e w' ⟨rfl, rfl⟩; unfold cameV))
    all_goals
      go_ret3
      exact ⟨by rw [HV.out]; first | rfl | (unfold cameV; rw [← IntWalk.wrap64_in (a.tmod b + b) ⟨m3, m4⟩]; rfl), _, rfl⟩
  · have hq : (b == 0) = false := by rw [beq_eq_false_iff_ne]; exact hb0
    obtain ⟨t1, t2, t3⟩ := tmod_facts a b hb0
    have HV0 := hid (show modW a b = cameV (modI a b) from if_neg hb0)
    have m1 : -9223372036854775808 ≤ a.tmod b := by omega
    have m2 : a.tmod b ≤ 9223372036854775807 := by omega
    by_cases hm : a.tmod b = 0
    · have HV := hid (show modW a b = cameV (a.tmod b) by rw [HV0.out]; unfold modI; rw [if_neg (fun h => h.1 hm)])
      have hz : (a.tmod b == 0) = true := by rw [beq_iff_eq]; exact hm
      have hz2 : (a.tmod b != 0) = false := by unfold bne; rw [hz]; rfl
      clear t1 t2 t3 hm
      go_enter Tryz.func54, Tryz.ntmps54
      go_wp2_with fail
      refine (two_any g a b w h).mono ?_
      rintro e w1 ⟨rfl, nd, rfl⟩
      clear h
      go_wp2_with (first | (go_at_call 110; refine (refused_any _ _).mono ?_; rintro e w' ⟨rfl, rfl⟩; unfold refV) | (go_at_call 111; refine (came_any _ _).mono ?_; rintro e w' ⟨rfl, rfl⟩; unfold cameV))
      all_goals
        go_ret3
        exact ⟨by rw [HV.out]; first | rfl | (unfold cameV; rw [← IntWalk.wrap64_in (a.tmod b + b) ⟨m3, m4⟩]; rfl), _, rfl⟩
    · have hz : (a.tmod b == 0) = false := by rw [beq_eq_false_iff_ne]; exact hm
      have hz2 : (a.tmod b != 0) = true := by unfold bne; rw [hz]; rfl
      by_cases hs : (a.tmod b < 0) = (b < 0)
      · have HV := hid (show modW a b = cameV (a.tmod b) by rw [HV0.out]; unfold modI; rw [if_neg (fun h => h.2 hs)])
        have hs2 : (decide (a.tmod b < 0) != decide (b < 0)) = false := by simp [hs]
        have hs3 : (decide (a.tmod b < 0) == decide (b < 0)) = true := by simp [hs]
        clear t1 t2 t3 hm hs
        go_enter Tryz.func54, Tryz.ntmps54
        go_wp2_with fail
        refine (two_any g a b w h).mono ?_
        rintro e w1 ⟨rfl, nd, rfl⟩
        clear h
        go_wp2_with (first | (go_at_call 110; refine (refused_any _ _).mono ?_; rintro e w' ⟨rfl, rfl⟩; unfold refV) | (go_at_call 111; refine (came_any _ _).mono ?_; rintro e w' ⟨rfl, rfl⟩; unfold cameV))
        all_goals
          go_ret3
          exact ⟨by rw [HV.out]; first | rfl | (unfold cameV; rw [← IntWalk.wrap64_in (a.tmod b + b) ⟨m3, m4⟩]; rfl), _, rfl⟩
      · have HV := hid (show modW a b = cameV (a.tmod b + b) by rw [HV0.out]; unfold modI; rw [if_pos ⟨hm, hs⟩])
        have hs3 : (decide (a.tmod b < 0) == decide (b < 0)) = false := by
          rw [beq_eq_false_iff_ne]
          intro e
          exact hs (by simpa using e)
        have hs2 : (decide (a.tmod b < 0) != decide (b < 0)) = true := by unfold bne; rw [hs3]; rfl
        have m3 : -9223372036854775808 ≤ a.tmod b + b := by
          by_cases h1 : a.tmod b < 0 <;> by_cases h2 : b < 0
          · exact absurd (by simp [h1, h2]) hs
          · omega
          · omega
          · exact absurd (by simp [h1, h2]) hs
        have m4 : a.tmod b + b ≤ 9223372036854775807 := by
          by_cases h1 : a.tmod b < 0 <;> by_cases h2 : b < 0
          · exact absurd (by simp [h1, h2]) hs
          · omega
          · omega
          · exact absurd (by simp [h1, h2]) hs
        clear t1 t2 t3 hm hs
        go_enter Tryz.func54, Tryz.ntmps54
        go_wp2_with fail
        refine (two_any g a b w h).mono ?_
        rintro e w1 ⟨rfl, nd, rfl⟩
        clear h
        go_wp2_with (first | (go_at_call 110; refine (refused_any _ _).mono ?_; rintro e w' ⟨rfl, rfl⟩; unfold refV) | (go_at_call 111; refine (came_any _ _).mono ?_; rintro e w' ⟨rfl, rfl⟩; unfold cameV))
        all_goals
          go_ret3
          exact ⟨by rw [HV.out]; first | rfl | (unfold cameV; rw [← IntWalk.wrap64_in (a.tmod b + b) ⟨m3, m4⟩]; rfl), _, rfl⟩

/-- One number, as the value of an operation. -/
def One (w : World) (g : Nat) (a : Int) : Prop := w.cell? ⟨g, 0, none⟩ = some (.iface 87 (.int .i64 a))
set_option maxRecDepth 100000 in
theorem neg_any (g : Nat) (a : Int) (w : World) (ha : inR a) (h : One w g a) : Calls Tryz.prog 56 #[.slice (some ⟨g, 0, none⟩) 1 1] w fun e w' => e = .returned (negV a) ∧ w' = w := by
  obtain ⟨ha1, ha2⟩ := ha
  by_cases hm : a = -9223372036854775808
  · have HV := hid (show negV a = refV 21 from if_neg (by unfold inR; omega))
    have hq : (a == -9223372036854775808) = true := by rw [beq_iff_eq]; exact hm
    clear hm
    go_enter Tryz.func56, Tryz.ntmps56
    go_wp2_with fail
    refine (one_any g 0 1 1 a _ (Nat.succ_pos _) h).mono ?_
    rintro e w1 ⟨rfl, rfl⟩
    go_wp2_with fail
    refine (refused_any _ _).mono ?_
    rintro e w' ⟨rfl, rfl⟩
    unfold refV
    go_wp2_with fail
    go_ret3
    exact ⟨by rw [HV.out]; rfl, rfl⟩
  · have HV := hid (show negV a = cameV (-a) from if_pos (by unfold inR; omega))
    have hq : (a == -9223372036854775808) = false := by rw [beq_eq_false_iff_ne]; exact hm
    have ha3 : -9223372036854775807 ≤ a := by omega
    clear hm
    go_enter Tryz.func56, Tryz.ntmps56
    go_wp2_with fail
    refine (one_any g 0 1 1 a _ (Nat.succ_pos _) h).mono ?_
    rintro e w1 ⟨rfl, rfl⟩
    go_wp2_with fail
    refine (came_any _ _).mono ?_
    rintro e w' ⟨rfl, rfl⟩
    unfold cameV
    go_wp2_with fail
    go_ret3
    exact ⟨by rw [HV.out]; rfl, rfl⟩
set_option maxRecDepth 100000 in
theorem abs_any (g : Nat) (a : Int) (w : World) (ha : inR a) (h : One w g a) : Calls Tryz.prog 57 #[.slice (some ⟨g, 0, none⟩) 1 1] w fun e w' => e = .returned (absV a) ∧ w' = w := by
  by_cases hm : a < 0
  · have HV := hid (show absV a = negV a from if_pos hm)
    have HN := hid (neg_any g a w ha h)
    have HG : ∃ x y z, negV a = .tuple #[x, y, z] := by unfold negV; split <;> exact ⟨_, _, _, rfl⟩
    obtain ⟨x, y, z, hxyz⟩ := HG
    have HX := hid hxyz
    clear hxyz ha
    go_enter Tryz.func57, Tryz.ntmps57
    go_wp2_with fail
    refine (one_any g 0 1 1 a _ (Nat.succ_pos _) h).mono ?_
    rintro e w1 ⟨rfl, rfl⟩
    go_wp2_with fail
    refine HN.out.mono ?_
    rintro e w' ⟨rfl, rfl⟩
    rw [HX.out]
    go_wp2_with fail
    go_ret3
    exact ⟨by rw [HV.out, HX.out]; rfl, rfl⟩
  · have HV := hid (show absV a = cameV a from if_neg hm)
    clear ha
    go_enter Tryz.func57, Tryz.ntmps57
    go_wp2_with fail
    refine (one_any g 0 1 1 a _ (Nat.succ_pos _) h).mono ?_
    rintro e w1 ⟨rfl, rfl⟩
    go_wp2_with fail
    refine (one_any g 0 1 1 a _ (Nat.succ_pos _) h).mono ?_
    rintro e w1 ⟨rfl, rfl⟩
    go_wp2_with fail
    refine (came_any _ _).mono ?_
    rintro e w' ⟨rfl, rfl⟩
    unfold cameV
    go_wp2_with fail
    go_ret3
    exact ⟨by rw [HV.out]; rfl, rfl⟩
def powV (a n : Int) : Value := if n < 0 then refV 23 else if inR (a ^ n.toNat) then cameV (a ^ n.toNat) else refV 21
set_option maxRecDepth 100000 in
set_option maxHeartbeats 2000000 in
theorem pow_any (g : Nat) (a n0 : Int) (w : World) (ha : inR a) (hn : inR n0) (h : Two w g a n0) : Calls Tryz.prog 55 #[.slice (some ⟨g, 0, none⟩) 2 2] w fun e w' => e = .returned (powV a n0) ∧ Drew w w' := by
  have HA := hid ha
  obtain ⟨ha1, ha2⟩ := ha
  obtain ⟨hn1, hn2⟩ := hn
  by_cases hneg : n0 < 0
  · have HV := hid (show powV a n0 = refV 23 from if_pos hneg)
    go_enter Tryz.func55, Tryz.ntmps55
    go_wp2_with fail
    refine (two_any g a n0 w h).mono ?_
    rintro e w1 ⟨rfl, nd, rfl⟩
    clear h
    go_wp2_with fail
    refine (refused_any _ _).mono ?_
    rintro e w' ⟨rfl, rfl⟩
    unfold refV
    go_wp2_with fail
    go_ret3
    exact ⟨by rw [HV.out]; rfl, _, rfl⟩
  · obtain ⟨n, rfl⟩ : ∃ n : Nat, n0 = n := ⟨n0.toNat, by omega⟩
    generalize hg : (n : Int) = n0 at *
    by_cases hs : (-1 ≤ a ∧ a ≤ 1) ∧ 2 < n
    · obtain ⟨⟨hs1, hs2⟩, hs3⟩ := hs
      have HOUT := hid (show ∀ i, i ≤ 2 - n % 2 → ¬ inR (a ^ i) → powV a n0 = refV 21 from fun i _ ho => absurd (small_pow a hs1 hs2 i) ho)
      have HEND := hid (show inR (a ^ (2 - n % 2)) → powV a n0 = cameV (a ^ (2 - n % 2)) from fun hi => by
        unfold powV
        rw [if_neg hneg, show n0.toNat = n by omega, ← pow_round a hs1 hs2 n hs3, if_pos hi])
      have hs4 : 2 < n0 := by omega
      have hm0 : 2 - n0 % 2 = ((2 - n % 2 : Nat) : Int) := by omega
      have HM0 := hid hm0
      obtain ⟨m, hm⟩ : ∃ m, 2 - n % 2 = m := ⟨_, rfl⟩
      have hm2 : m ≤ 2 := by omega
      rw [hm] at HOUT HEND HM0
      clear hm hm0 hg hs3
      go_enter Tryz.func55, Tryz.ntmps55
      go_wp2_with fail
      refine (two_any g a n0 w h).mono ?_
      rintro e w1 ⟨rfl, nd, rfl⟩
      clear h
      go_wp2_with fail
      rw [HM0.out]
      go_loopw [7, 8, 34] (fun q7 _ q34 wr => ∃ j : Nat, j ≤ m ∧ q34 = .int .i64 j ∧ q7 = .int .i64 (a ^ j) ∧ inR (a ^ j) ∧ wr = w.drewN nd) (fun _ _ q34 _ => m - (intOf q34).toNat)
      case atStart => exact ⟨0, Nat.zero_le _, rfl, by rw [Int.pow_zero], by rw [Int.pow_zero]; simp [inR], rfl⟩
      case round =>
        obtain ⟨j, hj, rfl, rfl, hin, rfl⟩ := hrel
        by_cases hlt : j < m
        · have hlt' : (j : Int) < m := by omega
          have hj3 : (j : Int) + 1 ≤ 9223372036854775807 := by omega
          have HPR := hid (fun w1 => product_any (a ^ j) a w1 hin HA.out)
          have HIN := hid hin
          have HS := hid (show a ^ j * a = a ^ (j + 1) from (Int.pow_succ a j).symm)
          clear hin
          generalize a ^ j = p at *
          go_wp2_with fail
          refine (HPR.out _).mono ?_
          rintro e w1 ⟨rfl, p', ok, rfl, hok, hp⟩
          cases ok with
          | true =>
            have HQ := hid (hp rfl)
            have HI := hid (of_decide_eq_true hok.symm)
            clear hok hp
            go_wp2_with fail
            go_roundw
            case rel => exact ⟨j + 1, by omega, by go_num, by rw [HQ.out, HS.out], by rw [← HS.out]; exact HI.out, by first | rfl | trivial⟩
            case measure => simp [intOf]; omega
          | false =>
            have HV := hid (show powV a n0 = refV 21 from HOUT.out (j + 1) (by omega) (by rw [← HS.out]; exact of_decide_eq_false hok.symm))
            clear hok hp
            go_wp2_with fail
            refine (refused_any _ _).mono ?_
            rintro e w' ⟨rfl, rfl⟩
            unfold refV
            go_wp2_with fail
            go_ret3
            exact ⟨by rw [HV.out]; rfl, _, rfl⟩
        · have hje : j = m := by omega
          have hlt2 : decide ((j : Int) < m) = false := decide_eq_false (by omega)
          have hlt3 : ¬ (j : Int) < m := by omega
          have HV := hid (show powV a n0 = cameV (a ^ j) from hje ▸ HEND.out (hje ▸ hin))
          clear hje hlt hin
          generalize a ^ j = p at *
          go_wp2_with fail
          refine (came_any _ _).mono ?_
          rintro e w' ⟨rfl, rfl⟩
          unfold cameV
          go_wp2_with fail
          go_ret3
          exact ⟨by rw [HV.out]; rfl, _, rfl⟩
    · have HOUT := hid (show ∀ i, i ≤ n → ¬ inR (a ^ i) → powV a n0 = refV 21 from fun i hi ho => by
        unfold powV
        rw [if_neg hneg, show n0.toNat = n by omega, if_neg (pow_out a i n hi ho)])
      have HEND := hid (show inR (a ^ n) → powV a n0 = cameV (a ^ n) from fun hi => by
        unfold powV
        rw [if_neg hneg, show n0.toNat = n by omega, if_pos hi])
      have hnn : (n : Int) ≤ 9223372036854775807 := by omega
      subst hg
      have hnn0 : ¬ (n : Int) < 0 := by omega
      clear hneg
      obtain ⟨m, hm⟩ : ∃ m, n = m := ⟨_, rfl⟩
      subst hm
      have hd : (decide (-1 ≤ a) = true → decide (a ≤ 1) = true → decide (2 < (n : Int)) = false) := fun h1 h2 => decide_eq_false (fun h3 => hs ⟨⟨of_decide_eq_true h1, of_decide_eq_true h2⟩, by omega⟩)
      have HD := hid hd
      clear hd hs
      by_cases h1 : -1 ≤ a
      · by_cases h2 : a ≤ 1
        · have h3 := HD.out (decide_eq_true h1) (decide_eq_true h2)
          have h3' : ¬ 2 < (n : Int) := of_decide_eq_false h3
          go_enter Tryz.func55, Tryz.ntmps55
          go_wp2_with fail
          refine (two_any g a n w h).mono ?_
          rintro e w1 ⟨rfl, nd, rfl⟩
          clear h
          go_wp2_with fail
          go_loopw [7, 8, 34] (fun q7 _ q34 wr => ∃ j : Nat, j ≤ n ∧ q34 = .int .i64 j ∧ q7 = .int .i64 (a ^ j) ∧ inR (a ^ j) ∧ wr = w.drewN nd) (fun _ _ q34 _ => n - (intOf q34).toNat)
          case atStart => exact ⟨0, Nat.zero_le _, rfl, by rw [Int.pow_zero], by rw [Int.pow_zero]; simp [inR], rfl⟩
          case round =>
            obtain ⟨j, hj, rfl, rfl, hin, rfl⟩ := hrel
            by_cases hlt : j < n
            · have hlt' : (j : Int) < n := by omega
              have hj3 : (j : Int) + 1 ≤ 9223372036854775807 := by omega
              have HPR := hid (fun w1 => product_any (a ^ j) a w1 hin HA.out)
              have HIN := hid hin
              have HS := hid (show a ^ j * a = a ^ (j + 1) from (Int.pow_succ a j).symm)
              clear hin
              generalize a ^ j = p at *
              go_wp2_with fail
              refine (HPR.out _).mono ?_
              rintro e w1 ⟨rfl, p', ok, rfl, hok, hp⟩
              cases ok with
              | true =>
                have HQ := hid (hp rfl)
                have HI := hid (of_decide_eq_true hok.symm)
                clear hok hp
                go_wp2_with fail
                go_roundw
                case rel => exact ⟨j + 1, by omega, by go_num, by rw [HQ.out, HS.out], by rw [← HS.out]; exact HI.out, by first | rfl | trivial⟩
                case measure => simp [intOf]; omega
              | false =>
                have HV := hid (show powV a n = refV 21 from HOUT.out (j + 1) (by omega) (by rw [← HS.out]; exact of_decide_eq_false hok.symm))
                clear hok hp
                go_wp2_with fail
                refine (refused_any _ _).mono ?_
                rintro e w' ⟨rfl, rfl⟩
                unfold refV
                go_wp2_with fail
                go_ret3
                exact ⟨by rw [HV.out]; rfl, _, rfl⟩
            · have hje : j = n := by omega
              have hlt2 : decide ((j : Int) < n) = false := decide_eq_false (by omega)
              have hlt3 : ¬ (j : Int) < n := by omega
              have HV := hid (show powV a n = cameV (a ^ j) from hje ▸ HEND.out (hje ▸ hin))
              clear hje hlt hin
              generalize a ^ j = p at *
              go_wp2_with fail
              refine (came_any _ _).mono ?_
              rintro e w' ⟨rfl, rfl⟩
              unfold cameV
              go_wp2_with fail
              go_ret3
              exact ⟨by rw [HV.out]; rfl, _, rfl⟩
        · go_enter Tryz.func55, Tryz.ntmps55
          go_wp2_with fail
          refine (two_any g a n w h).mono ?_
          rintro e w1 ⟨rfl, nd, rfl⟩
          clear h
          go_wp2_with fail
          go_loopw [7, 8, 34] (fun q7 _ q34 wr => ∃ j : Nat, j ≤ n ∧ q34 = .int .i64 j ∧ q7 = .int .i64 (a ^ j) ∧ inR (a ^ j) ∧ wr = w.drewN nd) (fun _ _ q34 _ => n - (intOf q34).toNat)
          case atStart => exact ⟨0, Nat.zero_le _, rfl, by rw [Int.pow_zero], by rw [Int.pow_zero]; simp [inR], rfl⟩
          case round =>
            obtain ⟨j, hj, rfl, rfl, hin, rfl⟩ := hrel
            by_cases hlt : j < n
            · have hlt' : (j : Int) < n := by omega
              have hj3 : (j : Int) + 1 ≤ 9223372036854775807 := by omega
              have HPR := hid (fun w1 => product_any (a ^ j) a w1 hin HA.out)
              have HIN := hid hin
              have HS := hid (show a ^ j * a = a ^ (j + 1) from (Int.pow_succ a j).symm)
              clear hin
              generalize a ^ j = p at *
              go_wp2_with fail
              refine (HPR.out _).mono ?_
              rintro e w1 ⟨rfl, p', ok, rfl, hok, hp⟩
              cases ok with
              | true =>
                have HQ := hid (hp rfl)
                have HI := hid (of_decide_eq_true hok.symm)
                clear hok hp
                go_wp2_with fail
                go_roundw
                case rel => exact ⟨j + 1, by omega, by go_num, by rw [HQ.out, HS.out], by rw [← HS.out]; exact HI.out, by first | rfl | trivial⟩
                case measure => simp [intOf]; omega
              | false =>
                have HV := hid (show powV a n = refV 21 from HOUT.out (j + 1) (by omega) (by rw [← HS.out]; exact of_decide_eq_false hok.symm))
                clear hok hp
                go_wp2_with fail
                refine (refused_any _ _).mono ?_
                rintro e w' ⟨rfl, rfl⟩
                unfold refV
                go_wp2_with fail
                go_ret3
                exact ⟨by rw [HV.out]; rfl, _, rfl⟩
            · have hje : j = n := by omega
              have hlt2 : decide ((j : Int) < n) = false := decide_eq_false (by omega)
              have hlt3 : ¬ (j : Int) < n := by omega
              have HV := hid (show powV a n = cameV (a ^ j) from hje ▸ HEND.out (hje ▸ hin))
              clear hje hlt hin
              generalize a ^ j = p at *
              go_wp2_with fail
              refine (came_any _ _).mono ?_
              rintro e w' ⟨rfl, rfl⟩
              unfold cameV
              go_wp2_with fail
              go_ret3
              exact ⟨by rw [HV.out]; rfl, _, rfl⟩
      · go_enter Tryz.func55, Tryz.ntmps55
        go_wp2_with fail
        refine (two_any g a n w h).mono ?_
        rintro e w1 ⟨rfl, nd, rfl⟩
        clear h
        go_wp2_with fail
        go_loopw [7, 8, 34] (fun q7 _ q34 wr => ∃ j : Nat, j ≤ n ∧ q34 = .int .i64 j ∧ q7 = .int .i64 (a ^ j) ∧ inR (a ^ j) ∧ wr = w.drewN nd) (fun _ _ q34 _ => n - (intOf q34).toNat)
        case atStart => exact ⟨0, Nat.zero_le _, rfl, by rw [Int.pow_zero], by rw [Int.pow_zero]; simp [inR], rfl⟩
        case round =>
          obtain ⟨j, hj, rfl, rfl, hin, rfl⟩ := hrel
          by_cases hlt : j < n
          · have hlt' : (j : Int) < n := by omega
            have hj3 : (j : Int) + 1 ≤ 9223372036854775807 := by omega
            have HPR := hid (fun w1 => product_any (a ^ j) a w1 hin HA.out)
            have HIN := hid hin
            have HS := hid (show a ^ j * a = a ^ (j + 1) from (Int.pow_succ a j).symm)
            clear hin
            generalize a ^ j = p at *
            go_wp2_with fail
            refine (HPR.out _).mono ?_
            rintro e w1 ⟨rfl, p', ok, rfl, hok, hp⟩
            cases ok with
            | true =>
              have HQ := hid (hp rfl)
              have HI := hid (of_decide_eq_true hok.symm)
              clear hok hp
              go_wp2_with fail
              go_roundw
              case rel => exact ⟨j + 1, by omega, by go_num, by rw [HQ.out, HS.out], by rw [← HS.out]; exact HI.out, by first | rfl | trivial⟩
              case measure => simp [intOf]; omega
            | false =>
              have HV := hid (show powV a n = refV 21 from HOUT.out (j + 1) (by omega) (by rw [← HS.out]; exact of_decide_eq_false hok.symm))
              clear hok hp
              go_wp2_with fail
              refine (refused_any _ _).mono ?_
              rintro e w' ⟨rfl, rfl⟩
              unfold refV
              go_wp2_with fail
              go_ret3
              exact ⟨by rw [HV.out]; rfl, _, rfl⟩
          · have hje : j = n := by omega
            have hlt2 : decide ((j : Int) < n) = false := decide_eq_false (by omega)
            have hlt3 : ¬ (j : Int) < n := by omega
            have HV := hid (show powV a n = cameV (a ^ j) from hje ▸ HEND.out (hje ▸ hin))
            clear hje hlt hin
            generalize a ^ j = p at *
            go_wp2_with fail
            refine (came_any _ _).mono ?_
            rintro e w' ⟨rfl, rfl⟩
            unfold cameV
            go_wp2_with fail
            go_ret3
            exact ⟨by rw [HV.out]; rfl, _, rfl⟩

end Go.Proofs.YtgpggkepgoelfaaGreatDoor
