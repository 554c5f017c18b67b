/-
  The operations on numbers (package num), each by a contract.
-/
import Derived.Test.YtgpggkepgoelfaaGreatDoorNMath
import Derived.Test.YtgpggkepgoelfaaGreatDoorValue
import Derived.Test.YtgpggkepgoelfaaGreatDoorShelf
import Derived.Deep.RegionHeld3
import Derived.WalkMore
namespace Go.Proofs.YtgpggkepgoelfaaGreatDoor
open Go.RowKit
def cameV (n : Int) : Value := .tuple #[.iface 87 (.int .i64 n), .int .i64 0, .string ⟨#[]⟩]
def toldV (b : Bool) : Value := .tuple #[.iface 52 (.bool b), .int .i64 0, .string ⟨#[]⟩]
def refV (c : Int) : Value := .tuple #[.nilIface, .int .i64 c, .string ⟨#[]⟩]
def toldI (b : Bool) : Value := .iface 52 (.bool b)
theorem to_in (v : Value) (w : World) : (Instr.typeAssert (.iface 87 v) 29 87 false).run Tryz.prog w = .ok v w := by kernel_rfl
theorem came_any (n : Int) (w : World) : Calls Tryz.prog 111 #[.int .i64 n] w fun e w' => e = .returned (cameV n) ∧ w' = w := by
  go_enter Tryz.func111, Tryz.ntmps111
  go_wp2_with fail
  go_ret3
  exact ⟨rfl, rfl⟩
theorem told_any (b : Bool) (w : World) : Calls Tryz.prog 114 #[.bool b] w fun e w' => e = .returned (toldV b) ∧ w' = w := by
  go_enter Tryz.func114, Tryz.ntmps114
  go_wp2_with fail
  go_ret3
  exact ⟨rfl, rfl⟩
theorem refused_any (c : Int) (w : World) : Calls Tryz.prog 110 #[.int .i64 c] w fun e w' => e = .returned (refV c) ∧ w' = w := by
  go_enter Tryz.func110, Tryz.ntmps110
  go_wp2_with fail
  go_ret3
  exact ⟨rfl, rfl⟩
theorem one_any (g off n c : Nat) (a : Int) (w : World) (hn : 0 < n) (h : w.cell? ⟨g, off, none⟩ = some (.iface 87 (.int .i64 a))) : Calls Tryz.prog 113 #[.slice (some ⟨g, off, none⟩) n c] w fun e w' => e = .returned (.int .i64 a) ∧ w' = w := by
  have hta := fun (v : Value) (w : World) => to_in v w
  go_enter Tryz.func113, Tryz.ntmps113
  go_wp2_with fail
  go_ret
  exact ⟨rfl, rfl⟩
/-- Two numbers, as the values of an operation. -/
def Two (w : World) (g : Nat) (a b : Int) : Prop := w.cell? ⟨g, 0, none⟩ = some (.iface 87 (.int .i64 a)) ∧ w.cell? ⟨g, 1, none⟩ = some (.iface 87 (.int .i64 b))
set_option maxRecDepth 100000 in
theorem two_any (g : Nat) (a b : Int) (w : World) (h : Two w g a b) : Calls Tryz.prog 109 #[.slice (some ⟨g, 0, none⟩) 2 2] w fun e w' => e = .returned (.tuple #[.int .i64 a, .int .i64 b]) ∧ ∃ n, w' = w.drewN n := by
  obtain ⟨h0, h1⟩ := h
  have h0q : ∀ n : Nat, (w.drewN n).cell? ⟨g, 0, none⟩ = some (.iface 87 (.int .i64 a)) := fun n => h0
  have h1q : ∀ n : Nat, (w.drewN n).cell? ⟨g, 1, none⟩ = some (.iface 87 (.int .i64 b)) := fun n => h1
  go_enter Tryz.func109, Tryz.ntmps109
  go_wp2_with fail
  go_quiet ((go_at_call 113; first | with_reducible exact Calls.quiet_of_same (one_any g 0 2 2 a _ (Nat.succ_pos _) (h0q _)) | with_reducible exact Calls.quiet_of_same (one_any g 1 1 1 b _ (Nat.succ_pos _) (h1q _)) | with_reducible exact Calls.quiet_of_same (one_any g 0 2 2 a _ (Nat.succ_pos _) h0) | with_reducible exact Calls.quiet_of_same (one_any g 1 1 1 b _ (Nat.succ_pos _) h1) | (trace_state; fail)))
  go_wp2_with fail
  go_ret2
  exact ⟨rfl, _, rfl⟩
end Go.Proofs.YtgpggkepgoelfaaGreatDoor
/-
  add, sub, quo, mod, neg, abs, min, max, less, most of package num, each by a contract.
-/
namespace Go.Proofs.YtgpggkepgoelfaaGreatDoor
open Go.RowKit
def addV (a b : Int) : Value := if inR (a + b) then cameV (a + b) else refV 21
def subV (a b : Int) : Value := if inR (a - b) then cameV (a - b) else refV 21
def quoV (a b : Int) : Value := if b = 0 then refV 22 else if inR (a.tdiv b) then cameV (a.tdiv b) else refV 21
def modV (a b : Int) : Value := if b = 0 then refV 22 else cameV (a.fmod b)
def negV (a : Int) : Value := if inR (-a) then cameV (-a) else refV 21
def absV (a : Int) : Value := if a < 0 then negV a else cameV a
theorem tdiv_in (a b : Int) (ha : inR a) (hb : inR b) (h0 : b ≠ 0) (hm : ¬ (a = -9223372036854775808 ∧ b = -1)) : inR (a.tdiv b) := by
  unfold inR at *
  by_cases h1 : b = 1
  · subst h1; rw [Int.tdiv_one]; exact ha
  by_cases h2 : b = -1
  · subst h2
    rw [Int.tdiv_neg, Int.tdiv_one]
    omega
  · have e : (a.tdiv b).natAbs = a.natAbs / b.natAbs := Int.natAbs_tdiv a b
    have hb2 : 2 ≤ b.natAbs := by omega
    have h3 : a.natAbs / b.natAbs ≤ a.natAbs / 2 := Nat.div_le_div_left hb2 (by omega)
    omega
/-- What an operation does to the world: it draws, no more. -/
def Drew (w w' : World) : Prop := ∃ n, w' = w.drewN n
theorem Drew.ext {w w' : World} (h : Drew w w') : Ext w w' := by obtain ⟨n, rfl⟩ := h; exact (Ext.refl _).drewN n

set_option maxRecDepth 100000 in
set_option maxHeartbeats 1000000 in
theorem add_any (g : Nat) (a b : Int) (w : World) (ha : inR a) (hb : inR b) (h : Two w g a b) : Calls Tryz.prog 50 #[.slice (some ⟨g, 0, none⟩) 2 2] w fun e w' => e = .returned (addV a b) ∧ Drew w w' := by
  obtain ⟨ha1, ha2⟩ := ha
  obtain ⟨hb1, hb2⟩ := hb
  by_cases hin : -9223372036854775808 ≤ a + b ∧ a + b ≤ 9223372036854775807
  · obtain ⟨hi1, hi2⟩ := hin
    have HV := hid (show addV a b = cameV (a + b) from if_pos ⟨hi1, hi2⟩)
    rcases Int.lt_trichotomy b 0 with hs | hs | hs
    · go_enter Tryz.func50, Tryz.ntmps50
      go_wp2_with fail
      refine (two_any g a b w h).mono ?_
      rintro e w1 ⟨rfl, nd, rfl⟩
      clear h
      go_wp2_with (first | (go_at_call 110; refine (refused_any _ _).mono ?_; rintro e w' ⟨rfl, rfl⟩; unfold refV) | (go_at_call 111; refine (came_any _ _).mono ?_; rintro e w' ⟨rfl, rfl⟩; unfold cameV) | (go_at_call 114; refine (told_any _ _).mono ?_; rintro e w' ⟨rfl, rfl⟩; unfold toldV))
      all_goals
        go_ret3
        exact ⟨by rw [HV.out]; first | rfl | simp [cameV], _, rfl⟩
    · have hs1 : b ≤ 0 := by omega
      have hs2 : 0 ≤ b := by omega
      clear hs
      go_enter Tryz.func50, Tryz.ntmps50
      go_wp2_with fail
      refine (two_any g a b w h).mono ?_
      rintro e w1 ⟨rfl, nd, rfl⟩
      clear h
      go_wp2_with (first | (go_at_call 110; refine (refused_any _ _).mono ?_; rintro e w' ⟨rfl, rfl⟩; unfold refV) | (go_at_call 111; refine (came_any _ _).mono ?_; rintro e w' ⟨rfl, rfl⟩; unfold cameV) | (go_at_call 114; refine (told_any _ _).mono ?_; rintro e w' ⟨rfl, rfl⟩; unfold toldV))
      all_goals
        go_ret3
        exact ⟨by rw [HV.out]; first | rfl | simp [cameV], _, rfl⟩
    · go_enter Tryz.func50, Tryz.ntmps50
      go_wp2_with fail
      refine (two_any g a b w h).mono ?_
      rintro e w1 ⟨rfl, nd, rfl⟩
      clear h
      go_wp2_with (first | (go_at_call 110; refine (refused_any _ _).mono ?_; rintro e w' ⟨rfl, rfl⟩; unfold refV) | (go_at_call 111; refine (came_any _ _).mono ?_; rintro e w' ⟨rfl, rfl⟩; unfold cameV) | (go_at_call 114; refine (told_any _ _).mono ?_; rintro e w' ⟨rfl, rfl⟩; unfold toldV))
      all_goals
        go_ret3
        exact ⟨by rw [HV.out]; first | rfl | simp [cameV], _, rfl⟩
  · have HV := hid (show addV a b = refV 21 from if_neg hin)
    rcases Int.lt_trichotomy b 0 with hs | hs | hs
    · have hq : a < -9223372036854775808 - b := by omega
      clear hin
      go_enter Tryz.func50, Tryz.ntmps50
      go_wp2_with fail
      refine (two_any g a b w h).mono ?_
      rintro e w1 ⟨rfl, nd, rfl⟩
      clear h
      go_wp2_with (first | (go_at_call 110; refine (refused_any _ _).mono ?_; rintro e w' ⟨rfl, rfl⟩; unfold refV) | (go_at_call 111; refine (came_any _ _).mono ?_; rintro e w' ⟨rfl, rfl⟩; unfold cameV) | (go_at_call 114; refine (told_any _ _).mono ?_; rintro e w' ⟨rfl, rfl⟩; unfold toldV))
      all_goals
        go_ret3
        exact ⟨by rw [HV.out]; first | rfl | simp [cameV], _, rfl⟩
    · exact absurd ⟨by omega, by omega⟩ hin
    · have hq : 9223372036854775807 - b < a := by omega
      clear hin
      go_enter Tryz.func50, Tryz.ntmps50
      go_wp2_with fail
      refine (two_any g a b w h).mono ?_
      rintro e w1 ⟨rfl, nd, rfl⟩
      clear h
      go_wp2_with (first | (go_at_call 110; refine (refused_any _ _).mono ?_; rintro e w' ⟨rfl, rfl⟩; unfold refV) | (go_at_call 111; refine (came_any _ _).mono ?_; rintro e w' ⟨rfl, rfl⟩; unfold cameV) | (go_at_call 114; refine (told_any _ _).mono ?_; rintro e w' ⟨rfl, rfl⟩; unfold toldV))
      all_goals
        go_ret3
        exact ⟨by rw [HV.out]; first | rfl | simp [cameV], _, rfl⟩

set_option maxRecDepth 100000 in
set_option maxHeartbeats 1000000 in
theorem sub_any (g : Nat) (a b : Int) (w : World) (ha : inR a) (hb : inR b) (h : Two w g a b) : Calls Tryz.prog 51 #[.slice (some ⟨g, 0, none⟩) 2 2] w fun e w' => e = .returned (subV a b) ∧ Drew w w' := by
  obtain ⟨ha1, ha2⟩ := ha
  obtain ⟨hb1, hb2⟩ := hb
  by_cases hin : -9223372036854775808 ≤ a - b ∧ a - b ≤ 9223372036854775807
  · obtain ⟨hi1, hi2⟩ := hin
    have HV := hid (show subV a b = cameV (a - b) from if_pos ⟨hi1, hi2⟩)
    rcases Int.lt_trichotomy b 0 with hs | hs | hs
    · go_enter Tryz.func51, Tryz.ntmps51
      go_wp2_with fail
      refine (two_any g a b w h).mono ?_
      rintro e w1 ⟨rfl, nd, rfl⟩
      clear h
      go_wp2_with (first | (go_at_call 110; refine (refused_any _ _).mono ?_; rintro e w' ⟨rfl, rfl⟩; unfold refV) | (go_at_call 111; refine (came_any _ _).mono ?_; rintro e w' ⟨rfl, rfl⟩; unfold cameV) | (go_at_call 114; refine (told_any _ _).mono ?_; rintro e w' ⟨rfl, rfl⟩; unfold toldV))
      all_goals
        go_ret3
        exact ⟨by rw [HV.out]; first | rfl | simp [cameV], _, rfl⟩
    · have hs1 : b ≤ 0 := by omega
      have hs2 : 0 ≤ b := by omega
      clear hs
      go_enter Tryz.func51, Tryz.ntmps51
      go_wp2_with fail
      refine (two_any g a b w h).mono ?_
      rintro e w1 ⟨rfl, nd, rfl⟩
      clear h
      go_wp2_with (first | (go_at_call 110; refine (refused_any _ _).mono ?_; rintro e w' ⟨rfl, rfl⟩; unfold refV) | (go_at_call 111; refine (came_any _ _).mono ?_; rintro e w' ⟨rfl, rfl⟩; unfold cameV) | (go_at_call 114; refine (told_any _ _).mono ?_; rintro e w' ⟨rfl, rfl⟩; unfold toldV))
      all_goals
        go_ret3
        exact ⟨by rw [HV.out]; first | rfl | simp [cameV], _, rfl⟩
    · go_enter Tryz.func51, Tryz.ntmps51
      go_wp2_with fail
      refine (two_any g a b w h).mono ?_
      rintro e w1 ⟨rfl, nd, rfl⟩
      clear h
      go_wp2_with (first | (go_at_call 110; refine (refused_any _ _).mono ?_; rintro e w' ⟨rfl, rfl⟩; unfold refV) | (go_at_call 111; refine (came_any _ _).mono ?_; rintro e w' ⟨rfl, rfl⟩; unfold cameV) | (go_at_call 114; refine (told_any _ _).mono ?_; rintro e w' ⟨rfl, rfl⟩; unfold toldV))
      all_goals
        go_ret3
        exact ⟨by rw [HV.out]; first | rfl | simp [cameV], _, rfl⟩
  · have HV := hid (show subV a b = refV 21 from if_neg hin)
    rcases Int.lt_trichotomy b 0 with hs | hs | hs
    · have hq : 9223372036854775807 + b < a := by omega
      clear hin
      go_enter Tryz.func51, Tryz.ntmps51
      go_wp2_with fail
      refine (two_any g a b w h).mono ?_
      rintro e w1 ⟨rfl, nd, rfl⟩
      clear h
      go_wp2_with (first | (go_at_call 110; refine (refused_any _ _).mono ?_; rintro e w' ⟨rfl, rfl⟩; unfold refV) | (go_at_call 111; refine (came_any _ _).mono ?_; rintro e w' ⟨rfl, rfl⟩; unfold cameV) | (go_at_call 114; refine (told_any _ _).mono ?_; rintro e w' ⟨rfl, rfl⟩; unfold toldV))
      all_goals
        go_ret3
        exact ⟨by rw [HV.out]; first | rfl | simp [cameV], _, rfl⟩
    · exact absurd ⟨by omega, by omega⟩ hin
    · have hq : a < -9223372036854775808 + b := by omega
      clear hin
      go_enter Tryz.func51, Tryz.ntmps51
      go_wp2_with fail
      refine (two_any g a b w h).mono ?_
      rintro e w1 ⟨rfl, nd, rfl⟩
      clear h
      go_wp2_with (first | (go_at_call 110; refine (refused_any _ _).mono ?_; rintro e w' ⟨rfl, rfl⟩; unfold refV) | (go_at_call 111; refine (came_any _ _).mono ?_; rintro e w' ⟨rfl, rfl⟩; unfold cameV) | (go_at_call 114; refine (told_any _ _).mono ?_; rintro e w' ⟨rfl, rfl⟩; unfold toldV))
      all_goals
        go_ret3
        exact ⟨by rw [HV.out]; first | rfl | simp [cameV], _, rfl⟩

set_option maxRecDepth 100000 in
set_option maxHeartbeats 1000000 in
theorem less_any (g : Nat) (a b : Int) (w : World) (ha : inR a) (hb : inR b) (h : Two w g a b) : Calls Tryz.prog 61 #[.slice (some ⟨g, 0, none⟩) 2 2] w fun e w' => e = .returned (toldV (decide (a < b))) ∧ Drew w w' := by
  obtain ⟨ha1, ha2⟩ := ha
  obtain ⟨hb1, hb2⟩ := hb
  by_cases hlt : a < b
  · go_enter Tryz.func61, Tryz.ntmps61
    go_wp2_with fail
    refine (two_any g a b w h).mono ?_
    rintro e w1 ⟨rfl, nd, rfl⟩
    clear h
    go_wp2_with (first | (go_at_call 110; refine (refused_any _ _).mono ?_; rintro e w' ⟨rfl, rfl⟩; unfold refV) | (go_at_call 111; refine (came_any _ _).mono ?_; rintro e w' ⟨rfl, rfl⟩; unfold cameV) | (go_at_call 114; refine (told_any _ _).mono ?_; rintro e w' ⟨rfl, rfl⟩; unfold toldV))
    all_goals
      go_ret3
      exact ⟨by first | (rw [decide_eq_true (show a < b by omega)]; rfl) | (rw [decide_eq_false (show ¬ a < b by omega)]; rfl), _, rfl⟩
  · go_enter Tryz.func61, Tryz.ntmps61
    go_wp2_with fail
    refine (two_any g a b w h).mono ?_
    rintro e w1 ⟨rfl, nd, rfl⟩
    clear h
    go_wp2_with (first | (go_at_call 110; refine (refused_any _ _).mono ?_; rintro e w' ⟨rfl, rfl⟩; unfold refV) | (go_at_call 111; refine (came_any _ _).mono ?_; rintro e w' ⟨rfl, rfl⟩; unfold cameV) | (go_at_call 114; refine (told_any _ _).mono ?_; rintro e w' ⟨rfl, rfl⟩; unfold toldV))
    all_goals
      go_ret3
      exact ⟨by first | (rw [decide_eq_true (show a < b by omega)]; rfl) | (rw [decide_eq_false (show ¬ a < b by omega)]; rfl), _, rfl⟩

set_option maxRecDepth 100000 in
set_option maxHeartbeats 1000000 in
theorem most_any (g : Nat) (a b : Int) (w : World) (ha : inR a) (hb : inR b) (h : Two w g a b) : Calls Tryz.prog 62 #[.slice (some ⟨g, 0, none⟩) 2 2] w fun e w' => e = .returned (toldV (decide (a ≤ b))) ∧ Drew w w' := by
  obtain ⟨ha1, ha2⟩ := ha
  obtain ⟨hb1, hb2⟩ := hb
  by_cases hlt : a ≤ b
  · go_enter Tryz.func62, Tryz.ntmps62
    go_wp2_with fail
    refine (two_any g a b w h).mono ?_
    rintro e w1 ⟨rfl, nd, rfl⟩
    clear h
    go_wp2_with (first | (go_at_call 110; refine (refused_any _ _).mono ?_; rintro e w' ⟨rfl, rfl⟩; unfold refV) | (go_at_call 111; refine (came_any _ _).mono ?_; rintro e w' ⟨rfl, rfl⟩; unfold cameV) | (go_at_call 114; refine (told_any _ _).mono ?_; rintro e w' ⟨rfl, rfl⟩; unfold toldV))
    all_goals
      go_ret3
      exact ⟨by first | (rw [decide_eq_true (show a ≤ b by omega)]; rfl) | (rw [decide_eq_false (show ¬ a ≤ b by omega)]; rfl), _, rfl⟩
  · go_enter Tryz.func62, Tryz.ntmps62
    go_wp2_with fail
    refine (two_any g a b w h).mono ?_
    rintro e w1 ⟨rfl, nd, rfl⟩
    clear h
    go_wp2_with (first | (go_at_call 110; refine (refused_any _ _).mono ?_; rintro e w' ⟨rfl, rfl⟩; unfold refV) | (go_at_call 111; refine (came_any _ _).mono ?_; rintro e w' ⟨rfl, rfl⟩; unfold cameV) | (go_at_call 114; refine (told_any _ _).mono ?_; rintro e w' ⟨rfl, rfl⟩; unfold toldV))
    all_goals
      go_ret3
      exact ⟨by first | (rw [decide_eq_true (show a ≤ b by omega)]; rfl) | (rw [decide_eq_false (show ¬ a ≤ b by omega)]; rfl), _, rfl⟩

set_option maxRecDepth 100000 in
set_option maxHeartbeats 1000000 in
theorem least_any (g : Nat) (a b : Int) (w : World) (ha : inR a) (hb : inR b) (h : Two w g a b) : Calls Tryz.prog 59 #[.slice (some ⟨g, 0, none⟩) 2 2] w fun e w' => e = .returned (cameV (min a b)) ∧ Drew w w' := by
  obtain ⟨ha1, ha2⟩ := ha
  obtain ⟨hb1, hb2⟩ := hb
  by_cases hlt : a ≤ b
  · go_enter Tryz.func59, Tryz.ntmps59
    go_wp2_with fail
    refine (two_any g a b w h).mono ?_
    rintro e w1 ⟨rfl, nd, rfl⟩
    clear h
    go_wp2_with (first | (go_at_call 110; refine (refused_any _ _).mono ?_; rintro e w' ⟨rfl, rfl⟩; unfold refV) | (go_at_call 111; refine (came_any _ _).mono ?_; rintro e w' ⟨rfl, rfl⟩; unfold cameV) | (go_at_call 114; refine (told_any _ _).mono ?_; rintro e w' ⟨rfl, rfl⟩; unfold toldV))
    all_goals
      go_ret3
      exact ⟨by first | (rw [show min a b = a by omega]; rfl) | (rw [show min a b = b by omega]; rfl) | rfl, _, rfl⟩
  · go_enter Tryz.func59, Tryz.ntmps59
    go_wp2_with fail
    refine (two_any g a b w h).mono ?_
    rintro e w1 ⟨rfl, nd, rfl⟩
    clear h
    go_wp2_with (first | (go_at_call 110; refine (refused_any _ _).mono ?_; rintro e w' ⟨rfl, rfl⟩; unfold refV) | (go_at_call 111; refine (came_any _ _).mono ?_; rintro e w' ⟨rfl, rfl⟩; unfold cameV) | (go_at_call 114; refine (told_any _ _).mono ?_; rintro e w' ⟨rfl, rfl⟩; unfold toldV))
    all_goals
      go_ret3
      exact ⟨by first | (rw [show min a b = a by omega]; rfl) | (rw [show min a b = b by omega]; rfl) | rfl, _, rfl⟩

set_option maxRecDepth 100000 in
set_option maxHeartbeats 1000000 in
theorem greatest_any (g : Nat) (a b : Int) (w : World) (ha : inR a) (hb : inR b) (h : Two w g a b) : Calls Tryz.prog 60 #[.slice (some ⟨g, 0, none⟩) 2 2] w fun e w' => e = .returned (cameV (max a b)) ∧ Drew w w' := by
  obtain ⟨ha1, ha2⟩ := ha
  obtain ⟨hb1, hb2⟩ := hb
  by_cases hlt : a ≤ b
  · go_enter Tryz.func60, Tryz.ntmps60
    go_wp2_with fail
    refine (two_any g a b w h).mono ?_
    rintro e w1 ⟨rfl, nd, rfl⟩
    clear h
    go_wp2_with (first | (go_at_call 110; refine (refused_any _ _).mono ?_; rintro e w' ⟨rfl, rfl⟩; unfold refV) | (go_at_call 111; refine (came_any _ _).mono ?_; rintro e w' ⟨rfl, rfl⟩; unfold cameV) | (go_at_call 114; refine (told_any _ _).mono ?_; rintro e w' ⟨rfl, rfl⟩; unfold toldV))
    all_goals
      go_ret3
      exact ⟨by first | (rw [show max a b = b by omega]; rfl) | (rw [show max a b = a by omega]; rfl) | rfl, _, rfl⟩
  · go_enter Tryz.func60, Tryz.ntmps60
    go_wp2_with fail
    refine (two_any g a b w h).mono ?_
    rintro e w1 ⟨rfl, nd, rfl⟩
    clear h
    go_wp2_with (first | (go_at_call 110; refine (refused_any _ _).mono ?_; rintro e w' ⟨rfl, rfl⟩; unfold refV) | (go_at_call 111; refine (came_any _ _).mono ?_; rintro e w' ⟨rfl, rfl⟩; unfold cameV) | (go_at_call 114; refine (told_any _ _).mono ?_; rintro e w' ⟨rfl, rfl⟩; unfold toldV))
    all_goals
      go_ret3
      exact ⟨by first | (rw [show max a b = b by omega]; rfl) | (rw [show max a b = a by omega]; rfl) | rfl, _, rfl⟩

set_option maxRecDepth 100000 in
set_option maxHeartbeats 1000000 in
theorem quo_any (g : Nat) (a b : Int) (w : World) (ha : inR a) (hb : inR b) (h : Two w g a b) : Calls Tryz.prog 53 #[.slice (some ⟨g, 0, none⟩) 2 2] w fun e w' => e = .returned (quoV a b) ∧ Drew w w' := by
  obtain ⟨ha1, ha2⟩ := ha
  obtain ⟨hb1, hb2⟩ := hb
  by_cases hb0 : b = 0
  · have HV := hid (show quoV a b = refV 22 from if_pos hb0)
    have hq : (b == 0) = true := by rw [beq_iff_eq]; exact hb0
    clear hb0
    go_enter Tryz.func53, Tryz.ntmps53
    go_wp2_with fail
    refine (two_any g a b w h).mono ?_
    rintro e w1 ⟨rfl, nd, rfl⟩
    clear h
    go_wp2_with (first | (go_at_call 110; refine (refused_any _ _).mono ?_; rintro e w' ⟨rfl, rfl⟩; unfold refV) | (go_at_call 111; refine (came_any _ _).mono ?_; rintro e w' ⟨rfl, rfl⟩; unfold cameV) | (go_at_call 114; refine (told_any _ _).mono ?_; rintro e w' ⟨rfl, rfl⟩; unfold toldV))
    all_goals
      go_ret3
      exact ⟨by rw [HV.out]; first | rfl | (unfold cameV; rw [IntWalk.wrap64_in _ ⟨hi1, hi2⟩]), _, rfl⟩
  · have hq : (b == 0) = false := by rw [beq_eq_false_iff_ne]; exact hb0
    have HB := hid hb0
    by_cases hm : a = -9223372036854775808 ∧ b = -1
    · have hm3 : (b == -1) = true := by rw [beq_iff_eq]; exact hm.2
      have hm4 : (a == -9223372036854775808) = true := by rw [beq_iff_eq]; exact hm.1
      have HV := hid (show quoV a b = refV 21 by obtain ⟨rfl, rfl⟩ := hm; unfold quoV; rw [if_neg (by decide), if_neg (by unfold inR; decide)])
      clear hb0 hm
      go_enter Tryz.func53, Tryz.ntmps53
      go_wp2_with fail
      refine (two_any g a b w h).mono ?_
      rintro e w1 ⟨rfl, nd, rfl⟩
      clear h
      go_wp2_with (first | (go_at_call 110; refine (refused_any _ _).mono ?_; rintro e w' ⟨rfl, rfl⟩; unfold refV) | (go_at_call 111; refine (came_any _ _).mono ?_; rintro e w' ⟨rfl, rfl⟩; unfold cameV) | (go_at_call 114; refine (told_any _ _).mono ?_; rintro e w' ⟨rfl, rfl⟩; unfold toldV))
      all_goals
        go_ret3
        exact ⟨by rw [HV.out]; first | rfl | (unfold cameV; rw [IntWalk.wrap64_in _ ⟨hi1, hi2⟩]), _, rfl⟩
    · have hin := tdiv_in a b ⟨ha1, ha2⟩ ⟨hb1, hb2⟩ hb0 hm
      have HV := hid (show quoV a b = cameV (a.tdiv b) by unfold quoV; rw [if_neg hb0, if_pos hin])
      obtain ⟨hi1, hi2⟩ := hin
      have hm1 : a = -9223372036854775808 → b ≠ -1 := fun h1 h2 => hm ⟨h1, h2⟩
      by_cases hm2 : a = -9223372036854775808
      · have hm3 : (b == -1) = false := by rw [beq_eq_false_iff_ne]; exact hm1 hm2
        have hm4 : (a == -9223372036854775808) = true := by rw [beq_iff_eq]; exact hm2
        clear hm hm1 hm2 hb0
        go_enter Tryz.func53, Tryz.ntmps53
        go_wp2_with fail
        refine (two_any g a b w h).mono ?_
        rintro e w1 ⟨rfl, nd, rfl⟩
        clear h
        go_wp2_with (first | (go_at_call 110; refine (refused_any _ _).mono ?_; rintro e w' ⟨rfl, rfl⟩; unfold refV) | (go_at_call 111; refine (came_any _ _).mono ?_; rintro e w' ⟨rfl, rfl⟩; unfold cameV) | (go_at_call 114; refine (told_any _ _).mono ?_; rintro e w' ⟨rfl, rfl⟩; unfold toldV))
        all_goals
          go_ret3
          exact ⟨by rw [HV.out]; first | rfl | (unfold cameV; rw [IntWalk.wrap64_in _ ⟨hi1, hi2⟩]), _, rfl⟩
      · have hm4 : (a == -9223372036854775808) = false := by rw [beq_eq_false_iff_ne]; exact hm2
        clear hm hm1 hm2 hb0
        go_enter Tryz.func53, Tryz.ntmps53
        go_wp2_with fail
        refine (two_any g a b w h).mono ?_
        rintro e w1 ⟨rfl, nd, rfl⟩
        clear h
        go_wp2_with (first | (go_at_call 110; refine (refused_any _ _).mono ?_; rintro e w' ⟨rfl, rfl⟩; unfold refV) | (go_at_call 111; refine (came_any _ _).mono ?_; rintro e w' ⟨rfl, rfl⟩; unfold cameV) | (go_at_call 114; refine (told_any _ _).mono ?_; rintro e w' ⟨rfl, rfl⟩; unfold toldV))
        all_goals
          go_ret3
          exact ⟨by rw [HV.out]; first | rfl | (unfold cameV; rw [IntWalk.wrap64_in _ ⟨hi1, hi2⟩]), _, rfl⟩

end Go.Proofs.YtgpggkepgoelfaaGreatDoor
