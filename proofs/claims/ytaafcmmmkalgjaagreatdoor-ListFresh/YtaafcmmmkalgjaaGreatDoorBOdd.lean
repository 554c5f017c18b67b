/-
  kit.odd of a node whose abilities are its row's: nothing is odd; by contracts.
-/
import Derived.Test.YtaafcmmmkalgjaaGreatDoorBFacts
import Derived.Test.YtaafcmmmkalgjaaGreatDoorKOrd
import Derived.Deep.RegionHeld3
import Derived.Deep.Cut
import Derived.Deep.CutRange
namespace Go.Proofs.YtaafcmmmkalgjaaGreatDoor.Nd
open Go.RowKit
/-- Is a text among these? -/
def inS (x : ByteArray) (xs : List ByteArray) : Bool := xs.any (fun y => decide (x = y))
theorem inS_no {x : ByteArray} {xs : List ByteArray} (h : ∀ j, (hj : j < xs.length) → x ≠ xs[j]) : inS x xs = false := by
  unfold inS
  rw [List.any_eq_false]
  intro y hy
  obtain ⟨j, hj, rfl⟩ := List.getElem_of_mem hy
  simpa using h j hj
theorem inS_yes {x : ByteArray} {xs : List ByteArray} (j : Nat) (hj : j < xs.length) (h : x = xs[j]) : inS x xs = true := by
  unfold inS
  rw [List.any_eq_true]
  exact ⟨xs[j], List.getElem_mem hj, by simpa using h⟩
def IxR (w : World) (b : Bool) (e : Ending) (w' : World) : Prop := ∃ i : Int, e = .returned (.int .i64 i) ∧ decide (0 ≤ i) = b ∧ w' = w
set_option maxRecDepth 100000 in
set_option maxHeartbeats 1000000 in
theorem indexS_any (a : Option Addr) (c : Nat) (xs : List ByteArray) (x : ByteArray) (w : World) (hn : xs.length ≤ 1000) (h : TRow w a xs) : Calls Tryz.prog 137 #[.slice a xs.length c, .string x] w (IxR w (inS x xs)) := by
  have HT := hid h
  have HY := hid (fun j hj h => inS_yes (x := x) (xs := xs) j hj h)
  have HN := hid (fun h => inS_no (x := x) (xs := xs) h)
  obtain ⟨b, hb⟩ : ∃ b, inS x xs = b := ⟨_, rfl⟩
  rw [hb] at HY HN ⊢
  clear hb
  obtain ⟨n, hne⟩ : ∃ n, xs.length = n := ⟨_, rfl⟩
  have HNE := hid hne
  rw [hne] at hn ⊢
  have hn' : (n : Int) ≤ 1000 := by omega
  clear h hne
  go_enter Tryz.func137, Tryz.ntmps137
  go_wp2_with fail
  go_loopw [8] (fun q8 wr => ∃ j : Nat, j ≤ n ∧ q8 = .int .i64 j ∧ (∀ i, (h : i < xs.length) → i < j → x ≠ xs[i]) ∧ wr = w) (fun q8 _ => n - (intOf q8).toNat)
  case atStart => exact ⟨0, Nat.zero_le _, rfl, fun _ _ h => absurd h (Nat.not_lt_zero _), rfl⟩
  case round =>
    obtain ⟨j, hj, rfl, hno, rfl⟩ := hrel
    have HNO := hid hno
    clear hno
    by_cases hlt : j < n
    · have hlt' : (j : Int) < n := by omega
      have hjx : j < xs.length := by rw [HNE.out]; exact hlt
      rcases HT.out with e0 | ⟨g, off, rfl, hc⟩
      · rw [e0] at hjx; exact absurd hjx (Nat.not_lt_zero _)
      have hcell := hc j hjx
      have hgl := lt_of_cell hcell
      by_cases he : x = xs[j]
      · have HB := hid (HY.out j hjx he)
        have e1 : (x.toList == xs[j].toList) = true := by rw [← he]; exact beq_self_eq_true _
        clear hc
        generalize xs[j] = y at *
        go_wp2_with fail
        go_ret
        exact ⟨j, rfl, by rw [HB.out]; exact decide_eq_true (by omega), rfl⟩
      · have e1 : (x.toList == xs[j].toList) = false := by rw [beq_eq_false_iff_ne]; exact fun e => he (toList_inj e)
        have HE := hid he
        clear hc
        generalize hy : xs[j] = y at *
        have HYY := hid hy
        clear hy
        go_wp2_with fail
        go_roundw
        case rel => exact ⟨j + 1, hlt, by go_num, fun i hi h => by
          rcases Nat.lt_succ_iff_lt_or_eq.1 h with h | rfl
          · exact HNO.out i hi h
          · rw [HYY.out]; exact HE.out, by trivial⟩
        case measure => simp [intOf]; omega
    · have HB := hid (HN.out (fun i hi => HNO.out i hi (by have := HNE.out; omega)))
      have hlt3 : ¬ (j : Int) < n := by omega
      go_wp2_with fail
      go_ret
      exact ⟨-1, rfl, by rw [HB.out]; rfl, rfl⟩
theorem contains_any (a : Option Addr) (c : Nat) (xs : List ByteArray) (x : ByteArray) (w : World) (hn : xs.length ≤ 1000) (h : TRow w a xs) : Calls Tryz.prog 97 #[.slice a xs.length c, .string x] w fun e w' => e = .returned (.bool (inS x xs)) ∧ w' = w := by
  have HI := hid (indexS_any a c xs x w hn h)
  clear h
  generalize inS x xs = b at *
  generalize xs.length = n at *
  go_enter Tryz.func97, Tryz.ntmps97
  go_wp2_with fail
  refine HI.out.mono ?_
  rintro e w1 ⟨i, rfl, hi, hw⟩
  have HW := hid hw
  have HI2 := hid hi
  clear hi hw
  go_wp2_with fail
  go_ret
  exact ⟨by rw [← HI2.out]; rfl, HW.out⟩
theorem enterQ0 (a : Array Value) (w : World) : (callFunc 123 a).run Tryz.prog w = .ok (.enter 123 a) w := by simp [callFunc, go_sem, Tryz.func123]; rfl
theorem enterQ1 (a : Array Value) (w : World) : (callFunc 124 a).run Tryz.prog w = .ok (.enter 124 a) w := by simp [callFunc, go_sem, Tryz.func124]; rfl
theorem enterQ2 (a : Array Value) (w : World) : (callFunc 125 a).run Tryz.prog w = .ok (.enter 125 a) w := by simp [callFunc, go_sem, Tryz.func125]; rfl
theorem enterQ3 (a : Array Value) (w : World) : (callFunc 126 a).run Tryz.prog w = .ok (.enter 126 a) w := by simp [callFunc, go_sem, Tryz.func126]; rfl
theorem enterQ4 (a : Array Value) (w : World) : (callFunc 127 a).run Tryz.prog w = .ok (.enter 127 a) w := by simp [callFunc, go_sem, Tryz.func127]; rfl
theorem enterQ5 (a : Array Value) (w : World) : (callFunc 128 a).run Tryz.prog w = .ok (.enter 128 a) w := by simp [callFunc, go_sem, Tryz.func128]; rfl
theorem enterQ6 (a : Array Value) (w : World) : (callFunc 129 a).run Tryz.prog w = .ok (.enter 129 a) w := by simp [callFunc, go_sem, Tryz.func129]; rfl
theorem enterQ7 (a : Array Value) (w : World) : (callFunc 130 a).run Tryz.prog w = .ok (.enter 130 a) w := by simp [callFunc, go_sem, Tryz.func130]; rfl
theorem enterQ8 (a : Array Value) (w : World) : (callFunc 131 a).run Tryz.prog w = .ok (.enter 131 a) w := by simp [callFunc, go_sem, Tryz.func131]; rfl
theorem enterQ9 (a : Array Value) (w : World) : (callFunc 132 a).run Tryz.prog w = .ok (.enter 132 a) w := by simp [callFunc, go_sem, Tryz.func132]; rfl
theorem enterQ10 (a : Array Value) (w : World) : (callFunc 133 a).run Tryz.prog w = .ok (.enter 133 a) w := by simp [callFunc, go_sem, Tryz.func133]; rfl
theorem enterQ11 (a : Array Value) (w : World) : (callFunc 134 a).run Tryz.prog w = .ok (.enter 134 a) w := by simp [callFunc, go_sem, Tryz.func134]; rfl
theorem enterQ12 (a : Array Value) (w : World) : (callFunc 135 a).run Tryz.prog w = .ok (.enter 135 a) w := by simp [callFunc, go_sem, Tryz.func135]; rfl
theorem enterQ13 (a : Array Value) (w : World) : (callFunc 136 a).run Tryz.prog w = .ok (.enter 136 a) w := by simp [callFunc, go_sem, Tryz.func136]; rfl
theorem enterQ : ∀ j, j < 14 → ∀ (a : Array Value) (w : World), (callFunc (fnQ j) a).run Tryz.prog w = .ok (.enter (fnQ j) a) w
  | 0, _ => enterQ0
  | 1, _ => enterQ1
  | 2, _ => enterQ2
  | 3, _ => enterQ3
  | 4, _ => enterQ4
  | 5, _ => enterQ5
  | 6, _ => enterQ6
  | 7, _ => enterQ7
  | 8, _ => enterQ8
  | 9, _ => enterQ9
  | 10, _ => enterQ10
  | 11, _ => enterQ11
  | 12, _ => enterQ12
  | 13, _ => enterQ13
  | n + 14, h => absurd h (by omega)
def hasLit : Nat → Bool
  | 0 => true
  | 1 => false
  | 2 => false
  | 3 => false
  | 4 => false
  | 5 => false
  | 6 => true
  | 7 => true
  | 8 => true
  | 9 => false
  | 10 => false
  | 11 => false
  | 12 => false
  | 13 => false
  | _ => false
theorem ofLit0 (v : Value) (w : World) : Calls Tryz.prog 123 #[.iface 226 v] w fun e w' => e = .returned (.bool true) ∧ w' = w := by
  have h := isLitLiteral v
  go_enter Tryz.func123, Tryz.ntmps123
  go_wp2_with fail
  go_ret
  exact ⟨rfl, rfl⟩
theorem ofLit1 (v : Value) (w : World) : Calls Tryz.prog 124 #[.iface 226 v] w fun e w' => e = .returned (.bool false) ∧ w' = w := by
  have h := isLitStrict v
  go_enter Tryz.func124, Tryz.ntmps124
  go_wp2_with fail
  go_ret
  exact ⟨rfl, rfl⟩
theorem ofLit2 (v : Value) (w : World) : Calls Tryz.prog 125 #[.iface 226 v] w fun e w' => e = .returned (.bool false) ∧ w' = w := by
  have h := isLitLazy v
  go_enter Tryz.func125, Tryz.ntmps125
  go_wp2_with fail
  go_ret
  exact ⟨rfl, rfl⟩
theorem ofLit3 (v : Value) (w : World) : Calls Tryz.prog 126 #[.iface 226 v] w fun e w' => e = .returned (.bool false) ∧ w' = w := by
  have h := isLitBinder v
  go_enter Tryz.func126, Tryz.ntmps126
  go_wp2_with fail
  go_ret
  exact ⟨rfl, rfl⟩
theorem ofLit4 (v : Value) (w : World) : Calls Tryz.prog 127 #[.iface 226 v] w fun e w' => e = .returned (.bool false) ∧ w' = w := by
  have h := isLitUser v
  go_enter Tryz.func127, Tryz.ntmps127
  go_wp2_with fail
  go_ret
  exact ⟨rfl, rfl⟩
theorem ofLit5 (v : Value) (w : World) : Calls Tryz.prog 128 #[.iface 226 v] w fun e w' => e = .returned (.bool false) ∧ w' = w := by
  have h := isLitCaller v
  go_enter Tryz.func128, Tryz.ntmps128
  go_wp2_with fail
  go_ret
  exact ⟨rfl, rfl⟩
theorem ofLit6 (v : Value) (w : World) : Calls Tryz.prog 129 #[.iface 226 v] w fun e w' => e = .returned (.bool true) ∧ w' = w := by
  have h := isLitPure v
  go_enter Tryz.func129, Tryz.ntmps129
  go_wp2_with fail
  go_ret
  exact ⟨rfl, rfl⟩
theorem ofLit7 (v : Value) (w : World) : Calls Tryz.prog 130 #[.iface 226 v] w fun e w' => e = .returned (.bool true) ∧ w' = w := by
  have h := isLitTotal v
  go_enter Tryz.func130, Tryz.ntmps130
  go_wp2_with fail
  go_ret
  exact ⟨rfl, rfl⟩
theorem ofLit8 (v : Value) (w : World) : Calls Tryz.prog 131 #[.iface 226 v] w fun e w' => e = .returned (.bool true) ∧ w' = w := by
  have h := isLitSorted v
  go_enter Tryz.func131, Tryz.ntmps131
  go_wp2_with fail
  go_ret
  exact ⟨rfl, rfl⟩
theorem ofLit9 (v : Value) (w : World) : Calls Tryz.prog 132 #[.iface 226 v] w fun e w' => e = .returned (.bool false) ∧ w' = w := by
  have h := isLitSugar v
  go_enter Tryz.func132, Tryz.ntmps132
  go_wp2_with fail
  go_ret
  exact ⟨rfl, rfl⟩
theorem ofLit10 (v : Value) (w : World) : Calls Tryz.prog 133 #[.iface 226 v] w fun e w' => e = .returned (.bool false) ∧ w' = w := by
  have h := isLitFramed v
  go_enter Tryz.func133, Tryz.ntmps133
  go_wp2_with fail
  go_ret
  exact ⟨rfl, rfl⟩
theorem ofLit11 (v : Value) (w : World) : Calls Tryz.prog 134 #[.iface 226 v] w fun e w' => e = .returned (.bool false) ∧ w' = w := by
  have h := isLitWrapped v
  go_enter Tryz.func134, Tryz.ntmps134
  go_wp2_with fail
  go_ret
  exact ⟨rfl, rfl⟩
theorem ofLit12 (v : Value) (w : World) : Calls Tryz.prog 135 #[.iface 226 v] w fun e w' => e = .returned (.bool false) ∧ w' = w := by
  have h := isLitOrigin v
  go_enter Tryz.func135, Tryz.ntmps135
  go_wp2_with fail
  go_ret
  exact ⟨rfl, rfl⟩
theorem ofLit13 (v : Value) (w : World) : Calls Tryz.prog 136 #[.iface 226 v] w fun e w' => e = .returned (.bool false) ∧ w' = w := by
  have h := isLitOpaque v
  go_enter Tryz.func136, Tryz.ntmps136
  go_wp2_with fail
  go_ret
  exact ⟨rfl, rfl⟩
theorem ofLit (v : Value) (w : World) : ∀ j, j < 14 → Calls Tryz.prog (fnQ j) #[.iface 226 v] w fun e w' => e = .returned (.bool (hasLit j)) ∧ w' = w
  | 0, _ => ofLit0 v w
  | 1, _ => ofLit1 v w
  | 2, _ => ofLit2 v w
  | 3, _ => ofLit3 v w
  | 4, _ => ofLit4 v w
  | 5, _ => ofLit5 v w
  | 6, _ => ofLit6 v w
  | 7, _ => ofLit7 v w
  | 8, _ => ofLit8 v w
  | 9, _ => ofLit9 v w
  | 10, _ => ofLit10 v w
  | 11, _ => ofLit11 v w
  | 12, _ => ofLit12 v w
  | 13, _ => ofLit13 v w
  | n + 14, h => absurd h (by omega)
def hasVar : Nat → Bool
  | 0 => false
  | 1 => false
  | 2 => false
  | 3 => false
  | 4 => true
  | 5 => false
  | 6 => true
  | 7 => false
  | 8 => false
  | 9 => false
  | 10 => false
  | 11 => false
  | 12 => false
  | 13 => false
  | _ => false
theorem ofVar0 (v : Value) (w : World) : Calls Tryz.prog 123 #[.iface 232 v] w fun e w' => e = .returned (.bool false) ∧ w' = w := by
  have h := isVarLiteral v
  go_enter Tryz.func123, Tryz.ntmps123
  go_wp2_with fail
  go_ret
  exact ⟨rfl, rfl⟩
theorem ofVar1 (v : Value) (w : World) : Calls Tryz.prog 124 #[.iface 232 v] w fun e w' => e = .returned (.bool false) ∧ w' = w := by
  have h := isVarStrict v
  go_enter Tryz.func124, Tryz.ntmps124
  go_wp2_with fail
  go_ret
  exact ⟨rfl, rfl⟩
theorem ofVar2 (v : Value) (w : World) : Calls Tryz.prog 125 #[.iface 232 v] w fun e w' => e = .returned (.bool false) ∧ w' = w := by
  have h := isVarLazy v
  go_enter Tryz.func125, Tryz.ntmps125
  go_wp2_with fail
  go_ret
  exact ⟨rfl, rfl⟩
theorem ofVar3 (v : Value) (w : World) : Calls Tryz.prog 126 #[.iface 232 v] w fun e w' => e = .returned (.bool false) ∧ w' = w := by
  have h := isVarBinder v
  go_enter Tryz.func126, Tryz.ntmps126
  go_wp2_with fail
  go_ret
  exact ⟨rfl, rfl⟩
theorem ofVar4 (v : Value) (w : World) : Calls Tryz.prog 127 #[.iface 232 v] w fun e w' => e = .returned (.bool true) ∧ w' = w := by
  have h := isVarUser v
  go_enter Tryz.func127, Tryz.ntmps127
  go_wp2_with fail
  go_ret
  exact ⟨rfl, rfl⟩
theorem ofVar5 (v : Value) (w : World) : Calls Tryz.prog 128 #[.iface 232 v] w fun e w' => e = .returned (.bool false) ∧ w' = w := by
  have h := isVarCaller v
  go_enter Tryz.func128, Tryz.ntmps128
  go_wp2_with fail
  go_ret
  exact ⟨rfl, rfl⟩
theorem ofVar6 (v : Value) (w : World) : Calls Tryz.prog 129 #[.iface 232 v] w fun e w' => e = .returned (.bool true) ∧ w' = w := by
  have h := isVarPure v
  go_enter Tryz.func129, Tryz.ntmps129
  go_wp2_with fail
  go_ret
  exact ⟨rfl, rfl⟩
theorem ofVar7 (v : Value) (w : World) : Calls Tryz.prog 130 #[.iface 232 v] w fun e w' => e = .returned (.bool false) ∧ w' = w := by
  have h := isVarTotal v
  go_enter Tryz.func130, Tryz.ntmps130
  go_wp2_with fail
  go_ret
  exact ⟨rfl, rfl⟩
theorem ofVar8 (v : Value) (w : World) : Calls Tryz.prog 131 #[.iface 232 v] w fun e w' => e = .returned (.bool false) ∧ w' = w := by
  have h := isVarSorted v
  go_enter Tryz.func131, Tryz.ntmps131
  go_wp2_with fail
  go_ret
  exact ⟨rfl, rfl⟩
theorem ofVar9 (v : Value) (w : World) : Calls Tryz.prog 132 #[.iface 232 v] w fun e w' => e = .returned (.bool false) ∧ w' = w := by
  have h := isVarSugar v
  go_enter Tryz.func132, Tryz.ntmps132
  go_wp2_with fail
  go_ret
  exact ⟨rfl, rfl⟩
theorem ofVar10 (v : Value) (w : World) : Calls Tryz.prog 133 #[.iface 232 v] w fun e w' => e = .returned (.bool false) ∧ w' = w := by
  have h := isVarFramed v
  go_enter Tryz.func133, Tryz.ntmps133
  go_wp2_with fail
  go_ret
  exact ⟨rfl, rfl⟩
theorem ofVar11 (v : Value) (w : World) : Calls Tryz.prog 134 #[.iface 232 v] w fun e w' => e = .returned (.bool false) ∧ w' = w := by
  have h := isVarWrapped v
  go_enter Tryz.func134, Tryz.ntmps134
  go_wp2_with fail
  go_ret
  exact ⟨rfl, rfl⟩
theorem ofVar12 (v : Value) (w : World) : Calls Tryz.prog 135 #[.iface 232 v] w fun e w' => e = .returned (.bool false) ∧ w' = w := by
  have h := isVarOrigin v
  go_enter Tryz.func135, Tryz.ntmps135
  go_wp2_with fail
  go_ret
  exact ⟨rfl, rfl⟩
theorem ofVar13 (v : Value) (w : World) : Calls Tryz.prog 136 #[.iface 232 v] w fun e w' => e = .returned (.bool false) ∧ w' = w := by
  have h := isVarOpaque v
  go_enter Tryz.func136, Tryz.ntmps136
  go_wp2_with fail
  go_ret
  exact ⟨rfl, rfl⟩
theorem ofVar (v : Value) (w : World) : ∀ j, j < 14 → Calls Tryz.prog (fnQ j) #[.iface 232 v] w fun e w' => e = .returned (.bool (hasVar j)) ∧ w' = w
  | 0, _ => ofVar0 v w
  | 1, _ => ofVar1 v w
  | 2, _ => ofVar2 v w
  | 3, _ => ofVar3 v w
  | 4, _ => ofVar4 v w
  | 5, _ => ofVar5 v w
  | 6, _ => ofVar6 v w
  | 7, _ => ofVar7 v w
  | 8, _ => ofVar8 v w
  | 9, _ => ofVar9 v w
  | 10, _ => ofVar10 v w
  | 11, _ => ofVar11 v w
  | 12, _ => ofVar12 v w
  | 13, _ => ofVar13 v w
  | n + 14, h => absurd h (by omega)
def hasFra : Nat → Bool
  | 0 => false
  | 1 => false
  | 2 => false
  | 3 => false
  | 4 => false
  | 5 => false
  | 6 => true
  | 7 => true
  | 8 => false
  | 9 => false
  | 10 => true
  | 11 => false
  | 12 => false
  | 13 => false
  | _ => false
theorem ofFra0 (v : Value) (w : World) : Calls Tryz.prog 123 #[.iface 235 v] w fun e w' => e = .returned (.bool false) ∧ w' = w := by
  have h := isFraLiteral v
  go_enter Tryz.func123, Tryz.ntmps123
  go_wp2_with fail
  go_ret
  exact ⟨rfl, rfl⟩
theorem ofFra1 (v : Value) (w : World) : Calls Tryz.prog 124 #[.iface 235 v] w fun e w' => e = .returned (.bool false) ∧ w' = w := by
  have h := isFraStrict v
  go_enter Tryz.func124, Tryz.ntmps124
  go_wp2_with fail
  go_ret
  exact ⟨rfl, rfl⟩
theorem ofFra2 (v : Value) (w : World) : Calls Tryz.prog 125 #[.iface 235 v] w fun e w' => e = .returned (.bool false) ∧ w' = w := by
  have h := isFraLazy v
  go_enter Tryz.func125, Tryz.ntmps125
  go_wp2_with fail
  go_ret
  exact ⟨rfl, rfl⟩
theorem ofFra3 (v : Value) (w : World) : Calls Tryz.prog 126 #[.iface 235 v] w fun e w' => e = .returned (.bool false) ∧ w' = w := by
  have h := isFraBinder v
  go_enter Tryz.func126, Tryz.ntmps126
  go_wp2_with fail
  go_ret
  exact ⟨rfl, rfl⟩
theorem ofFra4 (v : Value) (w : World) : Calls Tryz.prog 127 #[.iface 235 v] w fun e w' => e = .returned (.bool false) ∧ w' = w := by
  have h := isFraUser v
  go_enter Tryz.func127, Tryz.ntmps127
  go_wp2_with fail
  go_ret
  exact ⟨rfl, rfl⟩
theorem ofFra5 (v : Value) (w : World) : Calls Tryz.prog 128 #[.iface 235 v] w fun e w' => e = .returned (.bool false) ∧ w' = w := by
  have h := isFraCaller v
  go_enter Tryz.func128, Tryz.ntmps128
  go_wp2_with fail
  go_ret
  exact ⟨rfl, rfl⟩
theorem ofFra6 (v : Value) (w : World) : Calls Tryz.prog 129 #[.iface 235 v] w fun e w' => e = .returned (.bool true) ∧ w' = w := by
  have h := isFraPure v
  go_enter Tryz.func129, Tryz.ntmps129
  go_wp2_with fail
  go_ret
  exact ⟨rfl, rfl⟩
theorem ofFra7 (v : Value) (w : World) : Calls Tryz.prog 130 #[.iface 235 v] w fun e w' => e = .returned (.bool true) ∧ w' = w := by
  have h := isFraTotal v
  go_enter Tryz.func130, Tryz.ntmps130
  go_wp2_with fail
  go_ret
  exact ⟨rfl, rfl⟩
theorem ofFra8 (v : Value) (w : World) : Calls Tryz.prog 131 #[.iface 235 v] w fun e w' => e = .returned (.bool false) ∧ w' = w := by
  have h := isFraSorted v
  go_enter Tryz.func131, Tryz.ntmps131
  go_wp2_with fail
  go_ret
  exact ⟨rfl, rfl⟩
theorem ofFra9 (v : Value) (w : World) : Calls Tryz.prog 132 #[.iface 235 v] w fun e w' => e = .returned (.bool false) ∧ w' = w := by
  have h := isFraSugar v
  go_enter Tryz.func132, Tryz.ntmps132
  go_wp2_with fail
  go_ret
  exact ⟨rfl, rfl⟩
theorem ofFra10 (v : Value) (w : World) : Calls Tryz.prog 133 #[.iface 235 v] w fun e w' => e = .returned (.bool true) ∧ w' = w := by
  have h := isFraFramed v
  go_enter Tryz.func133, Tryz.ntmps133
  go_wp2_with fail
  go_ret
  exact ⟨rfl, rfl⟩
theorem ofFra11 (v : Value) (w : World) : Calls Tryz.prog 134 #[.iface 235 v] w fun e w' => e = .returned (.bool false) ∧ w' = w := by
  have h := isFraWrapped v
  go_enter Tryz.func134, Tryz.ntmps134
  go_wp2_with fail
  go_ret
  exact ⟨rfl, rfl⟩
theorem ofFra12 (v : Value) (w : World) : Calls Tryz.prog 135 #[.iface 235 v] w fun e w' => e = .returned (.bool false) ∧ w' = w := by
  have h := isFraOrigin v
  go_enter Tryz.func135, Tryz.ntmps135
  go_wp2_with fail
  go_ret
  exact ⟨rfl, rfl⟩
theorem ofFra13 (v : Value) (w : World) : Calls Tryz.prog 136 #[.iface 235 v] w fun e w' => e = .returned (.bool false) ∧ w' = w := by
  have h := isFraOpaque v
  go_enter Tryz.func136, Tryz.ntmps136
  go_wp2_with fail
  go_ret
  exact ⟨rfl, rfl⟩
theorem ofFra (v : Value) (w : World) : ∀ j, j < 14 → Calls Tryz.prog (fnQ j) #[.iface 235 v] w fun e w' => e = .returned (.bool (hasFra j)) ∧ w' = w
  | 0, _ => ofFra0 v w
  | 1, _ => ofFra1 v w
  | 2, _ => ofFra2 v w
  | 3, _ => ofFra3 v w
  | 4, _ => ofFra4 v w
  | 5, _ => ofFra5 v w
  | 6, _ => ofFra6 v w
  | 7, _ => ofFra7 v w
  | 8, _ => ofFra8 v w
  | 9, _ => ofFra9 v w
  | 10, _ => ofFra10 v w
  | 11, _ => ofFra11 v w
  | 12, _ => ofFra12 v w
  | 13, _ => ofFra13 v w
  | n + 14, h => absurd h (by omega)
def hasEc : Nat → Bool
  | 0 => false
  | 1 => false
  | 2 => true
  | 3 => true
  | 4 => false
  | 5 => false
  | 6 => true
  | 7 => false
  | 8 => true
  | 9 => false
  | 10 => false
  | 11 => false
  | 12 => false
  | 13 => false
  | _ => false
theorem ofEc0 (v : Value) (w : World) : Calls Tryz.prog 123 #[.iface 164 v] w fun e w' => e = .returned (.bool false) ∧ w' = w := by
  have h := isEcLiteral v
  go_enter Tryz.func123, Tryz.ntmps123
  go_wp2_with fail
  go_ret
  exact ⟨rfl, rfl⟩
theorem ofEc1 (v : Value) (w : World) : Calls Tryz.prog 124 #[.iface 164 v] w fun e w' => e = .returned (.bool false) ∧ w' = w := by
  have h := isEcStrict v
  go_enter Tryz.func124, Tryz.ntmps124
  go_wp2_with fail
  go_ret
  exact ⟨rfl, rfl⟩
theorem ofEc2 (v : Value) (w : World) : Calls Tryz.prog 125 #[.iface 164 v] w fun e w' => e = .returned (.bool true) ∧ w' = w := by
  have h := isEcLazy v
  go_enter Tryz.func125, Tryz.ntmps125
  go_wp2_with fail
  go_ret
  exact ⟨rfl, rfl⟩
theorem ofEc3 (v : Value) (w : World) : Calls Tryz.prog 126 #[.iface 164 v] w fun e w' => e = .returned (.bool true) ∧ w' = w := by
  have h := isEcBinder v
  go_enter Tryz.func126, Tryz.ntmps126
  go_wp2_with fail
  go_ret
  exact ⟨rfl, rfl⟩
theorem ofEc4 (v : Value) (w : World) : Calls Tryz.prog 127 #[.iface 164 v] w fun e w' => e = .returned (.bool false) ∧ w' = w := by
  have h := isEcUser v
  go_enter Tryz.func127, Tryz.ntmps127
  go_wp2_with fail
  go_ret
  exact ⟨rfl, rfl⟩
theorem ofEc5 (v : Value) (w : World) : Calls Tryz.prog 128 #[.iface 164 v] w fun e w' => e = .returned (.bool false) ∧ w' = w := by
  have h := isEcCaller v
  go_enter Tryz.func128, Tryz.ntmps128
  go_wp2_with fail
  go_ret
  exact ⟨rfl, rfl⟩
theorem ofEc6 (v : Value) (w : World) : Calls Tryz.prog 129 #[.iface 164 v] w fun e w' => e = .returned (.bool true) ∧ w' = w := by
  have h := isEcPure v
  go_enter Tryz.func129, Tryz.ntmps129
  go_wp2_with fail
  go_ret
  exact ⟨rfl, rfl⟩
theorem ofEc7 (v : Value) (w : World) : Calls Tryz.prog 130 #[.iface 164 v] w fun e w' => e = .returned (.bool false) ∧ w' = w := by
  have h := isEcTotal v
  go_enter Tryz.func130, Tryz.ntmps130
  go_wp2_with fail
  go_ret
  exact ⟨rfl, rfl⟩
theorem ofEc8 (v : Value) (w : World) : Calls Tryz.prog 131 #[.iface 164 v] w fun e w' => e = .returned (.bool true) ∧ w' = w := by
  have h := isEcSorted v
  go_enter Tryz.func131, Tryz.ntmps131
  go_wp2_with fail
  go_ret
  exact ⟨rfl, rfl⟩
theorem ofEc9 (v : Value) (w : World) : Calls Tryz.prog 132 #[.iface 164 v] w fun e w' => e = .returned (.bool false) ∧ w' = w := by
  have h := isEcSugar v
  go_enter Tryz.func132, Tryz.ntmps132
  go_wp2_with fail
  go_ret
  exact ⟨rfl, rfl⟩
theorem ofEc10 (v : Value) (w : World) : Calls Tryz.prog 133 #[.iface 164 v] w fun e w' => e = .returned (.bool false) ∧ w' = w := by
  have h := isEcFramed v
  go_enter Tryz.func133, Tryz.ntmps133
  go_wp2_with fail
  go_ret
  exact ⟨rfl, rfl⟩
theorem ofEc11 (v : Value) (w : World) : Calls Tryz.prog 134 #[.iface 164 v] w fun e w' => e = .returned (.bool false) ∧ w' = w := by
  have h := isEcWrapped v
  go_enter Tryz.func134, Tryz.ntmps134
  go_wp2_with fail
  go_ret
  exact ⟨rfl, rfl⟩
theorem ofEc12 (v : Value) (w : World) : Calls Tryz.prog 135 #[.iface 164 v] w fun e w' => e = .returned (.bool false) ∧ w' = w := by
  have h := isEcOrigin v
  go_enter Tryz.func135, Tryz.ntmps135
  go_wp2_with fail
  go_ret
  exact ⟨rfl, rfl⟩
theorem ofEc13 (v : Value) (w : World) : Calls Tryz.prog 136 #[.iface 164 v] w fun e w' => e = .returned (.bool false) ∧ w' = w := by
  have h := isEcOpaque v
  go_enter Tryz.func136, Tryz.ntmps136
  go_wp2_with fail
  go_ret
  exact ⟨rfl, rfl⟩
theorem ofEc (v : Value) (w : World) : ∀ j, j < 14 → Calls Tryz.prog (fnQ j) #[.iface 164 v] w fun e w' => e = .returned (.bool (hasEc j)) ∧ w' = w
  | 0, _ => ofEc0 v w
  | 1, _ => ofEc1 v w
  | 2, _ => ofEc2 v w
  | 3, _ => ofEc3 v w
  | 4, _ => ofEc4 v w
  | 5, _ => ofEc5 v w
  | 6, _ => ofEc6 v w
  | 7, _ => ofEc7 v w
  | 8, _ => ofEc8 v w
  | 9, _ => ofEc9 v w
  | 10, _ => ofEc10 v w
  | 11, _ => ofEc11 v w
  | 12, _ => ofEc12 v w
  | 13, _ => ofEc13 v w
  | n + 14, h => absurd h (by omega)
/-- What the functions that ask for abilities tell of a type. -/
def OfQ (τ : TypeId) (hs : Nat → Bool) : Prop := ∀ (v : Value) (w : World) (j : Nat), j < 14 → Calls Tryz.prog (fnQ j) #[.iface τ v] w fun e w' => e = .returned (.bool (hs j)) ∧ w' = w
/-- The first ability that is in the one and not in the other. -/
def oddF (hs : Nat → Bool) (xs : List ByteArray) : Option Nat := (List.range 14).find? (fun j => hs j != inS (nmQ j) xs)
theorem oddF_at {hs : Nat → Bool} {xs : List ByteArray} {j : Nat} (hj : j < 14) (h : (hs j != inS (nmQ j) xs) = true) (hn : ∀ i, i < j → hs i = inS (nmQ i) xs) : oddF hs xs = some j := by
  unfold oddF
  rw [List.find?_range_eq_some]
  exact ⟨h, by simpa using hj, fun i hi => by rw [hn i hi]; simp⟩
theorem oddF_no {hs : Nat → Bool} {xs : List ByteArray} (hn : ∀ i, i < 14 → hs i = inS (nmQ i) xs) : oddF hs xs = none := by
  unfold oddF
  rw [List.find?_eq_none]
  intro x hx
  rw [hn x (by simpa using hx)]
  simp
def oddV : Option Nat → Value
  | none => .tuple #[.string ⟨#[]⟩, .bool false]
  | some i => .tuple #[.string (nmQ i), .bool true]
set_option maxRecDepth 100000 in
set_option maxHeartbeats 4000000 in
theorem odd_gen (τ : TypeId) (hs : Nat → Bool) (hof : OfQ τ hs) (a : Option Addr) (c : Nat) (xs : List ByteArray) (v : Value) (w : World) (hn : xs.length ≤ 1000) (h : TRow w a xs) : Calls Tryz.prog 70 #[.iface τ v, .slice a xs.length c] w fun e w' => e = .returned (oddV (oddF hs xs)) ∧ Ext w w' := by
  have HC := hid (fun x w1 (hx : Ext w w1) => contains_any a c xs x w1 hn (h.later hx))
  have HF := hid (fun j hj h hn => oddF_at (hs := hs) (xs := xs) (j := j) hj h hn)
  have HFN := hid (fun hn => oddF_no (hs := hs) (xs := xs) hn)
  have HOFF := hid hof
  clear h hof
  generalize xs.length = xn at *
  generalize oddF hs xs = V at *
  go_enter Tryz.func70, Tryz.ntmps70
  go_wp2_with fail
  refine (abilQ_any w).mono ?_
  rintro e w1 ⟨rfl, hw1⟩
  have X1 := hid (show Ext w w1 from hw1 ▸ Ext.alloc _ _)
  have HA := hid (show w1.heap[w.heap.size]? = some (.cells abQ 197) from hw1 ▸ blk0 _ _)
  clear hw1
  go_wp2_with fail
  go_loopw [10] (fun q10 wr => ∃ j : Nat, j ≤ 14 ∧ q10 = .int .i64 j ∧ (∀ i, i < j → hs i = inS (nmQ i) xs) ∧ Ext w1 wr) (fun q10 _ => 14 - (intOf q10).toNat)
  case atStart => exact ⟨0, Nat.zero_le _, rfl, fun i h => absurd h (Nat.not_lt_zero _), Ext.refl _⟩
  case round =>
    obtain ⟨j, hj, rfl, hno, hx⟩ := hrel
    have HX := hid hx
    have HNO := hid hno
    clear hx hno
    by_cases hlt : j < 14
    · have hlt' : (j : Int) < 14 := by omega
      obtain ⟨a0, a1, a2⟩ := abQ_at j hlt
      have p0 := cell_of (HX.out.block HA.out) a0
      have p1 := cell_of (HX.out.block HA.out) a1
      have p2 := cell_of (HX.out.block HA.out) a2
      have hgl := lt_of_cell p0
      have HOF := hid (fun w1 => HOFF.out v w1 j hlt)
      have henter := enterQ j hlt
      have HFJ := hid (fun h => HF.out j hlt h HNO.out)
      have HNX := hid (show hs j = inS (nmQ j) xs → ∀ i, i < j + 1 → hs i = inS (nmQ i) xs from fun h i hi => by
        rcases Nat.lt_succ_iff_lt_or_eq.1 hi with hi | rfl
        · exact HNO.out i hi
        · exact h)
      have HVN := hid (show oddV (some j) = .tuple #[.string (nmQ j), .bool true] from rfl)
      have HCN := hid (fun w1 (hx1 : Ext wr w1) => HC.out (nmQ j) w1 (X1.out.trans (HX.out.trans hx1)))
      clear a0 a1 a2
      generalize hb2 : inS (nmQ j) xs = b2 at *
      clear hb2
      generalize nmQ j = nj at *
      generalize tdQ j = tj at *
      generalize fnQ j = fj at *
      generalize hbj : hs j = bj at *
      clear hbj
      obtain ⟨M, hM⟩ : ∃ M, wr.alloc (.cells #[.string nj, .bool tj, .func (.func fj) #[] #[]] 197) = M := ⟨_, rfl⟩
      have XM := hid (show Ext wr M from hM ▸ Ext.alloc _ _)
      have HM0 := hid (show M.heap[wr.heap.size]? = some (.cells #[.string nj, .bool tj, .func (.func fj) #[] #[]] 197) from hM ▸ blk0 _ _)
      have HSK := hid (show ∀ W', Ext M W' → (W'.cell? ⟨wr.heap.size, 0, none⟩ = some (.string nj) ∧ W'.cell? ⟨wr.heap.size, 2, none⟩ = some (.func (.func fj) #[] #[])) from fun W' X => ⟨cell_of (X.block HM0.out) rfl, cell_of (X.block HM0.out) rfl⟩)
      have HCM := hid (fun w1 (hx1 : Ext M w1) => HCN.out w1 (XM.out.trans hx1))
      go_upto_region 4 with fail
      first | rw [hM] | skip
      clear hM p0 p1 p2
      go_cut [22] from 14 to 22 (fun s22 wx => s22 = .bool (bj != b2) ∧ Ext M wx)
      case first =>
        go_region_held3 (fun W' => W'.cell? ⟨wr.heap.size, 0, none⟩ = some (.string nj) ∧ W'.cell? ⟨wr.heap.size, 2, none⟩ = some (.func (.func fj) #[] #[]))
          (first | with_reducible exact HSK.out _ (Ext.refl _) | with_reducible exact HSK.out _ (Ext.refl _).drew | go_keep)
          (first
            | (go_at_call 97; refine (HCM.out _ (by repeat (first | with_reducible exact Ext.refl _ | with_reducible refine Ext.drew ?_))).mono ?_; rintro r u1 ⟨rfl, rfl⟩)
            | (refine (HOF.out _).mono ?_; rintro r u1 ⟨rfl, rfl⟩))
        all_goals
          go_wp2_with fail
          go_meet
          case rel => exact ⟨by cases bj <;> cases b2 <;> rfl, (by repeat (first | with_reducible exact Ext.refl _ | with_reducible refine Ext.drew ?_))⟩
      case rest =>
        obtain ⟨rfl, hxc⟩ := hcut
        have XC := hid hxc
        clear hxc
        by_cases hbb : bj = b2
        · have HN2 := hid (HNX.out hbb)
          have hne : (bj != b2) = false := by rw [hbb]; simp
          rw [hne]
          clear hbb hne
          go_wp2_with fail
          go_roundw
          case rel => exact ⟨j + 1, by omega, by go_num, HN2.out, HX.out.trans (XM.out.trans XC.out)⟩
          case measure => simp [intOf]; omega
        · have hne : (bj != b2) = true := by simpa using hbb
          have HV := hid (HFJ.out hne)
          rw [hne]
          clear hbb hne
          have p0 : wc.cell? ⟨wr.heap.size, 0, none⟩ = some (.string nj) := cell_of (XC.out.block HM0.out) rfl
          have hwl := lt_of_cell p0
          go_wp2_with fail
          go_ret2
          exact ⟨by rw [HV.out, HVN.out]; rfl, X1.out.trans (HX.out.trans (XM.out.trans XC.out))⟩
    · obtain rfl : j = 14 := by omega
      have HV := hid (HFN.out HNO.out)
      go_wp2_with fail
      go_ret2
      exact ⟨by rw [HV.out]; rfl, X1.out.trans HX.out⟩
theorem odd_Lit (a : Option Addr) (c : Nat) (xs : List ByteArray) (v : Value) (w : World) (hn : xs.length ≤ 1000) (h : TRow w a xs) (hall : ∀ j, j < 14 → hasLit j = inS (nmQ j) xs) : Calls Tryz.prog 70 #[.iface 226 v, .slice a xs.length c] w fun e w' => e = .returned (.tuple #[.string ⟨#[]⟩, .bool false]) ∧ Ext w w' := by
  have := odd_gen 226 hasLit (fun v w j hj => ofLit v w j hj) a c xs v w hn h
  rw [oddF_no hall] at this
  exact this
theorem odd_Var (a : Option Addr) (c : Nat) (xs : List ByteArray) (v : Value) (w : World) (hn : xs.length ≤ 1000) (h : TRow w a xs) (hall : ∀ j, j < 14 → hasVar j = inS (nmQ j) xs) : Calls Tryz.prog 70 #[.iface 232 v, .slice a xs.length c] w fun e w' => e = .returned (.tuple #[.string ⟨#[]⟩, .bool false]) ∧ Ext w w' := by
  have := odd_gen 232 hasVar (fun v w j hj => ofVar v w j hj) a c xs v w hn h
  rw [oddF_no hall] at this
  exact this
theorem odd_Fra (a : Option Addr) (c : Nat) (xs : List ByteArray) (v : Value) (w : World) (hn : xs.length ≤ 1000) (h : TRow w a xs) (hall : ∀ j, j < 14 → hasFra j = inS (nmQ j) xs) : Calls Tryz.prog 70 #[.iface 235 v, .slice a xs.length c] w fun e w' => e = .returned (.tuple #[.string ⟨#[]⟩, .bool false]) ∧ Ext w w' := by
  have := odd_gen 235 hasFra (fun v w j hj => ofFra v w j hj) a c xs v w hn h
  rw [oddF_no hall] at this
  exact this
theorem odd_Ec (a : Option Addr) (c : Nat) (xs : List ByteArray) (v : Value) (w : World) (hn : xs.length ≤ 1000) (h : TRow w a xs) (hall : ∀ j, j < 14 → hasEc j = inS (nmQ j) xs) : Calls Tryz.prog 70 #[.iface 164 v, .slice a xs.length c] w fun e w' => e = .returned (.tuple #[.string ⟨#[]⟩, .bool false]) ∧ Ext w w' := by
  have := odd_gen 164 hasEc (fun v w j hj => ofEc v w j hj) a c xs v w hn h
  rw [oddF_no hall] at this
  exact this

end Go.Proofs.YtaafcmmmkalgjaaGreatDoor.Nd
