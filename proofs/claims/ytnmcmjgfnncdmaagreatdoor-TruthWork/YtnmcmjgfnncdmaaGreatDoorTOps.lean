/-
  truth.alike by a contract: whether two values are the same.
-/
import Derived.Test.YtnmcmjgfnncdmaaGreatDoorCFits
import Derived.Test.YtnmcmjgfnncdmaaGreatDoorCWorkG
namespace Go.Proofs.YtnmcmjgfnncdmaaGreatDoor
open Go.RowKit
attribute [local go_sem] vs_un_un vs_un_tu vs_un_in vs_un_tx vs_un_li vs_tu_un vs_tu_tu vs_tu_in vs_tu_tx vs_tu_li vs_in_un vs_in_tu vs_in_in vs_in_tx vs_in_li vs_tx_un vs_tx_tu vs_tx_in vs_tx_tx vs_tx_li vs_li_un vs_li_tu vs_li_in vs_li_tx vs_li_li
theorem retB {a b : Bool} (h : a = b) : Ending.returned (.bool a) = .returned (.bool b) := by rw [h]
def AlTo (d : Nat) : Prop := ∀ (v v' : Value) (t t' : T) (K K' : Nat → Prop) (w : World) (d' : Nat), VRd K w d v t → VRd K' w d' v' t' →
  Calls Tryz.prog 205 #[v, v'] w fun e w' => e = .returned (.bool (T.beq t t')) ∧ Ext w w'
theorem enterAl (a : Array Value) (w : World) : (callFunc 205 a).run Tryz.prog w = .ok (.enter 205 a) w := by simp [callFunc, go_sem, Tryz.func205]; rfl
set_option maxRecDepth 100000 in
set_option maxHeartbeats 2000000 in
theorem equalF_any {d : Nat} (ih : AlTo d) (K K' : Nat → Prop) (w : World) (d' : Nat) (a a' : Option Addr) (c c' : Nat) (ks ks' : List T) (h : VRdL K w d a ks) (h' : VRdL K' w d' a' ks') :
    Calls Tryz.prog 245 #[.slice a ks.length c, .slice a' ks'.length c', .func (.func 205) #[] #[]] w fun e w' => e = .returned (.bool (T.beqL ks ks')) ∧ Ext w w' := by
  have HK := hid h
  have HK' := hid h'
  have HIH := hid ih
  have henter := enterAl
  have hl1 : (ks.length : Int) ≤ 140737488351232 := by have := h.1; omega
  have hl2 : (ks'.length : Int) ≤ 140737488351232 := by have := h'.1; omega
  clear h h' ih
  by_cases hne : ks.length = ks'.length
  case neg =>
    have HV := hid (T.beqL_len hne)
    have e1 : ((ks.length : Int) == (ks'.length : Int)) = false := by rw [beq_eq_false_iff_ne]; omega
    have e2 : ((ks.length : Int) != (ks'.length : Int)) = true := by unfold bne; rw [e1]; rfl
    clear hne
    generalize ks.length = n at *
    generalize ks'.length = n' at *
    go_enter Tryz.func245, Tryz.ntmps245
    go_wp2_with fail
    go_ret
    exact ⟨retB HV.out.symm, Ext.refl _⟩
  have HBAD := hid (fun j h h' hf => T.beqL_bad (a := ks) (b := ks') (j := j) h h' hf)
  have HALL := hid (fun h => (T.beqL_iff ks ks').2 ⟨hne, h⟩)
  obtain ⟨V, hV⟩ : ∃ V, T.beqL ks ks' = V := ⟨_, rfl⟩
  rw [hV] at HBAD HALL ⊢
  clear hV
  obtain ⟨n, hn⟩ : ∃ n, ks.length = n := ⟨_, rfl⟩
  have HN := hid hn
  have HN' := hid (hne.symm.trans hn)
  rw [hn] at hl1 ⊢
  rw [HN'.out] at hl2 ⊢
  clear hn hne
  go_enter Tryz.func245, Tryz.ntmps245
  go_wp2_with fail
  go_loopw [17] (fun q17 wr => ∃ j : Nat, j ≤ n ∧ q17 = .int .i64 j ∧ (∀ i, (h1 : i < ks.length) → (h2 : i < ks'.length) → i < j → T.beq ks[i] ks'[i] = true) ∧ Ext w wr) (fun q17 _ => n - (intOf q17).toNat)
  case atStart => exact ⟨0, Nat.zero_le _, rfl, fun _ _ _ h => absurd h (Nat.not_lt_zero _), Ext.refl _⟩
  case round =>
    obtain ⟨j, hj, rfl, hall, hx⟩ := hrel
    have HX := hid hx
    have HAL := hid hall
    clear hx hall
    by_cases hlt : j < n
    · have hlt' : (j : Int) < n := by omega
      have hj1 : j < ks.length := by rw [HN.out]; exact hlt
      have hj2 : j < ks'.length := by rw [HN'.out]; exact hlt
      obtain ⟨g, off, τ, p, rfl, hg, hc, hr⟩ := HK.out.kid hj1
      obtain ⟨g', off', τ', p', rfl, hg', hc', hr'⟩ := HK'.out.kid hj2
      have o1 := (HX.out.kp (fun _ => True)).cell hc trivial
      have o2 := (HX.out.kp (fun _ => True)).cell hc' trivial
      have hgl := lt_of_cell o1
      have hgl' := lt_of_cell o2
      have HC := hid (HIH.out _ _ ks[j] ks'[j] K K' wr d' (hr.later HX.out) (hr'.later HX.out))
      have HB := hid (HBAD.out j hj1 hj2)
      have HS := hid (show T.beq ks[j] ks'[j] = true → ∀ i, (h1 : i < ks.length) → (h2 : i < ks'.length) → i < j + 1 → T.beq ks[i] ks'[i] = true from fun hy i h1 h2 h => by
        rcases Nat.lt_succ_iff_lt_or_eq.1 h with h | rfl
        · exact HAL.out i h1 h2 h
        · exact hy)
      obtain ⟨b, hb⟩ : ∃ b, T.beq ks[j] ks'[j] = b := ⟨_, rfl⟩
      rw [hb] at HC HB HS
      clear hc hc' hr hr' hb hg hg'
      clear hj1 hj2
      go_wp2_with fail
      refine HC.out.mono ?_
      rintro e w1 ⟨rfl, hx1⟩
      have X1 := hid (HX.out.trans hx1)
      clear hx1 o1 o2 hgl hgl'
      cases b with
      | true =>
        go_wp2_with fail
        go_roundw
        case rel => exact ⟨j + 1, hlt, by go_num, HS.out (by trivial), X1.out⟩
        case measure => simp [intOf]; omega
      | false =>
        have HV := hid (HB.out rfl)
        go_wp2_with fail
        go_ret
        exact ⟨retB HV.out.symm, X1.out⟩
    · have HV := hid (HALL.out (fun i h1 h2 => HAL.out i h1 h2 (by have := HN.out; omega)))
      have hlt3 : ¬ (j : Int) < n := by omega
      go_wp2_with fail
      go_ret
      exact ⟨retB HV.out.symm, HX.out⟩
end Go.Proofs.YtnmcmjgfnncdmaaGreatDoor
/-
  truth.alike, same, not by contracts.
-/
namespace Go.Proofs.YtnmcmjgfnncdmaaGreatDoor
open Go.RowKit
attribute [local go_sem] vs_un_un vs_un_tu vs_un_in vs_un_tx vs_un_li vs_tu_un vs_tu_tu vs_tu_in vs_tu_tx vs_tu_li vs_in_un vs_in_tu vs_in_in vs_in_tx vs_in_li vs_tx_un vs_tx_tu vs_tx_in vs_tx_tx vs_tx_li vs_li_un vs_li_tu vs_li_in vs_li_tx vs_li_li
set_option maxRecDepth 100000 in
set_option maxHeartbeats 1000000 in
theorem al_un_tu  (b1 : Bool) (w : World) : Calls Tryz.prog 205 #[.iface 182 (.agg #[]), .iface 85 (.bool b1)] w fun e w' => e = .returned (.bool false) ∧ Ext w w' := by
  go_enter Tryz.func205, Tryz.ntmps205
  go_wp2_with fail
  go_ret
  exact ⟨rfl, by first | exact Ext.refl _ | exact Ext.alloc _ _ | exact Ext.alloc2 _ _ _⟩
set_option maxRecDepth 100000 in
set_option maxHeartbeats 1000000 in
theorem al_un_in  (n1 : Int) (w : World) : Calls Tryz.prog 205 #[.iface 182 (.agg #[]), .iface 55 (.int .i64 n1)] w fun e w' => e = .returned (.bool false) ∧ Ext w w' := by
  go_enter Tryz.func205, Tryz.ntmps205
  go_wp2_with fail
  go_ret
  exact ⟨rfl, by first | exact Ext.refl _ | exact Ext.alloc _ _ | exact Ext.alloc2 _ _ _⟩
set_option maxRecDepth 100000 in
set_option maxHeartbeats 1000000 in
theorem al_un_tx  (x1 : ByteArray) (w : World) : Calls Tryz.prog 205 #[.iface 182 (.agg #[]), .iface 161 (.string x1)] w fun e w' => e = .returned (.bool false) ∧ Ext w w' := by
  go_enter Tryz.func205, Tryz.ntmps205
  go_wp2_with fail
  go_ret
  exact ⟨rfl, by first | exact Ext.refl _ | exact Ext.alloc _ _ | exact Ext.alloc2 _ _ _⟩
set_option maxRecDepth 100000 in
set_option maxHeartbeats 1000000 in
theorem al_un_li  (a1 : Option Addr) (l1 c1 : Nat) (w : World) : Calls Tryz.prog 205 #[.iface 182 (.agg #[]), .iface 59 (.slice a1 l1 c1)] w fun e w' => e = .returned (.bool false) ∧ Ext w w' := by
  go_enter Tryz.func205, Tryz.ntmps205
  go_wp2_with fail
  go_ret
  exact ⟨rfl, by first | exact Ext.refl _ | exact Ext.alloc _ _ | exact Ext.alloc2 _ _ _⟩
set_option maxRecDepth 100000 in
set_option maxHeartbeats 1000000 in
theorem al_tu_un (b : Bool)  (w : World) : Calls Tryz.prog 205 #[.iface 85 (.bool b), .iface 182 (.agg #[])] w fun e w' => e = .returned (.bool false) ∧ Ext w w' := by
  go_enter Tryz.func205, Tryz.ntmps205
  go_wp2_with fail
  go_ret
  exact ⟨rfl, by first | exact Ext.refl _ | exact Ext.alloc _ _ | exact Ext.alloc2 _ _ _⟩
set_option maxRecDepth 100000 in
set_option maxHeartbeats 1000000 in
theorem al_tu_in (b : Bool) (n1 : Int) (w : World) : Calls Tryz.prog 205 #[.iface 85 (.bool b), .iface 55 (.int .i64 n1)] w fun e w' => e = .returned (.bool false) ∧ Ext w w' := by
  go_enter Tryz.func205, Tryz.ntmps205
  go_wp2_with fail
  go_ret
  exact ⟨rfl, by first | exact Ext.refl _ | exact Ext.alloc _ _ | exact Ext.alloc2 _ _ _⟩
set_option maxRecDepth 100000 in
set_option maxHeartbeats 1000000 in
theorem al_tu_tx (b : Bool) (x1 : ByteArray) (w : World) : Calls Tryz.prog 205 #[.iface 85 (.bool b), .iface 161 (.string x1)] w fun e w' => e = .returned (.bool false) ∧ Ext w w' := by
  go_enter Tryz.func205, Tryz.ntmps205
  go_wp2_with fail
  go_ret
  exact ⟨rfl, by first | exact Ext.refl _ | exact Ext.alloc _ _ | exact Ext.alloc2 _ _ _⟩
set_option maxRecDepth 100000 in
set_option maxHeartbeats 1000000 in
theorem al_tu_li (b : Bool) (a1 : Option Addr) (l1 c1 : Nat) (w : World) : Calls Tryz.prog 205 #[.iface 85 (.bool b), .iface 59 (.slice a1 l1 c1)] w fun e w' => e = .returned (.bool false) ∧ Ext w w' := by
  go_enter Tryz.func205, Tryz.ntmps205
  go_wp2_with fail
  go_ret
  exact ⟨rfl, by first | exact Ext.refl _ | exact Ext.alloc _ _ | exact Ext.alloc2 _ _ _⟩
set_option maxRecDepth 100000 in
set_option maxHeartbeats 1000000 in
theorem al_in_un (n : Int)  (w : World) : Calls Tryz.prog 205 #[.iface 55 (.int .i64 n), .iface 182 (.agg #[])] w fun e w' => e = .returned (.bool false) ∧ Ext w w' := by
  go_enter Tryz.func205, Tryz.ntmps205
  go_wp2_with fail
  go_ret
  exact ⟨rfl, by first | exact Ext.refl _ | exact Ext.alloc _ _ | exact Ext.alloc2 _ _ _⟩
set_option maxRecDepth 100000 in
set_option maxHeartbeats 1000000 in
theorem al_in_tu (n : Int) (b1 : Bool) (w : World) : Calls Tryz.prog 205 #[.iface 55 (.int .i64 n), .iface 85 (.bool b1)] w fun e w' => e = .returned (.bool false) ∧ Ext w w' := by
  go_enter Tryz.func205, Tryz.ntmps205
  go_wp2_with fail
  go_ret
  exact ⟨rfl, by first | exact Ext.refl _ | exact Ext.alloc _ _ | exact Ext.alloc2 _ _ _⟩
set_option maxRecDepth 100000 in
set_option maxHeartbeats 1000000 in
theorem al_in_tx (n : Int) (x1 : ByteArray) (w : World) : Calls Tryz.prog 205 #[.iface 55 (.int .i64 n), .iface 161 (.string x1)] w fun e w' => e = .returned (.bool false) ∧ Ext w w' := by
  go_enter Tryz.func205, Tryz.ntmps205
  go_wp2_with fail
  go_ret
  exact ⟨rfl, by first | exact Ext.refl _ | exact Ext.alloc _ _ | exact Ext.alloc2 _ _ _⟩
set_option maxRecDepth 100000 in
set_option maxHeartbeats 1000000 in
theorem al_in_li (n : Int) (a1 : Option Addr) (l1 c1 : Nat) (w : World) : Calls Tryz.prog 205 #[.iface 55 (.int .i64 n), .iface 59 (.slice a1 l1 c1)] w fun e w' => e = .returned (.bool false) ∧ Ext w w' := by
  go_enter Tryz.func205, Tryz.ntmps205
  go_wp2_with fail
  go_ret
  exact ⟨rfl, by first | exact Ext.refl _ | exact Ext.alloc _ _ | exact Ext.alloc2 _ _ _⟩
set_option maxRecDepth 100000 in
set_option maxHeartbeats 1000000 in
theorem al_tx_un (x : ByteArray)  (w : World) : Calls Tryz.prog 205 #[.iface 161 (.string x), .iface 182 (.agg #[])] w fun e w' => e = .returned (.bool false) ∧ Ext w w' := by
  go_enter Tryz.func205, Tryz.ntmps205
  go_wp2_with fail
  go_ret
  exact ⟨rfl, by first | exact Ext.refl _ | exact Ext.alloc _ _ | exact Ext.alloc2 _ _ _⟩
set_option maxRecDepth 100000 in
set_option maxHeartbeats 1000000 in
theorem al_tx_tu (x : ByteArray) (b1 : Bool) (w : World) : Calls Tryz.prog 205 #[.iface 161 (.string x), .iface 85 (.bool b1)] w fun e w' => e = .returned (.bool false) ∧ Ext w w' := by
  go_enter Tryz.func205, Tryz.ntmps205
  go_wp2_with fail
  go_ret
  exact ⟨rfl, by first | exact Ext.refl _ | exact Ext.alloc _ _ | exact Ext.alloc2 _ _ _⟩
set_option maxRecDepth 100000 in
set_option maxHeartbeats 1000000 in
theorem al_tx_in (x : ByteArray) (n1 : Int) (w : World) : Calls Tryz.prog 205 #[.iface 161 (.string x), .iface 55 (.int .i64 n1)] w fun e w' => e = .returned (.bool false) ∧ Ext w w' := by
  go_enter Tryz.func205, Tryz.ntmps205
  go_wp2_with fail
  go_ret
  exact ⟨rfl, by first | exact Ext.refl _ | exact Ext.alloc _ _ | exact Ext.alloc2 _ _ _⟩
set_option maxRecDepth 100000 in
set_option maxHeartbeats 1000000 in
theorem al_tx_li (x : ByteArray) (a1 : Option Addr) (l1 c1 : Nat) (w : World) : Calls Tryz.prog 205 #[.iface 161 (.string x), .iface 59 (.slice a1 l1 c1)] w fun e w' => e = .returned (.bool false) ∧ Ext w w' := by
  go_enter Tryz.func205, Tryz.ntmps205
  go_wp2_with fail
  go_ret
  exact ⟨rfl, by first | exact Ext.refl _ | exact Ext.alloc _ _ | exact Ext.alloc2 _ _ _⟩
set_option maxRecDepth 100000 in
set_option maxHeartbeats 1000000 in
theorem al_li_un (a : Option Addr) (l c : Nat)  (w : World) : Calls Tryz.prog 205 #[.iface 59 (.slice a l c), .iface 182 (.agg #[])] w fun e w' => e = .returned (.bool false) ∧ Ext w w' := by
  go_enter Tryz.func205, Tryz.ntmps205
  go_wp2_with fail
  go_ret
  exact ⟨rfl, by first | exact Ext.refl _ | exact Ext.alloc _ _ | exact Ext.alloc2 _ _ _⟩
set_option maxRecDepth 100000 in
set_option maxHeartbeats 1000000 in
theorem al_li_tu (a : Option Addr) (l c : Nat) (b1 : Bool) (w : World) : Calls Tryz.prog 205 #[.iface 59 (.slice a l c), .iface 85 (.bool b1)] w fun e w' => e = .returned (.bool false) ∧ Ext w w' := by
  go_enter Tryz.func205, Tryz.ntmps205
  go_wp2_with fail
  go_ret
  exact ⟨rfl, by first | exact Ext.refl _ | exact Ext.alloc _ _ | exact Ext.alloc2 _ _ _⟩
set_option maxRecDepth 100000 in
set_option maxHeartbeats 1000000 in
theorem al_li_in (a : Option Addr) (l c : Nat) (n1 : Int) (w : World) : Calls Tryz.prog 205 #[.iface 59 (.slice a l c), .iface 55 (.int .i64 n1)] w fun e w' => e = .returned (.bool false) ∧ Ext w w' := by
  go_enter Tryz.func205, Tryz.ntmps205
  go_wp2_with fail
  go_ret
  exact ⟨rfl, by first | exact Ext.refl _ | exact Ext.alloc _ _ | exact Ext.alloc2 _ _ _⟩
set_option maxRecDepth 100000 in
set_option maxHeartbeats 1000000 in
theorem al_li_tx (a : Option Addr) (l c : Nat) (x1 : ByteArray) (w : World) : Calls Tryz.prog 205 #[.iface 59 (.slice a l c), .iface 161 (.string x1)] w fun e w' => e = .returned (.bool false) ∧ Ext w w' := by
  go_enter Tryz.func205, Tryz.ntmps205
  go_wp2_with fail
  go_ret
  exact ⟨rfl, by first | exact Ext.refl _ | exact Ext.alloc _ _ | exact Ext.alloc2 _ _ _⟩
set_option maxRecDepth 100000 in
set_option maxHeartbeats 1000000 in
theorem al_un_un (w : World) : Calls Tryz.prog 205 #[.iface 182 (.agg #[]), .iface 182 (.agg #[])] w fun e w' => e = .returned (.bool true) ∧ Ext w w' := by
  go_enter Tryz.func205, Tryz.ntmps205
  go_wp2_with fail
  go_ret
  exact ⟨rfl, Ext.alloc2 _ _ _⟩
set_option maxRecDepth 100000 in
set_option maxHeartbeats 1000000 in
theorem al_tu_tu (b b1 : Bool) (w : World) : Calls Tryz.prog 205 #[.iface 85 (.bool b), .iface 85 (.bool b1)] w fun e w' => e = .returned (.bool (b == b1)) ∧ Ext w w' := by
  cases b <;> cases b1
  all_goals
    go_enter Tryz.func205, Tryz.ntmps205
    go_wp2_with fail
    go_ret
    exact ⟨rfl, Ext.refl _⟩
set_option maxRecDepth 100000 in
set_option maxHeartbeats 1000000 in
theorem al_in_in (n n1 : Int) (w : World) : Calls Tryz.prog 205 #[.iface 55 (.int .i64 n), .iface 55 (.int .i64 n1)] w fun e w' => e = .returned (.bool (decide (n = n1))) ∧ Ext w w' := by
  by_cases h : n = n1
  · have e1 : (n == n1) = true := by simpa using h
    have HV := hid (decide_eq_true h)
    clear h
    go_enter Tryz.func205, Tryz.ntmps205
    go_wp2_with fail
    go_ret
    exact ⟨retB HV.out.symm, Ext.refl _⟩
  · have e1 : (n == n1) = false := by simpa using h
    have HV := hid (decide_eq_false h)
    clear h
    go_enter Tryz.func205, Tryz.ntmps205
    go_wp2_with fail
    go_ret
    exact ⟨retB HV.out.symm, Ext.refl _⟩
set_option maxRecDepth 100000 in
set_option maxHeartbeats 1000000 in
theorem al_tx_tx (x x1 : ByteArray) (w : World) : Calls Tryz.prog 205 #[.iface 161 (.string x), .iface 161 (.string x1)] w fun e w' => e = .returned (.bool (decide (x = x1))) ∧ Ext w w' := by
  by_cases h : x.toList = x1.toList
  · have e1 : (x.toList == x1.toList) = true := by simpa using h
    have HV := hid (decide_eq_true (toList_inj h))
    clear h
    go_enter Tryz.func205, Tryz.ntmps205
    go_wp2_with fail
    go_ret
    exact ⟨retB HV.out.symm, Ext.refl _⟩
  · have e1 : (x.toList == x1.toList) = false := by simpa using h
    have HV := hid (decide_eq_false (fun e : x = x1 => h (by rw [e])))
    clear h
    go_enter Tryz.func205, Tryz.ntmps205
    go_wp2_with fail
    go_ret
    exact ⟨retB HV.out.symm, Ext.refl _⟩
set_option maxRecDepth 100000 in
set_option maxHeartbeats 1000000 in
theorem al_li_li (B : Bool) (a a1 : Option Addr) (l c l1 c1 : Nat) (w : World) (h : Calls Tryz.prog 245 #[.slice a l c, .slice a1 l1 c1, .func (.func 205) #[] #[]] w fun e w' => e = .returned (.bool B) ∧ Ext w w') : Calls Tryz.prog 205 #[.iface 59 (.slice a l c), .iface 59 (.slice a1 l1 c1)] w fun e w' => e = .returned (.bool B) ∧ Ext w w' := by
  have HC := hid h
  clear h
  go_enter Tryz.func205, Tryz.ntmps205
  go_wp2_with fail
  refine HC.out.mono ?_
  rintro e w1 ⟨rfl, hx⟩
  have HX := hid hx
  clear hx
  go_wp2_with fail
  go_ret
  exact ⟨rfl, HX.out⟩
theorem alike_any : ∀ d, AlTo d := by
  intro d
  induction d with
  | zero => intro v v' t t' K K' w d' h; exact h.elim
  | succ d ih =>
    intro v v' t t' K K' w d' h h'
    obtain ⟨k, n, x, ks⟩ := t
    obtain ⟨k', n', x', ks'⟩ := t'
    cases d' with
    | zero => exact h'.elim
    | succ d' =>
    rcases h with ⟨rfl, rfl, rfl, rfl, rfl⟩ | ⟨rfl, rfl, rfl, b, rfl, rfl⟩ | ⟨rfl, rfl, rfl, rfl⟩ | ⟨rfl, rfl, rfl, hz, rfl⟩ | ⟨rfl, rfl, rfl, hz, a, c, rfl, hk⟩
    · rcases h' with ⟨rfl, rfl, rfl, rfl, rfl⟩ | ⟨rfl, rfl, rfl, b1, rfl, rfl⟩ | ⟨rfl, rfl, rfl, rfl⟩ | ⟨rfl, rfl, rfl, hz1, rfl⟩ | ⟨rfl, rfl, rfl, hz1, a1, c1, rfl, hk1⟩
      · refine (al_un_un w).mono ?_; rintro e w1 ⟨rfl, hx⟩; exact ⟨retB (by simp [T.beq, T.beqL]), hx⟩
      · refine (al_un_tu  _ w).mono ?_; rintro e w1 ⟨rfl, hx⟩; exact ⟨retB (by simp [T.beq]), hx⟩
      · refine (al_un_in  _ w).mono ?_; rintro e w1 ⟨rfl, hx⟩; exact ⟨retB (by simp [T.beq]), hx⟩
      · refine (al_un_tx  _ w).mono ?_; rintro e w1 ⟨rfl, hx⟩; exact ⟨retB (by simp [T.beq]), hx⟩
      · refine (al_un_li  _ _ _ w).mono ?_; rintro e w1 ⟨rfl, hx⟩; exact ⟨retB (by simp [T.beq]), hx⟩
    · rcases h' with ⟨rfl, rfl, rfl, rfl, rfl⟩ | ⟨rfl, rfl, rfl, b1, rfl, rfl⟩ | ⟨rfl, rfl, rfl, rfl⟩ | ⟨rfl, rfl, rfl, hz1, rfl⟩ | ⟨rfl, rfl, rfl, hz1, a1, c1, rfl, hk1⟩
      · refine (al_tu_un _  w).mono ?_; rintro e w1 ⟨rfl, hx⟩; exact ⟨retB (by simp [T.beq]), hx⟩
      · refine (al_tu_tu b b1 w).mono ?_; rintro e w1 ⟨rfl, hx⟩; exact ⟨retB (by cases b <;> cases b1 <;> simp [T.beq, T.beqL]), hx⟩
      · refine (al_tu_in _ _ w).mono ?_; rintro e w1 ⟨rfl, hx⟩; exact ⟨retB (by simp [T.beq]), hx⟩
      · refine (al_tu_tx _ _ w).mono ?_; rintro e w1 ⟨rfl, hx⟩; exact ⟨retB (by simp [T.beq]), hx⟩
      · refine (al_tu_li _ _ _ _ w).mono ?_; rintro e w1 ⟨rfl, hx⟩; exact ⟨retB (by simp [T.beq]), hx⟩
    · rcases h' with ⟨rfl, rfl, rfl, rfl, rfl⟩ | ⟨rfl, rfl, rfl, b1, rfl, rfl⟩ | ⟨rfl, rfl, rfl, rfl⟩ | ⟨rfl, rfl, rfl, hz1, rfl⟩ | ⟨rfl, rfl, rfl, hz1, a1, c1, rfl, hk1⟩
      · refine (al_in_un _  w).mono ?_; rintro e w1 ⟨rfl, hx⟩; exact ⟨retB (by simp [T.beq]), hx⟩
      · refine (al_in_tu _ _ w).mono ?_; rintro e w1 ⟨rfl, hx⟩; exact ⟨retB (by simp [T.beq]), hx⟩
      · refine (al_in_in _ _ w).mono ?_; rintro e w1 ⟨rfl, hx⟩; exact ⟨retB (by simp [T.beq, T.beqL]), hx⟩
      · refine (al_in_tx _ _ w).mono ?_; rintro e w1 ⟨rfl, hx⟩; exact ⟨retB (by simp [T.beq]), hx⟩
      · refine (al_in_li _ _ _ _ w).mono ?_; rintro e w1 ⟨rfl, hx⟩; exact ⟨retB (by simp [T.beq]), hx⟩
    · rcases h' with ⟨rfl, rfl, rfl, rfl, rfl⟩ | ⟨rfl, rfl, rfl, b1, rfl, rfl⟩ | ⟨rfl, rfl, rfl, rfl⟩ | ⟨rfl, rfl, rfl, hz1, rfl⟩ | ⟨rfl, rfl, rfl, hz1, a1, c1, rfl, hk1⟩
      · refine (al_tx_un _  w).mono ?_; rintro e w1 ⟨rfl, hx⟩; exact ⟨retB (by simp [T.beq]), hx⟩
      · refine (al_tx_tu _ _ w).mono ?_; rintro e w1 ⟨rfl, hx⟩; exact ⟨retB (by simp [T.beq]), hx⟩
      · refine (al_tx_in _ _ w).mono ?_; rintro e w1 ⟨rfl, hx⟩; exact ⟨retB (by simp [T.beq]), hx⟩
      · refine (al_tx_tx _ _ w).mono ?_; rintro e w1 ⟨rfl, hx⟩; exact ⟨retB (by simp [T.beq, T.beqL]), hx⟩
      · refine (al_tx_li _ _ _ _ w).mono ?_; rintro e w1 ⟨rfl, hx⟩; exact ⟨retB (by simp [T.beq]), hx⟩
    · rcases h' with ⟨rfl, rfl, rfl, rfl, rfl⟩ | ⟨rfl, rfl, rfl, b1, rfl, rfl⟩ | ⟨rfl, rfl, rfl, rfl⟩ | ⟨rfl, rfl, rfl, hz1, rfl⟩ | ⟨rfl, rfl, rfl, hz1, a1, c1, rfl, hk1⟩
      · refine (al_li_un _ _ _  w).mono ?_; rintro e w1 ⟨rfl, hx⟩; exact ⟨retB (by simp [T.beq]), hx⟩
      · refine (al_li_tu _ _ _ _ w).mono ?_; rintro e w1 ⟨rfl, hx⟩; exact ⟨retB (by simp [T.beq]), hx⟩
      · refine (al_li_in _ _ _ _ w).mono ?_; rintro e w1 ⟨rfl, hx⟩; exact ⟨retB (by simp [T.beq]), hx⟩
      · refine (al_li_tx _ _ _ _ w).mono ?_; rintro e w1 ⟨rfl, hx⟩; exact ⟨retB (by simp [T.beq]), hx⟩
      · refine (al_li_li _ a a1 _ c _ c1 w (equalF_any ih K K' w d' a a1 c c1 ks ks' ⟨hz, hk⟩ ⟨hz1, hk1⟩)).mono ?_; rintro e w1 ⟨rfl, hx⟩; exact ⟨retB (by simp [T.beq]), hx⟩

end Go.Proofs.YtnmcmjgfnncdmaaGreatDoor
/-
  truth.told, not, same by contracts.
-/
namespace Go.Proofs.YtnmcmjgfnncdmaaGreatDoor
open Go.RowKit
theorem tto_tu (v : Value) (w : World) : (Instr.typeAssert (.iface 85 v) 33 85 false).run Tryz.prog w = .ok v w := by kernel_rfl
theorem ttold_any (b : Bool) (w : World) : Calls Tryz.prog 204 #[.bool b] w fun e w' => e = .returned (toldV b) ∧ w' = w := by
  go_enter Tryz.func204, Tryz.ntmps204
  go_wp2_with fail
  go_ret3
  exact ⟨rfl, rfl⟩
set_option maxRecDepth 100000 in
set_option maxHeartbeats 1000000 in
theorem not_any (g : Nat) (b : Bool) (w : World) (h0 : w.cell? ⟨g, 0, none⟩ = some (.iface 85 (.bool b))) : Calls Tryz.prog 143 #[.slice (some ⟨g, 0, none⟩) 1 1] w fun e w' => e = .returned (toldV (!b)) ∧ Ext w w' := by
  have hta := tto_tu
  have HV := hid (show toldV (!b) = toldV (!b) from rfl)
  go_enter Tryz.func143, Tryz.ntmps143
  go_wp2_with fail
  refine (ttold_any _ _).mono ?_
  rintro e w1 ⟨rfl, rfl⟩
  unfold toldV
  go_wp2_with fail
  go_ret3
  exact ⟨rfl, Ext.refl _⟩
set_option maxRecDepth 100000 in
set_option maxHeartbeats 1000000 in
theorem same_any {d d' : Nat} {K K' : Nat → Prop} (g : Nat) (v v' : Value) (t t' : T) (w : World) (h0 : w.cell? ⟨g, 0, none⟩ = some v) (h1 : w.cell? ⟨g, 1, none⟩ = some v') (hr : VRd K w d v t) (hr' : VRd K' w d' v' t') : Calls Tryz.prog 144 #[.slice (some ⟨g, 0, none⟩) 2 2] w fun e w' => e = .returned (toldV (T.beq t t')) ∧ Ext w w' := by
  obtain ⟨τ, p, rfl⟩ := hr.iface
  obtain ⟨τ', p', rfl⟩ := hr'.iface
  have HC := hid (fun (W : World) (X : Ext w W) => alike_any d _ _ t t' K K' W d' (hr.later X) (hr'.later X))
  have HSK := hid (show ∀ W', Ext w W' → W'.cell? ⟨g, 0, none⟩ = some (.iface τ p) ∧ W'.cell? ⟨g, 1, none⟩ = some (.iface τ' p') from fun W' Y => ⟨(Y.kp (fun _ => True)).cell h0 trivial, (Y.kp (fun _ => True)).cell h1 trivial⟩)
  clear hr hr'
  generalize T.beq t t' = b at *
  go_enter Tryz.func144, Tryz.ntmps144
  go_wp2_with fail
  go_region_held3 (fun W' => W'.cell? ⟨g, 0, none⟩ = some (.iface τ p) ∧ W'.cell? ⟨g, 1, none⟩ = some (.iface τ' p'))
    (first | exact SK | exact ⟨h0, h1⟩ | go_keep)
    (first | (go_at_call 205; refine (HC.out _ ((Ext.refl w).drew)).mono ?_; rintro r w3 ⟨rfl, hy⟩; have Y : Ext w w3 := Ext.trans ((Ext.refl w).drew) hy; have SK := HSK.out w3 Y)
           | (go_at_call 204; refine (ttold_any _ _).mono ?_; rintro r w4 ⟨rfl, rfl⟩; unfold toldV))
  all_goals
    go_wp2_with fail
    go_ret3
    exact ⟨rfl, Y⟩
end Go.Proofs.YtnmcmjgfnncdmaaGreatDoor
