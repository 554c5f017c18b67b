/-
  worth.compare and slices.CompareFunc, each by a contract.
-/
import Derived.Test.YtbpbkihcfdnphaaDoorAsv
namespace Go.Proofs.YtbpbkihcfdnphaaDoor
open Go.RowKit
attribute [local go_sem] as_un_un as_un_tu as_un_in as_un_tx as_un_li as_tu_un as_tu_tu as_tu_in as_tu_tx as_tu_li as_in_un as_in_tu as_in_in as_in_tx as_in_li as_tx_un as_tx_tu as_tx_in as_tx_tx as_tx_li as_li_un as_li_tu as_li_in as_li_tx as_li_li to_un to_tu to_in to_tx to_li
theorem T.cmpL_drop (xs ys : List T) (k : Nat) (h1 : k < xs.length) (h2 : k < ys.length) :
    T.cmpL (xs.drop k) (ys.drop k) = if T.cmp xs[k] ys[k] = 0 then T.cmpL (xs.drop (k + 1)) (ys.drop (k + 1)) else T.cmp xs[k] ys[k] := by
  rw [List.drop_eq_getElem_cons h1, List.drop_eq_getElem_cons h2, T.cmpL]
theorem T.cmpL_over (xs ys : List T) (k : Nat) (h1 : k < xs.length) (h2 : ys.length ≤ k) : T.cmpL (xs.drop k) (ys.drop k) = 1 := by
  rw [List.drop_eq_getElem_cons h1, List.drop_eq_nil_of_le h2, T.cmpL]
theorem T.cmpL_under (xs ys : List T) (k : Nat) (h1 : xs.length ≤ k) (h2 : k < ys.length) : T.cmpL (xs.drop k) (ys.drop k) = -1 := by
  rw [List.drop_eq_getElem_cons h2, List.drop_eq_nil_of_le h1, T.cmpL]
theorem T.cmpL_both (xs ys : List T) (k : Nat) (h1 : xs.length ≤ k) (h2 : ys.length ≤ k) : T.cmpL (xs.drop k) (ys.drop k) = 0 := by
  rw [List.drop_eq_nil_of_le h2, List.drop_eq_nil_of_le h1, T.cmpL]
theorem T.cmp_self (a : T) : T.cmp a a = 0 := (T.cmp_three.zero a a).2 rfl
theorem T.cmpL_self (a : List T) : T.cmpL a a = 0 := (T.cmpL_facts a a).2.1.2 rfl
theorem cI_self (a : Int) : Lib.compareInt a a = 0 := (compareInt_three.zero a a).2 rfl
theorem T.byC_self (a : ByteArray) : T.byC a a = 0 := (T.byC_three.zero a a).2 rfl
theorem T.cmp_kind (k k' n n' : Int) (x x' : ByteArray) (ks ks' : List T) (h : Lib.compareInt k k' ≠ 0) : T.cmp (.node k n x ks) (.node k' n' x' ks') = Lib.compareInt k k' := by
  simp only [T.cmp, T.cmp3, if_pos h]
theorem T.cmp_lt {k k' n n' : Int} {x x' : ByteArray} {ks ks' : List T} (h : k < k') : (-1 : Int) = T.cmp (.node k n x ks) (.node k' n' x' ks') := by
  have e : Lib.compareInt k k' = -1 := by unfold Lib.compareInt; rw [if_pos h]
  rw [T.cmp_kind _ _ _ _ _ _ _ _ (by rw [e]; decide), e]
theorem T.cmp_gt {k k' n n' : Int} {x x' : ByteArray} {ks ks' : List T} (h : k' < k) : (1 : Int) = T.cmp (.node k n x ks) (.node k' n' x' ks') := by
  have e : Lib.compareInt k k' = 1 := by unfold Lib.compareInt; rw [if_neg (by omega), if_pos h]
  rw [T.cmp_kind _ _ _ _ _ _ _ _ (by rw [e]; decide), e]
theorem T.cmp_num (k n n' : Int) (x : ByteArray) (ks : List T) : T.cmp (.node k n x ks) (.node k n' x ks) = Lib.compareInt n n' := by
  simp only [T.cmp, T.cmp3, cI_self, T.byC_self, T.cmpL_self]
  split <;> simp_all
theorem T.cmp_text (k n : Int) (x x' : ByteArray) (ks : List T) : T.cmp (.node k n x ks) (.node k n x' ks) = T.byC x x' := by
  simp only [T.cmp, T.cmp3, cI_self, T.cmpL_self]
  split <;> simp_all
theorem T.cmp_list (k n : Int) (x : ByteArray) (ks ks' : List T) : T.cmp (.node k n x ks) (.node k n x ks') = T.cmpL ks ks' := by
  simp only [T.cmp, T.cmp3, cI_self, T.byC_self]
  simp
theorem ret_int' {a b : Int} (h : a = b) : Ending.returned (.int .i64 a) = .returned (.int .i64 b) := by rw [h]
/-- The items of a list in memory. -/
def VRdL (K : Nat → Prop) (w : World) (d : Nat) (a : Option Addr) (ks : List T) : Prop := ks.length * 16 ≤ 140737488351232 ∧
  (ks = [] ∨ ∃ g off, a = some ⟨g, off, none⟩ ∧ K g ∧ ∀ j, (h : j < ks.length) → ∃ u, w.cell? ⟨g, off + j, none⟩ = some u ∧ VRd K w d u ks[j])
theorem VRdL.kid {K : Nat → Prop} {w : World} {d : Nat} {a : Option Addr} {ks : List T} (h : VRdL K w d a ks) {j : Nat} (hj : j < ks.length) :
    ∃ g off τ p, a = some ⟨g, off, none⟩ ∧ K g ∧ w.cell? ⟨g, off + j, none⟩ = some (.iface τ p) ∧ VRd K w d (.iface τ p) ks[j] := by
  rcases h.2 with h0 | ⟨g, off, rfl, hg, hc⟩
  · subst h0; exact absurd hj (Nat.not_lt_zero _)
  · obtain ⟨u, hu, hr⟩ := hc j hj
    obtain ⟨τ, p, rfl⟩ := hr.iface
    exact ⟨g, off, τ, p, rfl, hg, hu, hr⟩
theorem VRdL.keep {K : Nat → Prop} {w w' : World} {d : Nat} {a : Option Addr} {ks : List T} (h : VRdL K w d a ks) (hk : Kp K w w') : VRdL K w' d a ks :=
  ⟨h.1, h.2.imp id fun ⟨g, off, ha, hg, hc⟩ => ⟨g, off, ha, hg, fun j hj => by
      obtain ⟨u, hu, hr⟩ := hc j hj
      exact ⟨u, hk.cell hu hg, VRd.keep hk hr⟩⟩⟩
/-- What is asked of compare, to a depth. -/
def CmpTo (d : Nat) : Prop := ∀ (v v' : Value) (t t' : T) (K K' : Nat → Prop) (w : World) (d' : Nat), VRd K w d v t → VRd K' w d' v' t' →
  Calls Tryd.prog 34 #[v, v'] w fun e w' => e = .returned (.int .i64 (T.cmp t t')) ∧ Ext w w'
set_option maxRecDepth 100000 in
set_option maxHeartbeats 2000000 in
theorem cmpf_of {d : Nat} (ih : CmpTo d) (K K' : Nat → Prop) (w : World) (d' : Nat) (a a' : Option Addr) (c c' : Nat) (ks ks' : List T) (h : VRdL K w d a ks) (h' : VRdL K' w d' a' ks') :
    Calls Tryd.prog 50 #[.slice a ks.length c, .slice a' ks'.length c', .func (.func 34) #[] #[]] w fun e w' => e = .returned (.int .i64 (T.cmpL ks ks')) ∧ Ext w w' := by
  have HIH := hid ih
  have HA := hid h
  have HB := hid h'
  have hl : (ks.length : Int) ≤ 140737488355328 := by have := h.1; omega
  have hl' : (ks'.length : Int) ≤ 140737488355328 := by have := h'.1; omega
  clear ih h h'
  go_enter Tryd.func50, Tryd.ntmps50
  go_wp2_with fail
  go_loopw [13] (fun i wr => ∃ j : Nat, j ≤ ks.length ∧ i = .int .i64 j ∧ Ext w wr ∧ T.cmpL ks ks' = T.cmpL (ks.drop j) (ks'.drop j)) (fun i _ => ks.length - (intOf i).toNat)
  case atStart => exact ⟨0, Nat.zero_le _, rfl, Ext.refl _, rfl⟩
  case round =>
    obtain ⟨j, hj, rfl, hx, hinv⟩ := hrel
    have HX := hid hx
    have HI := hid hinv
    clear hx hinv
    by_cases hlt : j < ks.length
    · have hlt' : (j : Int) < ks.length := by omega
      obtain ⟨g, off, τ, p, rfl, hg, h4, hr⟩ := HA.out.kid hlt
      have m0 := HX.out.kp K |>.cell h4 hg
      have hgl := lt_of_cell m0
      by_cases hly : j < ks'.length
      · have hly' : (j : Int) < ks'.length := by omega
        obtain ⟨g', off', τ', p', rfl, hg', h4', hr'⟩ := HB.out.kid hly
        have o0 := HX.out.kp K' |>.cell h4' hg'
        have hgl' := lt_of_cell o0
        have HC := hid (HIH.out _ _ ks[j] ks'[j] K K' wr d' (hr.later HX.out) (hr'.later HX.out))
        have HL := hid (T.cmpL_drop ks ks' j hlt hly)
        clear h4 h4' hr hr' hg hg'
        go_wp2_with fail
        refine HC.out.mono ?_
        rintro e w2 ⟨rfl, hy⟩
        have HY := hid (HX.out.trans hy)
        clear hy
        generalize hq : T.cmp ks[j] ks'[j] = q at HL ⊢
        clear hq
        by_cases hz : q = 0
        · subst hz
          go_wp2_with fail
          go_roundw
          case rel =>
            have REL : ∃ j' : Nat, j' ≤ ks.length ∧ Value.int .i64 ((j : Int) + 1) = .int .i64 j' ∧ Ext w w2 ∧ T.cmpL ks ks' = T.cmpL (ks.drop j') (ks'.drop j') :=
              ⟨j + 1, hlt, by go_num, HY.out, by rw [HI.out, HL.out]; simp⟩
            first | exact REL | ((repeat apply Exists.intro); exact ⟨REL, rfl⟩)
          case measure => simp [intOf]; omega
        · have hzz : (q != 0) = true := by simpa using hz
          have HZ := hid hz
          clear hz
          go_wp2_with fail
          go_ret
          exact ⟨ret_int' (by rw [HI.out, HL.out, if_neg HZ.out]), HY.out⟩
      · have HL := hid (T.cmpL_over ks ks' j hlt (by omega))
        have hly' : (ks'.length : Int) ≤ j := by omega
        clear h4 hr hg
        go_wp2_with fail
        go_ret
        exact ⟨ret_int' (by rw [HI.out, HL.out]), HX.out⟩
    · have hje : j = ks.length := by omega
      by_cases hly : ks.length < ks'.length
      · have HL := hid (T.cmpL_under ks ks' j (by omega) (by omega))
        have hly' : (ks.length : Int) < ks'.length := by omega
        go_wp2_with fail
        go_ret
        exact ⟨ret_int' (by rw [HI.out, HL.out]), HX.out⟩
      · have HL := hid (T.cmpL_both ks ks' j (by omega) (by omega))
        have hly' : (ks'.length : Int) ≤ ks.length := by omega
        go_wp2_with fail
        go_ret
        exact ⟨ret_int' (by rw [HI.out, HL.out]), HX.out⟩
theorem rank_any {K : Nat → Prop} {w : World} {d : Nat} {v : Value} {k n : Int} {x : ByteArray} {ks : List T} (h : VRd K w d v (.node k n x ks)) :
    Calls Tryd.prog 46 #[v] w fun e w' => e = .returned (.int .i64 (k - 1)) ∧ w' = w := by
  cases d with
  | zero => exact h.elim
  | succ d =>
    rcases h with ⟨rfl, _, _, _, rfl⟩ | ⟨rfl, _, _, _, _, rfl⟩ | ⟨rfl, _, _, rfl⟩ | ⟨rfl, _, _, _, rfl⟩ | ⟨rfl, _, _, _, _, _, rfl, _⟩
    · exact rank_un _ w
    · exact rank_tu _ w
    · exact rank_in _ w
    · exact rank_tx _ w
    · exact rank_li _ w
set_option maxRecDepth 100000 in
set_option maxHeartbeats 4000000 in
theorem cmp_un (w : World) : Calls Tryd.prog 34 #[.iface 84 (.agg #[]), .iface 84 (.agg #[])] w fun e w' => e = .returned (.int .i64 0) ∧ Ext w w' := by
  have hc : Lib.compareInt 0 0 = 0 := rfl
  go_enter Tryd.func34, Tryd.ntmps34
  go_wp2_with (first | (go_at_call 46; refine (rank_un _ _).mono ?_; rintro e w' ⟨rfl, rfl⟩) | (go_at_call 45; refine (compare_int 0 0 _).mono ?_; rintro e w' ⟨rfl, rfl⟩))
  go_ret
  exact ⟨rfl, Ext.refl _⟩
set_option maxRecDepth 100000 in
set_option maxHeartbeats 4000000 in
theorem cmp_tu (B B' : Bool) (n n' : Int) (hn : n = if B then 1 else 0) (hn' : n' = if B' then 1 else 0) (w : World) : Calls Tryd.prog 34 #[.iface 63 (.bool B), .iface 63 (.bool B')] w fun e w' => e = .returned (.int .i64 (Lib.compareInt n n')) ∧ Ext w w' := by
  have N1 := hid (fun w => number_any B w)
  have N2 := hid (fun w => number_any B' w)
  rw [← hn] at N1
  rw [← hn'] at N2
  clear hn hn'
  have hc : Lib.compareInt 1 1 = 0 := rfl
  go_enter Tryd.func34, Tryd.ntmps34
  go_wp2_with (first | (go_at_call 46; refine (rank_tu _ _).mono ?_; rintro e w' ⟨rfl, rfl⟩) | (go_at_call 45; refine (compare_int 1 1 _).mono ?_; rintro e w' ⟨rfl, rfl⟩))
  go_quiet (first | (go_at_call 47; exact Calls.quiet_of_same (N1.out _)) | (go_at_call 47; exact Calls.quiet_of_same (N2.out _)) | (go_at_call 45; exact Calls.quiet_of_same (compare_int _ _ _)))
  go_wp2_with fail
  go_ret
  exact ⟨rfl, (Ext.refl _).drewN _⟩
set_option maxRecDepth 100000 in
set_option maxHeartbeats 4000000 in
theorem cmp_in (n n' : Int) (w : World) : Calls Tryd.prog 34 #[.iface 58 (.int .i64 n), .iface 58 (.int .i64 n')] w fun e w' => e = .returned (.int .i64 (Lib.compareInt n n')) ∧ Ext w w' := by
  have hc : Lib.compareInt 2 2 = 0 := rfl
  go_enter Tryd.func34, Tryd.ntmps34
  go_wp2_with (first | (go_at_call 46; refine (rank_in _ _).mono ?_; rintro e w' ⟨rfl, rfl⟩) | (go_at_call 45; refine (compare_int 2 2 _).mono ?_; rintro e w' ⟨rfl, rfl⟩) | (go_at_call 48; refine (compare_Int _ _ _).mono ?_; rintro e w' ⟨rfl, rfl⟩))
  go_ret
  exact ⟨rfl, Ext.refl _⟩
set_option maxRecDepth 100000 in
set_option maxHeartbeats 4000000 in
theorem cmp_tx (x x' : ByteArray) (w : World) : Calls Tryd.prog 34 #[.iface 79 (.string x), .iface 79 (.string x')] w fun e w' => e = .returned (.int .i64 (T.byC x x')) ∧ Ext w w' := by
  have hc : Lib.compareInt 3 3 = 0 := rfl
  go_enter Tryd.func34, Tryd.ntmps34
  go_wp2_with (first | (go_at_call 46; refine (rank_tx _ _).mono ?_; rintro e w' ⟨rfl, rfl⟩) | (go_at_call 45; refine (compare_int 3 3 _).mono ?_; rintro e w' ⟨rfl, rfl⟩) | (go_at_call 49; refine (compare_Text _ _ _).mono ?_; rintro e w' ⟨rfl, rfl⟩))
  go_ret
  exact ⟨rfl, Ext.refl _⟩
set_option maxRecDepth 100000 in
set_option maxHeartbeats 4000000 in
theorem cmp_li (a a' : Option Addr) (l l' c c' : Nat) (q : Int) (w : World) (HC : Hid (Calls Tryd.prog 50 #[.slice a l c, .slice a' l' c', .func (.func 34) #[] #[]] w fun e w' => e = .returned (.int .i64 q) ∧ Ext w w')) : Calls Tryd.prog 34 #[.iface 61 (.slice a l c), .iface 61 (.slice a' l' c')] w fun e w' => e = .returned (.int .i64 q) ∧ Ext w w' := by
  have hc : Lib.compareInt 4 4 = 0 := rfl
  go_enter Tryd.func34, Tryd.ntmps34
  go_wp2_with (first | (go_at_call 46; refine (rank_li _ _).mono ?_; rintro e w' ⟨rfl, rfl⟩) | (go_at_call 45; refine (compare_int 4 4 _).mono ?_; rintro e w' ⟨rfl, rfl⟩) | (go_at_call 50; refine HC.out.mono ?_; rintro e w2 ⟨rfl, hy⟩))
  go_ret
  exact ⟨rfl, hy⟩
set_option maxRecDepth 100000 in
set_option maxHeartbeats 4000000 in
theorem cmp_mixed (τ τ' : TypeId) (p p' : Value) (i j q : Int) (w : World) (HC1 : Hid (Calls Tryd.prog 46 #[.iface τ p] w fun e w' => e = .returned (.int .i64 i) ∧ w' = w)) (HC2 : Hid (Calls Tryd.prog 46 #[.iface τ' p'] w fun e w' => e = .returned (.int .i64 j) ∧ w' = w))
    (HQ : Hid (Calls Tryd.prog 45 #[.int .i64 i, .int .i64 j] w fun e w' => e = .returned (.int .i64 q) ∧ w' = w)) (hzz : (q != 0) = true) : Calls Tryd.prog 34 #[.iface τ p, .iface τ' p'] w fun e w' => e = .returned (.int .i64 q) ∧ Ext w w' := by
  go_enter Tryd.func34, Tryd.ntmps34
  go_wp2_with fail
  refine HC1.out.mono ?_
  rintro e w' ⟨rfl, rfl⟩
  go_wp2_with fail
  refine HC2.out.mono ?_
  rintro e w' ⟨rfl, rfl⟩
  go_wp2_with fail
  refine HQ.out.mono ?_
  rintro e w' ⟨rfl, rfl⟩
  go_wp2_with fail
  go_ret
  exact ⟨rfl, Ext.refl _⟩
theorem compare_any : ∀ d, CmpTo d := by
  intro d
  induction d with
  | zero => intro v v' t t' K K' w d' h; exact h.elim
  | succ d ih =>
    intro v v' t t' K K' w d' h h'
    obtain ⟨k, n, x, ks⟩ := t
    obtain ⟨k', n', x', ks'⟩ := t'
    cases d' with
    | zero => exact h'.elim
    | succ d' =>
    by_cases hk : k = k'
    · subst hk
      rcases h with ⟨rfl, rfl, rfl, rfl, rfl⟩ | ⟨rfl, rfl, rfl, B, hn, rfl⟩ | ⟨rfl, rfl, rfl, rfl⟩ | ⟨rfl, rfl, rfl, hxs, rfl⟩ | ⟨rfl, rfl, rfl, hll, a, c, rfl, hks⟩
      · rcases h' with ⟨_, rfl, rfl, rfl, rfl⟩ | ⟨h0, _⟩ | ⟨h0, _⟩ | ⟨h0, _⟩ | ⟨h0, _⟩
        · rw [T.cmp_self]; exact cmp_un w
        · exact absurd h0 (by decide)
        · exact absurd h0 (by decide)
        · exact absurd h0 (by decide)
        · exact absurd h0 (by decide)
      · rcases h' with ⟨h0, _⟩ | ⟨_, rfl, rfl, B', hn', rfl⟩ | ⟨h0, _⟩ | ⟨h0, _⟩ | ⟨h0, _⟩
        · exact absurd h0 (by decide)
        · rw [T.cmp_num]; exact cmp_tu B B' _ _ hn hn' w
        · exact absurd h0 (by decide)
        · exact absurd h0 (by decide)
        · exact absurd h0 (by decide)
      · rcases h' with ⟨h0, _⟩ | ⟨h0, _⟩ | ⟨_, rfl, rfl, rfl⟩ | ⟨h0, _⟩ | ⟨h0, _⟩
        · exact absurd h0 (by decide)
        · exact absurd h0 (by decide)
        · rw [T.cmp_num]; exact cmp_in _ _ w
        · exact absurd h0 (by decide)
        · exact absurd h0 (by decide)
      · rcases h' with ⟨h0, _⟩ | ⟨h0, _⟩ | ⟨h0, _⟩ | ⟨_, rfl, rfl, hxs', rfl⟩ | ⟨h0, _⟩
        · exact absurd h0 (by decide)
        · exact absurd h0 (by decide)
        · exact absurd h0 (by decide)
        · rw [T.cmp_text]; exact cmp_tx _ _ w
        · exact absurd h0 (by decide)
      · rcases h' with ⟨h0, _⟩ | ⟨h0, _⟩ | ⟨h0, _⟩ | ⟨h0, _⟩ | ⟨_, rfl, rfl, hll', a', c', rfl, hks'⟩
        · exact absurd h0 (by decide)
        · exact absurd h0 (by decide)
        · exact absurd h0 (by decide)
        · exact absurd h0 (by decide)
        · rw [T.cmp_list]; exact cmp_li _ _ _ _ _ _ _ w (hid (cmpf_of ih K K' w d' a a' c c' ks ks' ⟨hll, hks⟩ ⟨hll', hks'⟩))
    · have hq : Lib.compareInt (k - 1) (k' - 1) = Lib.compareInt k k' := by unfold Lib.compareInt; split <;> split <;> (try split) <;> (try split) <;> omega
      have hq2 : ¬ Lib.compareInt k k' = 0 := fun e => hk ((compareInt_three.zero k k').1 e)
      rw [T.cmp_kind k k' n n' x x' ks ks' hq2]
      have HC1 := hid (rank_any h)
      have HC2 := hid (rank_any h')
      obtain ⟨τ, p, rfl⟩ := h.iface
      obtain ⟨τ', p', rfl⟩ := h'.iface
      exact cmp_mixed τ τ' p p' (k - 1) (k' - 1) _ w HC1 HC2 (hid (hq ▸ compare_int (k - 1) (k' - 1) w)) (by simpa using hq2)
end Go.Proofs.YtbpbkihcfdnphaaDoor
