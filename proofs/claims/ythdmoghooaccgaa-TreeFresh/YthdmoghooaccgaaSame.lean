/-
  same and slices.EqualFunc, each by a contract.
-/
import Derived.Test.YthdmoghooaccgaaGreat
namespace Go.Proofs.Ythdmoghooaccgaa
open Go.RowKit
theorem T.beqL_iff : ∀ (a b : List T), T.beqL a b = true ↔ a.length = b.length ∧ ∀ j, (h : j < a.length) → (h' : j < b.length) → T.beq a[j] b[j] = true
  | [], [] => by simp [T.beqL]
  | [], _ :: _ => by simp [T.beqL]
  | _ :: _, [] => by simp [T.beqL]
  | x :: r, y :: q => by
    simp only [T.beqL, Bool.and_eq_true, T.beqL_iff r q, List.length_cons]
    constructor
    · rintro ⟨h1, h2, h3⟩
      refine ⟨by omega, fun j h h' => ?_⟩
      cases j with
      | zero => exact h1
      | succ j => exact h3 j (by simpa using h) (by simpa using h')
    · rintro ⟨h1, h2⟩
      exact ⟨h2 0 (by simp) (by simp), by omega, fun j h h' => h2 (j + 1) (by simpa using h) (by simpa using h')⟩
theorem T.beqL_len {a b : List T} (h : a.length ≠ b.length) : T.beqL a b = false := by
  cases e : T.beqL a b with
  | false => rfl
  | true => exact absurd ((T.beqL_iff a b).1 e).1 h
theorem T.beqL_bad {a b : List T} {j : Nat} (h : j < a.length) (h' : j < b.length) (hf : T.beq a[j] b[j] = false) : T.beqL a b = false := by
  cases e : T.beqL a b with
  | false => rfl
  | true => have := ((T.beqL_iff a b).1 e).2 j h h'; rw [hf] at this; cases this
/-- The kids of a list in memory. -/
def RdL (K : Nat → Prop) (w : World) (d : Nat) (a : Option Addr) (ks : List T) : Prop := ks.length * 64 ≤ 140737488351232 ∧
  (ks = [] ∨ ∃ g off, a = some ⟨g, off, none⟩ ∧ K g ∧ ∀ j, (h : j < ks.length) → ∃ u0 u1 u2 u3, Four w g (off + j * 4) u0 u1 u2 u3 ∧ Rd K w d (.agg #[u0, u1, u2, u3]) ks[j])
theorem Rd.kidsL {K : Nat → Prop} {w : World} {d : Nat} {v : Value} {k : ByteArray} {n : Int} {x : ByteArray} {ks : List T} (h : Rd K w (d + 1) v (.node k n x ks)) :
    ∃ a c, v = .agg #[.string k, .int .i64 n, .string x, .slice a ks.length c] ∧ RdL K w d a ks := by
  obtain ⟨a, c, h1, h2, h3, h4, h5⟩ := h
  exact ⟨a, c, h1, h4, h5⟩
theorem RdL.kid {K : Nat → Prop} {w : World} {d : Nat} {a : Option Addr} {ks : List T} (h : RdL K w d a ks) {j : Nat} (hj : j < ks.length) :
    ∃ g off k n x a' l c, a = some ⟨g, off, none⟩ ∧ K g ∧ Four w g (off + j * 4) (.string k) (.int .i64 n) (.string x) (.slice a' l c) ∧ Rd K w d (.agg #[.string k, .int .i64 n, .string x, .slice a' l c]) ks[j] := by
  rcases h.2 with h0 | ⟨g, off, rfl, hg, hc⟩
  · subst h0; exact absurd hj (Nat.not_lt_zero _)
  · obtain ⟨u0, u1, u2, u3, h4, hr⟩ := hc j hj
    obtain ⟨k, n, x, a', c', rfl, rfl, rfl, rfl⟩ := hr.shape
    exact ⟨g, off, k, n, x, a', _, c', rfl, hg, h4, hr⟩
theorem RdL.keep {K : Nat → Prop} {w w' : World} {d : Nat} {a : Option Addr} {ks : List T} (h : RdL K w d a ks) (hk : Kp K w w') : RdL K w' d a ks :=
  ⟨h.1, h.2.imp id fun ⟨g, off, ha, hg, hc⟩ => ⟨g, off, ha, hg, fun j hj => by
      obtain ⟨u0, u1, u2, u3, hf, hr⟩ := hc j hj
      exact ⟨u0, u1, u2, u3, hf.keep hk hg, Rd.keep hk hr⟩⟩⟩
/-- What is asked of same, to a depth. -/
def SameTo (d : Nat) : Prop := ∀ (v v' : Value) (t t' : T) (K K' : Nat → Prop) (w : World) (d' : Nat), Rd K w d v t → Rd K' w d' v' t' →
  Calls Try.prog 51 #[v, v'] w fun e w' => e = .returned (.bool (T.beq t t')) ∧ Ext w w'
set_option maxRecDepth 100000 in
set_option maxHeartbeats 2000000 in
theorem eqf_of {d : Nat} (ih : SameTo d) (K K' : Nat → Prop) (w : World) (d' : Nat) (a a' : Option Addr) (c c' : Nat) (ks ks' : List T) (h : RdL K w d a ks) (h' : RdL K' w d' a' ks') :
    Calls Try.prog 65 #[.slice a ks.length c, .slice a' ks'.length c', .func (.func 51) #[] #[]] w fun e w' => e = .returned (.bool (T.beqL ks ks')) ∧ Ext w w' := by
  have HIH := hid ih
  have HA := hid h
  have HB := hid h'
  have hl : (ks.length : Int) ≤ 140737488355328 := by have := h.1; omega
  have hl' : (ks'.length : Int) ≤ 140737488355328 := by have := h'.1; omega
  clear ih h h'
  by_cases hle : ks.length = ks'.length
  · have q : (((ks.length : Int)) == ((ks'.length : Int))) = true := by rw [hle]; simp
    have HLE := hid hle
    have q' : ((ks.length : Int)) = ((ks'.length : Int)) := by rw [hle]
    have hq2 : (((ks.length : Int)) != ((ks'.length : Int))) = false := by rw [hle]; simp
    clear hle q'
    go_enter Try.func65, Try.ntmps65
    go_wp2_with fail
    go_loopw [17] (fun i wr => ∃ j : Nat, j ≤ ks.length ∧ i = .int .i64 j ∧ Ext w wr ∧ (∀ i, (h : i < ks.length) → (h' : i < ks'.length) → i < j → T.beq ks[i] ks'[i] = true)) (fun i _ => ks.length - (intOf i).toNat)
    case atStart => exact ⟨0, Nat.zero_le _, rfl, Ext.refl _, fun i _ _ h => absurd h (Nat.not_lt_zero _)⟩
    case round =>
      obtain ⟨j, hj, rfl, hx, hall⟩ := hrel
      have HX := hid hx
      have HALL := hid hall
      clear hx hall
      by_cases hlt : j < ks.length
      · have hlt' : (j : Int) < ks.length := by omega
        have hlt2 : j < ks'.length := by rw [← HLE.out]; exact hlt
        have hlt3 : (j : Int) < ks'.length := by omega
        obtain ⟨g, off, k, n, x, b, l, cc, rfl, hg, h4, hr⟩ := HA.out.kid hlt
        obtain ⟨g', off', k', n', x', b', l', cc', rfl, hg', h4', hr'⟩ := HB.out.kid hlt2
        obtain ⟨m0, m1, m2, m3⟩ := h4.keep (HX.out.kp K) hg
        obtain ⟨o0, o1, o2, o3⟩ := h4'.keep (HX.out.kp K') hg'
        have hgl := lt_of_cell m0
        have hgl' := lt_of_cell o0
        have HC := hid (fun w2 (hy : Ext wr w2) => HIH.out _ _ ks[j] ks'[j] K K' w2 d' (hr.later (HX.out.trans hy)) (hr'.later (HX.out.trans hy)))
        clear h4 h4' hr hr' hg hg'
        go_wp2_with fail
        refine (HC.out _ (Ext.alloc2 _ _ _)).mono ?_
        rintro e w2 ⟨rfl, hy⟩
        have HY := hid ((HX.out.trans (Ext.alloc2 _ _ _)).trans hy)
        clear hy
        by_cases hq : T.beq ks[j] ks'[j] = true
        · have HQ := hid hq
          rw [hq]
          clear hq
          go_wp2_with fail
          go_roundw
          case rel =>
            have REL : ∃ j' : Nat, j' ≤ ks.length ∧ Value.int .i64 ((j : Int) + 1) = .int .i64 j' ∧ Ext w w2 ∧ (∀ i, (h : i < ks.length) → (h' : i < ks'.length) → i < j' → T.beq ks[i] ks'[i] = true) :=
              ⟨j + 1, hlt, by go_num, HY.out, fun i h h' hi => by
                rcases Nat.lt_or_eq_of_le (Nat.le_of_lt_succ hi) with e | e
                · exact HALL.out i h h' e
                · have q := HQ.out
                  subst e
                  exact q⟩
            first | exact REL | ((repeat apply Exists.intro); exact ⟨REL, rfl⟩)
          case measure => simp [intOf]; omega
        · have hq' : T.beq ks[j] ks'[j] = false := by simpa using hq
          have HQ := hid (T.beqL_bad hlt hlt2 hq')
          rw [hq']
          clear hq hq'
          go_wp2_with fail
          go_ret
          exact ⟨ret_bool HQ.out.symm, HY.out⟩
      · go_wp2_with fail
        go_ret
        exact ⟨ret_bool ((T.beqL_iff _ _).2 ⟨HLE.out, fun i h h' => HALL.out i h h' (by omega)⟩).symm, HX.out⟩
  · have HNE := hid (T.beqL_len hle)
    have q' : ¬ ((ks.length : Int)) = ((ks'.length : Int)) := by omega
    have q : (((ks.length : Int)) == ((ks'.length : Int))) = false := by simpa using q'
    clear hle
    go_enter Try.func65, Try.ntmps65
    go_wp2_with fail
    go_ret
    exact ⟨ret_bool HNE.out.symm, Ext.refl _⟩
set_option maxRecDepth 100000 in
set_option maxHeartbeats 2000000 in
theorem same_any : ∀ d, SameTo d := by
  intro d
  induction d with
  | zero => intro v v' t t' K K' w d' h; exact h.elim
  | succ d ih =>
    intro v v' t t' K K' w d' h h'
    obtain ⟨k, n, x, ks⟩ := t
    obtain ⟨k', n', x', ks'⟩ := t'
    cases d' with
    | zero => exact h'.elim
    | succ d' =>
    obtain ⟨a, c, rfl, hl⟩ := h.kidsL
    obtain ⟨a', c', rfl, hl'⟩ := h'.kidsL
    have HC := hid (fun w2 (hy : Ext w w2) => eqf_of ih K K' w2 d' a a' c c' ks ks' (hl.keep (hy.kp K)) (hl'.keep (hy.kp K')))
    clear h h' hl hl' ih
    have HR := hid (show T.beq (.node k n x ks) (.node k' n' x' ks') = (decide (k = k') && decide (n = n') && decide (x = x') && T.beqL ks ks') from by simp only [T.beq])
    by_cases q1 : k.toList = k'.toList
    · have HK := hid (toList_inj q1)
      by_cases q2 : n = n'
      · have r2 : (n == n') = true := by simpa using q2
        have HN := hid q2
        clear q2
        by_cases q3 : x.toList = x'.toList
        · have HV := hid (show (decide (k = k') && decide (n = n') && decide (x = x') && T.beqL ks ks') = T.beqL ks ks' by rw [decide_eq_true HK.out, decide_eq_true HN.out, decide_eq_true (toList_inj q3)]; simp)
          go_enter Try.func51, Try.ntmps51
          go_wp2_with fail
          refine (HC.out _ (Ext.alloc2 _ _ _)).mono ?_
          rintro e w2 ⟨rfl, hy⟩
          go_wp2_with fail
          go_ret
          exact ⟨ret_bool (by rw [HR.out, HV.out]), (Ext.alloc2 _ _ _).trans hy⟩
        · have HV := hid (show (decide (k = k') && decide (n = n') && decide (x = x') && T.beqL ks ks') = false by rw [decide_eq_false (fun e : x = x' => q3 (by rw [e]))]; simp)
          go_enter Try.func51, Try.ntmps51
          go_wp2_with fail
          go_ret
          exact ⟨ret_bool (by rw [HR.out, HV.out]), Ext.alloc2 _ _ _⟩
      · have r2 : (n == n') = false := by simpa using q2
        have HV := hid (show (decide (k = k') && decide (n = n') && decide (x = x') && T.beqL ks ks') = false by rw [decide_eq_false q2]; simp)
        go_enter Try.func51, Try.ntmps51
        go_wp2_with fail
        go_ret
        exact ⟨ret_bool (by rw [HR.out, HV.out]), Ext.alloc2 _ _ _⟩
    · have HV := hid (show (decide (k = k') && decide (n = n') && decide (x = x') && T.beqL ks ks') = false by rw [decide_eq_false (fun e : k = k' => q1 (by rw [e]))]; simp)
      go_enter Try.func51, Try.ntmps51
      go_wp2_with fail
      go_ret
      exact ⟨ret_bool (by rw [HR.out, HV.out]), Ext.alloc2 _ _ _⟩
end Go.Proofs.Ythdmoghooaccgaa
