/-
  Eq of the statements' own, by a contract.
-/
import Derived.Test.YtnnonlnhgpplhaaGreatDoorCOf
namespace Go.Proofs.YtnnonlnhgpplhaaGreatDoor
open Go.RowKit
namespace T
mutual
def beq : T → T → Bool
  | node k n x ks, node k' n' x' ks' => decide (k = k') && decide (n = n') && decide (x = x') && beqL ks ks'
def beqL : List T → List T → Bool
  | [], [] => true
  | a :: r, b :: q => beq a b && beqL r q
  | _, _ => false
end
end T
theorem T.beqL_iff : ∀ (a b : List T), T.beqL a b = true ↔ a.length = b.length ∧ ∀ j, (h : j < a.length) → (h' : j < b.length) → T.beq a[j] b[j] = true
  | [], [] => by simp [T.beqL]
  | [], _ :: _ => by simp [T.beqL]
  | _ :: _, [] => by simp [T.beqL]
  | x :: r, y :: q => by
    simp only [T.beqL, Bool.and_eq_true, T.beqL_iff r q, List.length_cons]
    constructor
    · rintro ⟨h1, h2, h3⟩
      refine ⟨by omega, fun j h h' => ?_⟩
      cases j with
      | zero => exact h1
      | succ j => exact h3 j (by simpa using h) (by simpa using h')
    · rintro ⟨h1, h2⟩
      exact ⟨h2 0 (by simp) (by simp), by omega, fun j h h' => h2 (j + 1) (by simpa using h) (by simpa using h')⟩
theorem T.beqL_len {a b : List T} (h : a.length ≠ b.length) : T.beqL a b = false := by
  cases e : T.beqL a b with
  | false => rfl
  | true => exact absurd ((T.beqL_iff a b).1 e).1 h
theorem T.beqL_bad {a b : List T} {j : Nat} (h : j < a.length) (h' : j < b.length) (hf : T.beq a[j] b[j] = false) : T.beqL a b = false := by
  cases e : T.beqL a b with
  | false => rfl
  | true => have := ((T.beqL_iff a b).1 e).2 j h h'; rw [hf] at this; cases this
/-- The kids of a list in memory. -/
def RdL (K : Nat → Prop) (w : World) (d : Nat) (a : Option Addr) (ks : List T) : Prop := ks.length * 56 ≤ 140737488351232 ∧
  (ks = [] ∨ ∃ g off, a = some ⟨g, off, none⟩ ∧ K g ∧ ∀ j, (h : j < ks.length) → ∃ u0 u1 u2 u3, Four w g (off + j * 4) u0 u1 u2 u3 ∧ Rd K w d (.agg #[u0, u1, u2, u3]) ks[j])
theorem Rd.kidsL {K : Nat → Prop} {w : World} {d : Nat} {v : Value} {k n : Int} {x : ByteArray} {ks : List T} (h : Rd K w (d + 1) v (.node k n x ks)) :
    ∃ a c, v = .agg #[.int .i64 k, .int .i64 n, .string x, .slice a ks.length c] ∧ RdL K w d a ks := by
  obtain ⟨a, c, h1, h3, h4, h5⟩ := h
  exact ⟨a, c, h1, h4, h5⟩
theorem RdL.kid {K : Nat → Prop} {w : World} {d : Nat} {a : Option Addr} {ks : List T} (h : RdL K w d a ks) {j : Nat} (hj : j < ks.length) :
    ∃ g off k n x a' l c, a = some ⟨g, off, none⟩ ∧ K g ∧ Four w g (off + j * 4) (.int .i64 k) (.int .i64 n) (.string x) (.slice a' l c) ∧ Rd K w d (.agg #[.int .i64 k, .int .i64 n, .string x, .slice a' l c]) ks[j] := by
  rcases h.2 with h0 | ⟨g, off, rfl, hg, hc⟩
  · subst h0; exact absurd hj (Nat.not_lt_zero _)
  · obtain ⟨u0, u1, u2, u3, h4, hr⟩ := hc j hj
    obtain ⟨k, n, x, a', c', rfl, rfl, rfl, rfl⟩ := hr.shape
    exact ⟨g, off, k, n, x, a', _, c', rfl, hg, h4, hr⟩
theorem RdL.keep {K : Nat → Prop} {w w' : World} {d : Nat} {a : Option Addr} {ks : List T} (h : RdL K w d a ks) (hk : Kp K w w') : RdL K w' d a ks :=
  ⟨h.1, h.2.imp id fun ⟨g, off, ha, hg, hc⟩ => ⟨g, off, ha, hg, fun j hj => by
      obtain ⟨u0, u1, u2, u3, hf, hr⟩ := hc j hj
      exact ⟨u0, u1, u2, u3, hf.keep hk hg, Rd.keep hk hr⟩⟩⟩
mutual
theorem T.beq_eq : ∀ (a b : T), T.beq a b = true ↔ a = b
  | .node k n x ks, .node k' n' x' ks' => by simp only [T.beq, Bool.and_eq_true, decide_eq_true_eq, T.beqL_eq ks ks', T.node.injEq, and_assoc]
theorem T.beqL_eq : ∀ (a b : List T), T.beqL a b = true ↔ a = b
  | [], [] => by simp [T.beqL]
  | [], _ :: _ => by simp [T.beqL]
  | _ :: _, [] => by simp [T.beqL]
  | x :: r, y :: q => by simp only [T.beqL, Bool.and_eq_true, T.beq_eq x y, T.beqL_eq r q, List.cons.injEq]
end
def EqTo (d : Nat) : Prop := ∀ (v v' : Value) (t t' : T) (K K' : Nat → Prop) (w : World) (d' : Nat), Rd K w d v t → Rd K' w d' v' t' →
  Calls Tryz.prog 14 #[v, v'] w fun e w' => e = .returned (.bool (T.beq t t')) ∧ Ext w w'
set_option maxRecDepth 100000 in
set_option maxHeartbeats 4000000 in
theorem eq_any : ∀ d, EqTo d := by
  intro d
  induction d with
  | zero => intro v v' t t' K K' w d' h; exact h.elim
  | succ d ih =>
    intro v v' t t' K K' w d' h h'
    obtain ⟨k, n, x, ks⟩ := t
    obtain ⟨k', n', x', ks'⟩ := t'
    cases d' with
    | zero => exact h'.elim
    | succ d' =>
    obtain ⟨a, c, rfl, hl⟩ := h.kidsL
    obtain ⟨a', c', rfl, hl'⟩ := h'.kidsL
    have HA := hid hl
    have HB := hid hl'
    have hz1 : (ks.length : Int) ≤ 140737488355328 := by have := hl.1; omega
    have hz2 : (ks'.length : Int) ≤ 140737488355328 := by have := hl'.1; omega
    have HIH := hid ih
    clear h h' hl hl' ih
    have HR := hid (show T.beq (.node k n x ks) (.node k' n' x' ks') = (decide (k = k') && decide (n = n') && decide (x = x') && T.beqL ks ks') from by simp only [T.beq])
    by_cases q1 : k = k'
    · have HK := hid q1
      have r1 : (k != k') = false := by simpa using q1
      clear q1
      by_cases q2 : n = n'
      · have r2 : (n != n') = false := by simpa using q2
        have HN := hid q2
        clear q2
        by_cases q3 : x.toList = x'.toList
        · have HV := hid (show (decide (k = k') && decide (n = n') && decide (x = x') && T.beqL ks ks') = T.beqL ks ks' by rw [decide_eq_true HK.out, decide_eq_true HN.out, decide_eq_true (toList_inj q3)]; simp)
          by_cases hle : ks.length = ks'.length
          · have r4 : (((ks.length : Int)) != ((ks'.length : Int))) = false := by rw [hle]; simp
            have HLE := hid hle
            clear hle
            go_enter Tryz.func14, Tryz.ntmps14
            go_wp2_with fail
            have HX0 := hid (Ext.alloc2 w (.cells #[.int .i64 k, .int .i64 n, .string x, .slice a ks.length c] 30) (.cells #[.int .i64 k', .int .i64 n', .string x', .slice a' ks'.length c'] 30))
            go_loopw [5] (fun i wr => ∃ j : Nat, j ≤ ks.length ∧ i = .int .i64 j ∧ Ext ((w.alloc (.cells #[.int .i64 k, .int .i64 n, .string x, .slice a ks.length c] 30)).alloc (.cells #[.int .i64 k', .int .i64 n', .string x', .slice a' ks'.length c'] 30)) wr ∧ (∀ i, (h : i < ks.length) → (h' : i < ks'.length) → i < j → T.beq ks[i] ks'[i] = true)) (fun i _ => ks.length - (intOf i).toNat)
            case atStart => exact ⟨0, Nat.zero_le _, rfl, Ext.refl _, fun i _ _ h => absurd h (Nat.not_lt_zero _)⟩
            case round =>
              obtain ⟨j, hj, rfl, hx, hall⟩ := hrel
              have HX := hid hx
              have HALL := hid hall
              clear hx hall
              obtain ⟨p0, p1, p2, p3⟩ := four_of (HX.out.block (blkOld _ (blk0 w _)))
              obtain ⟨s0, s1, s2, s3⟩ := four_of (HX.out.block (blk1 w _ _))
              have HXW := hid (HX0.out.trans HX.out)
              by_cases hlt : j < ks.length
              · have hlt' : (j : Int) < ks.length := by omega
                have hlt2 : j < ks'.length := by rw [← HLE.out]; exact hlt
                have hlt3 : (j : Int) < ks'.length := by omega
                obtain ⟨g, off, k1, n1, x1, b1, l1, c1, rfl, hg, h4, hr⟩ := HA.out.kid hlt
                obtain ⟨g', off', k2, n2, x2, b2, l2, c2, rfl, hg', h4', hr'⟩ := HB.out.kid hlt2
                obtain ⟨m0, m1, m2, m3⟩ := h4.keep (HXW.out.kp K) hg
                obtain ⟨o0, o1, o2, o3⟩ := h4'.keep (HXW.out.kp K') hg'
                have HC := hid (fun w2 (hy : Ext wr w2) => HIH.out _ _ ks[j] ks'[j] K K' w2 d' (hr.later (HXW.out.trans hy)) (hr'.later (HXW.out.trans hy)))
                clear h4 h4' hr hr' hg hg' p0 p1 p2 s0 s1 s2
                generalize hbq : T.beq ks[j] ks'[j] = bq at HC
                have HBQ := hid hbq
                clear hbq
                have HSK := hid (show ∀ W', Ext wr W' → W'.cell? ⟨w.heap.size, 3, none⟩ = some (.slice (some ⟨g, off, none⟩) ks.length c) ∧ W'.cell? ⟨w.heap.size + 1, 3, none⟩ = some (.slice (some ⟨g', off', none⟩) ks'.length c') ∧ W'.cell? ⟨g, off + j * 4, none⟩ = some (.int .i64 k1) ∧ W'.cell? ⟨g, off + j * 4 + 1, none⟩ = some (.int .i64 n1) ∧ W'.cell? ⟨g, off + j * 4 + 2, none⟩ = some (.string x1) ∧ W'.cell? ⟨g, off + j * 4 + 3, none⟩ = some (.slice b1 l1 c1) ∧ W'.cell? ⟨g', off' + j * 4, none⟩ = some (.int .i64 k2) ∧ W'.cell? ⟨g', off' + j * 4 + 1, none⟩ = some (.int .i64 n2) ∧ W'.cell? ⟨g', off' + j * 4 + 2, none⟩ = some (.string x2) ∧ W'.cell? ⟨g', off' + j * 4 + 3, none⟩ = some (.slice b2 l2 c2) from fun W' Y => ⟨(Y.kp (fun _ => True)).cell p3 trivial, (Y.kp (fun _ => True)).cell s3 trivial, (Y.kp (fun _ => True)).cell m0 trivial, (Y.kp (fun _ => True)).cell m1 trivial, (Y.kp (fun _ => True)).cell m2 trivial, (Y.kp (fun _ => True)).cell m3 trivial, (Y.kp (fun _ => True)).cell o0 trivial, (Y.kp (fun _ => True)).cell o1 trivial, (Y.kp (fun _ => True)).cell o2 trivial, (Y.kp (fun _ => True)).cell o3 trivial⟩)
                go_wp2_with fail
                go_cut [52] from 34 (fun s52 wx => s52 = .bool (!bq) ∧ Ext wr wx)
                case first =>
                  go_region_held3 (fun W' => W'.cell? ⟨w.heap.size, 3, none⟩ = some (.slice (some ⟨g, off, none⟩) ks.length c) ∧ W'.cell? ⟨w.heap.size + 1, 3, none⟩ = some (.slice (some ⟨g', off', none⟩) ks'.length c') ∧ W'.cell? ⟨g, off + j * 4, none⟩ = some (.int .i64 k1) ∧ W'.cell? ⟨g, off + j * 4 + 1, none⟩ = some (.int .i64 n1) ∧ W'.cell? ⟨g, off + j * 4 + 2, none⟩ = some (.string x1) ∧ W'.cell? ⟨g, off + j * 4 + 3, none⟩ = some (.slice b1 l1 c1) ∧ W'.cell? ⟨g', off' + j * 4, none⟩ = some (.int .i64 k2) ∧ W'.cell? ⟨g', off' + j * 4 + 1, none⟩ = some (.int .i64 n2) ∧ W'.cell? ⟨g', off' + j * 4 + 2, none⟩ = some (.string x2) ∧ W'.cell? ⟨g', off' + j * 4 + 3, none⟩ = some (.slice b2 l2 c2))
                    (first | exact SK | exact ⟨p3, s3, m0, m1, m2, m3, o0, o1, o2, o3⟩ | go_keep)
                    (first | (go_at_call 14; refine (HC.out _ ((Ext.refl wr).drew)).mono ?_; rintro r w3 ⟨rfl, hy⟩; have Y : Ext wr w3 := Ext.trans ((Ext.refl wr).drew) hy; have SK := HSK.out w3 Y))
                  all_goals
                    go_wp2_with fail
                    go_meet
                    case rel => exact ⟨rfl, Y⟩
                case rest =>
                  obtain ⟨rfl, hy⟩ := hcut
                  have HY := hid (HX.out.trans hy)
                  clear hy p3 s3 m0 m1 m2 m3 o0 o1 o2 o3
                  cases bq with
                  | true =>
                    go_wp2_with fail
                    go_roundw
                    case rel =>
                      have REL : ∃ j' : Nat, j' ≤ ks.length ∧ Value.int .i64 ((j : Int) + 1) = .int .i64 j' ∧ Ext ((w.alloc (.cells #[.int .i64 k, .int .i64 n, .string x, .slice (some ⟨g, off, none⟩) ks.length c] 30)).alloc (.cells #[.int .i64 k', .int .i64 n', .string x', .slice (some ⟨g', off', none⟩) ks'.length c'] 30)) wc ∧ (∀ i, (h : i < ks.length) → (h' : i < ks'.length) → i < j' → T.beq ks[i] ks'[i] = true) :=
                        ⟨j + 1, hlt, by go_num, HY.out, fun i h h' hi => by
                          rcases Nat.lt_or_eq_of_le (Nat.le_of_lt_succ hi) with e | e
                          · exact HALL.out i h h' e
                          · have q := HBQ.out
                            subst e
                            exact q⟩
                      first | exact REL | ((repeat apply Exists.intro); exact ⟨REL, rfl⟩)
                    case measure => simp [intOf]; omega
                  | false =>
                    have HQ := hid (T.beqL_bad hlt hlt2 HBQ.out)
                    go_wp2_with fail
                    go_ret
                    exact ⟨ret_bool (by rw [HR.out, HV.out, HQ.out]), HX0.out.trans HY.out⟩
              · go_wp2_with fail
                go_ret
                exact ⟨ret_bool (by rw [HR.out, HV.out, (T.beqL_iff _ _).2 ⟨HLE.out, fun i h h' => HALL.out i h h' (by omega)⟩]), HXW.out⟩
          · have r4 : (((ks.length : Int)) != ((ks'.length : Int))) = true := by
              have : ¬ ((ks.length : Int)) = ((ks'.length : Int)) := by omega
              simpa using this
            have HNE := hid (T.beqL_len hle)
            clear hle
            go_enter Tryz.func14, Tryz.ntmps14
            go_wp2_with fail
            go_ret
            exact ⟨ret_bool (by rw [HR.out, HV.out, HNE.out]), Ext.alloc2 _ _ _⟩
        · have HV := hid (show (decide (k = k') && decide (n = n') && decide (x = x') && T.beqL ks ks') = false by rw [decide_eq_false (fun e : x = x' => q3 (by rw [e]))]; simp)
          go_enter Tryz.func14, Tryz.ntmps14
          go_wp2_with fail
          go_ret
          exact ⟨ret_bool (by rw [HR.out, HV.out]), Ext.alloc2 _ _ _⟩
      · have r2 : (n != n') = true := by simpa using q2
        have HV := hid (show (decide (k = k') && decide (n = n') && decide (x = x') && T.beqL ks ks') = false by rw [decide_eq_false q2]; simp)
        go_enter Tryz.func14, Tryz.ntmps14
        go_wp2_with fail
        go_ret
        exact ⟨ret_bool (by rw [HR.out, HV.out]), Ext.alloc2 _ _ _⟩
    · have r1 : (k != k') = true := by simpa using q1
      have HV := hid (show (decide (k = k') && decide (n = n') && decide (x = x') && T.beqL ks ks') = false by rw [decide_eq_false q1]; simp)
      go_enter Tryz.func14, Tryz.ntmps14
      go_wp2_with fail
      go_ret
      exact ⟨ret_bool (by rw [HR.out, HV.out]), Ext.alloc2 _ _ _⟩
def VRdL (K : Nat → Prop) (w : World) (d : Nat) (a : Option Addr) (ks : List T) : Prop := ks.length * 16 ≤ 140737488351232 ∧
  (ks = [] ∨ ∃ g off, a = some ⟨g, off, none⟩ ∧ K g ∧ ∀ j, (h : j < ks.length) → ∃ u, w.cell? ⟨g, off + j, none⟩ = some u ∧ VRd K w d u ks[j])
theorem VRdL.kid {K : Nat → Prop} {w : World} {d : Nat} {a : Option Addr} {ks : List T} (h : VRdL K w d a ks) {j : Nat} (hj : j < ks.length) :
    ∃ g off τ p, a = some ⟨g, off, none⟩ ∧ K g ∧ w.cell? ⟨g, off + j, none⟩ = some (.iface τ p) ∧ VRd K w d (.iface τ p) ks[j] := by
  rcases h.2 with h0 | ⟨g, off, rfl, hg, hc⟩
  · subst h0; exact absurd hj (Nat.not_lt_zero _)
  · obtain ⟨u, hu, hr⟩ := hc j hj
    obtain ⟨τ, p, rfl⟩ := hr.iface
    exact ⟨g, off, τ, p, rfl, hg, hu, hr⟩
theorem VRdL.keep {K : Nat → Prop} {w w' : World} {d : Nat} {a : Option Addr} {ks : List T} (h : VRdL K w d a ks) (hk : Kp K w w') : VRdL K w' d a ks :=
  ⟨h.1, h.2.imp id fun ⟨g, off, ha, hg, hc⟩ => ⟨g, off, ha, hg, fun j hj => by
      obtain ⟨u, hu, hr⟩ := hc j hj
      exact ⟨u, hk.cell hu hg, VRd.keep hk hr⟩⟩⟩
theorem ret_int' {a b : Int} (h : a = b) : Ending.returned (.int .i64 a) = .returned (.int .i64 b) := by rw [h]
end Go.Proofs.YtnnonlnhgpplhaaGreatDoor
