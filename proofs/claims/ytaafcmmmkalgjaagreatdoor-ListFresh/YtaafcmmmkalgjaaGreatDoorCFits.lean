/-
  Eq of the statements' own, by a contract.
-/
import Derived.Test.YtaafcmmmkalgjaaGreatDoorCOf
import Derived.Test.YtaafcmmmkalgjaaGreatDoorKItems
namespace Go.Proofs.YtaafcmmmkalgjaaGreatDoor
open Go.RowKit
namespace T
mutual
def beq : T → T → Bool
  | node k n x ks, node k' n' x' ks' => decide (k = k') && decide (n = n') && decide (x = x') && beqL ks ks'
def beqL : List T → List T → Bool
  | [], [] => true
  | a :: r, b :: q => beq a b && beqL r q
  | _, _ => false
end
end T
theorem T.beqL_iff : ∀ (a b : List T), T.beqL a b = true ↔ a.length = b.length ∧ ∀ j, (h : j < a.length) → (h' : j < b.length) → T.beq a[j] b[j] = true
  | [], [] => by simp [T.beqL]
  | [], _ :: _ => by simp [T.beqL]
  | _ :: _, [] => by simp [T.beqL]
  | x :: r, y :: q => by
    simp only [T.beqL, Bool.and_eq_true, T.beqL_iff r q, List.length_cons]
    constructor
    · rintro ⟨h1, h2, h3⟩
      refine ⟨by omega, fun j h h' => ?_⟩
      cases j with
      | zero => exact h1
      | succ j => exact h3 j (by simpa using h) (by simpa using h')
    · rintro ⟨h1, h2⟩
      exact ⟨h2 0 (by simp) (by simp), by omega, fun j h h' => h2 (j + 1) (by simpa using h) (by simpa using h')⟩
theorem T.beqL_len {a b : List T} (h : a.length ≠ b.length) : T.beqL a b = false := by
  cases e : T.beqL a b with
  | false => rfl
  | true => exact absurd ((T.beqL_iff a b).1 e).1 h
theorem T.beqL_bad {a b : List T} {j : Nat} (h : j < a.length) (h' : j < b.length) (hf : T.beq a[j] b[j] = false) : T.beqL a b = false := by
  cases e : T.beqL a b with
  | false => rfl
  | true => have := ((T.beqL_iff a b).1 e).2 j h h'; rw [hf] at this; cases this
/-- The kids of a list in memory. -/
def RdL (K : Nat → Prop) (w : World) (d : Nat) (a : Option Addr) (ks : List T) : Prop := ks.length * 56 ≤ 140737488351232 ∧
  (ks = [] ∨ ∃ g off, a = some ⟨g, off, none⟩ ∧ K g ∧ ∀ j, (h : j < ks.length) → ∃ u0 u1 u2 u3, Four w g (off + j * 4) u0 u1 u2 u3 ∧ Rd K w d (.agg #[u0, u1, u2, u3]) ks[j])
theorem Rd.kidsL {K : Nat → Prop} {w : World} {d : Nat} {v : Value} {k n : Int} {x : ByteArray} {ks : List T} (h : Rd K w (d + 1) v (.node k n x ks)) :
    ∃ a c, v = .agg #[.int .i64 k, .int .i64 n, .string x, .slice a ks.length c] ∧ RdL K w d a ks := by
  obtain ⟨a, c, h1, h3, h4, h5⟩ := h
  exact ⟨a, c, h1, h4, h5⟩
theorem RdL.kid {K : Nat → Prop} {w : World} {d : Nat} {a : Option Addr} {ks : List T} (h : RdL K w d a ks) {j : Nat} (hj : j < ks.length) :
    ∃ g off k n x a' l c, a = some ⟨g, off, none⟩ ∧ K g ∧ Four w g (off + j * 4) (.int .i64 k) (.int .i64 n) (.string x) (.slice a' l c) ∧ Rd K w d (.agg #[.int .i64 k, .int .i64 n, .string x, .slice a' l c]) ks[j] := by
  rcases h.2 with h0 | ⟨g, off, rfl, hg, hc⟩
  · subst h0; exact absurd hj (Nat.not_lt_zero _)
  · obtain ⟨u0, u1, u2, u3, h4, hr⟩ := hc j hj
    obtain ⟨k, n, x, a', c', rfl, rfl, rfl, rfl⟩ := hr.shape
    exact ⟨g, off, k, n, x, a', _, c', rfl, hg, h4, hr⟩
theorem RdL.keep {K : Nat → Prop} {w w' : World} {d : Nat} {a : Option Addr} {ks : List T} (h : RdL K w d a ks) (hk : Kp K w w') : RdL K w' d a ks :=
  ⟨h.1, h.2.imp id fun ⟨g, off, ha, hg, hc⟩ => ⟨g, off, ha, hg, fun j hj => by
      obtain ⟨u0, u1, u2, u3, hf, hr⟩ := hc j hj
      exact ⟨u0, u1, u2, u3, hf.keep hk hg, Rd.keep hk hr⟩⟩⟩
mutual
theorem T.beq_eq : ∀ (a b : T), T.beq a b = true ↔ a = b
  | .node k n x ks, .node k' n' x' ks' => by simp only [T.beq, Bool.and_eq_true, decide_eq_true_eq, T.beqL_eq ks ks', T.node.injEq, and_assoc]
theorem T.beqL_eq : ∀ (a b : List T), T.beqL a b = true ↔ a = b
  | [], [] => by simp [T.beqL]
  | [], _ :: _ => by simp [T.beqL]
  | _ :: _, [] => by simp [T.beqL]
  | x :: r, y :: q => by simp only [T.beqL, Bool.and_eq_true, T.beq_eq x y, T.beqL_eq r q, List.cons.injEq]
end
def EqTo (d : Nat) : Prop := ∀ (v v' : Value) (t t' : T) (K K' : Nat → Prop) (w : World) (d' : Nat), Rd K w d v t → Rd K' w d' v' t' →
  Calls Tryz.prog 29 #[v, v'] w fun e w' => e = .returned (.bool (T.beq t t')) ∧ Ext w w'
set_option maxRecDepth 100000 in
set_option maxHeartbeats 4000000 in
theorem eq_any : ∀ d, EqTo d := by
  intro d
  induction d with
  | zero => intro v v' t t' K K' w d' h; exact h.elim
  | succ d ih =>
    intro v v' t t' K K' w d' h h'
    obtain ⟨k, n, x, ks⟩ := t
    obtain ⟨k', n', x', ks'⟩ := t'
    cases d' with
    | zero => exact h'.elim
    | succ d' =>
    obtain ⟨a, c, rfl, hl⟩ := h.kidsL
    obtain ⟨a', c', rfl, hl'⟩ := h'.kidsL
    have HA := hid hl
    have HB := hid hl'
    have hz1 : (ks.length : Int) ≤ 140737488355328 := by have := hl.1; omega
    have hz2 : (ks'.length : Int) ≤ 140737488355328 := by have := hl'.1; omega
    have HIH := hid ih
    clear h h' hl hl' ih
    have HR := hid (show T.beq (.node k n x ks) (.node k' n' x' ks') = (decide (k = k') && decide (n = n') && decide (x = x') && T.beqL ks ks') from by simp only [T.beq])
    by_cases q1 : k = k'
    · have HK := hid q1
      have r1 : (k != k') = false := by simpa using q1
      clear q1
      by_cases q2 : n = n'
      · have r2 : (n != n') = false := by simpa using q2
        have HN := hid q2
        clear q2
        by_cases q3 : x.toList = x'.toList
        · have HV := hid (show (decide (k = k') && decide (n = n') && decide (x = x') && T.beqL ks ks') = T.beqL ks ks' by rw [decide_eq_true HK.out, decide_eq_true HN.out, decide_eq_true (toList_inj q3)]; simp)
          by_cases hle : ks.length = ks'.length
          · have r4 : (((ks.length : Int)) != ((ks'.length : Int))) = false := by rw [hle]; simp
            have HLE := hid hle
            clear hle
            go_enter Tryz.func29, Tryz.ntmps29
            go_wp2_with fail
            have HX0 := hid (Ext.alloc2 w (.cells #[.int .i64 k, .int .i64 n, .string x, .slice a ks.length c] 30) (.cells #[.int .i64 k', .int .i64 n', .string x', .slice a' ks'.length c'] 30))
            go_loopw [5] (fun i wr => ∃ j : Nat, j ≤ ks.length ∧ i = .int .i64 j ∧ Ext ((w.alloc (.cells #[.int .i64 k, .int .i64 n, .string x, .slice a ks.length c] 30)).alloc (.cells #[.int .i64 k', .int .i64 n', .string x', .slice a' ks'.length c'] 30)) wr ∧ (∀ i, (h : i < ks.length) → (h' : i < ks'.length) → i < j → T.beq ks[i] ks'[i] = true)) (fun i _ => ks.length - (intOf i).toNat)
            case atStart => exact ⟨0, Nat.zero_le _, rfl, Ext.refl _, fun i _ _ h => absurd h (Nat.not_lt_zero _)⟩
            case round =>
              obtain ⟨j, hj, rfl, hx, hall⟩ := hrel
              have HX := hid hx
              have HALL := hid hall
              clear hx hall
              obtain ⟨p0, p1, p2, p3⟩ := four_of (HX.out.block (blkOld _ (blk0 w _)))
              obtain ⟨s0, s1, s2, s3⟩ := four_of (HX.out.block (blk1 w _ _))
              have HXW := hid (HX0.out.trans HX.out)
              by_cases hlt : j < ks.length
              · have hlt' : (j : Int) < ks.length := by omega
                have hlt2 : j < ks'.length := by rw [← HLE.out]; exact hlt
                have hlt3 : (j : Int) < ks'.length := by omega
                obtain ⟨g, off, k1, n1, x1, b1, l1, c1, rfl, hg, h4, hr⟩ := HA.out.kid hlt
                obtain ⟨g', off', k2, n2, x2, b2, l2, c2, rfl, hg', h4', hr'⟩ := HB.out.kid hlt2
                obtain ⟨m0, m1, m2, m3⟩ := h4.keep (HXW.out.kp K) hg
                obtain ⟨o0, o1, o2, o3⟩ := h4'.keep (HXW.out.kp K') hg'
                have HC := hid (fun w2 (hy : Ext wr w2) => HIH.out _ _ ks[j] ks'[j] K K' w2 d' (hr.later (HXW.out.trans hy)) (hr'.later (HXW.out.trans hy)))
                clear h4 h4' hr hr' hg hg' p0 p1 p2 s0 s1 s2
                generalize hbq : T.beq ks[j] ks'[j] = bq at HC
                have HBQ := hid hbq
                clear hbq
                have HSK := hid (show ∀ W', Ext wr W' → W'.cell? ⟨w.heap.size, 3, none⟩ = some (.slice (some ⟨g, off, none⟩) ks.length c) ∧ W'.cell? ⟨w.heap.size + 1, 3, none⟩ = some (.slice (some ⟨g', off', none⟩) ks'.length c') ∧ W'.cell? ⟨g, off + j * 4, none⟩ = some (.int .i64 k1) ∧ W'.cell? ⟨g, off + j * 4 + 1, none⟩ = some (.int .i64 n1) ∧ W'.cell? ⟨g, off + j * 4 + 2, none⟩ = some (.string x1) ∧ W'.cell? ⟨g, off + j * 4 + 3, none⟩ = some (.slice b1 l1 c1) ∧ W'.cell? ⟨g', off' + j * 4, none⟩ = some (.int .i64 k2) ∧ W'.cell? ⟨g', off' + j * 4 + 1, none⟩ = some (.int .i64 n2) ∧ W'.cell? ⟨g', off' + j * 4 + 2, none⟩ = some (.string x2) ∧ W'.cell? ⟨g', off' + j * 4 + 3, none⟩ = some (.slice b2 l2 c2) from fun W' Y => ⟨(Y.kp (fun _ => True)).cell p3 trivial, (Y.kp (fun _ => True)).cell s3 trivial, (Y.kp (fun _ => True)).cell m0 trivial, (Y.kp (fun _ => True)).cell m1 trivial, (Y.kp (fun _ => True)).cell m2 trivial, (Y.kp (fun _ => True)).cell m3 trivial, (Y.kp (fun _ => True)).cell o0 trivial, (Y.kp (fun _ => True)).cell o1 trivial, (Y.kp (fun _ => True)).cell o2 trivial, (Y.kp (fun _ => True)).cell o3 trivial⟩)
                go_wp2_with fail
                go_cut [52] from 34 (fun s52 wx => s52 = .bool (!bq) ∧ Ext wr wx)
                case first =>
                  go_region_held3 (fun W' => W'.cell? ⟨w.heap.size, 3, none⟩ = some (.slice (some ⟨g, off, none⟩) ks.length c) ∧ W'.cell? ⟨w.heap.size + 1, 3, none⟩ = some (.slice (some ⟨g', off', none⟩) ks'.length c') ∧ W'.cell? ⟨g, off + j * 4, none⟩ = some (.int .i64 k1) ∧ W'.cell? ⟨g, off + j * 4 + 1, none⟩ = some (.int .i64 n1) ∧ W'.cell? ⟨g, off + j * 4 + 2, none⟩ = some (.string x1) ∧ W'.cell? ⟨g, off + j * 4 + 3, none⟩ = some (.slice b1 l1 c1) ∧ W'.cell? ⟨g', off' + j * 4, none⟩ = some (.int .i64 k2) ∧ W'.cell? ⟨g', off' + j * 4 + 1, none⟩ = some (.int .i64 n2) ∧ W'.cell? ⟨g', off' + j * 4 + 2, none⟩ = some (.string x2) ∧ W'.cell? ⟨g', off' + j * 4 + 3, none⟩ = some (.slice b2 l2 c2))
                    (first | exact SK | exact ⟨p3, s3, m0, m1, m2, m3, o0, o1, o2, o3⟩ | go_keep)
                    (first | (go_at_call 29; refine (HC.out _ ((Ext.refl wr).drew)).mono ?_; rintro r w3 ⟨rfl, hy⟩; have Y : Ext wr w3 := Ext.trans ((Ext.refl wr).drew) hy; have SK := HSK.out w3 Y))
                  all_goals
                    go_wp2_with fail
                    go_meet
                    case rel => exact ⟨rfl, Y⟩
                case rest =>
                  obtain ⟨rfl, hy⟩ := hcut
                  have HY := hid (HX.out.trans hy)
                  clear hy p3 s3 m0 m1 m2 m3 o0 o1 o2 o3
                  cases bq with
                  | true =>
                    go_wp2_with fail
                    go_roundw
                    case rel =>
                      have REL : ∃ j' : Nat, j' ≤ ks.length ∧ Value.int .i64 ((j : Int) + 1) = .int .i64 j' ∧ Ext ((w.alloc (.cells #[.int .i64 k, .int .i64 n, .string x, .slice (some ⟨g, off, none⟩) ks.length c] 30)).alloc (.cells #[.int .i64 k', .int .i64 n', .string x', .slice (some ⟨g', off', none⟩) ks'.length c'] 30)) wc ∧ (∀ i, (h : i < ks.length) → (h' : i < ks'.length) → i < j' → T.beq ks[i] ks'[i] = true) :=
                        ⟨j + 1, hlt, by go_num, HY.out, fun i h h' hi => by
                          rcases Nat.lt_or_eq_of_le (Nat.le_of_lt_succ hi) with e | e
                          · exact HALL.out i h h' e
                          · have q := HBQ.out
                            subst e
                            exact q⟩
                      first | exact REL | ((repeat apply Exists.intro); exact ⟨REL, rfl⟩)
                    case measure => simp [intOf]; omega
                  | false =>
                    have HQ := hid (T.beqL_bad hlt hlt2 HBQ.out)
                    go_wp2_with fail
                    go_ret
                    exact ⟨ret_bool (by rw [HR.out, HV.out, HQ.out]), HX0.out.trans HY.out⟩
              · go_wp2_with fail
                go_ret
                exact ⟨ret_bool (by rw [HR.out, HV.out, (T.beqL_iff _ _).2 ⟨HLE.out, fun i h h' => HALL.out i h h' (by omega)⟩]), HXW.out⟩
          · have r4 : (((ks.length : Int)) != ((ks'.length : Int))) = true := by
              have : ¬ ((ks.length : Int)) = ((ks'.length : Int)) := by omega
              simpa using this
            have HNE := hid (T.beqL_len hle)
            clear hle
            go_enter Tryz.func29, Tryz.ntmps29
            go_wp2_with fail
            go_ret
            exact ⟨ret_bool (by rw [HR.out, HV.out, HNE.out]), Ext.alloc2 _ _ _⟩
        · have HV := hid (show (decide (k = k') && decide (n = n') && decide (x = x') && T.beqL ks ks') = false by rw [decide_eq_false (fun e : x = x' => q3 (by rw [e]))]; simp)
          go_enter Tryz.func29, Tryz.ntmps29
          go_wp2_with fail
          go_ret
          exact ⟨ret_bool (by rw [HR.out, HV.out]), Ext.alloc2 _ _ _⟩
      · have r2 : (n != n') = true := by simpa using q2
        have HV := hid (show (decide (k = k') && decide (n = n') && decide (x = x') && T.beqL ks ks') = false by rw [decide_eq_false q2]; simp)
        go_enter Tryz.func29, Tryz.ntmps29
        go_wp2_with fail
        go_ret
        exact ⟨ret_bool (by rw [HR.out, HV.out]), Ext.alloc2 _ _ _⟩
    · have r1 : (k != k') = true := by simpa using q1
      have HV := hid (show (decide (k = k') && decide (n = n') && decide (x = x') && T.beqL ks ks') = false by rw [decide_eq_false q1]; simp)
      go_enter Tryz.func29, Tryz.ntmps29
      go_wp2_with fail
      go_ret
      exact ⟨ret_bool (by rw [HR.out, HV.out]), Ext.alloc2 _ _ _⟩
end Go.Proofs.YtaafcmmmkalgjaaGreatDoor
/-
  plain, Plain and Is of the statements' own, each by a contract: of values that are not too great.
-/
namespace Go.Proofs.YtaafcmmmkalgjaaGreatDoor
open Go.RowKit
theorem vs_un_un (v : Value) (w : World) : (Instr.typeAssert (.iface 172 v) 35 172 true).run Tryz.prog w = .ok (.tuple #[v, .bool true]) w := by kernel_rfl
theorem vs_un_tu (v : Value) (w : World) : (Instr.typeAssert (.iface 172 v) 35 173 true).run Tryz.prog w = .ok (.tuple #[(.bool false), .bool false]) w := by kernel_rfl
theorem vs_un_in (v : Value) (w : World) : (Instr.typeAssert (.iface 172 v) 35 83 true).run Tryz.prog w = .ok (.tuple #[(.int .i64 0), .bool false]) w := by kernel_rfl
theorem vs_un_tx (v : Value) (w : World) : (Instr.typeAssert (.iface 172 v) 35 174 true).run Tryz.prog w = .ok (.tuple #[(.string ByteArray.empty), .bool false]) w := by kernel_rfl
theorem vs_un_li (v : Value) (w : World) : (Instr.typeAssert (.iface 172 v) 35 81 true).run Tryz.prog w = .ok (.tuple #[(.slice none 0 0), .bool false]) w := by kernel_rfl
theorem vs_tu_un (v : Value) (w : World) : (Instr.typeAssert (.iface 173 v) 35 172 true).run Tryz.prog w = .ok (.tuple #[(.agg #[]), .bool false]) w := by kernel_rfl
theorem vs_tu_tu (v : Value) (w : World) : (Instr.typeAssert (.iface 173 v) 35 173 true).run Tryz.prog w = .ok (.tuple #[v, .bool true]) w := by kernel_rfl
theorem vs_tu_in (v : Value) (w : World) : (Instr.typeAssert (.iface 173 v) 35 83 true).run Tryz.prog w = .ok (.tuple #[(.int .i64 0), .bool false]) w := by kernel_rfl
theorem vs_tu_tx (v : Value) (w : World) : (Instr.typeAssert (.iface 173 v) 35 174 true).run Tryz.prog w = .ok (.tuple #[(.string ByteArray.empty), .bool false]) w := by kernel_rfl
theorem vs_tu_li (v : Value) (w : World) : (Instr.typeAssert (.iface 173 v) 35 81 true).run Tryz.prog w = .ok (.tuple #[(.slice none 0 0), .bool false]) w := by kernel_rfl
theorem vs_in_un (v : Value) (w : World) : (Instr.typeAssert (.iface 83 v) 35 172 true).run Tryz.prog w = .ok (.tuple #[(.agg #[]), .bool false]) w := by kernel_rfl
theorem vs_in_tu (v : Value) (w : World) : (Instr.typeAssert (.iface 83 v) 35 173 true).run Tryz.prog w = .ok (.tuple #[(.bool false), .bool false]) w := by kernel_rfl
theorem vs_in_in (v : Value) (w : World) : (Instr.typeAssert (.iface 83 v) 35 83 true).run Tryz.prog w = .ok (.tuple #[v, .bool true]) w := by kernel_rfl
theorem vs_in_tx (v : Value) (w : World) : (Instr.typeAssert (.iface 83 v) 35 174 true).run Tryz.prog w = .ok (.tuple #[(.string ByteArray.empty), .bool false]) w := by kernel_rfl
theorem vs_in_li (v : Value) (w : World) : (Instr.typeAssert (.iface 83 v) 35 81 true).run Tryz.prog w = .ok (.tuple #[(.slice none 0 0), .bool false]) w := by kernel_rfl
theorem vs_tx_un (v : Value) (w : World) : (Instr.typeAssert (.iface 174 v) 35 172 true).run Tryz.prog w = .ok (.tuple #[(.agg #[]), .bool false]) w := by kernel_rfl
theorem vs_tx_tu (v : Value) (w : World) : (Instr.typeAssert (.iface 174 v) 35 173 true).run Tryz.prog w = .ok (.tuple #[(.bool false), .bool false]) w := by kernel_rfl
theorem vs_tx_in (v : Value) (w : World) : (Instr.typeAssert (.iface 174 v) 35 83 true).run Tryz.prog w = .ok (.tuple #[(.int .i64 0), .bool false]) w := by kernel_rfl
theorem vs_tx_tx (v : Value) (w : World) : (Instr.typeAssert (.iface 174 v) 35 174 true).run Tryz.prog w = .ok (.tuple #[v, .bool true]) w := by kernel_rfl
theorem vs_tx_li (v : Value) (w : World) : (Instr.typeAssert (.iface 174 v) 35 81 true).run Tryz.prog w = .ok (.tuple #[(.slice none 0 0), .bool false]) w := by kernel_rfl
theorem vs_li_un (v : Value) (w : World) : (Instr.typeAssert (.iface 81 v) 35 172 true).run Tryz.prog w = .ok (.tuple #[(.agg #[]), .bool false]) w := by kernel_rfl
theorem vs_li_tu (v : Value) (w : World) : (Instr.typeAssert (.iface 81 v) 35 173 true).run Tryz.prog w = .ok (.tuple #[(.bool false), .bool false]) w := by kernel_rfl
theorem vs_li_in (v : Value) (w : World) : (Instr.typeAssert (.iface 81 v) 35 83 true).run Tryz.prog w = .ok (.tuple #[(.int .i64 0), .bool false]) w := by kernel_rfl
theorem vs_li_tx (v : Value) (w : World) : (Instr.typeAssert (.iface 81 v) 35 174 true).run Tryz.prog w = .ok (.tuple #[(.string ByteArray.empty), .bool false]) w := by kernel_rfl
theorem vs_li_li (v : Value) (w : World) : (Instr.typeAssert (.iface 81 v) 35 81 true).run Tryz.prog w = .ok (.tuple #[v, .bool true]) w := by kernel_rfl
attribute [local go_sem] vs_un_un vs_un_tu vs_un_in vs_un_tx vs_un_li vs_tu_un vs_tu_tu vs_tu_in vs_tu_tx vs_tu_li vs_in_un vs_in_tu vs_in_in vs_in_tx vs_in_li vs_tx_un vs_tx_tu vs_tx_in vs_tx_tx vs_tx_li vs_li_un vs_li_tu vs_li_in vs_li_tx vs_li_li
mutual
/-- How many values a value has in it, itself too. -/
def T.nodes : T → Nat | .node _ _ _ ks => 1 + T.nodesL ks
def T.nodesL : List T → Nat | [] => 0 | t :: r => T.nodes t + T.nodesL r
end
mutual
theorem T.nodes_size : ∀ t : T, T.nodes t ≤ T.size t
  | .node k n x ks => by have := T.nodesL_size ks; simp only [T.nodes, T.size]; omega
theorem T.nodesL_size : ∀ l : List T, T.nodesL l ≤ T.sizeL l
  | [] => by simp [T.nodesL, T.sizeL]
  | t :: r => by have := T.nodes_size t; have := T.nodesL_size r; simp only [T.nodesL, T.sizeL]; omega
end
theorem T.nodesL_append (a b : List T) : T.nodesL (a ++ b) = T.nodesL a + T.nodesL b := by
  induction a with
  | nil => simp [T.nodesL]
  | cons x r ih => simp only [List.cons_append, T.nodesL, ih]; omega
theorem T.nodesL_take (l : List T) (i : Nat) (h : i < l.length) : T.nodesL (l.take (i + 1)) = T.nodesL (l.take i) + T.nodes l[i] := by
  rw [T.take_succ' l i h, T.nodesL_append]; simp [T.nodesL]
theorem T.nodesL_split (l : List T) (i : Nat) : T.nodesL l = T.nodesL (l.take i) + T.nodesL (l.drop i) := by rw [← T.nodesL_append, List.take_append_drop]
theorem T.nodesL_len (a : List T) : a.length ≤ T.nodesL a := by
  induction a with
  | nil => simp [T.nodesL]
  | cons x r ih => obtain ⟨k, n, y, ks⟩ := x; simp only [T.nodesL, T.nodes, List.length_cons]; omega
theorem Kp.under {K : Nat → Prop} {B : Nat} {w w1 w2 : World} (h : Kp K w w1) (hb : Below B w1 w2) (hB : w.heap.size ≤ B := by omega) : Kp K w w2 :=
  ⟨hb.os.trans h.os, hb.tape.trans h.tape, hb.output.trans h.output, Nat.le_trans h.size hb.size, fun i hi hK => (Below.block hb i (Nat.lt_of_lt_of_le hi hB)).trans (h.block i hi hK)⟩
theorem Kp.setNew {K : Nat → Prop} {a b : World} (h : Kp K a b) (g i : Nat) (v : Value) (hg : a.heap.size ≤ g := by omega) : Kp K a (b.setCell ⟨g, i, none⟩ v) :=
  h.trans' (n := a.heap.size) (L := fun _ => False) (Kp.set b g i v (fun h => h.elim (fun h => absurd h (by omega)) id))
/-- What plain answers. -/
def PlnR (w : World) (nb n0 d : Nat) (t : T) (e : Ending) (w' : World) : Prop := Kp (· ≠ nb) w w' ∧ w'.heap[nb]? = some (.cells #[.int .i64 (n0 + t.nodes : Nat)] 3) ∧ ∃ u0 u1 u2 u3, e = .returned (.tuple #[.agg #[u0, u1, u2, u3], .bool true]) ∧ Rd (fun x => w.heap.size ≤ x) w' d (.agg #[u0, u1, u2, u3]) t
def PlnTo (d : Nat) : Prop := ∀ (v : Value) (t : T) (K : Nat → Prop) (w : World) (nb n0 dp : Nat), VRd K w d v t → ¬ K nb → w.heap[nb]? = some (.cells #[.int .i64 n0] 3) → n0 + t.nodes ≤ 70000 → dp + t.deep ≤ 70 →
  Calls Tryz.prog 54 #[v, .pointer (some ⟨nb, 0, none⟩), .int .i64 dp] w (PlnR w nb n0 d t)
set_option maxRecDepth 100000 in
set_option maxHeartbeats 4000000 in
theorem pln_any : ∀ d, PlnTo d := by
  intro d
  induction d with
  | zero => intro v t K w nb n0 dp h; exact h.elim
  | succ d ih =>
    intro v t K w nb n0 dp h hK hnb hn hd
    obtain ⟨k, n, x, ks⟩ := t
    have HNB := hid hnb
    have hbl := lt_of_block hnb
    have c0 : w.cell? ⟨nb, 0, none⟩ = some (.int .i64 n0) := cell_of hnb rfl
    have f0 := frozen_of (i := 0) hnb
    have hpos : n0 + 1 ≤ 70000 := by simp only [T.nodes] at hn; omega
    have hn0 : (n0 : Int) + 1 ≤ 70000 := by omega
    have hdp : (dp : Int) ≤ 70 := by omega
    have q1 : decide ((70000 : Int) < (n0 : Int) + 1) = false := decide_eq_false (by omega)
    have q2 : decide ((70 : Int) < (dp : Int)) = false := decide_eq_false (by omega)
    have HPOS := hid hpos
    have HN0 := hid hn0
    clear hpos hn0
    have hn1 : (n0 : Int) ≤ 140737488355328 := by have := HPOS.out; omega
    have HB1 := hid (show (((w.setCell ⟨nb, 0, none⟩ (.int .i64 ((n0 : Int) + 1)))).heap[nb]? = some (.cells #[.int .i64 (n0 + 1 : Nat)] 3)) from (set_at hnb 0 _).trans rfl)
    have HK1 := hid (show Kp (· ≠ nb) w (w.setCell ⟨nb, 0, none⟩ (.int .i64 ((n0 : Int) + 1))) from Kp.set _ _ _ _ (fun h => h rfl))
    clear hnb
    rcases h with ⟨rfl, rfl, rfl, rfl, rfl⟩ | ⟨rfl, rfl, rfl, b, hb, rfl⟩ | ⟨rfl, rfl, rfl, rfl⟩ | ⟨rfl, rfl, rfl, hxs, rfl⟩ | ⟨rfl, rfl, rfl, hll, a, c, rfl, hks⟩
    · clear ih hn hd
      go_enter Tryz.func54, Tryz.ntmps54
      go_wp2_with fail
      refine bodyPost_ret (v := .tuple #[.agg #[.int .i64 1, .int .i64 0, .string ⟨#[]⟩, .slice none 0 0], .bool true]) (by simp [results, Tryz.results54, go_sem]) rfl ?_
      exact ⟨((HK1.out.alloc _).alloc _), (blkOld _ (blkOld _ HB1.out)), _, _, _, _, rfl, none, 0, rfl, by decide, by decide, .inl rfl⟩
    · clear ih hn hd
      cases b with
      | true =>
        have hb' : n = 1 := hb
        subst hb'
        clear hb
        go_enter Tryz.func54, Tryz.ntmps54
        go_wp2_with fail
        refine bodyPost_ret (v := .tuple #[.agg #[.int .i64 2, .int .i64 1, .string ⟨#[]⟩, .slice none 0 0], .bool true]) (by simp [results, Tryz.results54, go_sem]) rfl ?_
        exact ⟨((HK1.out.alloc _).alloc _), (blkOld _ (blkOld _ HB1.out)), _, _, _, _, rfl, none, 0, rfl, by decide, by decide, .inl rfl⟩
      | false =>
        have hb' : n = 0 := hb
        subst hb'
        clear hb
        go_enter Tryz.func54, Tryz.ntmps54
        go_wp2_with fail
        refine bodyPost_ret (v := .tuple #[.agg #[.int .i64 2, .int .i64 0, .string ⟨#[]⟩, .slice none 0 0], .bool true]) (by simp [results, Tryz.results54, go_sem]) rfl ?_
        exact ⟨((HK1.out.alloc _).alloc _), (blkOld _ (blkOld _ HB1.out)), _, _, _, _, rfl, none, 0, rfl, by decide, by decide, .inl rfl⟩
    · clear ih hn hd
      go_enter Tryz.func54, Tryz.ntmps54
      go_wp2_with fail
      refine bodyPost_ret (v := .tuple #[.agg #[.int .i64 3, .int .i64 n, .string ⟨#[]⟩, .slice none 0 0], .bool true]) (by simp [results, Tryz.results54, go_sem]) rfl ?_
      exact ⟨(HK1.out.alloc _), (blkOld _ HB1.out), _, _, _, _, rfl, none, 0, rfl, by decide, by decide, .inl rfl⟩
    · clear ih hn hd
      go_enter Tryz.func54, Tryz.ntmps54
      go_wp2_with fail
      refine bodyPost_ret (v := .tuple #[.agg #[.int .i64 4, .int .i64 0, .string x, .slice none 0 0], .bool true]) (by simp [results, Tryz.results54, go_sem]) rfl ?_
      exact ⟨(HK1.out.alloc _), (blkOld _ HB1.out), _, _, _, _, rfl, none, 0, rfl, hxs, by decide, .inl rfl⟩
    · have HA := hid (show VRdL K w d a ks from ⟨hll, hks⟩)
      have HIH := hid ih
      have HKB := hid hK
      have HN := hid (show n0 + 1 + T.nodesL ks ≤ 70000 by simp only [T.nodes] at hn; omega)
      have HD := hid (show dp + 1 + T.deepL ks ≤ 70 by simp only [T.deep, if_pos] at hd; omega)
      have hl : (ks.length : Int) ≤ 140737488355328 := by omega
      clear ih hks hK hn hd
      go_enter Tryz.func54, Tryz.ntmps54
      go_wp2_with fail
      have HR0 := hid (show ((((w.setCell ⟨nb, 0, none⟩ (.int .i64 ((n0 : Int) + 1))).alloc (.cells #[.int .i64 0, .int .i64 0, .string ⟨#[]⟩, .slice none 0 0] 30)).alloc (.cells #[.int .i64 5, .int .i64 0, .string ⟨#[]⟩, .slice none 0 0] 30)).heap[w.heap.size]? = some (.cells #[.int .i64 0, .int .i64 0, .string ⟨#[]⟩, .slice none 0 0] 30)) from blkOld _ (blkN (by rw [size_set])))
      have HP0 := hid (show ((((w.setCell ⟨nb, 0, none⟩ (.int .i64 ((n0 : Int) + 1))).alloc (.cells #[.int .i64 0, .int .i64 0, .string ⟨#[]⟩, .slice none 0 0] 30)).alloc (.cells #[.int .i64 5, .int .i64 0, .string ⟨#[]⟩, .slice none 0 0] 30)).heap[w.heap.size + 1]? = some (.cells #[.int .i64 5, .int .i64 0, .string ⟨#[]⟩, .slice none 0 0] 30)) from blkN (by rw [blkS, size_set]))
      go_loopw [15] (fun i wr => ∃ (j : Nat) (lv : Value) (acc : List T), j ≤ ks.length ∧ i = .int .i64 j ∧ acc = ks.take j ∧ Kp (· ≠ nb) w wr ∧ wr.heap[nb]? = some (.cells #[.int .i64 (n0 + 1 + T.nodesL acc : Nat)] 3) ∧ wr.heap[w.heap.size]? = some (.cells #[.int .i64 0, .int .i64 0, .string ⟨#[]⟩, .slice none 0 0] 30) ∧ wr.heap[w.heap.size + 1]? = some (.cells #[.int .i64 5, .int .i64 0, .string ⟨#[]⟩, lv] 30) ∧ PItems wr (w.heap.size + 2) wr.heap.size d lv acc) (fun i _ => ks.length - (intOf i).toNat)
      case atStart => exact ⟨0, .slice none 0 0, [], Nat.zero_le _, rfl, rfl, (HK1.out.alloc _).alloc _, blkOld _ (blkOld _ HB1.out), HR0.out, HP0.out, PItems.nil _ _⟩
      case round =>
        obtain ⟨j, lv, acc, hj, rfl, hacc, hkp, hnb, hr0, hp0, hit⟩ := hrel
        have HKP := hid hkp
        have HNBR := hid hnb
        have HRB := hid hr0
        have HPB := hid hp0
        have HIT := hid hit
        have HACC := hid hacc
        obtain ⟨ao, cl, rfl⟩ := hit.shape
        clear hkp hnb hr0 hp0 hit hacc
        by_cases hlt : j < ks.length
        · have hlt' : (j : Int) < ks.length := by omega
          obtain ⟨g, off, τ, p, rfl, hg, h4, hr⟩ := HA.out.kid hlt
          have hgn : g ≠ nb := fun e => HKB.out (e ▸ hg)
          have m0 := HKP.out.cell h4 hgn
          have hgl := lt_of_cell m0
          have hKK : Kp K w wr := HKP.out.mono (fun k _ hk e => HKB.out (e ▸ hk))
          have n1 := T.nodesL_take ks j hlt
          have n2 := T.nodesL_split ks (j + 1)
          have n3 := HN.out
          have n4 := T.deepL_mem (List.getElem_mem hlt)
          have n5 := HD.out
          have HT := hid (show ks.take (j + 1) = acc ++ [ks[j]] by rw [T.take_succ' ks j hlt, HACC.out])
          have HAL := hid (show acc.length = j by rw [HACC.out, List.length_take]; omega)
          have HNL := hid (show T.nodesL (acc ++ [ks[j]]) = T.nodesL acc + T.nodes ks[j] by rw [T.nodesL_append]; simp [T.nodesL])
          have HC := hid (show Calls Tryz.prog 54 #[.iface τ p, .pointer (some ⟨nb, 0, none⟩), .int .i64 ((dp : Int) + 1)] wr (PlnR wr nb (n0 + 1 + T.nodesL acc) d ks[j]) by
            have h := HIH.out (.iface τ p) ks[j] K wr nb (n0 + 1 + T.nodesL acc) (dp + 1) (hr.keep hKK) HKB.out HNBR.out (by rw [HACC.out]; omega) (by omega)
            rw [show ((dp + 1 : Nat) : Int) = (dp : Int) + 1 by omega] at h
            exact h)
          have HBW := hid (show w.heap.size + 2 ≤ wr.heap.size by have := lt_of_block HPB.out; omega)
          have hlim : acc.length ≤ 2000000 := by have := HAL.out; have := T.nodesL_len ks; have := HN.out; omega
          have HLIM := hid hlim
          clear hr h4 hg hKK n1 n2 n3 n4 n5 hlim q1 q2
          go_wp2_with fail
          refine HC.out.mono ?_
          rintro e w2 ⟨hk2, hb2, u0, u1, u2, u3, rfl, hrd2⟩
          obtain ⟨k', n', x', a', c', rfl, rfl, rfl, rfl⟩ := hrd2.shape
          have HK2 := hid (HKP.out.trans hk2)
          have HNB2 := hid hb2
          have HRD2 := hid hrd2
          have HR2 := hid (hk2.block' HRB.out (show w.heap.size ≠ nb by omega))
          have HP2 := hid (hk2.block' HPB.out (show w.heap.size + 1 ≠ nb by omega))
          have HIT2 := hid (HIT.out.keep hk2 (fun k hk e => by have e' : k = nb := e; omega))
          have HBW2 := hid (show w.heap.size + 2 ≤ w2.heap.size by have := lt_of_block HP2.out; have := hk2.size; have := HBW.out; omega)
          generalize ks[j].kids.length = lk at *
          have e3 := cell_of (i := 3) HP2.out rfl
          simp only [List.getElem_toArray, List.getElem_cons_zero, List.getElem_cons_succ] at e3
          have hpl := lt_of_block HP2.out
          clear hk2 hb2 hrd2 m0 hgl
          go_wp2_with (at_builtin; refine app_pitem rfl _ _ rfl rfl (w.heap.size + 2) wr.heap.size d (.slice ao acc.length cl) acc k' n' x' a' lk c' ks[j] rfl (by first | (rw [blkS]; done) | (rw [blkS]; rfl)) (by have := HBW2.out; rw [blkS]; omega) (HIT2.out.keep ((Ext.alloc w2 _).kp (fun _ => True)) (fun _ _ => trivial)) (HRD2.out.later (Ext.alloc w2 _)) HBW.out HLIM.out ?_; intro a5 c5 w5 hit5 hb5; have HP5 := hid ((Below.block hb5 (w.heap.size + 1) (by omega)).trans (blkOld _ HP2.out)); have g3 := frozen_of (i := 3) HP5.out; have e5 := cell_of (i := 3) HP5.out rfl; simp only [List.getElem_toArray, List.getElem_cons_zero, List.getElem_cons_succ] at e5)
          go_roundw
          case rel =>
            have hkw : Kp (· ≠ nb) w (w5.setCell ⟨w.heap.size + 1, 3, none⟩ (.slice a5 (acc.length + 1) c5)) := ((HK2.out.alloc _).under hb5 (by omega)).setNew _ _ _ (by omega)
            have hk6 : Kp (· ≠ w.heap.size + 1) w5 (w5.setCell ⟨w.heap.size + 1, 3, none⟩ (.slice a5 (acc.length + 1) c5)) := Kp.set _ _ _ _ (fun h => h rfl)
            have hnb6 := (Below.block hb5 nb (by omega)).trans (blkOld _ HNB2.out)
            have hr6 := (Below.block hb5 w.heap.size (by omega)).trans (blkOld _ HR2.out)
            have hp6 := set_at HP5.out 3 (.slice a5 (acc.length + 1) c5)
            refine ⟨j + 1, .slice a5 (acc.length + 1) c5, acc ++ [ks[j]], hlt, by go_num, HT.out.symm, hkw, ?_, hk6.block' hr6 (by show w.heap.size ≠ _; omega), hp6, ?_⟩
            · rw [HNL.out, ← Nat.add_assoc]
              exact hk6.block' hnb6 (by show nb ≠ _; omega)
            · rw [size_set]
              exact hit5.keep hk6 (fun k hk e => by have e' : k = _ := e; omega)
          case measure => simp [intOf]; omega
        · have hje : j = ks.length := by omega
          have HJE := hid hje
          have hge : ¬ (j : Int) < ks.length := by omega
          have e0 := cell_of (i := 0) HPB.out rfl
          have e1 := cell_of (i := 1) HPB.out rfl
          have e2 := cell_of (i := 2) HPB.out rfl
          have e3 := cell_of (i := 3) HPB.out rfl
          have r0 := cell_of (i := 0) HRB.out rfl
          have r1 := cell_of (i := 1) HRB.out rfl
          have r2 := cell_of (i := 2) HRB.out rfl
          have r3 := cell_of (i := 3) HRB.out rfl
          simp only [List.getElem_toArray, List.getElem_cons_zero, List.getElem_cons_succ] at e0 e1 e2 e3 r0 r1 r2 r3
          have f0 := frozen_of (i := 0) HRB.out
          have f1 := frozen_of (i := 1) HRB.out
          have f2 := frozen_of (i := 2) HRB.out
          have f3 := frozen_of (i := 3) HRB.out
          clear hje q1 q2
          go_wp2_with fail
          have hb5 := set4_block HRB.out 0 (.int .i64 5) (.int .i64 0) (.string ⟨#[]⟩) (.slice ao acc.length cl)
          have hk2 := Kp.set4 wr w.heap.size 0 (.int .i64 5) (.int .i64 0) (.string ⟨#[]⟩) (.slice ao acc.length cl)
          have hkw : Kp (· ≠ nb) w ((((wr.setCell ⟨w.heap.size, 0, none⟩ (.int .i64 5)).setCell ⟨w.heap.size, 0 + 1, none⟩ (.int .i64 0)).setCell ⟨w.heap.size, 0 + 2, none⟩ (.string ⟨#[]⟩)).setCell ⟨w.heap.size, 0 + 3, none⟩ (.slice ao acc.length cl)) := (((HKP.out.setNew _ _ _ (Nat.le_refl _)).setNew _ _ _ (Nat.le_refl _)).setNew _ _ _ (Nat.le_refl _)).setNew _ _ _ (Nat.le_refl _)
          generalize ((((wr.setCell ⟨w.heap.size, 0, none⟩ (.int .i64 5)).setCell ⟨w.heap.size, 0 + 1, none⟩ (.int .i64 0)).setCell ⟨w.heap.size, 0 + 2, none⟩ (.string ⟨#[]⟩)).setCell ⟨w.heap.size, 0 + 3, none⟩ (.slice ao acc.length cl)) = W at hb5 hk2 hkw ⊢
          have z0 : W.cell? ⟨w.heap.size, 0, none⟩ = some (.int .i64 5) := cell_of hb5 (by simp [set4A])
          have z1 : W.cell? ⟨w.heap.size, 1, none⟩ = some (.int .i64 0) := cell_of hb5 (by simp [set4A])
          have z2 : W.cell? ⟨w.heap.size, 2, none⟩ = some (.string ⟨#[]⟩) := cell_of hb5 (by simp [set4A])
          have z3 : W.cell? ⟨w.heap.size, 3, none⟩ = some (.slice ao acc.length cl) := cell_of hb5 (by simp [set4A])
          refine bodyPost_ret (v := .tuple #[.agg #[.int .i64 5, .int .i64 0, .string ⟨#[]⟩, .slice ao acc.length cl], .bool true]) (by simp [results, Tryz.results54, go_sem, z0, z1, z2, z3]) rfl ?_
          have hak : acc = ks := by rw [HACC.out, HJE.out, List.take_length]
          have hnw := hk2.block' HNBR.out (by show nb ≠ w.heap.size; omega)
          have hlen : acc.length ≤ 2000000 := by rw [hak]; have := T.nodesL_len ks; have := HN.out; omega
          have hR := ((HIT.out.keep hk2 (fun k hk e => by have e' : k = _ := e; omega)).list hlen).mono (L := fun x => w.heap.size ≤ x) (fun q _ hq => by have hq' : w.heap.size + 2 ≤ q := hq; show w.heap.size ≤ q; omega)
          refine ⟨hkw, ?_, _, _, _, _, rfl, ?_⟩
          · rw [hnw, hak, T.nodes, ← Nat.add_assoc]
          · rw [hak] at hR ⊢; exact hR
end Go.Proofs.YtaafcmmmkalgjaaGreatDoor
/-
  Plain and Is of the statements' own, each by a contract: of values that are not too great.
-/
namespace Go.Proofs.YtaafcmmmkalgjaaGreatDoor
open Go.RowKit
def PlainR (w : World) (d : Nat) (t : T) (e : Ending) (w' : World) : Prop := Ext w w' ∧ ∃ u0 u1 u2 u3, e = .returned (.tuple #[.agg #[u0, u1, u2, u3], .bool true]) ∧ Rd (fun x => w.heap.size ≤ x) w' d (.agg #[u0, u1, u2, u3]) t
set_option maxRecDepth 100000 in
set_option maxHeartbeats 4000000 in
theorem Plain_any {K : Nat → Prop} {d : Nat} {v : Value} {t : T} (w : World) (hr : VRd K w d v t) (hn : t.nodes ≤ 70000) (hd : t.deep ≤ 70) : Calls Tryz.prog 28 #[v] w (PlainR w d t) := by
  obtain ⟨τ, p, rfl⟩ := hr.iface
  have HR := hid hr.low
  have HN := hid hn
  have HD := hid hd
  clear hr hn hd
  go_enter Tryz.func28, Tryz.ntmps28
  go_wp2_with fail
  have hx2 : Ext w ((w.alloc (.cells #[.int .i64 0, .int .i64 0, .string ⟨#[]⟩, .slice none 0 0] 30)).alloc (.cells #[.int .i64 0] 3)) := Ext.alloc2 _ _ _
  have hb1 : ((w.alloc (.cells #[.int .i64 0, .int .i64 0, .string ⟨#[]⟩, .slice none 0 0] 30)).alloc (.cells #[.int .i64 0] 3)).heap[w.heap.size]? = some (.cells #[.int .i64 0, .int .i64 0, .string ⟨#[]⟩, .slice none 0 0] 30) := blkOld _ (blk0 w _)
  have hb2 : ((w.alloc (.cells #[.int .i64 0, .int .i64 0, .string ⟨#[]⟩, .slice none 0 0] 30)).alloc (.cells #[.int .i64 0] 3)).heap[w.heap.size + 1]? = some (.cells #[.int .i64 (0 : Nat)] 3) := blk1 w _ _
  have hs2 : ((w.alloc (.cells #[.int .i64 0, .int .i64 0, .string ⟨#[]⟩, .slice none 0 0] 30)).alloc (.cells #[.int .i64 0] 3)).heap.size = w.heap.size + 2 := by rw [blkS, blkS]
  generalize ((w.alloc (.cells #[.int .i64 0, .int .i64 0, .string ⟨#[]⟩, .slice none 0 0] 30)).alloc (.cells #[.int .i64 0] 3)) = V at hx2 hb1 hb2 hs2 ⊢
  refine (pln_any d (.iface τ p) t (· < w.heap.size) V (w.heap.size + 1) 0 0 (HR.out.later hx2) (by omega) hb2 (by have := HN.out; omega) (by have := HD.out; omega)).mono ?_
  rintro e V2 ⟨hk, _, u0, u1, u2, u3, rfl, hrd⟩
  obtain ⟨k', n', x', a', c', rfl, rfl, rfl, rfl⟩ := hrd.shape
  have HRD := hid hrd
  generalize t.kids.length = lk at *
  have HX := hid (Kp.extOf hx2 hk (Nat.le_succ _))
  have HB := hid (hk.block' hb1 (by show w.heap.size ≠ w.heap.size + 1; omega))
  have HS := hid hs2
  obtain ⟨r0, r1, r2, r3⟩ := four_of HB.out
  have f0 := frozen_of (i := 0) HB.out
  have f1 := frozen_of (i := 1) HB.out
  have f2 := frozen_of (i := 2) HB.out
  have f3 := frozen_of (i := 3) HB.out
  clear hk hrd hx2 hb1 hb2 hs2
  go_wp2_with fail
  have hb5 := set4_block HB.out 0 (.int .i64 k') (.int .i64 n') (.string x') (.slice a' lk c')
  have hk2 := Kp.set4 V2 w.heap.size 0 (.int .i64 k') (.int .i64 n') (.string x') (.slice a' lk c')
  have hX2 := Kp.extOf HX.out hk2 (Nat.le_refl _)
  generalize ((((V2.setCell ⟨w.heap.size, 0, none⟩ (.int .i64 k')).setCell ⟨w.heap.size, 0 + 1, none⟩ (.int .i64 n')).setCell ⟨w.heap.size, 0 + 2, none⟩ (.string x')).setCell ⟨w.heap.size, 0 + 3, none⟩ (.slice a' lk c')) = W at hb5 hk2 hX2 ⊢
  have z0 : W.cell? ⟨w.heap.size, 0, none⟩ = some (.int .i64 k') := cell_of hb5 (by simp [set4A])
  have z1 : W.cell? ⟨w.heap.size, 1, none⟩ = some (.int .i64 n') := cell_of hb5 (by simp [set4A])
  have z2 : W.cell? ⟨w.heap.size, 2, none⟩ = some (.string x') := cell_of hb5 (by simp [set4A])
  have z3 : W.cell? ⟨w.heap.size, 3, none⟩ = some (.slice a' lk c') := cell_of hb5 (by simp [set4A])
  refine bodyPost_ret (v := .tuple #[.agg #[.int .i64 k', .int .i64 n', .string x', .slice a' lk c'], .bool true]) (by simp [results, Tryz.results28, go_sem, z0, z1, z2, z3]) rfl ?_
  refine ⟨hX2, _, _, _, _, rfl, ?_⟩
  have hq := HRD.out.keep (hk2.mono (fun q _ hq e => by have e' : q = w.heap.size := e; have := HS.out; have hq' : V.heap.size ≤ q := hq; omega))
  exact hq.mono (fun q _ hq => by have := HS.out; have hq' : V.heap.size ≤ q := hq; show w.heap.size ≤ q; omega)
set_option maxRecDepth 100000 in
set_option maxHeartbeats 4000000 in
theorem is_any {K K' : Nat → Prop} {d d' : Nat} {v v' : Value} {t t' : T} (w : World) (hr : VRd K w d v t) (hr' : Rd K' w d' v' t') (hn : t.nodes ≤ 70000) (hd : t.deep ≤ 70) : Calls Tryz.prog 11 #[v, v'] w fun e w' => e = .returned (.bool (T.beq t t')) ∧ Ext w w' := by
  obtain ⟨τ, p, rfl⟩ := hr.iface
  obtain ⟨u0, u1, u2, u3, rfl⟩ := hr'.agg
  obtain ⟨k1, n1, x1, a1, c1, rfl, rfl, rfl, rfl⟩ := hr'.shape
  have HR := hid hr
  have HR' := hid hr'
  generalize t'.kids.length = l1 at *
  have HN := hid hn
  have HD := hid hd
  clear hr hn hd hr'
  go_enter Tryz.func11, Tryz.ntmps11
  go_wp2_with fail
  refine (Plain_any (w.alloc _) (HR.out.later (Ext.alloc w _)) HN.out HD.out).mono ?_
  rintro e V ⟨hx, u0, u1, u2, u3, rfl, hrd⟩
  obtain ⟨k', n', x', a', c', rfl, rfl, rfl, rfl⟩ := hrd.shape
  have HRD := hid hrd
  generalize t.kids.length = lk at *
  have HX := hid ((Ext.alloc w _).trans hx)
  obtain ⟨m0, m1, m2, m3⟩ := four_of (hx.block (blk0 w _))
  have HRV := hid (HR'.out.later HX.out)
  have hwl : w.heap.size < V.heap.size := lt_of_cell m0
  clear hx hrd
  go_wp2_with fail
  refine (eq_any d _ _ t t' _ _ _ d' (HRD.out.later (Ext.alloc V _)) (HRV.out.later (Ext.alloc V _))).mono ?_
  rintro e V2 ⟨rfl, hx2⟩
  have HX2 := hid (HX.out.trans ((Ext.alloc V _).trans hx2))
  clear hx2
  go_wp2_with fail
  go_ret
  exact ⟨rfl, HX2.out⟩
end Go.Proofs.YtaafcmmmkalgjaaGreatDoor
/-
  Fits of the statements, by contracts: none beside an error; the value that was asked for.
-/
namespace Go.Proofs.YtaafcmmmkalgjaaGreatDoor
open Go.RowKit
theorem eq_nil_nil (w : World) : (binOp .eql 35 .nilIface .nilIface).run Tryz.prog w = .ok (.bool true) w := by kernel_rfl
attribute [local go_sem] eq_nil_nil
set_option maxRecDepth 100000 in
theorem fits_err (e : Int) (he : e ≠ 0) (p : Value) (hp : ∃ k n x a l c, p = .agg #[.int .i64 k, .int .i64 n, .string x, .slice a l c]) (w : World) : Calls Tryz.prog 26 #[.nilIface, .int .i64 e, p, .int .i64 e] w fun r w' => r = .returned (.bool true) ∧ Ext w w' := by
  obtain ⟨k, n, x, a, l, c, rfl⟩ := hp
  have he1 : (e == 0) = false := by simpa using he
  go_enter Tryz.func26, Tryz.ntmps26
  go_wp2_with fail
  go_ret
  exact ⟨rfl, Ext.alloc _ _⟩
set_option maxRecDepth 100000 in
theorem fits_ok {K K' : Nat → Prop} {d d' : Nat} {v v' : Value} {t : T} (w : World) (hr : VRd K w d v t) (hr' : Rd K' w d' v' t) (hm : t.may) : Calls Tryz.prog 26 #[v, .int .i64 0, v', .int .i64 0] w fun r w' => r = .returned (.bool true) ∧ Ext w w' := by
  obtain ⟨τ, q, rfl⟩ := hr.iface
  obtain ⟨u0, u1, u2, u3, rfl⟩ := hr'.agg
  obtain ⟨k, n, x, a, c, rfl, rfl, rfl, rfl⟩ := hr'.shape
  have HI := hid (show ∀ W', Ext w W' → Calls Tryz.prog 11 #[.iface τ q, .agg #[.int .i64 k, .int .i64 n, .string x, .slice a t.kids.length c]] W' fun r w' => r = .returned (.bool true) ∧ Ext W' w' from fun W' hx => by
    have e := is_any W' (hr.later hx) (hr'.later hx) (Nat.le_trans (T.nodes_size _) (Nat.le_trans hm.2.1 (by decide))) (Nat.le_trans hm.2.2 (by decide))
    rw [(T.beq_eq _ _).2 rfl] at e
    exact e)
  clear hr hr'
  generalize (T.kids t).length = kt at *
  go_enter Tryz.func26, Tryz.ntmps26
  go_wp2_with fail
  refine (HI.out _ (Ext.alloc _ _)).mono ?_
  rintro e w1 ⟨rfl, hx1⟩
  have HX1 := hid ((Ext.alloc w _).trans hx1)
  clear hx1
  go_wp2_with fail
  go_ret
  exact ⟨rfl, HX1.out⟩
end Go.Proofs.YtaafcmmmkalgjaaGreatDoor
