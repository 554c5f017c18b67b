/-
  Eq of the statements' own, by a contract.
-/
import Derived.Test.YtecabbifkcnbeaaGreatDoorComp
import Derived.Test.YtecabbifkcnbeaaGreatDoorCOf
import Derived.Test.YtecabbifkcnbeaaGreatDoorVal
namespace Go.Proofs.YtecabbifkcnbeaaGreatDoor
open Go.RowKit
namespace T
mutual
def beq : T → T → Bool
  | node k n x ks, node k' n' x' ks' => decide (k = k') && decide (n = n') && decide (x = x') && beqL ks ks'
def beqL : List T → List T → Bool
  | [], [] => true
  | a :: r, b :: q => beq a b && beqL r q
  | _, _ => false
end
end T
theorem T.beqL_iff : ∀ (a b : List T), T.beqL a b = true ↔ a.length = b.length ∧ ∀ j, (h : j < a.length) → (h' : j < b.length) → T.beq a[j] b[j] = true
  | [], [] => by simp [T.beqL]
  | [], _ :: _ => by simp [T.beqL]
  | _ :: _, [] => by simp [T.beqL]
  | x :: r, y :: q => by
    simp only [T.beqL, Bool.and_eq_true, T.beqL_iff r q, List.length_cons]
    constructor
    · rintro ⟨h1, h2, h3⟩
      refine ⟨by omega, fun j h h' => ?_⟩
      cases j with
      | zero => exact h1
      | succ j => exact h3 j (by simpa using h) (by simpa using h')
    · rintro ⟨h1, h2⟩
      exact ⟨h2 0 (by simp) (by simp), by omega, fun j h h' => h2 (j + 1) (by simpa using h) (by simpa using h')⟩
theorem T.beqL_len {a b : List T} (h : a.length ≠ b.length) : T.beqL a b = false := by
  cases e : T.beqL a b with
  | false => rfl
  | true => exact absurd ((T.beqL_iff a b).1 e).1 h
theorem T.beqL_bad {a b : List T} {j : Nat} (h : j < a.length) (h' : j < b.length) (hf : T.beq a[j] b[j] = false) : T.beqL a b = false := by
  cases e : T.beqL a b with
  | false => rfl
  | true => have := ((T.beqL_iff a b).1 e).2 j h h'; rw [hf] at this; cases this
/-- The kids of a list in memory. -/
def RdL (K : Nat → Prop) (w : World) (d : Nat) (a : Option Addr) (ks : List T) : Prop := ks.length * 56 ≤ 140737488351232 ∧
  (ks = [] ∨ ∃ g off, a = some ⟨g, off, none⟩ ∧ K g ∧ ∀ j, (h : j < ks.length) → ∃ u0 u1 u2 u3, Four w g (off + j * 4) u0 u1 u2 u3 ∧ Rd K w d (.agg #[u0, u1, u2, u3]) ks[j])
theorem Rd.kidsL {K : Nat → Prop} {w : World} {d : Nat} {v : Value} {k n : Int} {x : ByteArray} {ks : List T} (h : Rd K w (d + 1) v (.node k n x ks)) :
    ∃ a c, v = .agg #[.int .i64 k, .int .i64 n, .string x, .slice a ks.length c] ∧ RdL K w d a ks := by
  obtain ⟨a, c, h1, h3, h4, h5⟩ := h
  exact ⟨a, c, h1, h4, h5⟩
theorem RdL.kid {K : Nat → Prop} {w : World} {d : Nat} {a : Option Addr} {ks : List T} (h : RdL K w d a ks) {j : Nat} (hj : j < ks.length) :
    ∃ g off k n x a' l c, a = some ⟨g, off, none⟩ ∧ K g ∧ Four w g (off + j * 4) (.int .i64 k) (.int .i64 n) (.string x) (.slice a' l c) ∧ Rd K w d (.agg #[.int .i64 k, .int .i64 n, .string x, .slice a' l c]) ks[j] := by
  rcases h.2 with h0 | ⟨g, off, rfl, hg, hc⟩
  · subst h0; exact absurd hj (Nat.not_lt_zero _)
  · obtain ⟨u0, u1, u2, u3, h4, hr⟩ := hc j hj
    obtain ⟨k, n, x, a', c', rfl, rfl, rfl, rfl⟩ := hr.shape
    exact ⟨g, off, k, n, x, a', _, c', rfl, hg, h4, hr⟩
theorem RdL.keep {K : Nat → Prop} {w w' : World} {d : Nat} {a : Option Addr} {ks : List T} (h : RdL K w d a ks) (hk : Kp K w w') : RdL K w' d a ks :=
  ⟨h.1, h.2.imp id fun ⟨g, off, ha, hg, hc⟩ => ⟨g, off, ha, hg, fun j hj => by
      obtain ⟨u0, u1, u2, u3, hf, hr⟩ := hc j hj
      exact ⟨u0, u1, u2, u3, hf.keep hk hg, Rd.keep hk hr⟩⟩⟩
mutual
theorem T.beq_eq : ∀ (a b : T), T.beq a b = true ↔ a = b
  | .node k n x ks, .node k' n' x' ks' => by simp only [T.beq, Bool.and_eq_true, decide_eq_true_eq, T.beqL_eq ks ks', T.node.injEq, and_assoc]
theorem T.beqL_eq : ∀ (a b : List T), T.beqL a b = true ↔ a = b
  | [], [] => by simp [T.beqL]
  | [], _ :: _ => by simp [T.beqL]
  | _ :: _, [] => by simp [T.beqL]
  | x :: r, y :: q => by simp only [T.beqL, Bool.and_eq_true, T.beq_eq x y, T.beqL_eq r q, List.cons.injEq]
end
def EqTo (d : Nat) : Prop := ∀ (v v' : Value) (t t' : T) (K K' : Nat → Prop) (w : World) (d' : Nat), Rd K w d v t → Rd K' w d' v' t' →
  Calls Tryz.prog 20 #[v, v'] w fun e w' => e = .returned (.bool (T.beq t t')) ∧ Ext w w'
set_option maxRecDepth 100000 in
set_option maxHeartbeats 4000000 in
theorem eq_any : ∀ d, EqTo d := by
  intro d
  induction d with
  | zero => intro v v' t t' K K' w d' h; exact h.elim
  | succ d ih =>
    intro v v' t t' K K' w d' h h'
    obtain ⟨k, n, x, ks⟩ := t
    obtain ⟨k', n', x', ks'⟩ := t'
    cases d' with
    | zero => exact h'.elim
    | succ d' =>
    obtain ⟨a, c, rfl, hl⟩ := h.kidsL
    obtain ⟨a', c', rfl, hl'⟩ := h'.kidsL
    have HA := hid hl
    have HB := hid hl'
    have hz1 : (ks.length : Int) ≤ 140737488355328 := by have := hl.1; omega
    have hz2 : (ks'.length : Int) ≤ 140737488355328 := by have := hl'.1; omega
    have HIH := hid ih
    clear h h' hl hl' ih
    have HR := hid (show T.beq (.node k n x ks) (.node k' n' x' ks') = (decide (k = k') && decide (n = n') && decide (x = x') && T.beqL ks ks') from by simp only [T.beq])
    by_cases q1 : k = k'
    · have HK := hid q1
      have r1 : (k != k') = false := by simpa using q1
      clear q1
      by_cases q2 : n = n'
      · have r2 : (n != n') = false := by simpa using q2
        have HN := hid q2
        clear q2
        by_cases q3 : x.toList = x'.toList
        · have HV := hid (show (decide (k = k') && decide (n = n') && decide (x = x') && T.beqL ks ks') = T.beqL ks ks' by rw [decide_eq_true HK.out, decide_eq_true HN.out, decide_eq_true (toList_inj q3)]; simp)
          by_cases hle : ks.length = ks'.length
          · have r4 : (((ks.length : Int)) != ((ks'.length : Int))) = false := by rw [hle]; simp
            have HLE := hid hle
            clear hle
            go_enter Tryz.func20, Tryz.ntmps20
            go_wp2_with fail
            have HX0 := hid (Ext.alloc2 w (.cells #[.int .i64 k, .int .i64 n, .string x, .slice a ks.length c] 34) (.cells #[.int .i64 k', .int .i64 n', .string x', .slice a' ks'.length c'] 34))
            go_loopw [5] (fun i wr => ∃ j : Nat, j ≤ ks.length ∧ i = .int .i64 j ∧ Ext ((w.alloc (.cells #[.int .i64 k, .int .i64 n, .string x, .slice a ks.length c] 34)).alloc (.cells #[.int .i64 k', .int .i64 n', .string x', .slice a' ks'.length c'] 34)) wr ∧ (∀ i, (h : i < ks.length) → (h' : i < ks'.length) → i < j → T.beq ks[i] ks'[i] = true)) (fun i _ => ks.length - (intOf i).toNat)
            case atStart => exact ⟨0, Nat.zero_le _, rfl, Ext.refl _, fun i _ _ h => absurd h (Nat.not_lt_zero _)⟩
            case round =>
              obtain ⟨j, hj, rfl, hx, hall⟩ := hrel
              have HX := hid hx
              have HALL := hid hall
              clear hx hall
              obtain ⟨p0, p1, p2, p3⟩ := four_of (HX.out.block (blkOld _ (blk0 w _)))
              obtain ⟨s0, s1, s2, s3⟩ := four_of (HX.out.block (blk1 w _ _))
              have HXW := hid (HX0.out.trans HX.out)
              by_cases hlt : j < ks.length
              · have hlt' : (j : Int) < ks.length := by omega
                have hlt2 : j < ks'.length := by rw [← HLE.out]; exact hlt
                have hlt3 : (j : Int) < ks'.length := by omega
                obtain ⟨g, off, k1, n1, x1, b1, l1, c1, rfl, hg, h4, hr⟩ := HA.out.kid hlt
                obtain ⟨g', off', k2, n2, x2, b2, l2, c2, rfl, hg', h4', hr'⟩ := HB.out.kid hlt2
                obtain ⟨m0, m1, m2, m3⟩ := h4.keep (HXW.out.kp K) hg
                obtain ⟨o0, o1, o2, o3⟩ := h4'.keep (HXW.out.kp K') hg'
                have HC := hid (fun w2 (hy : Ext wr w2) => HIH.out _ _ ks[j] ks'[j] K K' w2 d' (hr.later (HXW.out.trans hy)) (hr'.later (HXW.out.trans hy)))
                clear h4 h4' hr hr' hg hg' p0 p1 p2 s0 s1 s2
                generalize hbq : T.beq ks[j] ks'[j] = bq at HC
                have HBQ := hid hbq
                clear hbq
                have HSK := hid (show ∀ W', Ext wr W' → W'.cell? ⟨w.heap.size, 3, none⟩ = some (.slice (some ⟨g, off, none⟩) ks.length c) ∧ W'.cell? ⟨w.heap.size + 1, 3, none⟩ = some (.slice (some ⟨g', off', none⟩) ks'.length c') ∧ W'.cell? ⟨g, off + j * 4, none⟩ = some (.int .i64 k1) ∧ W'.cell? ⟨g, off + j * 4 + 1, none⟩ = some (.int .i64 n1) ∧ W'.cell? ⟨g, off + j * 4 + 2, none⟩ = some (.string x1) ∧ W'.cell? ⟨g, off + j * 4 + 3, none⟩ = some (.slice b1 l1 c1) ∧ W'.cell? ⟨g', off' + j * 4, none⟩ = some (.int .i64 k2) ∧ W'.cell? ⟨g', off' + j * 4 + 1, none⟩ = some (.int .i64 n2) ∧ W'.cell? ⟨g', off' + j * 4 + 2, none⟩ = some (.string x2) ∧ W'.cell? ⟨g', off' + j * 4 + 3, none⟩ = some (.slice b2 l2 c2) from fun W' Y => ⟨(Y.kp (fun _ => True)).cell p3 trivial, (Y.kp (fun _ => True)).cell s3 trivial, (Y.kp (fun _ => True)).cell m0 trivial, (Y.kp (fun _ => True)).cell m1 trivial, (Y.kp (fun _ => True)).cell m2 trivial, (Y.kp (fun _ => True)).cell m3 trivial, (Y.kp (fun _ => True)).cell o0 trivial, (Y.kp (fun _ => True)).cell o1 trivial, (Y.kp (fun _ => True)).cell o2 trivial, (Y.kp (fun _ => True)).cell o3 trivial⟩)
                go_wp2_with fail
                go_cut [52] from 34 (fun s52 wx => s52 = .bool (!bq) ∧ Ext wr wx)
                case first =>
                  go_region_held3 (fun W' => W'.cell? ⟨w.heap.size, 3, none⟩ = some (.slice (some ⟨g, off, none⟩) ks.length c) ∧ W'.cell? ⟨w.heap.size + 1, 3, none⟩ = some (.slice (some ⟨g', off', none⟩) ks'.length c') ∧ W'.cell? ⟨g, off + j * 4, none⟩ = some (.int .i64 k1) ∧ W'.cell? ⟨g, off + j * 4 + 1, none⟩ = some (.int .i64 n1) ∧ W'.cell? ⟨g, off + j * 4 + 2, none⟩ = some (.string x1) ∧ W'.cell? ⟨g, off + j * 4 + 3, none⟩ = some (.slice b1 l1 c1) ∧ W'.cell? ⟨g', off' + j * 4, none⟩ = some (.int .i64 k2) ∧ W'.cell? ⟨g', off' + j * 4 + 1, none⟩ = some (.int .i64 n2) ∧ W'.cell? ⟨g', off' + j * 4 + 2, none⟩ = some (.string x2) ∧ W'.cell? ⟨g', off' + j * 4 + 3, none⟩ = some (.slice b2 l2 c2))
                    (first | exact SK | exact ⟨p3, s3, m0, m1, m2, m3, o0, o1, o2, o3⟩ | go_keep)
                    (first | (go_at_call 20; refine (HC.out _ ((Ext.refl wr).drew)).mono ?_; rintro r w3 ⟨rfl, hy⟩; have Y : Ext wr w3 := Ext.trans ((Ext.refl wr).drew) hy; have SK := HSK.out w3 Y))
                  all_goals
                    go_wp2_with fail
                    go_meet
                    case rel => exact ⟨rfl, Y⟩
                case rest =>
                  obtain ⟨rfl, hy⟩ := hcut
                  have HY := hid (HX.out.trans hy)
                  clear hy p3 s3 m0 m1 m2 m3 o0 o1 o2 o3
                  cases bq with
                  | true =>
                    go_wp2_with fail
                    go_roundw
                    case rel =>
                      have REL : ∃ j' : Nat, j' ≤ ks.length ∧ Value.int .i64 ((j : Int) + 1) = .int .i64 j' ∧ Ext ((w.alloc (.cells #[.int .i64 k, .int .i64 n, .string x, .slice (some ⟨g, off, none⟩) ks.length c] 34)).alloc (.cells #[.int .i64 k', .int .i64 n', .string x', .slice (some ⟨g', off', none⟩) ks'.length c'] 34)) wc ∧ (∀ i, (h : i < ks.length) → (h' : i < ks'.length) → i < j' → T.beq ks[i] ks'[i] = true) :=
                        ⟨j + 1, hlt, by go_num, HY.out, fun i h h' hi => by
                          rcases Nat.lt_or_eq_of_le (Nat.le_of_lt_succ hi) with e | e
                          · exact HALL.out i h h' e
                          · have q := HBQ.out
                            subst e
                            exact q⟩
                      first | exact REL | ((repeat apply Exists.intro); exact ⟨REL, rfl⟩)
                    case measure => simp [intOf]; omega
                  | false =>
                    have HQ := hid (T.beqL_bad hlt hlt2 HBQ.out)
                    go_wp2_with fail
                    go_ret
                    exact ⟨ret_bool (by rw [HR.out, HV.out, HQ.out]), HX0.out.trans HY.out⟩
              · go_wp2_with fail
                go_ret
                exact ⟨ret_bool (by rw [HR.out, HV.out, (T.beqL_iff _ _).2 ⟨HLE.out, fun i h h' => HALL.out i h h' (by omega)⟩]), HXW.out⟩
          · have r4 : (((ks.length : Int)) != ((ks'.length : Int))) = true := by
              have : ¬ ((ks.length : Int)) = ((ks'.length : Int)) := by omega
              simpa using this
            have HNE := hid (T.beqL_len hle)
            clear hle
            go_enter Tryz.func20, Tryz.ntmps20
            go_wp2_with fail
            go_ret
            exact ⟨ret_bool (by rw [HR.out, HV.out, HNE.out]), Ext.alloc2 _ _ _⟩
        · have HV := hid (show (decide (k = k') && decide (n = n') && decide (x = x') && T.beqL ks ks') = false by rw [decide_eq_false (fun e : x = x' => q3 (by rw [e]))]; simp)
          go_enter Tryz.func20, Tryz.ntmps20
          go_wp2_with fail
          go_ret
          exact ⟨ret_bool (by rw [HR.out, HV.out]), Ext.alloc2 _ _ _⟩
      · have r2 : (n != n') = true := by simpa using q2
        have HV := hid (show (decide (k = k') && decide (n = n') && decide (x = x') && T.beqL ks ks') = false by rw [decide_eq_false q2]; simp)
        go_enter Tryz.func20, Tryz.ntmps20
        go_wp2_with fail
        go_ret
        exact ⟨ret_bool (by rw [HR.out, HV.out]), Ext.alloc2 _ _ _⟩
    · have r1 : (k != k') = true := by simpa using q1
      have HV := hid (show (decide (k = k') && decide (n = n') && decide (x = x') && T.beqL ks ks') = false by rw [decide_eq_false q1]; simp)
      go_enter Tryz.func20, Tryz.ntmps20
      go_wp2_with fail
      go_ret
      exact ⟨ret_bool (by rw [HR.out, HV.out]), Ext.alloc2 _ _ _⟩
end Go.Proofs.YtecabbifkcnbeaaGreatDoor
/-
  A list of calls that comes in, opened: of each its operation and its values.
-/
namespace Go.Proofs.YtecabbifkcnbeaaGreatDoor
open Go.ChangeShapes Go.WideShapes Go.ChangeAt Go.RowKit
set_option maxRecDepth 100000
theorem cells_27 : Tryz.prog.cellsOf 27 = 2 := by kernel_rfl
theorem bytes_27 : Tryz.prog.bytesOf 27 = 40 := by kernel_rfl
theorem cells_sl : Tryz.prog.cellsOf 24 = 1 := by kernel_rfl
theorem cells_st : Tryz.prog.cellsOf 9 = 1 := by kernel_rfl
theorem list2 {α : Type} {l : List α} (h : l.length = 2) : ∃ c0 c1, l = [c0, c1] := by
  rcases l with _ | ⟨c0, _ | ⟨c1, _ | ⟨c2, l⟩⟩⟩
  all_goals first
    | exact ⟨_, _, rfl⟩
    | (simp at h; done)
/-- What lies at a place: a call. -/
def CallAt (W : World) (g o : Nat) (op : ByteArray) (la : Option Addr) (lc m : Nat) (ks : List T) : Prop := W.cell? ⟨g, o, none⟩ = some (.string op) ∧ W.cell? ⟨g, o + 1, none⟩ = some (.slice la ks.length lc) ∧ RdL (fun _ => True) W m la ks ∧ (∀ t ∈ ks, t.fitN) ∧ op.size ≤ 140737488351232
/-- A list of them. -/
def CallsIn (W : World) (a : Option Addr) (n : Nat) : Prop := ∀ i, i < n → ∃ g off op la lc m ks, a = some ⟨g, off, none⟩ ∧ CallAt W g (off + i * 2) op la lc m ks
section
variable {H : Type} {enc : TypeId × Value → H} {W : World}
set_option maxHeartbeats 1000000 in
theorem plains_readF {fuel : Nat} {v : Value} {y : DataW H × List MemPlace} (g3 : DataW.trod enc Tryz.prog W 0 (fun _ => true) true fuel 24 [v] = some y)
    (hz : (DataW.weights Tryz.prog 24 y.1).all (· ≤ reachBytes) = true) : ∃ m a c ks, v = .slice a ks.length c ∧ RdL (fun _ => True) W m a ks ∧ ∀ t ∈ ks, t.fitN := by
  rcases DataW.trod_slice Tryz.underlying24 g3 with ⟨h0, _⟩ | ⟨a, len, cap, elems, rest, m, hm, h0, hx, _, hlc, _, hel, hat, _, _⟩
  · simp only [List.cons.injEq, and_true] at h0
    rw [h0]
    exact ⟨0, none, 0, [], rfl, ⟨by decide, .inl rfl⟩, fun t ht => absurd ht (by simp)⟩
  simp only [List.cons.injEq, and_true] at h0
  subst h0
  subst hx
  by_cases hl0 : len = 0
  · subst hl0
    exact ⟨0, some a, cap, [], rfl, ⟨by decide, .inl rfl⟩, fun t ht => absurd ht (by simp)⟩
  simp only [DataW.weights, Tryz.underlying24, List.all_cons, List.all_append, Bool.and_eq_true, List.length_map, bytes_34, reachBytes] at hz
  obtain ⟨z31, z32, _⟩ := hz
  have z30 : (elems.length + rest.length) * 56 ≤ 140737488351232 := of_decide_eq_true z31
  have kid : ∀ i, i < len → ∃ u0 u1 u2 u3, W.cell? (a.add (i * 4)) = some u0 ∧ W.cell? ((a.add (i * 4)).add 1) = some u1 ∧ W.cell? ((a.add (i * 4)).add 2) = some u2 ∧ W.cell? ((a.add (i * 4)).add 3) = some u3 ∧ ∃ t, Rd (fun _ => True) W m (.agg #[u0, u1, u2, u3]) t ∧ t.fitN := fun i hi => by
    have hi' : i < elems.length := by omega
    have h1 := hat i hi
    rw [cells_34, List.getElem?_eq_getElem hi'] at h1
    obtain ⟨cs, hcs, htr⟩ := Option.bind_eq_some_iff.1 h1
    unfold World.cells? at hcs
    rw [if_pos (Nat.zero_le _)] at hcs
    obtain ⟨x0, x1, x2, x3, rfl⟩ := list4 (by simpa using Lib.mapM_length hcs)
    have cell : ∀ (j : Nat) (b : Value), j < 4 → [x0, x1, x2, x3][j]? = some b → W.cell? ((a.add (i * 4)).add j) = some b := fun j b hj hb => by
      obtain ⟨b', h2, h3⟩ := Lib.mapM_at hcs j j (by rw [List.getElem?_range hj])
      rw [hb] at h2
      rw [h3, ← Option.some.inj h2]
    have c0 := cell 0 _ (by decide) rfl
    have ea : ∀ b : Addr, b.add 0 = b := fun b => by simp [Addr.add]
    rw [ea] at c0
    refine ⟨x0, x1, x2, x3, c0, cell 1 _ (by decide) rfl, cell 2 _ (by decide) rfl, cell 3 _ (by decide) rfl, plain_readF m htr (List.all_eq_true.2 fun n hn => ?_)⟩
    exact List.all_eq_true.1 z32 n (weightsAll_mem (List.mem_map.2 ⟨_, List.getElem_mem hi', rfl⟩) hn)
  obtain ⟨g, off, sp⟩ := a
  have hsp : sp = none := by
    obtain ⟨u0, _, _, _, h0, _⟩ := kid 0 (by omega)
    have e0 : Addr.add ⟨g, off, sp⟩ (0 * 4) = ⟨g, off, sp⟩ := by simp [Addr.add]
    rw [e0] at h0
    exact cell_spot h0
  subst hsp
  have ea : ∀ p j, Addr.add ⟨g, p, none⟩ j = ⟨g, p + j, none⟩ := fun p j => by
    by_cases hj : j = 0
    · subst hj; simp [Addr.add]
    · simp [Addr.add, hj]
  simp only [ea] at kid
  obtain ⟨ks, hkl, hks⟩ := ks_of (n := len) (P := fun i t => (∃ u0 u1 u2 u3, Four W g (off + i * 4) u0 u1 u2 u3 ∧ Rd (fun _ => True) W m (.agg #[u0, u1, u2, u3]) t) ∧ t.fitN) (fun i hi => by
    obtain ⟨u0, u1, u2, u3, h0, h1, h2, h3, t, ht, hft⟩ := kid i hi
    exact ⟨t, ⟨u0, u1, u2, u3, ⟨h0, h1, h2, h3⟩, ht⟩, hft⟩)
  refine ⟨m, some ⟨g, off, none⟩, cap, ks, by rw [hkl], ⟨by rw [hkl]; omega, .inr ⟨g, off, rfl, trivial, fun j hj => (hks j hj).1⟩⟩, fun t ht => ?_⟩
  obtain ⟨j, hj, rfl⟩ := List.getElem_of_mem ht
  exact (hks j hj).2
set_option maxHeartbeats 1000000 in
theorem call_read {g o m : Nat} {b0 b1 : Value} {y : DataW H × List MemPlace} (h : DataW.trod enc Tryz.prog W 0 (fun _ => true) true m 27 [b0, b1] = some y)
    (hz : (DataW.weights Tryz.prog 27 y.1).all (· ≤ reachBytes) = true) (hc : ∀ (j : Nat) (b : Value), j < 2 → [b0, b1][j]? = some b → W.cell? ⟨g, o + j, none⟩ = some b) : ∃ op la lc m ks, CallAt W g o op la lc m ks := by
  obtain ⟨ys, k, _, hx, _, hl, hfld⟩ := DataW.trod_struct Tryz.underlying27 h
  obtain ⟨y0, y1, rfl⟩ := list2 (hl.trans rfl)
  have g0 : DataW.trod enc Tryz.prog W 0 (fun _ => true) true k 9 [b0] = some y0 := by have := hfld 0 _ rfl; simpa [cells_st] using this
  have g1 : DataW.trod enc Tryz.prog W 0 (fun _ => true) true k 24 [b1] = some y1 := by have := hfld 1 _ rfl; simpa [cells_sl] using this
  obtain ⟨sx, e0, rfl, _⟩ := DataW.trod_string Tryz.underlying9 g0
  simp only [List.cons.injEq, and_true] at e0
  subst e0
  subst hx
  simp only [List.map_cons, List.map_nil, DataW.weights, Tryz.underlying27, DataW.weightsEach, List.append_nil, List.all_append, Bool.and_eq_true, List.all_cons, List.all_nil, Bool.and_true, decide_eq_true_eq] at hz
  obtain ⟨z1, z2⟩ := hz
  obtain ⟨ml, la, lc, ks, rfl, hL, hfl⟩ := plains_readF g1 z2
  exact ⟨sx, la, lc, ml, ks, hc 0 _ (by decide) rfl, hc 1 _ (by decide) rfl, hL, hfl, text_reach sx z1⟩
theorem calls_open {r : Reach} {b0 : Nat} {v : Value} {d : DataW H} {p : List MemPlace} (hv : Value.okWide Tryz.prog W r b0 22 v) (h : DataW.Trod enc Tryz.prog W 0 (fun _ => true) true 22 v d p)
    (hz : (DataW.weights Tryz.prog 22 d).all (· ≤ reachBytes) = true) : ∃ a n c, v = .slice a n c ∧ CallsIn W a n ∧ n * 40 ≤ 140737488351232 := by
  obtain ⟨a0, n0, c0, rfl⟩ := okWide_slice Tryz.underlying22 hv
  obtain ⟨fuel, hf⟩ := h
  have hf' : DataW.trod enc Tryz.prog W 0 (fun _ => true) true fuel 22 [.slice a0 n0 c0] = some (d, p) := hf
  rcases DataW.trod_slice Tryz.underlying22 hf' with ⟨h0, _⟩ | ⟨a, len, cap, elems, rest, m, _, h0, hx, _, hlc, _, hel, hat, _, _⟩
  · simp only [List.cons.injEq, and_true] at h0
    injection h0 with e1 e2 e3
    subst e1; subst e2; subst e3
    exact ⟨none, 0, 0, rfl, fun i hi => absurd hi (Nat.not_lt_zero _), by omega⟩
  · simp only [List.cons.injEq, and_true] at h0
    injection h0 with e1 e2 e3
    subst e1; subst e2; subst e3
    have hsp : a.spot = none := by
      simp only [Value.okWide, Tryz.underlying22, Cell.okWide, Cell.ok] at hv
      exact hv.2.2.2.1
    obtain ⟨g, off, sp⟩ := a
    have hsp' : sp = none := hsp
    subst hsp'
    simp only [Prod.mk.injEq] at hx
    obtain ⟨rfl, _⟩ := hx
    simp only [DataW.weights, Tryz.underlying22, List.all_cons, List.all_append, Bool.and_eq_true, List.length_map, bytes_27, reachBytes] at hz
    obtain ⟨z1, z2, _⟩ := hz
    have z0 : (elems.length + rest.length) * 40 ≤ 140737488351232 := of_decide_eq_true z1
    have ea : ∀ p j, Addr.add ⟨g, p, none⟩ j = ⟨g, p + j, none⟩ := fun p j => by
      by_cases hj : j = 0
      · subst hj; simp [Addr.add]
      · simp [Addr.add, hj]
    refine ⟨some ⟨g, off, none⟩, n0, c0, rfl, fun i hi => ?_, by omega⟩
    have hi' : i < elems.length := by omega
    have h1 := hat i hi
    rw [cells_27, ea, List.getElem?_eq_getElem hi'] at h1
    obtain ⟨cs, hcs, htr⟩ := Option.bind_eq_some_iff.1 h1
    unfold World.cells? at hcs
    rw [if_pos (Nat.zero_le _)] at hcs
    obtain ⟨x0, x1, rfl⟩ := list2 (by simpa using Lib.mapM_length hcs)
    have hmem : elems[i].1 ∈ elems.map (·.1) := List.mem_map.2 ⟨_, List.getElem_mem hi', rfl⟩
    obtain ⟨op, la, lc, ml, ks, hcall⟩ := call_read (g := g) (o := off + i * 2) htr (List.all_eq_true.2 fun n hn => List.all_eq_true.1 z2 n (weightsAll_mem hmem hn)) (fun j b hj hb => by
      obtain ⟨b', h2, h3⟩ := Lib.mapM_at hcs j j (by rw [List.getElem?_range hj])
      rw [hb] at h2
      rw [ea] at h3
      rw [h3, ← Option.some.inj h2])
    exact ⟨g, off, op, la, lc, ml, ks, rfl, hcall⟩
end
end Go.Proofs.YtecabbifkcnbeaaGreatDoor
