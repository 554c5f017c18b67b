/-
  The document's own join (package espalierref5), by a contract.
-/
import Derived.Test.YtllbelglilkdpaaDoorSRefD
import Derived.Test.YtllbelglilkdpaaDoorSValM
namespace Go.Proofs.YtllbelglilkdpaaDoor
open Go.RowKit
/-- A value's sort as a chain. -/
abbrev chA (a : Nat × Option ByteArray) : Nat × ByteArray := (a.1, a.2.getD yA)
/-- What join comes to, the one with fewer lists first. -/
def jnB (X Y : Nat × ByteArray) : Bool := decide (X = Y) || decide (X.2 = yA) || (decide (Y.2 = yA) && decide (Y.1 ≤ X.1))
def jnC (X Y : Nat × ByteArray) : Nat × ByteArray := if X = Y ∨ X.2 = yA then Y else X
/-- What join answers. -/
def JnR (w : World) (X Y : Nat × ByteArray) (e : Ending) (w' : World) : Prop := e = .returned (.tuple #[.agg #[.int .i64 ((jnC X Y).1 : Int), .string (jnC X Y).2], .bool (jnB X Y)]) ∧ Ext w w'
theorem lit_a (x : ByteArray) : (x.toList == [97]) = decide (x = yA) := by
  rw [lit_eq]
  by_cases h : x = yA
  · rw [decide_eq_true h, h]; rfl
  · rw [decide_eq_false h]
    exact decide_eq_false (fun e => h (data_inj (e.trans rfl)))

set_option maxRecDepth 100000 in
set_option maxHeartbeats 4000000 in
theorem join_low (n m : Nat) (x y : ByteArray) (w : World) (hn : n ≤ 1000) (hm : m ≤ 1000) (hle : n ≤ m) : Calls Tryd.prog 68 #[.agg #[.int .i64 n, .string x], .agg #[.int .i64 m, .string y]] w (JnR w (n, x) (m, y)) := by
  have hn' : (n : Int) ≤ 1000 := by omega
  have hm' : (m : Int) ≤ 1000 := by omega
  have hnm : ¬ (m : Int) < n := by omega
  obtain ⟨M, hM⟩ : ∃ M, ((w.alloc (.cells #[.int .i64 n, .string x] 83)).alloc (.cells #[.int .i64 m, .string y] 83)).alloc (.cells #[.int .i64 0, .string ⟨#[]⟩] 83) = M := ⟨_, rfl⟩
  have HXS := hid (show Ext w M from hM ▸ (Ext.alloc2 _ _ _).trans (Ext.alloc _ _))
  obtain ⟨m0, m1⟩ := two_of (show M.heap[w.heap.size]? = some (.cells #[.int .i64 n, .string x] 83) from hM ▸ blkOld _ (blkOld _ (blk0 _ _)))
  obtain ⟨m2, m3⟩ := two_of (show M.heap[w.heap.size + 1]? = some (.cells #[.int .i64 m, .string y] 83) from hM ▸ blkOld _ (blk1 _ _ _))
  have HRS := hid (show M.heap[w.heap.size + 1 + 1]? = some (.cells #[.int .i64 0, .string ⟨#[]⟩] 83) from hM ▸ blk2 _ _ _ _)
  obtain ⟨r0, r1⟩ := two_of HRS.out
  obtain ⟨r2, r3⟩ := two_free HRS.out
  clear hle
  have hz := str_beq x y
  have hx := lit_a x
  have hy := lit_a y
  by_cases e1 : (n, x) = (m, y)
  case pos =>
    obtain ⟨e2, e3⟩ := Prod.mk.inj e1
    have HE := hid e1
    have q1 : ((n : Int) == (m : Int)) = true := by rw [beq_iff_eq]; omega
    rw [decide_eq_true e3] at hz
    clear e1 e2 e3 hx hy
    go_enter Tryd.func68, Tryd.ntmps68
    go_wp2_with fail
    obtain ⟨z0, z1⟩ := two_of (two_set (u0 := .int .i64 (m : Int)) (u1 := .string y) HRS.out)
    refine bodyPost_ret (v := .tuple #[.agg #[.int .i64 (m : Int), .string y], .bool true]) (by simp [results, Tryd.results68, go_sem, z0, z1]) rfl ?_
    refine ⟨?_, Kp.extOf HXS.out (Kp.set2 _ (w.heap.size + 1 + 1) 0 _ _) (by omega)⟩
    rw [show jnC (n, x) (m, y) = (m, y) from if_pos (.inl HE.out), show jnB (n, x) (m, y) = true from by unfold jnB; rw [decide_eq_true HE.out]; rfl]
  case neg =>
    have HE := hid e1
    obtain ⟨b1, b2, q1, q2, q3⟩ : ∃ b1 b2, ((n : Int) == (m : Int)) = b1 ∧ (x.toList == y.toList) = b2 ∧ (b1 && b2) = false := ⟨_, _, rfl, rfl, by rw [sh_beq]; exact decide_eq_false e1⟩
    clear hz
    by_cases e4 : x = yA
    case pos =>
      have HA := hid e4
      rw [decide_eq_true e4] at hx
      clear e1 e4 hy
      cases b1 <;> cases b2 <;> first | (cases q3; done) | skip
      all_goals
        go_enter Tryd.func68, Tryd.ntmps68
        go_wp2_with fail
        obtain ⟨z0, z1⟩ := two_of (two_set (u0 := .int .i64 (m : Int)) (u1 := .string y) HRS.out)
        refine bodyPost_ret (v := .tuple #[.agg #[.int .i64 (m : Int), .string y], .bool true]) (by simp [results, Tryd.results68, go_sem, z0, z1]) rfl ?_
        refine ⟨?_, Kp.extOf HXS.out (Kp.set2 _ (w.heap.size + 1 + 1) 0 _ _) (by omega)⟩
        rw [show jnC (n, x) (m, y) = (m, y) from if_pos (.inr HA.out), show jnB (n, x) (m, y) = true from by unfold jnB; rw [decide_eq_true HA.out]; simp]
    case neg =>
      have HA := hid e4
      rw [decide_eq_false e4] at hx
      by_cases e5 : y = yA ∧ m ≤ n
      case pos =>
        have HB := hid e5
        rw [decide_eq_true e5.1] at hy
        have hle : (m : Int) ≤ n := by have := e5.2; omega
        clear e1 e4 e5
        cases b1 <;> cases b2 <;> first | (cases q3; done) | skip
        all_goals
          go_enter Tryd.func68, Tryd.ntmps68
          go_wp2_with fail
          obtain ⟨z0, z1⟩ := two_of (two_set (u0 := .int .i64 (n : Int)) (u1 := .string x) HRS.out)
          refine bodyPost_ret (v := .tuple #[.agg #[.int .i64 (n : Int), .string x], .bool true]) (by simp [results, Tryd.results68, go_sem, z0, z1]) rfl ?_
          refine ⟨?_, Kp.extOf HXS.out (Kp.set2 _ (w.heap.size + 1 + 1) 0 _ _) (by omega)⟩
          rw [show jnC (n, x) (m, y) = (n, x) from if_neg (fun h => h.elim HE.out HA.out), show jnB (n, x) (m, y) = true from by unfold jnB; rw [decide_eq_true HB.out.1, decide_eq_true HB.out.2]; simp]
      case neg =>
        have HB := hid e5
        by_cases e6 : y = yA
        case pos =>
          rw [decide_eq_true e6] at hy
          have hle : ¬ (m : Int) ≤ n := fun h => HB.out ⟨e6, by omega⟩
          clear e1 e4 e5 e6
          cases b1 <;> cases b2 <;> first | (cases q3; done) | skip
          all_goals
            go_enter Tryd.func68, Tryd.ntmps68
            go_wp2_with fail
            obtain ⟨z0, z1⟩ := two_of (two_set (u0 := .int .i64 (n : Int)) (u1 := .string x) HRS.out)
            refine bodyPost_ret (v := .tuple #[.agg #[.int .i64 (n : Int), .string x], .bool false]) (by simp [results, Tryd.results68, go_sem, z0, z1]) rfl ?_
            refine ⟨?_, Kp.extOf HXS.out (Kp.set2 _ (w.heap.size + 1 + 1) 0 _ _) (by omega)⟩
            rw [show jnC (n, x) (m, y) = (n, x) from if_neg (fun h => h.elim HE.out HA.out), show jnB (n, x) (m, y) = false from by unfold jnB; rw [decide_eq_false HE.out, decide_eq_false HA.out]; simp only [Bool.or_false, Bool.false_or]; rw [← Bool.decide_and]; exact decide_eq_false HB.out]
        case neg =>
          rw [decide_eq_false e6] at hy
          clear e1 e4 e5 e6
          cases b1 <;> cases b2 <;> first | (cases q3; done) | skip
          all_goals
            go_enter Tryd.func68, Tryd.ntmps68
            go_wp2_with fail
            obtain ⟨z0, z1⟩ := two_of (two_set (u0 := .int .i64 (n : Int)) (u1 := .string x) HRS.out)
            refine bodyPost_ret (v := .tuple #[.agg #[.int .i64 (n : Int), .string x], .bool false]) (by simp [results, Tryd.results68, go_sem, z0, z1]) rfl ?_
            refine ⟨?_, Kp.extOf HXS.out (Kp.set2 _ (w.heap.size + 1 + 1) 0 _ _) (by omega)⟩
            rw [show jnC (n, x) (m, y) = (n, x) from if_neg (fun h => h.elim HE.out HA.out), show jnB (n, x) (m, y) = false from by unfold jnB; rw [decide_eq_false HE.out, decide_eq_false HA.out]; simp only [Bool.or_false, Bool.false_or]; rw [← Bool.decide_and]; exact decide_eq_false HB.out]
set_option maxRecDepth 100000 in
set_option maxHeartbeats 4000000 in
theorem join_high (n m : Nat) (x y : ByteArray) (w : World) (hn : n ≤ 1000) (hm : m ≤ 1000) (hlt : m < n) : Calls Tryd.prog 68 #[.agg #[.int .i64 n, .string x], .agg #[.int .i64 m, .string y]] w (JnR w (m, y) (n, x)) := by
  have hn' : (n : Int) ≤ 1000 := by omega
  have hm' : (m : Int) ≤ 1000 := by omega
  have hnm : (m : Int) < n := by omega
  obtain ⟨M, hM⟩ : ∃ M, ((w.alloc (.cells #[.int .i64 n, .string x] 83)).alloc (.cells #[.int .i64 m, .string y] 83)).alloc (.cells #[.int .i64 0, .string ⟨#[]⟩] 83) = M := ⟨_, rfl⟩
  have XM := hid (show Ext w M from hM ▸ (Ext.alloc2 _ _ _).trans (Ext.alloc _ _))
  have HM0 := hid (show M.heap[w.heap.size]? = some (.cells #[.int .i64 n, .string x] 83) from hM ▸ blkOld _ (blkOld _ (blk0 _ _)))
  have HM1 := hid (show M.heap[w.heap.size + 1]? = some (.cells #[.int .i64 m, .string y] 83) from hM ▸ blkOld _ (blk1 _ _ _))
  have HM2 := hid (show M.heap[w.heap.size + 1 + 1]? = some (.cells #[.int .i64 0, .string ⟨#[]⟩] 83) from hM ▸ blk2 _ _ _ _)
  obtain ⟨m0, m1⟩ := two_of HM0.out
  obtain ⟨m2, m3⟩ := two_of HM1.out
  obtain ⟨f0, f1⟩ := two_free HM0.out
  obtain ⟨M1, hM1⟩ : ∃ V, (M.setCell ⟨w.heap.size, 0, none⟩ (.int .i64 m)).setCell ⟨w.heap.size, 1, none⟩ (.string y) = V := ⟨_, rfl⟩
  have K1 := hid (show Kp (· ≠ w.heap.size) M M1 from hM1 ▸ Kp.set2 M w.heap.size 0 (.int .i64 m) (.string y))
  have H10 := hid (show M1.heap[w.heap.size]? = some (.cells #[.int .i64 m, .string y] 83) from hM1 ▸ two_set HM0.out)
  have H11 := hid (K1.out.block' HM1.out (by omega))
  have H12 := hid (K1.out.block' HM2.out (by omega))
  obtain ⟨f2, f3⟩ := two_free H11.out
  obtain ⟨g2, g3⟩ := two_of H11.out
  obtain ⟨U, hU⟩ : ∃ V, (M1.setCell ⟨w.heap.size + 1, 0, none⟩ (.int .i64 n)).setCell ⟨w.heap.size + 1, 1, none⟩ (.string x) = V := ⟨_, rfl⟩
  have K2' := hid (show Kp (· ≠ w.heap.size + 1) M1 U from hU ▸ Kp.set2 M1 (w.heap.size + 1) 0 (.int .i64 n) (.string x))
  have H20 := hid (K2'.out.block' H10.out (by omega))
  have H21 := hid (show U.heap[w.heap.size + 1]? = some (.cells #[.int .i64 n, .string x] 83) from hU ▸ two_set H11.out)
  have HRS := hid (K2'.out.block' H12.out (by omega))
  have HXS := hid (show Ext w U from Kp.extOf (Kp.extOf XM.out K1.out (Nat.le_refl _)) K2'.out (by omega))
  obtain ⟨u0, u1⟩ := two_of H20.out
  obtain ⟨u2, u3⟩ := two_of H21.out
  obtain ⟨r0, r1⟩ := two_of HRS.out
  obtain ⟨r2, r3⟩ := two_free HRS.out
  clear hlt
  have hz := str_beq y x
  have hx := lit_a y
  have hy := lit_a x
  by_cases e1 : (m, y) = (n, x)
  case pos =>
    obtain ⟨e2, e3⟩ := Prod.mk.inj e1
    have HE := hid e1
    have q1 : ((m : Int) == (n : Int)) = true := by rw [beq_iff_eq]; omega
    rw [decide_eq_true e3] at hz
    clear e1 e2 e3 hx hy
    go_enter Tryd.func68, Tryd.ntmps68
    go_wp2_with fail
    obtain ⟨z0, z1⟩ := two_of (two_set (u0 := .int .i64 (n : Int)) (u1 := .string x) HRS.out)
    refine bodyPost_ret (v := .tuple #[.agg #[.int .i64 (n : Int), .string x], .bool true]) (by simp [results, Tryd.results68, go_sem, z0, z1]) rfl ?_
    refine ⟨?_, Kp.extOf HXS.out (Kp.set2 _ (w.heap.size + 1 + 1) 0 _ _) (by omega)⟩
    rw [show jnC (m, y) (n, x) = (n, x) from if_pos (.inl HE.out), show jnB (m, y) (n, x) = true from by unfold jnB; rw [decide_eq_true HE.out]; rfl]
  case neg =>
    have HE := hid e1
    obtain ⟨b1, b2, q1, q2, q3⟩ : ∃ b1 b2, ((m : Int) == (n : Int)) = b1 ∧ (y.toList == x.toList) = b2 ∧ (b1 && b2) = false := ⟨_, _, rfl, rfl, by rw [sh_beq]; exact decide_eq_false e1⟩
    clear hz
    by_cases e4 : y = yA
    case pos =>
      have HA := hid e4
      rw [decide_eq_true e4] at hx
      clear e1 e4 hy
      cases b1 <;> cases b2 <;> first | (cases q3; done) | skip
      all_goals
        go_enter Tryd.func68, Tryd.ntmps68
        go_wp2_with fail
        obtain ⟨z0, z1⟩ := two_of (two_set (u0 := .int .i64 (n : Int)) (u1 := .string x) HRS.out)
        refine bodyPost_ret (v := .tuple #[.agg #[.int .i64 (n : Int), .string x], .bool true]) (by simp [results, Tryd.results68, go_sem, z0, z1]) rfl ?_
        refine ⟨?_, Kp.extOf HXS.out (Kp.set2 _ (w.heap.size + 1 + 1) 0 _ _) (by omega)⟩
        rw [show jnC (m, y) (n, x) = (n, x) from if_pos (.inr HA.out), show jnB (m, y) (n, x) = true from by unfold jnB; rw [decide_eq_true HA.out]; simp]
    case neg =>
      have HA := hid e4
      rw [decide_eq_false e4] at hx
      by_cases e5 : x = yA ∧ n ≤ m
      case pos =>
        exact absurd e5.2 (by omega)
      case neg =>
        have HB := hid e5
        by_cases e6 : x = yA
        case pos =>
          rw [decide_eq_true e6] at hy
          have hle : ¬ (n : Int) ≤ m := fun h => HB.out ⟨e6, by omega⟩
          clear e1 e4 e5 e6
          cases b1 <;> cases b2 <;> first | (cases q3; done) | skip
          all_goals
            go_enter Tryd.func68, Tryd.ntmps68
            go_wp2_with fail
            obtain ⟨z0, z1⟩ := two_of (two_set (u0 := .int .i64 (m : Int)) (u1 := .string y) HRS.out)
            refine bodyPost_ret (v := .tuple #[.agg #[.int .i64 (m : Int), .string y], .bool false]) (by simp [results, Tryd.results68, go_sem, z0, z1]) rfl ?_
            refine ⟨?_, Kp.extOf HXS.out (Kp.set2 _ (w.heap.size + 1 + 1) 0 _ _) (by omega)⟩
            rw [show jnC (m, y) (n, x) = (m, y) from if_neg (fun h => h.elim HE.out HA.out), show jnB (m, y) (n, x) = false from by unfold jnB; rw [decide_eq_false HE.out, decide_eq_false HA.out]; simp only [Bool.or_false, Bool.false_or]; rw [← Bool.decide_and]; exact decide_eq_false HB.out]
        case neg =>
          rw [decide_eq_false e6] at hy
          clear e1 e4 e5 e6
          cases b1 <;> cases b2 <;> first | (cases q3; done) | skip
          all_goals
            go_enter Tryd.func68, Tryd.ntmps68
            go_wp2_with fail
            obtain ⟨z0, z1⟩ := two_of (two_set (u0 := .int .i64 (m : Int)) (u1 := .string y) HRS.out)
            refine bodyPost_ret (v := .tuple #[.agg #[.int .i64 (m : Int), .string y], .bool false]) (by simp [results, Tryd.results68, go_sem, z0, z1]) rfl ?_
            refine ⟨?_, Kp.extOf HXS.out (Kp.set2 _ (w.heap.size + 1 + 1) 0 _ _) (by omega)⟩
            rw [show jnC (m, y) (n, x) = (m, y) from if_neg (fun h => h.elim HE.out HA.out), show jnB (m, y) (n, x) = false from by unfold jnB; rw [decide_eq_false HE.out, decide_eq_false HA.out]; simp only [Bool.or_false, Bool.false_or]; rw [← Bool.decide_and]; exact decide_eq_false HB.out]
end Go.Proofs.YtllbelglilkdpaaDoor
/-
  The document's own of (package espalierref5), by a contract: the sort of a value.
-/
namespace Go.Proofs.YtllbelglilkdpaaDoor
open Go.RowKit
theorem get_a {g : Option ByteArray} (hg : ∀ y, g = some y → grdL y.data.toList = true) : (g.getD yA = yA ↔ g = none) := by
  cases g with
  | none => simp
  | some z => exact ⟨fun e => absurd e (grd_ne (hg z rfl) vA), fun e => by cases e⟩
/-- join is bringing two sorts of values together. -/
theorem jn_low {a b : Nat × Option ByteArray} (ha : ∀ y, a.2 = some y → grdL y.data.toList = true) (hb : ∀ y, b.2 = some y → grdL y.data.toList = true) (hle : a.1 ≤ b.1) : jnB (chA a) (chA b) = (uniA a b).isSome ∧ ∀ c, uniA a b = some c → jnC (chA a) (chA b) = chA c := by
  obtain ⟨n, g⟩ := a
  obtain ⟨m, h⟩ := b
  have hle' : n ≤ m := hle
  cases g with
  | none =>
    have hC : jnC (chA (n, none)) (chA (m, h)) = chA (m, h) := if_pos (.inr rfl)
    have hB : jnB (chA (n, none)) (chA (m, h)) = true := by
      unfold jnB
      rw [decide_eq_true (show (chA (n, none)).2 = yA from rfl)]
      simp
    rw [hC, hB]
    cases h with
    | none =>
      refine ⟨rfl, fun c hc => ?_⟩
      have h' : some (max n m, none) = some c := hc
      rw [← Option.some.inj h', show max n m = m by omega]
    | some z =>
      have e : uniA (n, none) (m, some z) = some (m, some z) := if_pos hle'
      rw [e]
      exact ⟨rfl, fun c hc => by rw [← Option.some.inj hc]⟩
  | some y =>
    have hya : y ≠ yA := grd_ne (ha y rfl) vA
    cases h with
    | none =>
      have hne : ¬ chA (n, some y) = chA (m, none) := fun e => hya (Prod.mk.inj e).2
      have hC : jnC (chA (n, some y)) (chA (m, none)) = chA (n, some y) := if_neg (fun h => h.elim hne hya)
      have hB : jnB (chA (n, some y)) (chA (m, none)) = decide (m ≤ n) := by
        unfold jnB
        rw [decide_eq_false hne, decide_eq_false (show ¬ (chA (n, some y)).2 = yA from hya), decide_eq_true (show (chA (m, none)).2 = yA from rfl)]
        simp
      rw [hC, hB]
      by_cases h : m ≤ n
      · have e : uniA (n, some y) (m, none) = some (n, some y) := if_pos h
        rw [e, decide_eq_true h]
        exact ⟨rfl, fun c hc => by rw [← Option.some.inj hc]⟩
      · have e : uniA (n, some y) (m, none) = none := if_neg h
        rw [e, decide_eq_false h]
        exact ⟨rfl, fun c hc => by cases hc⟩
    | some z =>
      have hza : z ≠ yA := grd_ne (hb z rfl) vA
      by_cases h : n = m ∧ y = z
      · obtain ⟨rfl, rfl⟩ := h
        have e : uniA (n, some y) (n, some y) = some (n, some y) := if_pos ⟨rfl, rfl⟩
        rw [e]
        refine ⟨?_, fun c hc => ?_⟩
        · unfold jnB; simp
        · rw [← Option.some.inj hc]; exact if_pos (.inl rfl)
      · have e : uniA (n, some y) (m, some z) = none := if_neg h
        rw [e]
        have hne : ¬ chA (n, some y) = chA (m, some z) := fun e => h ⟨(Prod.mk.inj e).1, (Prod.mk.inj e).2⟩
        refine ⟨?_, fun c hc => by cases hc⟩
        unfold jnB
        rw [decide_eq_false hne, decide_eq_false (show ¬ (chA (n, some y)).2 = yA from hya), decide_eq_false (show ¬ (chA (m, some z)).2 = yA from hza)]
        rfl
theorem uniA_comm (a b : Nat × Option ByteArray) : uniA a b = uniA b a := by
  obtain ⟨n, g⟩ := a
  obtain ⟨m, h⟩ := b
  cases g with
  | none =>
    cases h with
    | none => show some (max n m, none) = some (max m n, none); rw [Nat.max_comm]
    | some z => rfl
  | some y =>
    cases h with
    | none => rfl
    | some z =>
      show (if n = m ∧ y = z then some (n, some y) else none) = (if m = n ∧ z = y then some (m, some z) else none)
      by_cases h : n = m ∧ y = z
      · rw [if_pos h, if_pos ⟨h.1.symm, h.2.symm⟩, h.1, h.2]
      · rw [if_neg h, if_neg (fun h' => h ⟨h'.1.symm, h'.2.symm⟩)]
/-- What join answers, by the sorts. -/
def JR (w : World) (o : Option (Nat × Option ByteArray)) (e : Ending) (w' : World) : Prop := ∃ (n : Nat) (x : ByteArray), e = .returned (.tuple #[.agg #[.int .i64 (n : Int), .string x], .bool o.isSome]) ∧ Ext w w' ∧ ∀ c, o = some c → n = c.1 ∧ x = c.2.getD yA
theorem join_any {a b : Nat × Option ByteArray} (ha : ∀ y, a.2 = some y → grdL y.data.toList = true) (hb : ∀ y, b.2 = some y → grdL y.data.toList = true) (w : World) (hn : a.1 ≤ 1000) (hm : b.1 ≤ 1000) : Calls Tryd.prog 68 #[.agg #[.int .i64 (a.1 : Int), .string (a.2.getD yA)], .agg #[.int .i64 (b.1 : Int), .string (b.2.getD yA)]] w (JR w (uniA a b)) := by
  by_cases h : a.1 ≤ b.1
  · refine (join_low a.1 b.1 _ _ w hn hm h).mono ?_
    rintro e w' ⟨rfl, hx⟩
    obtain ⟨h1, h2⟩ := jn_low ha hb h
    refine ⟨_, _, by rw [← h1], hx, fun c hc => ?_⟩
    rw [h2 c hc]
    exact ⟨rfl, rfl⟩
  · refine (join_high a.1 b.1 _ _ w hn hm (by omega)).mono ?_
    rintro e w' ⟨rfl, hx⟩
    obtain ⟨h1, h2⟩ := jn_low hb ha (by omega)
    rw [uniA_comm a b]
    refine ⟨_, _, by rw [← h1], hx, fun c hc => ?_⟩
    rw [h2 c hc]
    exact ⟨rfl, rfl⟩
end Go.Proofs.YtllbelglilkdpaaDoor
/-
  The document's own of (package espalierref5), by a contract: the sort of a value.
-/
namespace Go.Proofs.YtllbelglilkdpaaDoor
open Go.RowKit
theorem rof_leaf1 (n : Int) (x : ByteArray) (a : Option Addr) (kl c : Nat) (w : World) : Calls Tryd.prog 49 #[.agg #[.int .i64 1, .int .i64 n, .string x, .slice a kl c]] w fun e w' => e = .returned (.tuple #[.agg #[.int .i64 0, .string ⟨#[117, 110, 105, 116]⟩], .bool true]) ∧ Ext w w' := by
  go_enter Tryd.func49, Tryd.ntmps49
  go_wp2_with fail
  refine bodyPost_ret (v := .tuple #[.agg #[.int .i64 0, .string ⟨#[117, 110, 105, 116]⟩], .bool true]) (by simp [results, Tryd.results49, go_sem]) rfl ?_
  exact ⟨rfl, Ext.alloc2 _ _ _⟩
theorem rof_leaf2 (n : Int) (x : ByteArray) (a : Option Addr) (kl c : Nat) (w : World) : Calls Tryd.prog 49 #[.agg #[.int .i64 2, .int .i64 n, .string x, .slice a kl c]] w fun e w' => e = .returned (.tuple #[.agg #[.int .i64 0, .string ⟨#[116, 114, 117, 116, 104]⟩], .bool true]) ∧ Ext w w' := by
  go_enter Tryd.func49, Tryd.ntmps49
  go_wp2_with fail
  refine bodyPost_ret (v := .tuple #[.agg #[.int .i64 0, .string ⟨#[116, 114, 117, 116, 104]⟩], .bool true]) (by simp [results, Tryd.results49, go_sem]) rfl ?_
  exact ⟨rfl, Ext.alloc2 _ _ _⟩
theorem rof_leaf3 (n : Int) (x : ByteArray) (a : Option Addr) (kl c : Nat) (w : World) : Calls Tryd.prog 49 #[.agg #[.int .i64 3, .int .i64 n, .string x, .slice a kl c]] w fun e w' => e = .returned (.tuple #[.agg #[.int .i64 0, .string ⟨#[105, 110, 116]⟩], .bool true]) ∧ Ext w w' := by
  go_enter Tryd.func49, Tryd.ntmps49
  go_wp2_with fail
  refine bodyPost_ret (v := .tuple #[.agg #[.int .i64 0, .string ⟨#[105, 110, 116]⟩], .bool true]) (by simp [results, Tryd.results49, go_sem]) rfl ?_
  exact ⟨rfl, Ext.alloc2 _ _ _⟩
theorem rof_leaf4 (n : Int) (x : ByteArray) (a : Option Addr) (kl c : Nat) (w : World) : Calls Tryd.prog 49 #[.agg #[.int .i64 4, .int .i64 n, .string x, .slice a kl c]] w fun e w' => e = .returned (.tuple #[.agg #[.int .i64 0, .string ⟨#[116, 101, 120, 116]⟩], .bool true]) ∧ Ext w w' := by
  go_enter Tryd.func49, Tryd.ntmps49
  go_wp2_with fail
  refine bodyPost_ret (v := .tuple #[.agg #[.int .i64 0, .string ⟨#[116, 101, 120, 116]⟩], .bool true]) (by simp [results, Tryd.results49, go_sem]) rfl ?_
  exact ⟨rfl, Ext.alloc2 _ _ _⟩
/-- As far as the loop has come. -/
def RoI (B : Nat) (ks : List T) (j : Nat) (wr : World) : Prop := ∃ acc : Nat × Option ByteArray, srtL (0, none) (ks.take j) = some acc ∧ wr.heap[B]? = some (.cells #[.int .i64 (acc.1 : Int), .string (acc.2.getD yA)] 83)
set_option maxRecDepth 100000 in
set_option maxHeartbeats 4000000 in
theorem rof_any : ∀ (d : Nat) (v : Value) (t : T) (K : Nat → Prop) (w : World), Rd K w d v t → t.good → t.deep ≤ 64 → Calls Tryd.prog 49 #[v] w (JR w (srt t)) := by
  intro d
  induction d with
  | zero => intro v t K w h; exact h.elim
  | succ d ih =>
    intro v t K w hr hgd hdp
    have HRL := hid hr.low
    obtain ⟨k, n, x, ks⟩ := t
    obtain ⟨a, c, rfl, hx, hlen, hks⟩ := hr
    by_cases hk : k = 5
    case neg =>
      have hs : srt (.node k n x ks) = some (0, some (nameB k)) := by rw [srt, if_neg hk]
      rw [hs]
      unfold T.good at hgd
      have hw : T.wfP k n x.size ks.length := hgd.1
      have fin : ∀ y, nameB k = y → ∀ e w', (e = .returned (.tuple #[.agg #[.int .i64 0, .string y], .bool true]) ∧ Ext w w') → JR w (some (0, some (nameB k))) e w' := fun y hy e w' hr => ⟨0, y, hr.1, hr.2, fun c hc => by rw [← Option.some.inj hc, hy]; exact ⟨rfl, rfl⟩⟩
      rcases hw with ⟨h1, _⟩ | ⟨h1, _⟩ | ⟨h1, _⟩ | ⟨h1, _⟩ | ⟨h1, _⟩
      · subst h1; exact (rof_leaf1 n x a _ c w).mono fun e w' hr => fin _ rfl e w' hr
      · subst h1; exact (rof_leaf2 n x a _ c w).mono fun e w' hr => fin _ rfl e w' hr
      · subst h1; exact (rof_leaf3 n x a _ c w).mono fun e w' hr => fin _ rfl e w' hr
      · subst h1; exact (rof_leaf4 n x a _ c w).mono fun e w' hr => fin _ rfl e w' hr
      · exact absurd h1 hk
    case pos =>
    subst hk
    have HKS := hid hks
    have HIH := hid ih
    have HGL := hid (show T.goodL ks by unfold T.good at hgd; exact hgd.2)
    have HD := hid (show 1 + T.deepL ks ≤ 64 by have h1 := hdp; rw [T.deep, if_pos rfl] at h1; exact h1)
    have hlen' : (ks.length : Int) ≤ 140737488351232 := by omega
    obtain ⟨kl, hkl⟩ : ∃ kl, ks.length = kl := ⟨_, rfl⟩
    rw [hkl] at hlen' ⊢
    have HKL := hid hkl
    have HST := hid (show srt (.node 5 n x ks) = (srtL (0, none) ks).map (fun a => (a.1 + 1, a.2)) by rw [srt, if_pos rfl])
    clear hgd hdp hks ih hlen hx hkl HRL
    obtain ⟨R, hR⟩ : ∃ R, srt (.node 5 n x ks) = R := ⟨_, rfl⟩
    rw [hR]
    have HR := hid hR
    clear hR
    obtain ⟨M, hM⟩ : ∃ M, ((w.alloc (.cells #[.int .i64 5, .int .i64 n, .string x, .slice a kl c] 31)).alloc (.cells #[.int .i64 0, .string ⟨#[]⟩] 83)).alloc (.cells #[.int .i64 0, .string ⟨#[97]⟩] 83) = M := ⟨_, rfl⟩
    have XM := hid (show Ext w M from hM ▸ (Ext.alloc2 _ _ _).trans (Ext.alloc _ _))
    have HM0 := hid (show M.heap[w.heap.size]? = some (.cells #[.int .i64 5, .int .i64 n, .string x, .slice a kl c] 31) from hM ▸ blkOld _ (blkOld _ (blk0 _ _)))
    have HM1 := hid (show M.heap[w.heap.size + 1]? = some (.cells #[.int .i64 0, .string ⟨#[]⟩] 83) from hM ▸ blkOld _ (blk1 _ _ _))
    have HM2 := hid (show M.heap[w.heap.size + 1 + 1]? = some (.cells #[.int .i64 0, .string ⟨#[97]⟩] 83) from hM ▸ blk2 _ _ _ _)
    go_enter Tryd.func49, Tryd.ntmps49
    go_wp2_with fail
    clear hM
    go_loopw [5] (fun i wr => ∃ j : Nat, j ≤ kl ∧ i = .int .i64 j ∧ Kp (· ≠ w.heap.size + 1 + 1) M wr ∧ RoI (w.heap.size + 1 + 1) ks j wr) (fun i _ => kl - (intOf i).toNat)
    case atStart => exact ⟨0, Nat.zero_le _, rfl, Kp.refl _ _, (0, none), by rw [List.take_zero, srtL], HM2.out⟩
    case round =>
      obtain ⟨j, hj, rfl, hkr, acc, hsr, hcb⟩ := hrel
      have HKR := hid hkr
      have HSR := hid hsr
      have HCB := hid hcb
      have HXR := hid (Kp.extOf XM.out hkr (by omega))
      have HB0 := hid (hkr.block' HM0.out (by omega))
      have HB1 := hid (hkr.block' HM1.out (by omega))
      have HOK := hid (srtL_ok (ks.take j) (0, none) acc (T.deepL ks) ⟨Nat.zero_le _, fun g hg => by cases hg⟩ (deep_pre ks j) hsr)
      obtain ⟨an, ag⟩ := acc
      obtain ⟨az, haz⟩ : ∃ az, ag.getD yA = az := ⟨_, rfl⟩
      have HCB' := hid (show wr.heap[w.heap.size + 1 + 1]? = some (.cells #[.int .i64 (an : Int), .string az] 83) from haz ▸ HCB.out)
      have HAZ := hid haz
      have hanb : (an : Int) ≤ 64 := by have h1 : an ≤ T.deepL ks := HOK.out.1; have h2 := HD.out; omega
      clear hkr hsr hcb haz HCB
      have b3 := cell_of (i := 3) HB0.out rfl
      simp only [List.getElem_toArray, List.getElem_cons_zero, List.getElem_cons_succ] at b3
      obtain ⟨c0, c1⟩ := two_of HCB'.out
      obtain ⟨c2, c3⟩ := two_free HCB'.out
      obtain ⟨r0, r1⟩ := two_of HB1.out
      obtain ⟨r2, r3⟩ := two_free HB1.out
      by_cases hlt : j < kl
      · have hlt' : (j : Int) < kl := by omega
        have hjl : j < ks.length := by have := HKL.out; omega
        rcases HKS.out with h0 | ⟨g, off, rfl, hg, hc⟩
        · rw [h0] at hjl; exact absurd hjl (Nat.not_lt_zero _)
        obtain ⟨u0, u1, u2, u3, h4, hrd⟩ := hc j hjl
        obtain ⟨k', n', x', a', c', rfl, rfl, rfl, rfl⟩ := hrd.shape
        have HRK := hid hrd
        have HNX := hid (srtL_next hjl HSR.out)
        have HGJ := hid (T.goodL_mem HGL.out (List.getElem_mem hjl))
        have HDK := hid (deep_kid ks j hjl)
        obtain ⟨p0, p1, p2, p3⟩ := h4.keep (HXR.out.kp K) hg
        generalize ks[j] = tj at *
        generalize tj.kids.length = kj at *
        clear h4 hrd hc hg hjl
        have C2 := hid (HIH.out _ tj K wr (HRK.out.later HXR.out) HGJ.out (by have h1 := HD.out; have h2 := HDK.out; omega))
        have HBAD := hid (show srtL (0, none) (ks.take (j + 1)) = none → R = none from fun h => by rw [← HR.out]; exact srt_bad (n := n) (x := x) rfl h)
        go_wp2_with fail
        clear p0 p1 p2 p3
        go_at_call 49
        refine C2.out.mono ?_
        rintro e w5 ⟨dn, dz, rfl, hx5, hdc⟩
        have X5 := hid hx5
        have HDC := hid hdc
        clear hx5 hdc b3 c0 c1 c2 c3 r0 r1 r2 r3
        obtain ⟨V5, hV5⟩ : ∃ V, w5.alloc (.cells #[.int .i64 (dn : Int), .string dz] 83) = V := ⟨_, rfl⟩
        have Y5 := hid (show Ext wr V5 from hV5 ▸ X5.out.trans (Ext.alloc _ _))
        have HDB := hid (show V5.heap[w5.heap.size]? = some (.cells #[.int .i64 (dn : Int), .string dz] 83) from hV5 ▸ blk0 _ _)
        have HC5 := hid (Y5.out.block HCB'.out)
        have HR5 := hid (Y5.out.block HB1.out)
        obtain ⟨c0, c1⟩ := two_of HC5.out
        obtain ⟨c2, c3⟩ := two_free HC5.out
        obtain ⟨r0, r1⟩ := two_of HR5.out
        obtain ⟨r2, r3⟩ := two_free HR5.out
        obtain ⟨d0, d1⟩ := two_of HDB.out
        cases hsj : srt tj with
        | none =>
          have HNO := hid (HBAD.out (by rw [HNX.out, hsj]))
          clear hsj
          go_wp2_with fail
          obtain ⟨z0, z1⟩ := two_of (two_set (u0 := .int .i64 (an : Int)) (u1 := .string az) HR5.out)
          refine bodyPost_ret (v := .tuple #[.agg #[.int .i64 (an : Int), .string az], .bool false]) (by simp [results, Tryd.results49, go_sem, z0, z1]) rfl ?_
          rw [HNO.out]
          exact ⟨an, az, rfl, Kp.extOf (HXR.out.trans Y5.out) (Kp.set2 V5 (w.heap.size + 1) 0 _ _) (by omega), fun c hc => by cases hc⟩
        | some b =>
          obtain ⟨hb1, hb2⟩ := HDC.out b hsj
          have hbok := srt_ok tj b hsj
          have HJ := hid (join_any (a := (an, ag)) (b := b) (fun y hy => (HOK.out.2 y hy).1) (fun y hy => (hbok.2 y hy).1) V5 (by have h1 := hanb; show an ≤ 1000; omega) (by have h1 := hbok.1; have h2 := HDK.out; have h3 := HD.out; omega))
          have HJ' := hid (show Calls Tryd.prog 68 #[.agg #[.int .i64 (an : Int), .string az], .agg #[.int .i64 (dn : Int), .string dz]] V5 (JR V5 (uniA (an, ag) b)) by rw [← HAZ.out, hb1, hb2]; exact HJ.out)
          have HNX2 := hid (show srtL (0, none) (ks.take (j + 1)) = uniA (an, ag) b by rw [HNX.out, hsj])
          clear hsj hb1 hb2 hbok HJ
          go_wp2_with fail
          clear hV5
          go_at_call 68
          refine HJ'.out.mono ?_
          rintro e w6 ⟨jn, jz, rfl, hx6, hjc⟩
          have X6 := hid hx6
          have HJC := hid hjc
          clear hx6 hjc c0 c1 c2 c3 r0 r1 r2 r3 d0 d1
          have HC6 := hid (X6.out.block HC5.out)
          obtain ⟨c0, c1⟩ := two_of HC6.out
          obtain ⟨c2, c3⟩ := two_free HC6.out
          obtain ⟨U, hU⟩ : ∃ U, (w6.setCell ⟨w.heap.size + 1 + 1, 0, none⟩ (.int .i64 (jn : Int))).setCell ⟨w.heap.size + 1 + 1, 1, none⟩ (.string jz) = U := ⟨_, rfl⟩
          have HU := hid (show U.heap[w.heap.size + 1 + 1]? = some (.cells #[.int .i64 (jn : Int), .string jz] 83) from hU ▸ two_set HC6.out)
          have KU := hid (show Kp (· ≠ w.heap.size + 1 + 1) w6 U from hU ▸ Kp.set2 w6 (w.heap.size + 1 + 1) 0 (.int .i64 (jn : Int)) (.string jz))
          have HRU := hid (KU.out.block' (X6.out.block HR5.out) (by omega))
          have XU := hid (Kp.extOf (HXR.out.trans (Y5.out.trans X6.out)) KU.out (by omega))
          obtain ⟨e0, e1⟩ := two_of HU.out
          obtain ⟨r0, r1⟩ := two_of HRU.out
          obtain ⟨r2, r3⟩ := two_free HRU.out
          cases hu : uniA (an, ag) b with
          | none =>
            have HNO := hid (HBAD.out (by rw [HNX2.out, hu]))
            clear hu
            go_wp2_with fail
            obtain ⟨z0, z1⟩ := two_of (two_set (u0 := .int .i64 (jn : Int)) (u1 := .string jz) HRU.out)
            refine bodyPost_ret (v := .tuple #[.agg #[.int .i64 (jn : Int), .string jz], .bool false]) (by simp [results, Tryd.results49, go_sem, z0, z1]) rfl ?_
            rw [HNO.out]
            exact ⟨jn, jz, rfl, Kp.extOf XU.out (Kp.set2 U (w.heap.size + 1) 0 _ _) (by omega), fun c hc => by cases hc⟩
          | some cc =>
            obtain ⟨hj1, hj2⟩ := HJC.out cc hu
            have HCC := hid (show srtL (0, none) (ks.take (j + 1)) = some cc by rw [HNX2.out, hu])
            have HUC := hid (show U.heap[w.heap.size + 1 + 1]? = some (.cells #[.int .i64 (cc.1 : Int), .string (cc.2.getD yA)] 83) by rw [← hj1, ← hj2]; exact HU.out)
            clear hu hj1 hj2
            go_wp2_with fail
            go_roundw
            case rel => exact ⟨j + 1, by omega, by go_num, (HKR.out.trans ((Y5.out.trans X6.out).kp _)).trans KU.out, cc, HCC.out, HUC.out⟩
            case measure => simp [intOf]; omega
      · have hlt' : ¬ (j : Int) < kl := by omega
        have HTK := hid (show ks.take j = ks from List.take_of_length_le (by have := HKL.out; omega))
        rw [HTK.out] at HSR
        have HYES := hid (show R = some (an + 1, ag) by rw [← HR.out, HST.out, HSR.out]; rfl)
        go_wp2_with fail
        obtain ⟨z0, z1⟩ := two_of (two_set (u0 := .int .i64 ((an : Int) + 1)) (u1 := .string az) HB1.out)
        refine bodyPost_ret (v := .tuple #[.agg #[.int .i64 ((an : Int) + 1), .string az], .bool true]) (by simp [results, Tryd.results49, go_sem, z0, z1]) rfl ?_
        rw [HYES.out]
        exact ⟨an + 1, az, by simp, Kp.extOf HXR.out (Kp.set2 wr (w.heap.size + 1) 0 _ _) (by omega), fun c hc => by rw [← Option.some.inj hc]; exact ⟨rfl, HAZ.out.symm⟩⟩
end Go.Proofs.YtllbelglilkdpaaDoor
