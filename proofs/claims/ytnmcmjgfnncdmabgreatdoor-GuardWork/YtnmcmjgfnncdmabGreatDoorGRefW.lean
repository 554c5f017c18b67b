/-
  espalierref15.Work by a contract; guard.Work and the document's Work: the same answer.
-/
import Derived.Test.YtnmcmjgfnncdmabGreatDoorGBoth
import Derived.Test.YtnmcmjgfnncdmabGreatDoorYRef
import Derived.Test.YtnmcmjgfnncdmabGreatDoorPMarks
namespace Go.Proofs.YtnmcmjgfnncdmabGreatDoor
open Go.RowKit
theorem guardR_eq : guardK.map kdRow = guardR := by kernel_rfl
theorem guardTab : TabK guardK where
  strict := by
    intro k hk
    obtain ⟨i, hi, rfl⟩ := List.getElem_of_mem hk
    rw [guardLen] at hi
    match i, hi with
    | 0, _ => exact (show anyS strictS (kdRow (guardK[0]'(by decide))).abs = true from by kernel_rfl)
    | 1, _ => exact (show anyS strictS (kdRow (guardK[1]'(by decide))).abs = true from by kernel_rfl)
    | 2, _ => exact (show anyS strictS (kdRow (guardK[2]'(by decide))).abs = false from by kernel_rfl)
    | 3, _ => exact (show anyS strictS (kdRow (guardK[3]'(by decide))).abs = false from by kernel_rfl)
    | n + 4, h => exact absurd h (by omega)
  nodup := by decide
  max := by
    intro k hk
    obtain ⟨i, hi, rfl⟩ := List.getElem_of_mem hk
    rw [guardLen] at hi
    match i, hi with
    | 0, _ => exact .inr (show (0 : Int) ≤ 1 by decide)
    | 1, _ => exact .inr (show (0 : Int) ≤ 2 by decide)
    | 2, _ => exact .inr (show (0 : Int) ≤ 2 by decide)
    | 3, _ => exact .inr (show (0 : Int) ≤ 2 by decide)
    | n + 4, h => exact absurd h (by omega)
theorem mayG_any {K : Nat → Prop} {d : Nat} (op : ByteArray) (a : Option Addr) (c : Nat) (ts : List T) (w : World) (h : RdL K w d a ts) : Calls Tryz.prog 22 #[.string op, .slice a ts.length c] w fun e w' => e = .returned (.int .i64 (askK guardK op ts)) ∧ Ext w w' := by
  have := mayG_gen (K := K) (d := d) guardR op a c ts w (by decide) (by decide) refRowsG_any h
  rwa [← guardR_eq, ask_eq guardK guardTab] at this
theorem Rd.kindE {K : Nat → Prop} {w : World} {d : Nat} {k n : Int} {x : ByteArray} {sv : Value} {t : T} (h : Rd K w d (.agg #[.int .i64 k, .int .i64 n, .string x, sv]) t) : t.kind = k ∧ t.num = n ∧ t.text = x := by
  cases d with
  | zero => exact h.elim
  | succ d =>
    obtain ⟨k', n', x', ks⟩ := t
    obtain ⟨a, c, e, _⟩ := h
    simp only [Value.agg.injEq, Array.mk.injEq, List.cons.injEq, Value.int.injEq, Value.string.injEq, true_and] at e
    exact ⟨e.1.symm, e.2.1.symm, e.2.2.1.symm⟩
theorem unitRd (K : Nat → Prop) (w : World) : Rd K w 1 (.agg #[.int .i64 1, .int .i64 0, .string ⟨#[]⟩, .slice none 0 0]) unitT := ⟨none, 0, rfl, by decide, by decide, .inl rfl⟩
set_option maxRecDepth 100000 in
set_option maxHeartbeats 2000000 in
theorem rwG_bad {K : Nat → Prop} {d : Nat} (op : ByteArray) (a : Option Addr) (c : Nat) (ts : List T) (w : World) (h : RdL K w d a ts) (V : Int) (hV : askK guardK op ts = V) (hz : (V == 0) = false) : Calls Tryz.prog 12 #[.string op, .slice a ts.length c] w fun e w' => ∃ R, e = .returned R ∧ AnsP (Ans.one V) w' R ∧ Ext w w' := by
  have HA := hid (fun w1 (hx : Ext w w1) => mayG_any (K := K) (d := d) op a c ts w1 (h.keep (hx.kp K)))
  rw [hV] at HA
  have hz' : (V != 0) = true := by unfold bne; rw [hz]; rfl
  clear h hV
  generalize ts.length = n at *
  go_enter Tryz.func12, Tryz.ntmps12
  go_wp2_with fail
  refine (HA.out _ (Ext.alloc _ _)).mono ?_
  rintro e w1 ⟨rfl, hx1⟩
  have HX := hid ((Ext.alloc w _).trans hx1)
  have HB := hid (hx1.block (blk0 w (.cells #[.int .i64 0, .int .i64 0, .string ⟨#[]⟩, .slice none 0 0] 30)))
  obtain ⟨z0, z1, z2, z3⟩ := four_of HB.out
  obtain ⟨f0, f1, f2, f3⟩ := four_free HB.out
  clear hx1
  go_wp2_with fail
  have HB2 := hid (four_set (u0 := .int .i64 0) (u1 := .int .i64 0) (u2 := .string ⟨#[]⟩) (u3 := .slice none 0 0) HB.out)
  have HE := hid ((Kp.set4 w1 w.heap.size 0 (.int .i64 0) (.int .i64 0) (.string ⟨#[]⟩) (.slice none 0 0)).extOf HX.out (Nat.le_refl _))
  obtain ⟨y0, y1, y2, y3⟩ := four_of HB2.out
  refine bodyPost_ret (v := .tuple #[.agg #[.int .i64 0, .int .i64 0, .string ⟨#[]⟩, .slice none 0 0], .int .i64 V, .string ⟨#[]⟩]) (by simp [results, Tryz.results12, go_sem, y0, y1, y2, y3]) rfl ?_
  first | exact ⟨_, rfl, rfl, HE.out⟩ | exact ⟨_, rfl, rfl, HE.out.drew⟩
set_option maxRecDepth 100000 in
set_option maxHeartbeats 2000000 in
theorem rwG_raise {K : Nat → Prop} {d : Nat} (a : Option Addr) (c : Nat) (t : T) (w : World) (h : RdL K w d a [t]) (hV : askK guardK nRaise [t] = 0) : Calls Tryz.prog 12 #[.string nRaise, .slice a 1 c] w fun e w' => ∃ R, e = .returned R ∧ AnsP (if t.kind = 4 then .bad 25 t.text else Ans.one 20) w' R ∧ Ext w w' := by
  have HA := hid (fun w1 (hx : Ext w w1) => mayG_any (K := K) (d := d) nRaise a c [t] w1 (h.keep (hx.kp K)))
  rw [hV] at HA
  have HA2 : Hid (∀ (w1 : World), Ext w w1 → Calls Tryz.prog 22 #[.string nRaise, .slice a 1 c] w1 fun e w' => e = .returned (.int .i64 0) ∧ Ext w1 w') := HA
  clear HA
  obtain ⟨g, off, k0, n0, x0, a0, l0, c0, rfl, hg, h40, hr0⟩ := h.kid (j := 0) (Nat.le_of_ble_eq_true rfl)
  obtain ⟨e0, e1, e2⟩ := hr0.kindE
  obtain rfl : t.kind = k0 := e0
  obtain rfl : t.num = n0 := e1
  obtain rfl : t.text = x0 := e2
  have H40 := hid (show ∀ w1, Ext w w1 → Four w1 g off (.int .i64 t.kind) (.int .i64 t.num) (.string t.text) (.slice a0 l0 c0) from fun w1 hx => by have h := Four.keep h40 (hx.kp K) hg; rwa [Nat.zero_mul, Nat.add_zero] at h)
  have hgw : g < w.heap.size := lt_of_cell h40.1
  have hne1 : ¬ g = w.heap.size := by omega
  have hne2 : ¬ w.heap.size = g := by omega
  clear hgw
  clear h hV h40 hr0 hg
  generalize t.kind = tk at *
  generalize t.num = tn at *
  generalize t.text = tx at *
  unfold nRaise at *
  by_cases h4 : tk = 4
  · have q1 : (tk == 4) = true := by rw [beq_iff_eq]; exact h4
    have q2 : (tk != 4) = false := by unfold bne; rw [q1]; rfl
    rw [if_pos h4]
    clear h4
    go_enter Tryz.func12, Tryz.ntmps12
    go_wp2_with fail
    refine (HA2.out _ (Ext.alloc _ _)).mono ?_
    rintro e w1 ⟨rfl, hx1⟩
    have HX := hid ((Ext.alloc w _).trans hx1)
    have HB := hid (hx1.block (blk0 w (.cells #[.int .i64 0, .int .i64 0, .string ⟨#[]⟩, .slice none 0 0] 30)))
    obtain ⟨z0, z1, z2, z3⟩ := four_of HB.out
    obtain ⟨f0, f1, f2, f3⟩ := four_free HB.out
    clear hx1
    obtain ⟨o0, o1, o2, o3⟩ := H40.out _ HX.out
    have hgl := lt_of_cell o0
    have hwl := lt_of_cell z0
    have HS := hid (Kp.set4 w1 w.heap.size 0 (.int .i64 0) (.int .i64 0) (.string ⟨#[]⟩) (.slice none 0 0))
    go_wp2_with fail
    go_region
    all_goals
      go_wp2_with fail
      have HB2 := hid (four_set (u0 := .int .i64 0) (u1 := .int .i64 0) (u2 := .string ⟨#[]⟩) (u3 := .slice none 0 0) HB.out)
      have HE := hid ((Kp.set4 w1 w.heap.size 0 (.int .i64 0) (.int .i64 0) (.string ⟨#[]⟩) (.slice none 0 0)).extOf HX.out (Nat.le_refl _))
      obtain ⟨y0, y1, y2, y3⟩ := four_of HB2.out
      refine bodyPost_ret (v := .tuple #[.agg #[.int .i64 0, .int .i64 0, .string ⟨#[]⟩, .slice none 0 0], .int .i64 25, .string tx]) (by simp [results, Tryz.results12, go_sem, y0, y1, y2, y3]) rfl ?_
      first | exact ⟨_, rfl, rfl, HE.out⟩ | exact ⟨_, rfl, rfl, HE.out.drew⟩
  · have q1 : (tk == 4) = false := by rw [beq_eq_false_iff_ne]; exact h4
    have q2 : (tk != 4) = true := by unfold bne; rw [q1]; rfl
    rw [if_neg h4]
    clear h4
    go_enter Tryz.func12, Tryz.ntmps12
    go_wp2_with fail
    refine (HA2.out _ (Ext.alloc _ _)).mono ?_
    rintro e w1 ⟨rfl, hx1⟩
    have HX := hid ((Ext.alloc w _).trans hx1)
    have HB := hid (hx1.block (blk0 w (.cells #[.int .i64 0, .int .i64 0, .string ⟨#[]⟩, .slice none 0 0] 30)))
    obtain ⟨z0, z1, z2, z3⟩ := four_of HB.out
    obtain ⟨f0, f1, f2, f3⟩ := four_free HB.out
    clear hx1
    obtain ⟨o0, o1, o2, o3⟩ := H40.out _ HX.out
    have hgl := lt_of_cell o0
    clear o1 o2 o3
    go_wp2_with fail
    have HB2 := hid (four_set (u0 := .int .i64 0) (u1 := .int .i64 0) (u2 := .string ⟨#[]⟩) (u3 := .slice none 0 0) HB.out)
    have HE := hid ((Kp.set4 w1 w.heap.size 0 (.int .i64 0) (.int .i64 0) (.string ⟨#[]⟩) (.slice none 0 0)).extOf HX.out (Nat.le_refl _))
    obtain ⟨y0, y1, y2, y3⟩ := four_of HB2.out
    refine bodyPost_ret (v := .tuple #[.agg #[.int .i64 0, .int .i64 0, .string ⟨#[]⟩, .slice none 0 0], .int .i64 20, .string ⟨#[]⟩]) (by simp [results, Tryz.results12, go_sem, y0, y1, y2, y3]) rfl ?_
    first | exact ⟨_, rfl, rfl, HE.out⟩ | exact ⟨_, rfl, rfl, HE.out.drew⟩
set_option maxRecDepth 100000 in
set_option maxHeartbeats 2000000 in
theorem rwG_check {K : Nat → Prop} {d : Nat} (a : Option Addr) (c : Nat) (t u : T) (w : World) (h : RdL K w d a [t, u]) (hV : askK guardK nCheck [t, u] = 0) : Calls Tryz.prog 12 #[.string nCheck, .slice a 2 c] w fun e w' => ∃ R, e = .returned R ∧ AnsP (if t.kind = 2 ∧ u.kind = 4 then (if t.num = 0 then .bad 25 u.text else .good unitT) else Ans.one 20) w' R ∧ Ext w w' := by
  have HA := hid (fun w1 (hx : Ext w w1) => mayG_any (K := K) (d := d) nCheck a c [t, u] w1 (h.keep (hx.kp K)))
  rw [hV] at HA
  have HA2 : Hid (∀ (w1 : World), Ext w w1 → Calls Tryz.prog 22 #[.string nCheck, .slice a 2 c] w1 fun e w' => e = .returned (.int .i64 0) ∧ Ext w1 w') := HA
  clear HA
  obtain ⟨g, off, k0, n0, x0, a0, l0, c0, rfl, hg, h40, hr0⟩ := h.kid (j := 0) (Nat.le_of_ble_eq_true rfl)
  obtain ⟨e0, e1, e2⟩ := hr0.kindE
  obtain rfl : t.kind = k0 := e0
  obtain rfl : t.num = n0 := e1
  obtain rfl : t.text = x0 := e2
  have H40 := hid (show ∀ w1, Ext w w1 → Four w1 g off (.int .i64 t.kind) (.int .i64 t.num) (.string t.text) (.slice a0 l0 c0) from fun w1 hx => by have h := Four.keep h40 (hx.kp K) hg; rwa [Nat.zero_mul, Nat.add_zero] at h)
  obtain ⟨g1, off1, k1, n1, x1, a1, l1, c1, ea, _, h41, hr1⟩ := h.kid (j := 1) (Nat.le_of_ble_eq_true rfl)
  obtain ⟨e3, e4, e5⟩ := hr1.kindE
  obtain rfl : u.kind = k1 := e3
  obtain rfl : u.num = n1 := e4
  obtain rfl : u.text = x1 := e5
  obtain ⟨rfl, rfl⟩ : g = g1 ∧ off = off1 := by injection ea with ea; injection ea with ea eb; exact ⟨ea, eb⟩
  clear ea
  have H41 := hid (show ∀ w1, Ext w w1 → Four w1 g (off + 4) (.int .i64 u.kind) (.int .i64 u.num) (.string u.text) (.slice a1 l1 c1) from fun w1 hx => by have h := Four.keep h41 (hx.kp K) hg; rwa [Nat.one_mul] at h)
  have hgw : g < w.heap.size := lt_of_cell h40.1
  have hne1 : ¬ g = w.heap.size := by omega
  have hne2 : ¬ w.heap.size = g := by omega
  clear hgw
  clear h hV h40 hr0 hg h41 hr1
  generalize t.kind = tk at *
  generalize t.num = tn at *
  generalize t.text = tx at *
  generalize u.kind = uk at *
  generalize u.num = un at *
  generalize u.text = ux at *
  unfold nCheck at *
  by_cases h2 : tk = 2
  · have q1 : (tk == 2) = true := by rw [beq_iff_eq]; exact h2
    have q2 : (tk != 2) = false := by unfold bne; rw [q1]; rfl
    by_cases h4 : uk = 4
    · have q3 : (uk == 4) = true := by rw [beq_iff_eq]; exact h4
      have q4 : (uk != 4) = false := by unfold bne; rw [q3]; rfl
      rw [if_pos ⟨h2, h4⟩]
      clear h2 h4
      by_cases h0 : tn = 0
      · have q5 : (tn == 0) = true := by rw [beq_iff_eq]; exact h0
        rw [if_pos h0]
        clear h0
        go_enter Tryz.func12, Tryz.ntmps12
        go_wp2_with fail
        refine (HA2.out _ (Ext.alloc _ _)).mono ?_
        rintro e w1 ⟨rfl, hx1⟩
        have HX := hid ((Ext.alloc w _).trans hx1)
        have HB := hid (hx1.block (blk0 w (.cells #[.int .i64 0, .int .i64 0, .string ⟨#[]⟩, .slice none 0 0] 30)))
        obtain ⟨z0, z1, z2, z3⟩ := four_of HB.out
        obtain ⟨f0, f1, f2, f3⟩ := four_free HB.out
        clear hx1
        obtain ⟨o0, o1, o2, o3⟩ := H40.out _ HX.out
        obtain ⟨p0, p1, p2, p3⟩ := H41.out _ HX.out
        have hgl := lt_of_cell o0
        have hwl := lt_of_cell z0
        clear o2 o3 p1 p3
        go_wp2_with fail
        go_region
        all_goals
          go_wp2_with fail
          have HB2 := hid (four_set (u0 := .int .i64 0) (u1 := .int .i64 0) (u2 := .string ⟨#[]⟩) (u3 := .slice none 0 0) HB.out)
          have HE := hid ((Kp.set4 w1 w.heap.size 0 (.int .i64 0) (.int .i64 0) (.string ⟨#[]⟩) (.slice none 0 0)).extOf HX.out (Nat.le_refl _))
          obtain ⟨y0, y1, y2, y3⟩ := four_of HB2.out
          refine bodyPost_ret (v := .tuple #[.agg #[.int .i64 0, .int .i64 0, .string ⟨#[]⟩, .slice none 0 0], .int .i64 25, .string ux]) (by simp [results, Tryz.results12, go_sem, y0, y1, y2, y3]) rfl ?_
          first | exact ⟨_, rfl, rfl, HE.out⟩ | exact ⟨_, rfl, rfl, HE.out.drew⟩
      · have q5 : (tn == 0) = false := by rw [beq_eq_false_iff_ne]; exact h0
        rw [if_neg h0]
        clear h0
        go_enter Tryz.func12, Tryz.ntmps12
        go_wp2_with fail
        refine (HA2.out _ (Ext.alloc _ _)).mono ?_
        rintro e w1 ⟨rfl, hx1⟩
        have HX := hid ((Ext.alloc w _).trans hx1)
        have HB := hid (hx1.block (blk0 w (.cells #[.int .i64 0, .int .i64 0, .string ⟨#[]⟩, .slice none 0 0] 30)))
        obtain ⟨z0, z1, z2, z3⟩ := four_of HB.out
        obtain ⟨f0, f1, f2, f3⟩ := four_free HB.out
        clear hx1
        obtain ⟨o0, o1, o2, o3⟩ := H40.out _ HX.out
        obtain ⟨p0, p1, p2, p3⟩ := H41.out _ HX.out
        have hgl := lt_of_cell o0
        clear o2 o3 p1 p2 p3
        go_wp2_with fail
        have HB2 := hid (four_set (u0 := .int .i64 1) (u1 := .int .i64 0) (u2 := .string ⟨#[]⟩) (u3 := .slice none 0 0) HB.out)
        have HE := hid ((Kp.set4 w1 w.heap.size 0 (.int .i64 1) (.int .i64 0) (.string ⟨#[]⟩) (.slice none 0 0)).extOf HX.out (Nat.le_refl _))
        obtain ⟨y0, y1, y2, y3⟩ := four_of HB2.out
        refine bodyPost_ret (v := .tuple #[.agg #[.int .i64 1, .int .i64 0, .string ⟨#[]⟩, .slice none 0 0], .int .i64 0, .string ⟨#[]⟩]) (by simp [results, Tryz.results12, go_sem, y0, y1, y2, y3]) rfl ?_
        first | exact ⟨_, rfl, ⟨fun _ => True, 1, _, rfl, unitRd _ _⟩, HE.out⟩ | exact ⟨_, rfl, ⟨fun _ => True, 1, _, rfl, unitRd _ _⟩, HE.out.drew⟩
    · have q3 : (uk == 4) = false := by rw [beq_eq_false_iff_ne]; exact h4
      have q4 : (uk != 4) = true := by unfold bne; rw [q3]; rfl
      rw [if_neg (fun h => h4 h.2)]
      clear h2 h4
      go_enter Tryz.func12, Tryz.ntmps12
      go_wp2_with fail
      refine (HA2.out _ (Ext.alloc _ _)).mono ?_
      rintro e w1 ⟨rfl, hx1⟩
      have HX := hid ((Ext.alloc w _).trans hx1)
      have HB := hid (hx1.block (blk0 w (.cells #[.int .i64 0, .int .i64 0, .string ⟨#[]⟩, .slice none 0 0] 30)))
      obtain ⟨z0, z1, z2, z3⟩ := four_of HB.out
      obtain ⟨f0, f1, f2, f3⟩ := four_free HB.out
      clear hx1
      obtain ⟨o0, o1, o2, o3⟩ := H40.out _ HX.out
      obtain ⟨p0, p1, p2, p3⟩ := H41.out _ HX.out
      have hgl := lt_of_cell o0
      clear o1 o2 o3 p1 p2 p3
      go_wp2_with fail
      have HB2 := hid (four_set (u0 := .int .i64 0) (u1 := .int .i64 0) (u2 := .string ⟨#[]⟩) (u3 := .slice none 0 0) HB.out)
      have HE := hid ((Kp.set4 w1 w.heap.size 0 (.int .i64 0) (.int .i64 0) (.string ⟨#[]⟩) (.slice none 0 0)).extOf HX.out (Nat.le_refl _))
      obtain ⟨y0, y1, y2, y3⟩ := four_of HB2.out
      refine bodyPost_ret (v := .tuple #[.agg #[.int .i64 0, .int .i64 0, .string ⟨#[]⟩, .slice none 0 0], .int .i64 20, .string ⟨#[]⟩]) (by simp [results, Tryz.results12, go_sem, y0, y1, y2, y3]) rfl ?_
      first | exact ⟨_, rfl, rfl, HE.out⟩ | exact ⟨_, rfl, rfl, HE.out.drew⟩
  · have q1 : (tk == 2) = false := by rw [beq_eq_false_iff_ne]; exact h2
    have q2 : (tk != 2) = true := by unfold bne; rw [q1]; rfl
    rw [if_neg (fun h => h2 h.1)]
    clear h2
    go_enter Tryz.func12, Tryz.ntmps12
    go_wp2_with fail
    refine (HA2.out _ (Ext.alloc _ _)).mono ?_
    rintro e w1 ⟨rfl, hx1⟩
    have HX := hid ((Ext.alloc w _).trans hx1)
    have HB := hid (hx1.block (blk0 w (.cells #[.int .i64 0, .int .i64 0, .string ⟨#[]⟩, .slice none 0 0] 30)))
    obtain ⟨z0, z1, z2, z3⟩ := four_of HB.out
    obtain ⟨f0, f1, f2, f3⟩ := four_free HB.out
    clear hx1
    obtain ⟨o0, o1, o2, o3⟩ := H40.out _ HX.out
    have hgl := lt_of_cell o0
    clear o1 o2 o3
    go_wp2_with fail
    have HB2 := hid (four_set (u0 := .int .i64 0) (u1 := .int .i64 0) (u2 := .string ⟨#[]⟩) (u3 := .slice none 0 0) HB.out)
    have HE := hid ((Kp.set4 w1 w.heap.size 0 (.int .i64 0) (.int .i64 0) (.string ⟨#[]⟩) (.slice none 0 0)).extOf HX.out (Nat.le_refl _))
    obtain ⟨y0, y1, y2, y3⟩ := four_of HB2.out
    refine bodyPost_ret (v := .tuple #[.agg #[.int .i64 0, .int .i64 0, .string ⟨#[]⟩, .slice none 0 0], .int .i64 20, .string ⟨#[]⟩]) (by simp [results, Tryz.results12, go_sem, y0, y1, y2, y3]) rfl ?_
    first | exact ⟨_, rfl, rfl, HE.out⟩ | exact ⟨_, rfl, rfl, HE.out.drew⟩

theorem guardF_one (t : T) : guardF [t] = .bad 25 t.text := by obtain ⟨k, n, x, ks⟩ := t; rfl
theorem guardF_two (t u : T) : guardF [t, u] = if t.num = 0 then .bad 25 u.text else .good unitT := by obtain ⟨k, n, x, ks⟩ := t; obtain ⟨k', n', x', ks'⟩ := u; rfl
theorem refWorkG_any {K : Nat → Prop} {d : Nat} (op : ByteArray) (a : Option Addr) (c : Nat) (ts : List T) (w : World) (h : RdL K w d a ts) : Calls Tryz.prog 12 #[.string op, .slice a ts.length c] w fun e w' => ∃ R, e = .returned R ∧ AnsP (ansOf guardK op ts (guardF ts)) w' R ∧ Ext w w' := by
  by_cases hz : askK guardK op ts = 0
  case neg =>
    have hz' : (askK guardK op ts == 0) = false := by simpa using hz
    rw [ansOf_ask hz']
    exact rwG_bad op a c ts w h _ rfl hz'
  obtain ⟨k, f, h1, h2, h3, h4, h5⟩ := ask_zero hz
  rw [h5]
  rcases guardAt h1 h2 with ⟨rfl, rfl, rfl⟩ | ⟨rfl, rfl, rfl⟩
  · rw [cntG0, decide_eq_true_eq] at h3
    obtain ⟨t, rfl⟩ := list_one h3
    have e : (if rightB guardK[0].signs.data.toList ([t].map T.kind) = true then guardF [t] else Ans.one 20) = if t.kind = 4 then .bad 25 t.text else Ans.one 20 := by
      rw [List.map_cons, List.map_nil, rightG0 _ (kind_five (h4 t (by simp))), guardF_one]
      simp only [decide_eq_true_eq]
    rw [e]
    exact rwG_raise a c t w h hz
  · rw [cntG1, decide_eq_true_eq] at h3
    obtain ⟨t, u, rfl⟩ := list_two h3
    have e : (if rightB guardK[1].signs.data.toList ([t, u].map T.kind) = true then guardF [t, u] else Ans.one 20) = if t.kind = 2 ∧ u.kind = 4 then (if t.num = 0 then .bad 25 u.text else .good unitT) else Ans.one 20 := by
      rw [List.map_cons, List.map_cons, List.map_nil, rightG1 _ _ (kind_five (h4 t (by simp))) (kind_five (h4 u (by simp))), guardF_two]
      simp only [Bool.and_eq_true, decide_eq_true_eq]
    rw [e]
    exact rwG_check a c t u w h hz
theorem bothG (op : ByteArray) (ts : List T) (hlen : ts.length ≤ 1000000) : BothQ 8 12 op ts :=
  ⟨_, fun w a c hm hp => guardWork_any op ts hlen a c w hm hp, fun _ _ w a c h => refWorkG_any op a c ts w h⟩
end Go.Proofs.YtnmcmjgfnncdmabGreatDoor
