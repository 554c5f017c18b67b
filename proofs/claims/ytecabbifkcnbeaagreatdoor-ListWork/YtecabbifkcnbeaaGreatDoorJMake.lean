/-
  node.Make of any tree and kids: the node, or why there is none; by contracts.
-/
import Derived.Test.YtecabbifkcnbeaaGreatDoorJFitR
import Derived.LoopTactic
namespace Go.Proofs.YtecabbifkcnbeaaGreatDoor.Nd
open Go.RowKit
theorem fnew_j (c : Int) (hc : (c == 0) = false) (w : World) : Calls Tryz.prog 116 #[.int .i64 c] w fun e w' => e = .returned (.iface 253 (.pointer (some ⟨w.heap.size, 0, none⟩))) ∧ w' = w.alloc (.cells #[.int .i64 c] 255) := by
  go_enter Tryz.func116, Tryz.ntmps116
  go_wp2_with fail
  go_ret
  exact ⟨rfl, rfl⟩
/-- An error that is a number, beside no handle. -/
def MakeNo (w : World) (c : Int) (e : Ending) (w' : World) : Prop := ∃ b, e = .returned (.tuple #[.pointer none, .iface 253 (.pointer (some ⟨b, 0, none⟩))]) ∧ w'.cell? ⟨b, 0, none⟩ = some (.int .i64 c) ∧ Ext w w'
theorem MakeNo.base {w w1 w' : World} {c : Int} {e : Ending} (h : MakeNo w1 c e w') (hx : Ext w w1) : MakeNo w c e w' := by
  obtain ⟨b, h1, h2, h3⟩ := h
  exact ⟨b, h1, h2, hx.trans h3⟩
/-- A node of the j-th kind that was made, in its handle. -/
def MakeYes (w : World) (j : Nat) (k : ByteArray) (n : Int) (x : ByteArray) (nk : Nat) (t : Nat → TypeId) (v : Nat → Value) (e : Ending) (w' : World) : Prop := ∃ h b a c, e = .returned (.tuple #[.pointer (some ⟨h, 0, none⟩), .nilIface]) ∧ HandAt w' h (.iface (tyK j) (.pointer (some ⟨b, 0, none⟩))) (.iface (tyK j) (.pointer (some ⟨b, 0, none⟩))) ∧ NodeK j k n x (.slice a nk c) w.heap.size (.iface (tyK j) (.pointer (some ⟨b, 0, none⟩))) w' ∧ w'.ownsRow w.heap.size 80 1 (.slice a nk c) nk ((List.range nk).map fun i => .iface (t i) (v i)) ∧ w.heap.size ≤ h ∧ Ext w w'
/-- What node.Make answers of a tree and handles that hold nodes. -/
noncomputable def makeC (k : ByteArray) (n : Int) (x : ByteArray) (nk : Nat) : Int := match kdFind k with
  | none => 3
  | some j => fitsK (minK j) (maxK j) (numK j) (textK j) n x nk
set_option maxRecDepth 100000 in
set_option maxHeartbeats 1000000 in
theorem make_kind (k x : ByteArray) (n : Int) (ka : Option Addr) (kl kc : Nat) (ao : Option Addr) (nk c : Nat) (w : World) (hf : kdFind k = none) : Calls Tryz.prog 70 #[.agg #[.string k, .int .i64 n, .string x, .slice ka kl kc], .slice ao nk c] w (MakeNo w 3) := by
  have HF := hid hf
  clear hf
  obtain ⟨M, hM⟩ : ∃ M, w.alloc (.cells #[.string k, .int .i64 n, .string x, .slice ka kl kc] 84) = M := ⟨_, rfl⟩
  have XM := hid (show Ext w M from hM ▸ Ext.alloc _ _)
  have HM0 := hid (show M.heap[w.heap.size]? = some (.cells #[.string k, .int .i64 n, .string x, .slice ka kl kc] 84) from hM ▸ blk0 _ _)
  obtain ⟨t0, t1, t2, t3⟩ := four_of HM0.out
  go_enter Tryz.func70, Tryz.ntmps70
  go_wp2_with fail
  clear hM
  refine (kindOf_any k M).mono ?_
  rintro e w1 ⟨hx1, hk⟩
  rw [HF.out] at hk
  dsimp only at hk
  subst hk
  go_wp2_with fail
  refine (fnew_j 3 (by decide) _).mono ?_
  rintro e w4 ⟨rfl, hw4⟩
  have HC4 := hid (show w4.cell? ⟨_, 0, none⟩ = some (.int .i64 3) from hw4 ▸ cell_of (blk0 _ _) rfl)
  have X4 := hid (show Ext w w4 from hw4 ▸ (XM.out.trans (hx1.trans (Ext.alloc _ _))).trans (Ext.alloc _ _))
  clear hw4 hx1
  go_wp2_with fail
  go_ret2
  exact ⟨_, rfl, by simpa using HC4.out, X4.out⟩
set_option maxRecDepth 100000 in
set_option maxHeartbeats 1000000 in
theorem make_kids (j : Nat) (k x : ByteArray) (n : Int) (ka : Option Addr) (kl kc : Nat) (ao : Option Addr) (nk c : Nat) (w : World) (hf : kdFind k = some j) (hno : ∀ w1, Ext w w1 → Calls Tryz.prog 93 #[.slice ao nk c] w1 fun e w' => e = .returned (.tuple #[.slice none 0 0, .bool false]) ∧ Ext w1 w') : Calls Tryz.prog 70 #[.agg #[.string k, .int .i64 n, .string x, .slice ka kl kc], .slice ao nk c] w (MakeNo w 1) := by
  have HF := hid hf
  have HNO := hid hno
  clear hf hno
  obtain ⟨M, hM⟩ : ∃ M, w.alloc (.cells #[.string k, .int .i64 n, .string x, .slice ka kl kc] 84) = M := ⟨_, rfl⟩
  have XM := hid (show Ext w M from hM ▸ Ext.alloc _ _)
  have HM0 := hid (show M.heap[w.heap.size]? = some (.cells #[.string k, .int .i64 n, .string x, .slice ka kl kc] 84) from hM ▸ blk0 _ _)
  obtain ⟨t0, t1, t2, t3⟩ := four_of HM0.out
  go_enter Tryz.func70, Tryz.ntmps70
  go_wp2_with fail
  clear hM
  refine (kindOf_any k M).mono ?_
  rintro e w1 ⟨hx1, hk⟩
  rw [HF.out] at hk
  obtain ⟨g, hg, hO, rfl⟩ := hk
  have HV := hid (show ∀ g, kdV g j = .agg #[.string (nmK j), .int .i64 (minK j), .int .i64 (maxK j), .bool (numK j), .int .i64 (textK j), .string (hasK j), .func (.func (fnK j)) #[] (capV g j)] from fun g => rfl)
  rw [HV.out]
  clear HV HF hg hO
  generalize capV g j = cj at *
  generalize nmK j = nj at *
  generalize minK j = mj at *
  generalize maxK j = xj at *
  generalize numK j = bj at *
  generalize textK j = tj at *
  generalize hasK j = hj at *
  generalize fnK j = fj at *
  obtain ⟨V, hV⟩ : ∃ V, w1.alloc (.cells #[.string nj, .int .i64 mj, .int .i64 xj, .bool bj, .int .i64 tj, .string hj, .func (.func fj) #[] cj] 186) = V := ⟨_, rfl⟩
  have XV := hid (show Ext w V from hV ▸ XM.out.trans (hx1.trans (Ext.alloc _ _)))
  clear hx1
  go_wp2_with fail
  first | rw [hV] | skip
  clear hV
  refine (HNO.out _ XV.out).mono ?_
  rintro e w2 ⟨rfl, hx2⟩
  have X2 := hid (XV.out.trans hx2)
  clear hx2
  go_wp2_with fail
  refine (fnew_j 1 (by decide) _).mono ?_
  rintro e w4 ⟨rfl, hw4⟩
  have HC4 := hid (show w4.cell? ⟨w2.heap.size, 0, none⟩ = some (.int .i64 1) from hw4 ▸ cell_of (blk0 _ _) rfl)
  have X4 := hid (show Ext w w4 from hw4 ▸ X2.out.trans (Ext.alloc _ _))
  clear hw4
  go_wp2_with fail
  go_ret2
  exact ⟨_, rfl, HC4.out, X4.out⟩
set_option maxRecDepth 100000 in
set_option maxHeartbeats 4000000 in
theorem make_some (j : Nat) (hj7 : j < 7) (k x : ByteArray) (n : Int) (ka : Option Addr) (kl kc : Nat) (ao : Option Addr) (nk c : Nat) (t : Nat → TypeId) (v : Nat → Value) (w : World) (hf : kdFind k = some j) (hn : nk ≤ 100000) (hx : x.size ≤ 140737488355328) (hh : HandsO w ao nk t v) : Calls Tryz.prog 70 #[.agg #[.string k, .int .i64 n, .string x, .slice ka kl kc], .slice ao nk c] w fun e w' => (fitsK (minK j) (maxK j) (numK j) (textK j) n x nk = 0 ∧ MakeYes w j k n x nk t v e w') ∨ ((fitsK (minK j) (maxK j) (numK j) (textK j) n x nk == 0) = false ∧ MakeNo w (fitsK (minK j) (maxK j) (numK j) (textK j) n x nk) e w') := by
  have HF := hid hf
  have HNO := hid (fun w1 (hx : Ext w w1) => knodesOf_any ao nk c t v w1 hn (hh.later hx))
  have HFI := hid (fun cj w => kfits_any (nmK j) (hasK j) (minK j) (maxK j) (textK j) (numK j) (fnK j) cj k x n ka kl kc nk w hx)
  obtain ⟨V2, hV2⟩ : ∃ V, fitsK (minK j) (maxK j) (numK j) (textK j) n x nk = V := ⟨_, rfl⟩
  rw [hV2] at HFI ⊢
  clear hV2
  have HPM := hid (fun a c g w1 h => pmakeK j hj7 k x n a nk c g w1 h)
  have HXS := hid (one_cells nk t v)
  have HNEW := hid (fun q B xs w1 h1 h => new_row k x n (.slice ka kl kc) q B nk xs w1 hn h1 h)
  have HBR := hid (bareK j hj7)
  have hnk : (nk : Int) ≤ 100000 := by omega
  clear hf hh hx hn
  obtain ⟨M, hM⟩ : ∃ M, w.alloc (.cells #[.string k, .int .i64 n, .string x, .slice ka kl kc] 84) = M := ⟨_, rfl⟩
  have XM := hid (show Ext w M from hM ▸ Ext.alloc _ _)
  have HM0 := hid (show M.heap[w.heap.size]? = some (.cells #[.string k, .int .i64 n, .string x, .slice ka kl kc] 84) from hM ▸ blk0 _ _)
  obtain ⟨t0, t1, t2, t3⟩ := four_of HM0.out
  go_enter Tryz.func70, Tryz.ntmps70
  go_wp2_with fail
  clear hM
  refine (kindOf_any k M).mono ?_
  rintro e w1 ⟨hx1, hk⟩
  rw [HF.out] at hk
  obtain ⟨g, hg, hO, rfl⟩ := hk
  have HV := hid (show ∀ g, kdV g j = .agg #[.string (nmK j), .int .i64 (minK j), .int .i64 (maxK j), .bool (numK j), .int .i64 (textK j), .string (hasK j), .func (.func (fnK j)) #[] (capV g j)] from fun g => rfl)
  have HMK := hid (show mkK g j = .func (.func (fnK j)) #[] (capV g j) from rfl)
  have HPM := hid (fun a c w1 (h : OfAt w1 g) => HPM.out a c g w1 h)
  rw [HMK.out] at HPM
  rw [HV.out]
  clear HV HF HMK hg
  generalize capV g j = cj at *
  generalize nmK j = nj at *
  generalize minK j = mj at *
  generalize maxK j = xj at *
  generalize numK j = bj at *
  generalize textK j = tj at *
  generalize hasK j = hj at *
  generalize fnK j = fj at *
  obtain ⟨V, hV⟩ : ∃ V, w1.alloc (.cells #[.string nj, .int .i64 mj, .int .i64 xj, .bool bj, .int .i64 tj, .string hj, .func (.func fj) #[] cj] 186) = V := ⟨_, rfl⟩
  have XV := hid (show Ext M V from hV ▸ hx1.trans (Ext.alloc _ _))
  have HKB := hid (show V.heap[w1.heap.size]? = some (.cells #[.string nj, .int .i64 mj, .int .i64 xj, .bool bj, .int .i64 tj, .string hj, .func (.func fj) #[] cj] 186) from hV ▸ blk0 _ _)
  have HOV := hid (show OfAt V g from hV ▸ blkOld _ hO)
  clear hx1 hO t0 t1 t2 t3
  obtain ⟨r0, r1, r2, r3, r4, r5, r6⟩ := seven_of HKB.out
  go_wp2_with fail
  first | rw [hV] | skip
  clear hV
  generalize w1.heap.size = kx at *
  refine (HNO.out _ (XM.out.trans XV.out)).mono ?_
  rintro e w2 ⟨q, rfl, hq, hx2⟩
  obtain ⟨qa, qc, rfl⟩ := ownsRow_slice hq
  have HQ := hid hq
  have X2 := hid (XV.out.trans hx2)
  have X22 := hid hx2
  clear hq hx2 r0 r1 r2 r3 r4 r5 r6
  obtain ⟨r0, r1, r2, r3, r4, r5, r6⟩ := seven_of (X22.out.block HKB.out)
  obtain ⟨t0, t1, t2, t3⟩ := four_of (X2.out.block HM0.out)
  go_wp2_with fail
  refine (HFI.out _ _).mono ?_
  rintro e w3 ⟨rfl, hx3⟩
  have X3 := hid (X2.out.trans hx3)
  have X33 := hid (X22.out.trans hx3)
  have X23 := hid hx3
  clear hx3 r0 r1 r2 r3 r4 r5 r6 t0 t1 t2 t3
  by_cases hv : V2 = 0
  · have hv1 : (V2 == 0) = true := by rw [beq_iff_eq]; exact hv
    have hv2 : (V2 != 0) = false := by unfold bne; rw [hv1]; rfl
    have HVV := hid hv
    clear hv
    have HSK := hid (show ∀ W', Ext w3 W' → (Ext w3 W' ∧ W'.cell? ⟨kx, 6, none⟩ = some (.func (.func fj) #[] cj) ∧ W'.cell? ⟨w.heap.size, 0, none⟩ = some (.string k) ∧ W'.cell? ⟨w.heap.size, 1, none⟩ = some (.int .i64 n) ∧ W'.cell? ⟨w.heap.size, 2, none⟩ = some (.string x) ∧ W'.cell? ⟨w.heap.size, 3, none⟩ = some (.slice ka kl kc)) from fun W' X => by
      obtain ⟨s0, s1, s2, s3⟩ := four_of ((X3.out.trans X).block HM0.out)
      exact ⟨X, cell_of ((X33.out.trans X).block HKB.out) rfl, s0, s1, s2, s3⟩)
    have HOF := hid (fun W' (X : Ext w3 W') => (X33.out.trans X).block HOV.out)
    go_wp2_with fail
    go_region_held3 (fun W' => Ext w3 W' ∧ W'.cell? ⟨kx, 6, none⟩ = some (.func (.func fj) #[] cj) ∧ W'.cell? ⟨w.heap.size, 0, none⟩ = some (.string k) ∧ W'.cell? ⟨w.heap.size, 1, none⟩ = some (.int .i64 n) ∧ W'.cell? ⟨w.heap.size, 2, none⟩ = some (.string x) ∧ W'.cell? ⟨w.heap.size, 3, none⟩ = some (.slice ka kl kc))
      (first | with_reducible exact HSK.out _ (Ext.refl _) | with_reducible exact HSK.out _ (Ext.refl _).drew | with_reducible exact HSK.out _ Z3 | with_reducible exact HSK.out _ Z2 | with_reducible exact HSK.out _ Z1 | go_keep)
      (first
        | (go_at_call 96; (with_reducible refine (HNEW.out _ _ _ _ HXS.out (row_ext HQ.out (X23.out.trans (by repeat (first | with_reducible exact Ext.refl _ | with_reducible refine Ext.drew ?_))))).mono ?_); rintro r u1 ⟨ra, rc, rfl, hr, hy⟩; have Z1 : Ext w3 u1 := Ext.trans (by repeat (first | with_reducible exact Ext.refl _ | with_reducible refine Ext.drew ?_)) hy; have HR2 := hid hr)
        | (go_at_call 95; (with_reducible refine (HPM.out _ _ _ (HOF.out _ (by repeat (first | with_reducible exact Z1 | with_reducible refine Ext.drew ?_)))).mono ?_); rintro r u2 ⟨nv, rfl, hnv, hy⟩; obtain ⟨b, rfl, hbb⟩ := hnv; have HNB := hid hbb; have Z2 : Ext w3 u2 := Ext.trans (by repeat (first | with_reducible exact Z1 | with_reducible refine Ext.drew ?_)) hy; have ZY2 := hy; clear hbb)
        | (go_at_call 94; (with_reducible refine (hold_gen _ HBR.out _ _).mono ?_); rintro r u3 ⟨rfl, hhd, hy⟩; have Z3 : Ext w3 u3 := Ext.trans (by repeat (first | with_reducible exact Z2 | with_reducible refine Ext.drew ?_)) hy; have ZY3 := hy))
    all_goals
      go_wp2_with fail
      go_ret2
      have hb1 := XM.out.trans X3.out
      refine .inl ⟨HVV.out, u2.heap.size, b, ra, rc, rfl, hhd, ⟨b, rfl, ?_, HNB.out.2.1.later ZY3, fun hj => (HNB.out.2.2 hj).later ZY3⟩, row_base (row_ext (row_ext HR2.out ZY2) ZY3) hb1.size, (hb1.trans Z2).size, hb1.trans Z3⟩
      exact Nat.le_trans (hb1.trans Z1).size HNB.out.1
  · have hv1 : (V2 == 0) = false := by rw [beq_eq_false_iff_ne]; exact hv
    have hv2 : (V2 != 0) = true := by unfold bne; rw [hv1]; rfl
    have HVV := hid hv1
    clear hv
    go_wp2_with fail
    refine (fnew_j V2 HVV.out _).mono ?_
    rintro e w4 ⟨rfl, hw4⟩
    have HC4 := hid (show w4.cell? ⟨w3.heap.size, 0, none⟩ = some (.int .i64 V2) from hw4 ▸ cell_of (blk0 _ _) rfl)
    have X4 := hid (show Ext w w4 from hw4 ▸ XM.out.trans (X3.out.trans (Ext.alloc _ _)))
    clear hw4
    go_wp2_with fail
    go_ret2
    exact .inr ⟨HVV.out, _, rfl, HC4.out, X4.out⟩

end Go.Proofs.YtecabbifkcnbeaaGreatDoor.Nd
