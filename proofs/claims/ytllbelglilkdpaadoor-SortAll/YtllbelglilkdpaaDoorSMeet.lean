/-
  The solver's meet.
-/
import Derived.Test.YtllbelglilkdpaaDoorSMeetH
import Derived.Test.YtllbelglilkdpaaDoorSHead
import Derived.Deep.DeepCutAuto
namespace Go.Proofs.YtllbelglilkdpaaDoor
open Go.RowKit
theorem sol_stand {w w' : World} {kb mb N b1 b2 b3 : Nat} {σ τ : ByteArray → Option Sh} (h : Sol w kb mb N b1 b2 b3 σ) (hk : Kp (· ≠ mb) w w') (hm : SolM w' kb mb (N + 1) τ) : Sol w' kb mb (N + 1) b1 b2 b3 τ :=
  ⟨hm, hk.block' h.c1 h.n1, hk.block' h.c2 h.n2, hk.block' h.c3 h.n3, h.n1, h.n2, h.n3⟩
theorem FndN.none {σ : ByteArray → Option Sh} : ∀ {k : Nat} {x y : Sh}, FndN σ k x y → σ y.2 = none
  | 0, _, _, h => by rw [h.2.2]; exact h.2.1
  | _ + 1, _, _, ⟨_, _, _, _, h⟩ => FndN.none h
/-- Which is to stand for which. -/
def meetPQ (A B : Sh) : Sh × Sh := if (opS B && (!opS A || Op.bytesLess A.2.toList B.2.toList)) = true then (B, A) else (A, B)
/-- What meet leaves. -/
def MeetR (w : World) (kb mb N b1 b2 b3 : Nat) (σ : ByteArray → Option Sh) (P Q : Sh) (e : Ending) (w' : World) : Prop :=
  (P = Q ∧ e = .returned (.bool true) ∧ Ext w w') ∨ (P ≠ Q ∧ (opS P = true ∧ P.2 ≠ Q.2) ∧ e = .returned (.bool true) ∧ Kp (· ≠ mb) w w' ∧ Sol w' kb mb (N + 1) b1 b2 b3 (fun k => if k = P.2 then some Q else σ k)) ∨ (P ≠ Q ∧ ¬ (opS P = true ∧ P.2 ≠ Q.2) ∧ e = .returned (.bool false) ∧ Ext w w')
set_option linter.unusedSimpArgs false in
set_option maxRecDepth 100000 in
set_option maxHeartbeats 4000000 in
theorem meet_any (ka kb' : Nat) (a b A B : Sh) (w : World) {kb mb N b1 b2 b3 : Nat} {σ : ByteArray → Option Sh} (h : Sol w kb mb N b1 b2 b3 σ) (hfa : FndN σ ka a A) (hfb : FndN σ kb' b B) (hA : Bd A) (hB : Bd B) (hN : N ≤ 1000000) : Calls Tryd.prog 58 #[shV a, shV b, .pointer (some ⟨b3, 0, none⟩), .pointer (some ⟨b1, 0, none⟩)] w (MeetR w kb mb N b1 b2 b3 σ (meetPQ (A.1 + -(if B.1 < A.1 then B.1 else A.1), A.2) (B.1 + -(if B.1 < A.1 then B.1 else A.1), B.2)).1 (meetPQ (A.1 + -(if B.1 < A.1 then B.1 else A.1), A.2) (B.1 + -(if B.1 < A.1 then B.1 else A.1), B.2)).2) := by
  obtain ⟨na, xa⟩ := a
  obtain ⟨nb, xb⟩ := b
  obtain ⟨M, hM⟩ : ∃ M, (w.alloc (.cells #[.int .i64 na, .string xa] 58)).alloc (.cells #[.int .i64 nb, .string xb] 58) = M := ⟨_, rfl⟩
  have HXM := hid (show Ext w M from hM ▸ Ext.alloc2 _ _ _)
  have HB0 := hid (show M.heap[w.heap.size]? = some (.cells #[.int .i64 na, .string xa] 58) from hM ▸ blkOld _ (blk0 _ _))
  have HB1 := hid (show M.heap[w.heap.size + 1]? = some (.cells #[.int .i64 nb, .string xb] 58) from hM ▸ blk1 _ _ _)
  have HSOL := hid h
  have HC3 := hid (show M.heap[b3]? = some (.cells #[foundF b2] 69) from (h.later HXM.out).c3)
  have HFA := hid (fun w1 (hx : Ext w w1) => found_any ka (na, xa) A w1 (h.later hx).map (h.later hx).c2 hfa)
  have HFB := hid (fun w1 (hx : Ext w w1) => found_any kb' (nb, xb) B w1 (h.later hx).map (h.later hx).c2 hfb)
  obtain ⟨pA, qA⟩ := A
  obtain ⟨pB, qB⟩ := B
  obtain ⟨PA, hPA⟩ : ∃ PA, pA + -(if pB < pA then pB else pA) = PA := ⟨_, rfl⟩
  obtain ⟨PB, hPB⟩ : ∃ PB, pB + -(if pB < pA then pB else pA) = PB := ⟨_, rfl⟩
  have HBA := hid (show ∀ w1, Calls Tryd.prog 59 #[shV (pA, qA), shV (pB, qB)] w1 fun e w' => e = .returned (.tuple #[shV (PA, qA), shV (PB, qB)]) ∧ Ext w1 w' from fun w1 => by
    have h1 := bare_any (pA, qA) (pB, qB) w1 hA hB
    simp only [hPA, hPB] at h1
    exact h1)
  have hb3 := lt_of_block h.c3
  have HSK := hid (show ∀ W', Ext M W' → (W'.cell? ⟨b3, 0, none⟩ = some (foundF b2) ∧ W'.cell? ⟨w.heap.size, 0, none⟩ = some (.int .i64 na) ∧ W'.cell? ⟨w.heap.size, 1, none⟩ = some (.string xa) ∧ W'.cell? ⟨w.heap.size + 1, 0, none⟩ = some (.int .i64 nb) ∧ W'.cell? ⟨w.heap.size + 1, 1, none⟩ = some (.string xb)) from fun W' Y => by
    obtain ⟨s0, s1⟩ := two_of (Y.block HB0.out)
    obtain ⟨s2, s3⟩ := two_of (Y.block HB1.out)
    exact ⟨cell_of (Y.block HC3.out) rfl, s0, s1, s2, s3⟩)
  obtain ⟨t0, t1, t2, t3, t4⟩ := HSK.out M (Ext.refl _)
  have HPA := hid hPA
  have hnA : σ qA = none := hfa.none
  have hnB : σ qB = none := hfb.none
  have HNA := hid hnA
  have HNB := hid hnB
  have HQA := hid hA.2.2
  have HQB := hid hB.2.2
  obtain ⟨PQ, hPQ⟩ : ∃ PQ, meetPQ (PA, qA) (PB, qB) = PQ := ⟨_, rfl⟩
  simp only [hPA, hPB, hPQ]
  have HPQ := hid hPQ
  clear hnA hnB hPQ
  have HPB := hid hPB
  clear h hfa hfb hA hB hPA hPB
  go_enter Tryd.func58, Tryd.ntmps58
  go_upto_region 1 with fail
  clear hM hb3
  go_cut [] (fun wx => wx.heap[w.heap.size]? = some (.cells #[.int .i64 PA, .string qA] 58) ∧ wx.heap[w.heap.size + 1]? = some (.cells #[.int .i64 PB, .string qB] 58) ∧ Kp (fun q => q ≠ w.heap.size ∧ q ≠ w.heap.size + 1) M wx)
  case first =>
    refine wp_region_noPanic ?_
    refine wp_region_headed (S := fun W' => W'.cell? ⟨b3, 0, none⟩ = some (foundF b2) ∧ W'.cell? ⟨w.heap.size, 0, none⟩ = some (.int .i64 na) ∧ W'.cell? ⟨w.heap.size, 1, none⟩ = some (.string xa) ∧ W'.cell? ⟨w.heap.size + 1, 0, none⟩ = some (.int .i64 nb) ∧ W'.cell? ⟨w.heap.size + 1, 1, none⟩ = some (.string xb)) 7 (by kernel_rfl) (by kernel_rfl) (HSK.out _ (Ext.drew (Ext.refl _))) (fun hS => ?_)
    have Z0 : Ext M M.drew := Ext.drew (Ext.refl _)
    refine wpHd_take (i := 0) (oi := ?o0) (v := ?v0) ?hi0 (by kernel_rfl) (by kernel_rfl) (fun _ _ _ h => h) (Or.inl ⟨?hw0, ?hy0⟩) hS ?rs0
    case hi0 => (simp only [List.getElem?_toArray, List.getElem?_cons_succ, List.getElem?_cons_zero]; rfl)
    case hw0 => rfl
    case hy0 => (intro w hSw; (try dsimp only at hSw); obtain ⟨t0, t1, t2, t3, t4⟩ := hSw; go_simp; all_goals with_reducible rfl)
    try simp only [Act.put, List.setIfInBounds_toArray, List.set_cons_zero, List.set_cons_succ]
    refine wpHd_take (i := 1) (oi := ?o1) (v := ?v1) ?hi1 (by kernel_rfl) (by kernel_rfl) (fun _ _ _ h => h) (Or.inl ⟨?hw1, ?hy1⟩) hS ?rs1
    case hi1 => (simp only [List.getElem?_toArray, List.getElem?_cons_succ, List.getElem?_cons_zero]; rfl)
    case hw1 => rfl
    case hy1 => (intro w hSw; (try dsimp only at hSw); obtain ⟨t0, t1, t2, t3, t4⟩ := hSw; go_simp; all_goals with_reducible rfl)
    try simp only [Act.put, List.setIfInBounds_toArray, List.set_cons_zero, List.set_cons_succ]
    refine wpHd_take (i := 3) (oi := ?o3) (v := ?v3) ?hi3 (by kernel_rfl) (by kernel_rfl) (fun _ _ _ h => h) (Or.inl ⟨?hw3, ?hy3⟩) hS ?rs3
    case hi3 => (simp only [List.getElem?_toArray, List.getElem?_cons_succ, List.getElem?_cons_zero]; rfl)
    case hw3 => rfl
    case hy3 => (intro w hSw; (try dsimp only at hSw); obtain ⟨t0, t1, t2, t3, t4⟩ := hSw; go_simp; all_goals with_reducible rfl)
    try simp only [Act.put, List.setIfInBounds_toArray, List.set_cons_zero, List.set_cons_succ]
    refine wpHd_take (i := 4) (oi := ?o4) (v := ?v4) ?hi4 (by kernel_rfl) (by kernel_rfl) (fun _ _ _ h => h) (Or.inl ⟨?hw4, ?hy4⟩) hS ?rs4
    case hi4 => (simp only [List.getElem?_toArray, List.getElem?_cons_succ, List.getElem?_cons_zero]; rfl)
    case hw4 => rfl
    case hy4 => (intro w hSw; (try dsimp only at hSw); obtain ⟨t0, t1, t2, t3, t4⟩ := hSw; go_simp; all_goals with_reducible rfl)
    try simp only [Act.put, List.setIfInBounds_toArray, List.set_cons_zero, List.set_cons_succ]
    refine wpHd_step (i := 2) (o := ?o2) ?hi2 (by kernel_rfl) (fun K hK => ?st2)
    case hi2 => (simp only [List.getElem?_toArray, List.getElem?_cons_succ, List.getElem?_cons_zero]; rfl)
    go_simp
    refine (HFA.out _ (HXM.out.trans Z0)).mono ?_
    rintro e w1 ⟨rfl, hx1⟩
    have Z1 : Ext M w1 := Z0.trans hx1
    clear hx1
    try go_simp
    refine hK.out _ _ ?_ (fun hS => ?_)
    · exact HSK.out _ Z1
    clear hK K
    try simp only [Act.put, List.setIfInBounds_toArray, List.set_cons_zero, List.set_cons_succ]
    refine wpHd_step (i := 5) (o := ?o5) ?hi5 (by kernel_rfl) (fun K hK => ?st5)
    case hi5 => (simp only [List.getElem?_toArray, List.getElem?_cons_succ, List.getElem?_cons_zero]; rfl)
    go_simp
    refine (HFB.out _ (HXM.out.trans Z1)).mono ?_
    rintro e w2 ⟨rfl, hx2⟩
    have Z2 : Ext M w2 := Z1.trans hx2
    clear hx2
    try go_simp
    refine hK.out _ _ ?_ (fun hS => ?_)
    · exact HSK.out _ Z2
    clear hK K
    try simp only [Act.put, List.setIfInBounds_toArray, List.set_cons_zero, List.set_cons_succ]
    refine wpHd_step (i := 6) (o := ?o6) ?hi6 (by kernel_rfl) (fun K hK => ?st6)
    case hi6 => (simp only [List.getElem?_toArray, List.getElem?_cons_succ, List.getElem?_cons_zero]; rfl)
    go_simp
    refine (HBA.out _).mono ?_
    rintro e w3 ⟨rfl, hx3⟩
    have Z3 : Ext M w3 := Z2.trans hx3
    clear hx3
    try go_simp
    refine hK.out _ _ ?_ (fun hS => ?_)
    · exact HSK.out _ Z3
    clear hK K
    try simp only [Act.put, List.setIfInBounds_toArray, List.set_cons_zero, List.set_cons_succ]
    refine wpHd_done (by kernel_rfl) 5 rfl ?_
    refine wpAny_take (i := 7) (oi := ?o7) (v := ?v7) ?hi7 (by kernel_rfl) (by kernel_rfl) (by kernel_rfl) (fun _ _ _ h => h) (Or.inl ⟨?hw7, ?hy7⟩) ?rs7
    case hi7 => (simp only [List.getElem?_toArray, List.getElem?_cons_succ, List.getElem?_cons_zero]; rfl)
    case hw7 => rfl
    case hy7 => (intro w; go_simp; all_goals with_reducible rfl)
    try simp only [Act.put, List.setIfInBounds_toArray, List.set_cons_zero, List.set_cons_succ]
    refine wpAny_take (i := 8) (oi := ?o8) (v := ?v8) ?hi8 (by kernel_rfl) (by kernel_rfl) (by kernel_rfl) (fun _ _ _ h => h) (Or.inl ⟨?hw8, ?hy8⟩) ?rs8
    case hi8 => (simp only [List.getElem?_toArray, List.getElem?_cons_succ, List.getElem?_cons_zero]; rfl)
    case hw8 => rfl
    case hy8 => (intro w; go_simp; all_goals with_reducible rfl)
    try simp only [Act.put, List.setIfInBounds_toArray, List.set_cons_zero, List.set_cons_succ]
    refine wpAny_take (i := 9) (oi := ?o9) (v := ?v9) ?hi9 (by kernel_rfl) (by kernel_rfl) (by kernel_rfl) (fun _ _ _ h => h) (Or.inl ⟨?hw9, ?hy9⟩) ?rs9
    case hi9 => (simp only [List.getElem?_toArray, List.getElem?_cons_succ, List.getElem?_cons_zero]; rfl)
    case hw9 => rfl
    case hy9 => (intro w; go_simp; all_goals with_reducible rfl)
    try simp only [Act.put, List.setIfInBounds_toArray, List.set_cons_zero, List.set_cons_succ]
    refine wpAny_row 10 2 rfl (by kernel_rfl) ?_
    clear hS t0 t1 t2 t3 t4
    obtain ⟨f1, f2⟩ := two_of (Z3.block HB0.out)
    obtain ⟨f3, f4⟩ := two_of (Z3.block HB1.out)
    obtain ⟨g0, g1⟩ := two_free (Z3.block HB0.out)
    obtain ⟨g2, g3⟩ := two_free (Z3.block HB1.out)
    simp only [List.drop_succ_cons, List.drop_zero]
    go_wp2_with fail
    refine NoPanic.normal ?_
    go_wp2_with fail
    go_meet
    case rel =>
      have k2 := Kp.set2 w3 w.heap.size 0 (.int .i64 PA) (.string qA)
      have k3 := Kp.set2 ((w3.setCell ⟨w.heap.size, 0, none⟩ (.int .i64 PA)).setCell ⟨w.heap.size, 1, none⟩ (.string qA)) (w.heap.size + 1) 0 (.int .i64 PB) (.string qB)
      exact ⟨k3.block' (two_set (Z3.block HB0.out)) (by omega), two_set (k2.block' (Z3.block HB1.out) (by omega)), ((Z3.kp _).trans (k2.mono (fun q _ h => h.1))).trans (k3.mono (fun q _ h => h.2))⟩
  case rest =>
    obtain ⟨hc0, hc1, hck⟩ := hcut
    obtain ⟨V, hV⟩ : ∃ V, V = wc := ⟨wc, rfl⟩
    subst hV
    have C0 := hid hc0
    have C1 := hid hc1
    have CK := hid hck
    obtain ⟨p0, p1⟩ := two_of hc0
    obtain ⟨q0, q1⟩ := two_of hc1
    clear hc0 hc1 hck t0 t1 t2 t3 t4
    have OA := hid (show ∀ w1, Calls Tryd.prog 60 #[.agg #[.int .i64 PA, .string qA]] w1 fun e w' => e = .returned (.bool (opS (PA, qA))) ∧ Ext w1 w' from fun w1 => open_any (PA, qA) w1)
    have OB := hid (show ∀ w1, Calls Tryd.prog 60 #[.agg #[.int .i64 PB, .string qB]] w1 fun e w' => e = .returned (.bool (opS (PB, qB))) ∧ Ext w1 w' from fun w1 => open_any (PB, qB) w1)
    obtain ⟨oa, hoa⟩ : ∃ oa, opS (PA, qA) = oa := ⟨_, rfl⟩
    obtain ⟨ob, hob⟩ : ∃ ob, opS (PB, qB) = ob := ⟨_, rfl⟩
    rw [hoa] at OA
    rw [hob] at OB
    obtain ⟨lb, hlb⟩ : ∃ lb, Op.bytesLess qA.toList qB.toList = lb := ⟨_, rfl⟩
    obtain ⟨sw, hsw⟩ : ∃ sw, (ob && (!oa || lb)) = sw := ⟨_, rfl⟩
    have HPQ2 := hid (show PQ = if sw = true then ((PB, qB), (PA, qA)) else ((PA, qA), (PB, qB)) by rw [← HPQ.out, ← hsw]; unfold meetPQ; rw [hob, hoa, hlb])
    have HSWE := hid hsw
    have HNP := hid (show σ PQ.1.2 = none by rw [HPQ2.out]; split; exact HNB.out; exact HNA.out)
    have HQP := hid (show PQ.1.2.size ≤ 140737488351232 by rw [HPQ2.out]; split; exact HQB.out; exact HQA.out)
    clear hoa hob hsw
    go_upto_region 2 with fail
    go_cut [30] (fun s30 wx => s30 = .bool sw ∧ wx.heap[w.heap.size]? = some (.cells #[.int .i64 PA, .string qA] 58) ∧ wx.heap[w.heap.size + 1]? = some (.cells #[.int .i64 PB, .string qB] 58) ∧ Kp (fun q => q ≠ w.heap.size ∧ q ≠ w.heap.size + 1) M wx)
    case first =>
      cases ob with
      | false =>
        go_wp2_with fail
        go_at_call 60
        with_reducible refine (OB.out _).mono ?_
        rintro e w4 ⟨rfl, hx4⟩
        obtain ⟨p0', p1'⟩ := two_of (hx4.block C0.out)
        obtain ⟨q0', q1'⟩ := two_of (hx4.block C1.out)
        have X4 := hid hx4
        clear hx4
        go_wp2_with fail
        go_meet
        case rel => exact ⟨by rw [← HSWE.out]; rfl, X4.out.block C0.out, X4.out.block C1.out, CK.out.trans (X4.out.kp _)⟩
      | true =>
        cases oa with
        | false =>
          go_wp2_with fail
          go_at_call 60
          with_reducible refine (OB.out V).mono ?_
          rintro e w4 ⟨rfl, hx4⟩
          obtain ⟨p0', p1'⟩ := two_of (hx4.block C0.out)
          obtain ⟨q0', q1'⟩ := two_of (hx4.block C1.out)
          have X4 := hid hx4
          clear hx4
          go_wp2_with fail
          go_at_call 60
          with_reducible refine (OA.out w4).mono ?_
          rintro e w5 ⟨rfl, hx5⟩
          obtain ⟨p0'', p1''⟩ := two_of (hx5.block (X4.out.block C0.out))
          obtain ⟨q0'', q1''⟩ := two_of (hx5.block (X4.out.block C1.out))
          have X5 := hid hx5
          clear hx5
          go_wp2_with fail
          go_meet
          case rel => exact ⟨by rw [← HSWE.out]; rfl, X5.out.block (X4.out.block C0.out), X5.out.block (X4.out.block C1.out), (CK.out.trans (X4.out.kp _)).trans (X5.out.kp _)⟩
        | true =>
          go_wp2_with fail
          go_at_call 60
          with_reducible refine (OB.out V).mono ?_
          rintro e w4 ⟨rfl, hx4⟩
          obtain ⟨p0', p1'⟩ := two_of (hx4.block C0.out)
          obtain ⟨q0', q1'⟩ := two_of (hx4.block C1.out)
          have X4 := hid hx4
          clear hx4
          go_wp2_with fail
          go_at_call 60
          with_reducible refine (OA.out w4).mono ?_
          rintro e w5 ⟨rfl, hx5⟩
          obtain ⟨p0'', p1''⟩ := two_of (hx5.block (X4.out.block C0.out))
          obtain ⟨q0'', q1''⟩ := two_of (hx5.block (X4.out.block C1.out))
          have X5 := hid hx5
          clear hx5
          go_wp2_with fail
          go_meet
          case rel => exact ⟨by rw [← HSWE.out]; rfl, X5.out.block (X4.out.block C0.out), X5.out.block (X4.out.block C1.out), (CK.out.trans (X4.out.kp _)).trans (X5.out.kp _)⟩
    case rest =>
      clear p0 p1 q0 q1 OA OB C0 C1 CK HSWE hlb
      obtain ⟨rfl, hc0, hc1, hck⟩ := hcut
      have C0 := hid hc0
      have C1 := hid hc1
      have CK := hid hck
      obtain ⟨p0, p1⟩ := two_of hc0
      obtain ⟨q0, q1⟩ := two_of hc1
      obtain ⟨e0, e1⟩ := two_free hc0
      obtain ⟨e2, e3⟩ := two_free hc1
      clear hc0 hc1 hck
      obtain ⟨U, hU⟩ : ∃ U, U = wc := ⟨wc, rfl⟩
      subst hU
      go_upto_if 30 with fail
      go_cut [] (fun wx => wx.heap[w.heap.size]? = some (.cells #[.int .i64 PQ.1.1, .string PQ.1.2] 58) ∧ wx.heap[w.heap.size + 1]? = some (.cells #[.int .i64 PQ.2.1, .string PQ.2.2] 58) ∧ Kp (fun q => q ≠ w.heap.size ∧ q ≠ w.heap.size + 1) M wx)
      case first =>
        cases sw with
        | false =>
          go_wp2_with fail
          go_meet
          case rel =>
            rw [HPQ2.out]
            exact ⟨C0.out, C1.out, CK.out⟩
        | true =>
          go_wp2_with fail
          go_meet
          case rel =>
            rw [HPQ2.out]
            have k2 := Kp.set2 U w.heap.size 0 (.int .i64 PB) (.string qB)
            have k3 := Kp.set2 ((U.setCell ⟨w.heap.size, 0, none⟩ (.int .i64 PB)).setCell ⟨w.heap.size, 1, none⟩ (.string qB)) (w.heap.size + 1) 0 (.int .i64 PA) (.string qA)
            exact ⟨k3.block' (two_set C0.out) (by omega), two_set (k2.block' C1.out (by omega)), (CK.out.trans (k2.mono (fun q _ h => h.1))).trans (k3.mono (fun q _ h => h.2))⟩
      case rest =>
        clear p0 p1 q0 q1 e0 e1 e2 e3 C0 C1 CK
        obtain ⟨hc0, hc1, hck⟩ := hcut
        obtain ⟨X, hX⟩ : ∃ X, X = wc := ⟨wc, rfl⟩
        subst hX
        clear HPQ HPQ2
        obtain ⟨⟨p, x⟩, ⟨q, y⟩⟩ := PQ
        have C0 := hid (show X.heap[w.heap.size]? = some (.cells #[.int .i64 p, .string x] 58) from hc0)
        have C1 := hid (show X.heap[w.heap.size + 1]? = some (.cells #[.int .i64 q, .string y] 58) from hc1)
        have CK := hid hck
        have HEX := hid (show Ext w X from Kp.ext ((HXM.out.kp (fun r => r ≠ w.heap.size ∧ r ≠ w.heap.size + 1)).trans CK.out) (fun r hr => ⟨by omega, by omega⟩))
        have HSW2 := hid (HSOL.out.later HEX.out)
        have HST := hid (show ∀ w1, Ext X w1 → Calls Tryd.prog 64 #[.string x, .agg #[.int .i64 q, .string y], .pointer (some ⟨kb, 0, none⟩)] w1 (StandR w1 kb mb N σ x (q, y)) from fun w1 hx => stand_any x (q, y) w1 (HSW2.out.later hx).map HQP.out hN)
        have HOP := hid (show ∀ w1, Calls Tryd.prog 60 #[.agg #[.int .i64 p, .string x]] w1 fun e w' => e = .returned (.bool (opS (p, x))) ∧ Ext w1 w' from fun w1 => open_any (p, x) w1)
        obtain ⟨o, ho⟩ : ∃ o, opS (p, x) = o := ⟨_, rfl⟩
        rw [ho] at HOP
        have HO := hid ho
        clear ho hc0 hc1 hck
        obtain ⟨p0, p1⟩ := two_of C0.out
        obtain ⟨q0, q1⟩ := two_of C1.out
        by_cases hpq : p = q
        · subst hpq
          by_cases hxy0 : x = y
          · subst hxy0
            go_wp2_with fail
            go_ret
            exact .inl ⟨rfl, rfl, HEX.out⟩
          · have hq1 : (x.toList == y.toList) = false := by rw [beq_eq_false_iff_ne]; exact fun e => hxy0 (toList_inj e)
            have HX0 := hid hxy0
            clear hxy0
            cases o with
            | false =>
              go_wp2_with fail
              go_at_call 60
              with_reducible refine (HOP.out _).mono ?_
              rintro e w5 ⟨rfl, hx5⟩
              obtain ⟨p0', p1'⟩ := two_of (hx5.block C0.out)
              obtain ⟨q0', q1'⟩ := two_of (hx5.block C1.out)
              have cst : w5.cell? ⟨b1, 0, none⟩ = some (standF kb) := cell_of ((HSW2.out.later hx5).c1) rfl
              have X5 := hid hx5
              clear hx5
              go_wp2_with fail
              go_ret
              exact .inr (.inr ⟨fun e => HX0.out (congrArg Prod.snd e), (fun h => by have h1 := h.1; rw [HO.out] at h1; cases h1), rfl, Ext.trans HEX.out X5.out⟩)
            | true =>
              by_cases hxy : x = y
              · exact absurd hxy HX0.out
              · have hq2 : (x.toList != y.toList) = true := by simp; exact fun e => hxy (toList_inj e)
                have hq3 : (x.toList == y.toList) = false := by rw [beq_eq_false_iff_ne]; exact fun e => hxy (toList_inj e)
                have HXY := hid hxy
                clear hxy
                go_wp2_with fail
                go_at_call 60
                with_reducible refine (HOP.out _).mono ?_
                rintro e w5 ⟨rfl, hx5⟩
                obtain ⟨p0', p1'⟩ := two_of (hx5.block C0.out)
                obtain ⟨q0', q1'⟩ := two_of (hx5.block C1.out)
                have cst : w5.cell? ⟨b1, 0, none⟩ = some (standF kb) := cell_of ((HSW2.out.later hx5).c1) rfl
                have X5 := hid hx5
                clear hx5
                go_wp2_with fail
                go_at_call 64
                with_reducible refine (HST.out w5 X5.out).mono ?_
                rintro e w6 hst
                rcases hst with ⟨hs, _⟩ | ⟨_, rfl, hs1, hs2⟩
                · rw [HNP.out] at hs
                  cases hs
                have Y1 := hid hs1
                have Y2 := hid hs2
                clear hs1 hs2
                go_wp2_with fail
                go_ret
                exact .inr (.inl ⟨fun e => HX0.out (congrArg Prod.snd e), ⟨HO.out, HXY.out⟩, rfl, ((HEX.out.trans X5.out).kp _).trans Y1.out, sol_stand (HSW2.out.later X5.out) Y1.out Y2.out⟩)
        · have hq0 : (p == q) = false := by rw [beq_eq_false_iff_ne]; exact hpq
          have HX0 := hid hpq
          clear hpq
          cases o with
          | false =>
            go_wp2_with fail
            go_at_call 60
            with_reducible refine (HOP.out _).mono ?_
            rintro e w5 ⟨rfl, hx5⟩
            obtain ⟨p0', p1'⟩ := two_of (hx5.block C0.out)
            obtain ⟨q0', q1'⟩ := two_of (hx5.block C1.out)
            have cst : w5.cell? ⟨b1, 0, none⟩ = some (standF kb) := cell_of ((HSW2.out.later hx5).c1) rfl
            have X5 := hid hx5
            clear hx5
            go_wp2_with fail
            go_ret
            exact .inr (.inr ⟨fun e => HX0.out (congrArg Prod.fst e), (fun h => by have h1 := h.1; rw [HO.out] at h1; cases h1), rfl, Ext.trans HEX.out X5.out⟩)
          | true =>
            by_cases hxy : x = y
            · have hq2 : (x.toList != y.toList) = false := by rw [hxy]; simp
              have hq3 : (x.toList == y.toList) = true := by rw [hxy]; simp
              have HXY := hid hxy
              clear hxy
              go_wp2_with fail
              go_at_call 60
              with_reducible refine (HOP.out _).mono ?_
              rintro e w5 ⟨rfl, hx5⟩
              obtain ⟨p0', p1'⟩ := two_of (hx5.block C0.out)
              obtain ⟨q0', q1'⟩ := two_of (hx5.block C1.out)
              have cst : w5.cell? ⟨b1, 0, none⟩ = some (standF kb) := cell_of ((HSW2.out.later hx5).c1) rfl
              have X5 := hid hx5
              clear hx5
              go_wp2_with fail
              go_ret
              exact .inr (.inr ⟨fun e => HX0.out (congrArg Prod.fst e), (fun h => h.2 HXY.out), rfl, Ext.trans HEX.out X5.out⟩)
            · have hq2 : (x.toList != y.toList) = true := by simp; exact fun e => hxy (toList_inj e)
              have hq3 : (x.toList == y.toList) = false := by rw [beq_eq_false_iff_ne]; exact fun e => hxy (toList_inj e)
              have HXY := hid hxy
              clear hxy
              go_wp2_with fail
              go_at_call 60
              with_reducible refine (HOP.out _).mono ?_
              rintro e w5 ⟨rfl, hx5⟩
              obtain ⟨p0', p1'⟩ := two_of (hx5.block C0.out)
              obtain ⟨q0', q1'⟩ := two_of (hx5.block C1.out)
              have cst : w5.cell? ⟨b1, 0, none⟩ = some (standF kb) := cell_of ((HSW2.out.later hx5).c1) rfl
              have X5 := hid hx5
              clear hx5
              go_wp2_with fail
              go_at_call 64
              with_reducible refine (HST.out w5 X5.out).mono ?_
              rintro e w6 hst
              rcases hst with ⟨hs, _⟩ | ⟨_, rfl, hs1, hs2⟩
              · rw [HNP.out] at hs
                cases hs
              have Y1 := hid hs1
              have Y2 := hid hs2
              clear hs1 hs2
              go_wp2_with fail
              go_ret
              exact .inr (.inl ⟨fun e => HX0.out (congrArg Prod.fst e), ⟨HO.out, HXY.out⟩, rfl, ((HEX.out.trans X5.out).kp _).trans Y1.out, sol_stand (HSW2.out.later X5.out) Y1.out Y2.out⟩)
end Go.Proofs.YtllbelglilkdpaaDoor
