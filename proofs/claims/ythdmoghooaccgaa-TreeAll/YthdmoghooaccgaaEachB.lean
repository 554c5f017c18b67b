/-
  each of the statements, by a contract: it answers true (the stop is beyond the end).
-/
import Derived.Test.YthdmoghooaccgaaRegIn
namespace Go.Proofs.Ythdmoghooaccgaa
open Go.RowKit Go.Shelf
attribute [local go_sem] Oper.semAt_some
set_option maxRecDepth 100000 in
set_option maxHeartbeats 4000000 in
theorem each_b {K : Nat → Prop} {d : Nat} {t : T} (w : World) (kd : Int) (k : ByteArray) (n : Int) (x : ByteArray) (a : Option Addr) (kl c : Nat) (k' : ByteArray) (n' : Int) (x' : ByteArray) (a' : Option Addr) (kl' c' : Nat) (pa : Option Addr) (pl pc : Nat) (st : Int)
    (hr : Rd K w d (.agg #[.string k, .int .i64 n, .string x, .slice a kl c]) t) (h0 : 0 ≤ st) (hst : ¬ st < ((if t.small then T.all [] t else []).length : Int)) :
    Calls Try.prog 40 #[.agg (opV kd k n x a kl c k' n' x' a' kl' c' (.slice pa pl pc) st)] w fun e w' => e = .returned (.bool true) ∧ Ext w w' := by
  have C1 := hid (fun w1 (h : Ext w w1) => refAll_any w1 (hr.later h))
  have C2 := hid (fun w1 (h : Ext w w1) => each_face w1 (hr.later h))
  clear hr
  obtain ⟨ys, hys⟩ : ∃ ys, (if t.small then T.all [] t else []) = ys := ⟨_, rfl⟩
  rw [hys] at hst
  have HYS := hid hys
  have hN1 : ys.length ≤ 1024 := by
    rw [← hys]
    split
    · rename_i h; rw [T.all_length]; exact h.1
    · exact Nat.zero_le _
  rw [hys] at C1
  clear hys
  have hst0 : decide (0 ≤ st) = true := decide_eq_true h0
  have hst1 : decide (st < (ys.length : Int)) = false := decide_eq_false hst
  refine (callsIn_wide (n := 0)).1 ?_
  refine callsIn_of_wp_marks Try.func40 rfl trivial ?_ rfl
  show Code.wpIn _ _ _ _ _ _ _
  simp only [Try.ntmps40, List.size_toArray, List.length_cons, List.length_nil, Nat.reduceAdd, Nat.reduceSub, Array.replicate_succ, Array.replicate_zero, List.push_toArray, List.append_toArray, List.nil_append, List.cons_append]
  gi_wp2_with fail
  refine ⟨trivial, rfl, (callsIn_wide.2 (C1.out _ (Ext.alloc2 _ _ _))).mono ?_⟩
  rintro e w1 ⟨v1, xs, rfl, hst1, hx1⟩
  obtain ⟨la, lc, rfl⟩ := row5_slice hst1.1
  have X1 := hid ((Ext.alloc2 w _ _).trans hx1)
  have HBO := hid (hx1.block (blkOld (.cells #[.bool false] 4) (blk0 w (.cells (opV kd k n x a kl c k' n' x' a' kl' c' (.slice pa pl pc) st) 29))))
  have HBR := hid (hx1.block (blk1 w (.cells (opV kd k n x a kl c k' n' x' a' kl' c' (.slice pa pl pc) st) 29) (.cells #[.bool false] 4)))
  have HST := hid hst1
  clear hx1 hst1
  have X2 := hid (X1.out.trans (Ext.alloc w1 (.cells #[.slice la ys.length lc] 51)))
  obtain ⟨s0, s1, s2, s3, s4, s5, s6, s7, s8, s9, s10⟩ := op_of (blkOld (.cells #[.slice la ys.length lc] 51) HBO.out)
  gi_wp2_with fail
  refine ⟨trivial, rfl, (callsIn_wide.2 (C2.out _ X2.out)).mono ?_⟩
  rintro e w3 ⟨hx3, eb, ob, kk, nn, xx, aa, ll, cc, rfl, heb, hob, hbo, hcase⟩
  have X3 := hid (X2.out.trans hx3)
  have HIT := hid (show ∀ (W : World) (M0 : Nat → Prop), Ext w3 W → (∀ q, M0 q → w3.heap.size ≤ q) → IterOk 45 #[.pointer (some ⟨eb, 0, none⟩), .pointer (some ⟨ob, 0, none⟩)] ys.length M0 W (eachX t W.heap.size) from fun W M0 hW hM => by
    rcases hcase with ⟨hs, he, bs, hown, hbs⟩ | ⟨hs, he⟩
    · have h1 : ys.length = t.size := by rw [← HYS.out, if_pos hs, T.all_length]
      rw [h1]
      exact each_iter (d := d) (hW.block he) (hW.block hbo) ((hown.rd.later hW).mono (fun q _ hq e => by have := hown.lt q hq; have := hM q e; omega)) hs.2.1 (fun i y h => by have := path_len hs h; omega)
    · have h1 : ys.length = 0 := by rw [← HYS.out, if_neg hs]; rfl
      rw [h1]
      exact each_none (hW.block he))
  have HBO3 := hid (hx3.block (blkOld (.cells #[.slice la ys.length lc] 51) HBO.out))
  have HBR3 := hid (hx3.block (blkOld (.cells #[.slice la ys.length lc] 51) HBR.out))
  have HBL3 := hid (hx3.block (blk0 w1 (.cells #[.slice la ys.length lc] 51)))
  have HST3 := hid ((HST.out.later (Ext.alloc w1 (.cells #[.slice la ys.length lc] 51))).later hx3)
  have hs1 : w.heap.size + 1 < w1.heap.size := lt_of_block HBR.out
  have hs3 : w1.heap.size < w3.heap.size := lt_of_block HBL3.out
  clear hx3 hcase heb hob hbo s0 s1 s2 s3 s4 s5 s6 s7 s8 s9 s10 HST HBO HBR X1 X2
  gi_wp2_with fail
  refine wpIn_loop_rounds 3 ?_
  rw [roundsIn_succ]
  obtain ⟨o0, o1, o2, o3, o4, o5, o6, o7, o8, o9, o10⟩ := op_of (Ext.block (Ext.alloc2 w3 (.cells #[.int .i64 0] 3) (.cells #[.int .i64 ((ys.length : Int) + 1)] 3)) ((Ext.refl w3).block HBO3.out))
  have l0 := cell_of (i := 0) (blkOld (.cells #[.int .i64 0] 3) ((Ext.refl w3).block HBL3.out)) rfl
  have l1 := cell_of (i := 0) (Ext.block (Ext.alloc2 w3 (.cells #[.int .i64 0] 3) (.cells #[.int .i64 ((ys.length : Int) + 1)] 3)) ((Ext.refl w3).block HBL3.out)) rfl
  simp only [List.getElem_toArray, List.getElem_cons_zero] at l0 l1
  gi_wp2_with fail
  obtain ⟨Y1, hY1⟩ : ∃ Y, (w3.alloc (.cells #[.int .i64 0] 3)).alloc (.cells #[.int .i64 ((ys.length : Int) + 1)] 3) = Y := ⟨_, rfl⟩
  have XWY1 := hid (show Ext w3 Y1 from hY1 ▸ Ext.alloc2 _ _ _)
  have XY1 := hid (show Ext w3 Y1 from (Ext.refl w3).trans XWY1.out)
  have HIB1 := hid (show Y1.heap[w3.heap.size]? = some (.cells #[.int .i64 0] 3) from hY1 ▸ blkOld _ (blk0 _ _))
  have HSB1 := hid (show Y1.heap[w3.heap.size + 1]? = some (.cells #[.int .i64 ((ys.length : Int) + 1)] 3) from hY1 ▸ blk1 _ _ _)
  have hsY1 : w3.heap.size + 1 < Y1.heap.size := lt_of_block HSB1.out
  have hsW1 : w3.heap.size ≤ w3.heap.size := (Ext.refl w3).size
  rw [hY1]
  clear hY1 o0 o1 o2 o3 o4 o5 o6 o7 o8 o9 o10 l0 l1
  refine rangeM rfl (enters_of Try.func45 (by kernel_rfl) rfl) ys.length (fun q => q = w3.heap.size) (eachX t Y1.heap.size) (HIT.out Y1 _ XY1.out (fun q hq => by have hq' : q = _ := hq; omega)) eachX_size eachX_mono eachX_new
    (ecI w3.heap.size ys.length) (ecX w3.heap.size ys.length ys.length)
    (fun M' i Z h q hq => by rw [h.1] at hq; have hq' : q = _ := hq; subst hq'; exact lt_of_block h.2.1) (fun M' i Z Z' h hk => ⟨h.1, hk.block' h.2.1 (.inl (by omega)), h.2.2⟩)
    (fun c M' Z h q hq => by rw [h.2.1] at hq; have hq' : q = _ := hq; subst hq'; exact lt_of_block h.2.2.1) (fun c M' Z Z' h hk => ⟨h.1, h.2.1, hk.block' h.2.2.1 (.inl (by omega)), h.2.2.2⟩) ⟨rfl, HIB1.out, Nat.zero_le _⟩ ?round1 ?done1 ?stop1
  case round1 =>
    rintro l2 M' i Z args E hl2 ⟨r2, hr2⟩ hml hel hi ⟨rfl, hcb, hisv⟩ ⟨pv, tv, p, u, d', bs', rfl, hL, hpw, hown, _, _, rfl, hE⟩ hk5 h4
    obtain ⟨u0, u1, u2, u3, rfl⟩ := hown.rd.agg
    obtain ⟨k1, n1, x1, a1, c1, rfl, rfl, rfl, rfl⟩ := hown.rd.shape
    obtain ⟨pa1, pc1, rfl⟩ := hpw.shape
    generalize (T.kids u).length = kl1 at hown
    have HOWN := hid hown
    have HPW := hid hpw
    clear hown hpw
    gi_wp2_with fail
    refine ⟨Ext.alloc _ _, fun W₂ hk2 r3 hr3 => ?_⟩
    have hzl : Z.heap.size ≠ l2 := by have := lt_of_block hr2; omega
    have hbx := hk2.block' (blk0 Z _) hzl
    have hkz : Kp (· ≠ l2) Z W₂ := ((Ext.alloc Z _).kp _).trans hk2
    have hcb2 := hkz.block' hcb (show w3.heap.size ≠ l2 by omega)
    have KW : Kp (fun q => q < Y1.heap.size ∧ q ≠ w3.heap.size) Y1 W₂ := (hk5.mono (fun q _ hq e => hq.2 e)).trans (hkz.mono (fun q _ hq e => by have e' : q = l2 := e; have := hq.1; omega))
    have KW3 : Kp (fun q => q < w3.heap.size) w3 W₂ := (XY1.out.kp _).trans (KW.mono (fun q _ hq => by have hq' : q < _ := hq; have := XY1.out.size; exact ⟨by omega, by omega⟩))
    have hsb2 := KW.block' HSB1.out ⟨by omega, by omega⟩
    have hlb2 := KW3.block' HBL3.out (show w1.heap.size < w3.heap.size by omega)
    have HI2 := hid (show Ints W₂ (.slice pa1 p.length pc1) p from HPW.out.ints.keep hkz (fun g hg => by obtain ⟨v, hv⟩ := hg; exact cell_loop hr2 hv))
    have HR2 := hid (show Rd (· ∈ bs') W₂ d' (.agg #[.string k1, .int .i64 n1, .string x1, .slice a1 kl1 c1]) u from HOWN.out.rd.keep (hkz.mono (fun q _ hq e => hel (.inr (by have e' : q = l2 := e; rw [← e']; exact hq)))))
    have hys : T.all [] t = ys := by
      have h := HYS.out
      by_cases hs : t.small
      · rw [if_pos hs] at h; exact h
      · rw [if_neg hs] at h; rw [← h] at hi; exact absurd hi (Nat.not_lt_zero _)
    have hyi : ys[i] = (p, u) := by rw [hys] at hL; rw [List.getElem?_eq_getElem hi] at hL; exact Option.some.inj hL
    have hpl64 : p.length ≤ 64 := by
      have hs : t.small := by
        by_cases hs : t.small
        · exact hs
        · have h := HYS.out; rw [if_neg hs] at h; rw [← h] at hi; exact absurd hi (Nat.not_lt_zero _)
      exact path_len hs hL
    have hrow := row5_keep HST3.out.1 KW3 (fun b hb => (HST3.out.1.lt b hb).2)
    obtain ⟨pa2, pc2, b0, b1, b2, b3, d2, g0, g1, g2, g3, g4, hI3, hR3⟩ := (HST3.out.2 i hi).keep (KW3.mono (fun q _ hq => hq.2.1))
    rw [hyi] at g0 hI3 hR3
    obtain ⟨k2, n2, x2, a2, c2, rfl, rfl, rfl, rfl⟩ := hR3.shape
    generalize (T.kids u).length = kl2 at hR3 g4
    obtain ⟨gL, rfl⟩ : ∃ gL, la = some ⟨gL, 0, none⟩ := by
      rcases hrow.2 with ⟨h, h0⟩ | ⟨g, cap, cur, h, _⟩
      · rw [h0] at hi; exact absurd hi (Nat.not_lt_zero _)
      · simp only [Value.slice.injEq] at h; exact ⟨g, h.1⟩
    have HR3 := hid hR3
    have HI3 := hid hI3.1
    have hrl := hrow.1
    have r0 := (hrow.cellAt (i * 5) (by omega)).trans g0
    have r1 := (hrow.cellAt (i * 5 + 1) (by omega)).trans g1
    have r2' := (hrow.cellAt (i * 5 + 2) (by omega)).trans g2
    have r3' := (hrow.cellAt (i * 5 + 3) (by omega)).trans g3
    have r4 := (hrow.cellAt (i * 5 + 4) (by omega)).trans g4
    obtain ⟨q0, q1, q2, q3⟩ := four_of hbx
    have c0 := cell_of (i := 0) hcb2 rfl
    have e0 := cell_of (i := 0) hsb2 rfl
    have l0 := cell_of (i := 0) hlb2 rfl
    simp only [List.getElem_toArray, List.getElem_cons_zero] at c0 e0 l0
    have HCB := hid hcb2
    have HSB2 := hid hsb2
    have hiN : (i : Int) < ys.length := by omega
    have hige : decide ((ys.length : Int) ≤ i) = false := decide_eq_false (by omega)
    have hbl1 := lt_of_cell c0
    have hbl2 := lt_of_cell l0
    have hbl3 := lt_of_cell r0
    have hbl4 := lt_of_cell q0
    have HSK := hid (show ∀ W', Ext W₂ W' → (W'.cell? ⟨w3.heap.size, 0, none⟩ = some (.int .i64 i) ∧ W'.cell? ⟨w1.heap.size, 0, none⟩ = some (.slice (some ⟨gL, 0, none⟩) ys.length lc) ∧ W'.cell? ⟨gL, i * 5, none⟩ = some (.slice pa2 p.length pc2) ∧ W'.cell? ⟨gL, i * 5 + 1, none⟩ = some (.string k2) ∧ W'.cell? ⟨gL, i * 5 + 2, none⟩ = some (.int .i64 n2) ∧ W'.cell? ⟨gL, i * 5 + 3, none⟩ = some (.string x2) ∧ W'.cell? ⟨gL, i * 5 + 4, none⟩ = some (.slice a2 kl2 c2)) ∧ W'.cell? ⟨Z.heap.size, 0, none⟩ = some (.string k1) ∧ W'.cell? ⟨Z.heap.size, 1, none⟩ = some (.int .i64 n1) ∧ W'.cell? ⟨Z.heap.size, 2, none⟩ = some (.string x1) ∧ W'.cell? ⟨Z.heap.size, 3, none⟩ = some (.slice a1 kl1 c1) from fun W' Y => ⟨⟨(Y.kp (fun _ => True)).cell c0 trivial, (Y.kp (fun _ => True)).cell l0 trivial, (Y.kp (fun _ => True)).cell r0 trivial, (Y.kp (fun _ => True)).cell r1 trivial, (Y.kp (fun _ => True)).cell r2' trivial, (Y.kp (fun _ => True)).cell r3' trivial, (Y.kp (fun _ => True)).cell r4 trivial⟩, four_of (Y.block hbx)⟩)
    have C3 := hid (fun W' (Y : Ext W₂ W') => eqPath_any pa1 pa2 pc1 pc2 p p W' (by omega) (by omega) (HI2.out.later Y) (HI3.out.later Y))
    have C4 := hid (fun W' (Y : Ext W₂ W') => eq_any d' _ _ u u (· ∈ bs') _ W' d2 (HR2.out.later Y) (HR3.out.later Y))
    rw [T.beq_refl] at C4
    simp only [decide_true] at C3
    have fin : ∀ (W₃ : World) (m : Int), Ext W₂ W₃ → m = ((i + 1 : Nat) : Int) → i + 1 ≤ ys.length → bodyR (ecI w3.heap.size ys.length) (ecX w3.heap.size ys.length ys.length) (fun q => q = w3.heap.size) (fun k => (Value.slice pa1 p.length pc1).ownBlock = some k ∨ k ∈ bs') i Z W₂ .normal { tmps := #[], defers := [] } (W₃.setCell ⟨w3.heap.size, 0, none⟩ (.int .i64 m)) := fun W₃ m hx e hle =>
      ⟨(hx.kp _).trans (Kp.set _ _ _ _ (fun h => h (.inl rfl))), fun q => q = w3.heap.size, ⟨rfl, by rw [e]; exact set_one (hx.block HCB.out), hle⟩, fun q hq => .inl hq⟩
    have finx : ∀ (W₃ : World) (m : Int), Ext W₂ W₃ → m = ((ys.length : Nat) : Int) + 1 → ys.length + 1 ≤ ys.length → bodyR (ecI w3.heap.size ys.length) (ecX w3.heap.size ys.length ys.length) (fun q => q = w3.heap.size) (fun k => (Value.slice pa1 p.length pc1).ownBlock = some k ∨ k ∈ bs') i Z W₂ (.exit 2) { tmps := #[], defers := [] } (W₃.setCell ⟨w3.heap.size, 0, none⟩ (.int .i64 m)) := fun W₃ m hx e hle =>
      ⟨(hx.kp _).trans (Kp.set _ _ _ _ (fun h => h (.inl rfl))), fun q => q = w3.heap.size, ⟨rfl, rfl, by rw [e]; exact set_one (hx.block HCB.out), hle⟩, fun q hq => .inl hq⟩
    have HF := hid fin
    have HFX := hid finx
    have wf : ∀ f, Fence.wide.fn f := fun _ => trivial
    have wd : Fence.wide.depth = none := rfl
    have hmx : Try.prog.follows Departure.mixedOrders = true := by kernel_rfl
    have hys' := hid hys
    clear fin finx hk2 hkz hr3 hcb hbx hcb2 hsb2 hlb2 hE hL hI3 hR3 g0 g1 g2 g3 g4 hrow hk5 h4 KW KW3 hys hyi
    gi_wp2_with fail
    refine region_in (S := fun W' => (W'.cell? ⟨w3.heap.size, 0, none⟩ = some (.int .i64 i) ∧ W'.cell? ⟨w1.heap.size, 0, none⟩ = some (.slice (some ⟨gL, 0, none⟩) ys.length lc) ∧ W'.cell? ⟨gL, i * 5, none⟩ = some (.slice pa2 p.length pc2) ∧ W'.cell? ⟨gL, i * 5 + 1, none⟩ = some (.string k2) ∧ W'.cell? ⟨gL, i * 5 + 2, none⟩ = some (.int .i64 n2) ∧ W'.cell? ⟨gL, i * 5 + 3, none⟩ = some (.string x2) ∧ W'.cell? ⟨gL, i * 5 + 4, none⟩ = some (.slice a2 kl2 c2)) ∧ W'.cell? ⟨Z.heap.size, 0, none⟩ = some (.string k1) ∧ W'.cell? ⟨Z.heap.size, 1, none⟩ = some (.int .i64 n1) ∧ W'.cell? ⟨Z.heap.size, 2, none⟩ = some (.string x1) ∧ W'.cell? ⟨Z.heap.size, 3, none⟩ = some (.slice a1 kl1 c1)) l2 hmx (by kernel_rfl) (by rintro ⟨_, _, h⟩; exact h.2) (HSK.out _ (Ext.refl W₂).drew) (fun hHeld => ?_)
    refine wpAnyH_take (i := 0) (v := ?v1x0) rfl (by kernel_rfl) (by kernel_rfl) (by kernel_rfl) (fun _ _ _ h => h) (Or.inl ⟨by kernel_rfl, ?h1x0⟩) (by assumption) ?r1x0
    case h1x0 => (intro w hSw; (try dsimp only at hSw); go_simp; try with_reducible rfl)
    try simp only [Act.put, List.getElem_toArray, List.getElem_cons_zero, List.setIfInBounds_toArray, List.set_cons_zero, List.set_cons_succ]
    refine wpAnyH_take (i := 1) (v := ?v1x1) rfl (by kernel_rfl) (by kernel_rfl) (by kernel_rfl) (fun _ _ _ h => h) (Or.inl ⟨by kernel_rfl, ?h1x1⟩) (by assumption) ?r1x1
    case h1x1 => (intro w hSw; (try dsimp only at hSw); go_simp; try with_reducible rfl)
    try simp only [Act.put, List.getElem_toArray, List.getElem_cons_zero, List.getElem_cons_succ, List.setIfInBounds_toArray, List.set_cons_zero, List.set_cons_succ]
    refine wpAnyH_take (i := 2) (v := ?v1x2) rfl (by kernel_rfl) (by kernel_rfl) (by kernel_rfl) (fun _ _ _ h => h) (Or.inl ⟨by kernel_rfl, ?h1x2⟩) (by assumption) ?r1x2
    case h1x2 => (intro w hSw; (try dsimp only at hSw); go_simp; try with_reducible rfl)
    try simp only [Act.put, List.getElem_toArray, List.getElem_cons_zero, List.getElem_cons_succ, List.setIfInBounds_toArray, List.set_cons_zero, List.set_cons_succ]
    refine wpAnyH_take (i := 3) (v := .bool false) rfl (by kernel_rfl) (by kernel_rfl) (by kernel_rfl) (fun _ _ _ h => h) (Or.inl ⟨by kernel_rfl, ?h1x3⟩) (by assumption) ?r1x3
    case h1x3 => (intro w hSw; (try dsimp only at hSw); go_simp; try with_reducible rfl)
    try simp only [Act.put, List.getElem_toArray, List.getElem_cons_zero, List.getElem_cons_succ, List.setIfInBounds_toArray, List.set_cons_zero, List.set_cons_succ]
    refine wpAnyH_take (i := 4) (v := .bool false) rfl (by kernel_rfl) (by kernel_rfl) (by kernel_rfl) (fun _ _ _ h => h) (Or.inl ⟨by kernel_rfl, ?h1x4⟩) (by assumption) ?r1x4
    case h1x4 => (intro w hSw; (try dsimp only at hSw); go_simp; try with_reducible rfl)
    try simp only [Act.put, List.getElem_toArray, List.getElem_cons_zero, List.getElem_cons_succ, List.setIfInBounds_toArray, List.set_cons_zero, List.set_cons_succ]
    refine wpAnyH_take (i := 5) (v := ?v1x5) rfl (by kernel_rfl) (by kernel_rfl) (by kernel_rfl) (fun _ _ _ h => h) (Or.inl ⟨by kernel_rfl, ?h1x5⟩) (by assumption) ?r1x5
    case h1x5 => (intro w hSw; (try dsimp only at hSw); go_simp; try with_reducible rfl)
    try simp only [Act.put, List.getElem_toArray, List.getElem_cons_zero, List.getElem_cons_succ, List.setIfInBounds_toArray, List.set_cons_zero, List.set_cons_succ]
    refine wpAnyH_take (i := 6) (v := ?v1x6) rfl (by kernel_rfl) (by kernel_rfl) (by kernel_rfl) (fun _ _ _ h => h) (Or.inl ⟨by kernel_rfl, ?h1x6⟩) (by assumption) ?r1x6
    case h1x6 => (intro w hSw; (try dsimp only at hSw); go_simp; try with_reducible rfl)
    try simp only [Act.put, List.getElem_toArray, List.getElem_cons_zero, List.getElem_cons_succ, List.setIfInBounds_toArray, List.set_cons_zero, List.set_cons_succ]
    refine wpAnyH_take (i := 7) (v := ?v1x7) rfl (by kernel_rfl) (by kernel_rfl) (by kernel_rfl) (fun _ _ _ h => h) (Or.inl ⟨by kernel_rfl, ?h1x7⟩) (by assumption) ?r1x7
    case h1x7 => (intro w hSw; (try dsimp only at hSw); go_simp; try with_reducible rfl)
    try simp only [Act.put, List.getElem_toArray, List.getElem_cons_zero, List.getElem_cons_succ, List.setIfInBounds_toArray, List.set_cons_zero, List.set_cons_succ]
    refine wpAnyH_take (i := 8) (v := ?v1x8) rfl (by kernel_rfl) (by kernel_rfl) (by kernel_rfl) (fun _ _ _ h => h) (Or.inl ⟨by kernel_rfl, ?h1x8⟩) (by assumption) ?r1x8
    case h1x8 => (intro w hSw; (try dsimp only at hSw); go_simp; try with_reducible rfl)
    try simp only [Act.put, List.getElem_toArray, List.getElem_cons_zero, List.getElem_cons_succ, List.setIfInBounds_toArray, List.set_cons_zero, List.set_cons_succ]
    refine wpAnyH_take (i := 9) (v := ?v1x9) rfl (by kernel_rfl) (by kernel_rfl) (by kernel_rfl) (fun _ _ _ h => h) (Or.inl ⟨by kernel_rfl, ?h1x9⟩) (by assumption) ?r1x9
    case h1x9 => (intro w hSw; (try dsimp only at hSw); go_simp; try with_reducible rfl)
    try simp only [Act.put, List.getElem_toArray, List.getElem_cons_zero, List.getElem_cons_succ, List.setIfInBounds_toArray, List.set_cons_zero, List.set_cons_succ]
    refine wpAnyH_take (i := 10) (v := ?v1x10) rfl (by kernel_rfl) (by kernel_rfl) (by kernel_rfl) (fun _ _ _ h => h) (Or.inl ⟨by kernel_rfl, ?h1x10⟩) (by assumption) ?r1x10
    case h1x10 => (intro w hSw; (try dsimp only at hSw); go_simp; try with_reducible rfl)
    try simp only [Act.put, List.getElem_toArray, List.getElem_cons_zero, List.getElem_cons_succ, List.setIfInBounds_toArray, List.set_cons_zero, List.set_cons_succ]
    refine wpAnyH_ready (rs := [11]) (by kernel_rfl) (by simp) ?_
    refine AllReadyH.cons rfl (fun K hK => ?_) AllReadyH.nil
    go_simp
    refine (C3.out _ (Ext.refl W₂).drew).mono ?_
    rintro e W₃ ⟨rfl, hx3⟩
    have Z3 : Ext W₂ W₃ := Ext.trans (Ext.refl W₂).drew hx3
    show K _ _
    refine hK.out _ _ (HSK.out _ Z3) (fun hHeld3 => ?_)
    clear hK K hHeld
    try simp only [Act.put, List.getElem_toArray, List.getElem_cons_zero, List.getElem_cons_succ, List.setIfInBounds_toArray, List.set_cons_zero, List.set_cons_succ]
    refine wpAnyH_take (i := 12) (v := .bool false) rfl (by kernel_rfl) (by kernel_rfl) (by kernel_rfl) (fun _ _ _ h => h) (Or.inl ⟨by kernel_rfl, ?h1x12⟩) (by assumption) ?r1x12
    case h1x12 => (intro w hSw; (try dsimp only at hSw); go_simp; try with_reducible rfl)
    try simp only [Act.put, List.getElem_toArray, List.getElem_cons_zero, List.getElem_cons_succ, List.setIfInBounds_toArray, List.set_cons_zero, List.set_cons_succ]
    refine wpAnyH_take (i := 13) (v := .bool false) rfl (by kernel_rfl) (by kernel_rfl) (by kernel_rfl) (fun _ _ _ h => h) (Or.inl ⟨by kernel_rfl, ?h1x13⟩) (by assumption) ?r1x13
    case h1x13 => (intro w hSw; (try dsimp only at hSw); go_simp; try with_reducible rfl)
    try simp only [Act.put, List.getElem_toArray, List.getElem_cons_zero, List.getElem_cons_succ, List.setIfInBounds_toArray, List.set_cons_zero, List.set_cons_succ]
    refine wpAnyH_take (i := 14) (v := .bool false) rfl (by kernel_rfl) (by kernel_rfl) (by kernel_rfl) (fun _ _ _ h => h) (Or.inl ⟨by kernel_rfl, ?h1x14⟩) (by assumption) ?r1x14
    case h1x14 => (intro w hSw; (try dsimp only at hSw); go_simp; try with_reducible rfl)
    try simp only [Act.put, List.getElem_toArray, List.getElem_cons_zero, List.getElem_cons_succ, List.setIfInBounds_toArray, List.set_cons_zero, List.set_cons_succ]
    refine wpAnyH_take (i := 15) (v := ?v1x15) rfl (by kernel_rfl) (by kernel_rfl) (by kernel_rfl) (fun _ _ _ h => h) (Or.inl ⟨by kernel_rfl, ?h1x15⟩) (by assumption) ?r1x15
    case h1x15 => (intro w hSw; (try dsimp only at hSw); go_simp; try with_reducible rfl)
    try simp only [Act.put, List.getElem_toArray, List.getElem_cons_zero, List.getElem_cons_succ, List.setIfInBounds_toArray, List.set_cons_zero, List.set_cons_succ]
    refine wpAnyH_take (i := 16) (v := ?v1x16) rfl (by kernel_rfl) (by kernel_rfl) (by kernel_rfl) (fun _ _ _ h => h) (Or.inl ⟨by kernel_rfl, ?h1x16⟩) (by assumption) ?r1x16
    case h1x16 => (intro w hSw; (try dsimp only at hSw); go_simp; try with_reducible rfl)
    try simp only [Act.put, List.getElem_toArray, List.getElem_cons_zero, List.getElem_cons_succ, List.setIfInBounds_toArray, List.set_cons_zero, List.set_cons_succ]
    refine wpAnyH_take (i := 17) (v := ?v1x17) rfl (by kernel_rfl) (by kernel_rfl) (by kernel_rfl) (fun _ _ _ h => h) (Or.inl ⟨by kernel_rfl, ?h1x17⟩) (by assumption) ?r1x17
    case h1x17 => (intro w hSw; (try dsimp only at hSw); go_simp; try with_reducible rfl)
    try simp only [Act.put, List.getElem_toArray, List.getElem_cons_zero, List.getElem_cons_succ, List.setIfInBounds_toArray, List.set_cons_zero, List.set_cons_succ]
    refine wpAnyH_take (i := 18) (v := ?v1x18) rfl (by kernel_rfl) (by kernel_rfl) (by kernel_rfl) (fun _ _ _ h => h) (Or.inl ⟨by kernel_rfl, ?h1x18⟩) (by assumption) ?r1x18
    case h1x18 => (intro w hSw; (try dsimp only at hSw); go_simp; try with_reducible rfl)
    try simp only [Act.put, List.getElem_toArray, List.getElem_cons_zero, List.getElem_cons_succ, List.setIfInBounds_toArray, List.set_cons_zero, List.set_cons_succ]
    refine wpAnyH_take (i := 19) (v := ?v1x19) rfl (by kernel_rfl) (by kernel_rfl) (by kernel_rfl) (fun _ _ _ h => h) (Or.inl ⟨by kernel_rfl, ?h1x19⟩) (by assumption) ?r1x19
    case h1x19 => (intro w hSw; (try dsimp only at hSw); go_simp; try with_reducible rfl)
    try simp only [Act.put, List.getElem_toArray, List.getElem_cons_zero, List.getElem_cons_succ, List.setIfInBounds_toArray, List.set_cons_zero, List.set_cons_succ]
    refine wpAnyH_take (i := 20) (v := ?v1x20) rfl (by kernel_rfl) (by kernel_rfl) (by kernel_rfl) (fun _ _ _ h => h) (Or.inl ⟨by kernel_rfl, ?h1x20⟩) (by assumption) ?r1x20
    case h1x20 => (intro w hSw; (try dsimp only at hSw); go_simp; try with_reducible rfl)
    try simp only [Act.put, List.getElem_toArray, List.getElem_cons_zero, List.getElem_cons_succ, List.setIfInBounds_toArray, List.set_cons_zero, List.set_cons_succ]
    refine wpAnyH_ready (rs := [21]) (by kernel_rfl) (by simp) ?_
    refine AllReadyH.cons rfl (fun K hK => ?_) AllReadyH.nil
    go_simp
    refine (C4.out _ Z3).mono ?_
    rintro e W₄ ⟨rfl, hx4⟩
    have Z4 : Ext W₂ W₄ := Ext.trans Z3 hx4
    show K _ _
    refine hK.out _ _ (HSK.out _ Z4) (fun hHeld4 => ?_)
    clear hK K hHeld3
    try simp only [Act.put, List.getElem_toArray, List.getElem_cons_zero, List.getElem_cons_succ, List.setIfInBounds_toArray, List.set_cons_zero, List.set_cons_succ]
    refine wpAnyH_take (i := 22) (v := .bool false) rfl (by kernel_rfl) (by kernel_rfl) (by kernel_rfl) (fun _ _ _ h => h) (Or.inl ⟨by kernel_rfl, ?h1x22⟩) (by assumption) ?r1x22
    case h1x22 => (intro w hSw; (try dsimp only at hSw); go_simp; try with_reducible rfl)
    try simp only [Act.put, List.getElem_toArray, List.getElem_cons_zero, List.getElem_cons_succ, List.setIfInBounds_toArray, List.set_cons_zero, List.set_cons_succ]
    refine wpAnyH_take (i := 23) (v := .bool false) rfl (by kernel_rfl) (by kernel_rfl) (by kernel_rfl) (fun _ _ _ h => h) (Or.inl ⟨by kernel_rfl, ?h1x23⟩) (by assumption) ?r1x23
    case h1x23 => (intro w hSw; (try dsimp only at hSw); go_simp; try with_reducible rfl)
    try simp only [Act.put, List.getElem_toArray, List.getElem_cons_zero, List.getElem_cons_succ, List.setIfInBounds_toArray, List.set_cons_zero, List.set_cons_succ]
    refine wpAnyH_done (by kernel_rfl) ?_ _
    have fz := frozen_of (i := 0) (Z4.block HCB.out)
    have z0 := cell_of (i := 0) (Z4.block HCB.out) rfl
    have z1 := cell_of (i := 0) (Z4.block HSB2.out) rfl
    simp only [List.getElem_toArray, List.getElem_cons_zero] at z0 z1
    clear c0 e0 l0 r0 r1 r2' r3' r4 q0 q1 q2 q3 hHeld4 hx3 hx4
    by_cases hlast : i = ys.length
    · have hle : (((i : Int) + 1) == ((ys.length : Nat) : Int) + 1) = true := by rw [hlast]; simp
      have hxx : ys.length + 1 ≤ ys.length := by omega
      have HXX := hid (And.intro hlast hxx)
      clear hlast hxx
      gi_wp2_with fail
      exact HFX.out _ _ Z4 (by rw [HXX.out.1]) HXX.out.2
    · have hle : (((i : Int) + 1) == ((ys.length : Nat) : Int) + 1) = false := by rw [beq_eq_false_iff_ne]; omega
      have hxx : i + 1 ≤ ys.length := by omega
      clear hlast
      gi_wp2_with fail
      exact HF.out _ _ Z4 (by push_cast; rfl) hxx
  case stop1 =>
    rintro D Z c' M' hD ⟨rfl, rfl, hcb, hle⟩ hd hmd hsub hk
    exact absurd hle (by omega)
  case done1 =>
    rintro D1 Z1 M' hD1 ⟨rfl, hcb, hle⟩ hd1 hmd hsub hk
    have XWZ1 := hid (show Ext w3 Z1 from Kp.ext ((XWY1.out.kp (fun q => q < w3.heap.size)).trans (hk.mono (fun q _ hq e => by have hq' : q < w3.heap.size := hq; have e' : q = w3.heap.size := e; omega))) (fun q hq => hq))
    have XZ1 := hid (show Ext w3 Z1 from Kp.ext ((XY1.out.kp (fun q => q < w3.heap.size)).trans (hk.mono (fun q _ hq e => by have hq' : q < w3.heap.size := hq; have e' : q = w3.heap.size := e; omega))) (fun q hq => hq))
    have hsbZ := hk.block' HSB1.out (show ¬ w3.heap.size + 1 = w3.heap.size by omega)
    have c0 := cell_of (i := 0) hcb rfl
    have e0 := cell_of (i := 0) hsbZ rfl
    have l0 := cell_of (i := 0) (XZ1.out.block HBL3.out) rfl
    simp only [List.getElem_toArray, List.getElem_cons_zero] at c0 e0 l0
    clear hcb hsbZ hmd hsub
    have HD1 := hid hd1
    clear hd1 hk
    gi_wp2_with fail
    rw [roundsIn_succ]
    clear c0 e0 l0
    obtain ⟨o0, o1, o2, o3, o4, o5, o6, o7, o8, o9, o10⟩ := op_of (Ext.block (Ext.alloc2 Z1 (.cells #[.int .i64 0] 3) (.cells #[.int .i64 ((ys.length : Int) + 1)] 3)) (XZ1.out.block HBO3.out))
    have l0 := cell_of (i := 0) (blkOld (.cells #[.int .i64 0] 3) (XZ1.out.block HBL3.out)) rfl
    have l1 := cell_of (i := 0) (Ext.block (Ext.alloc2 Z1 (.cells #[.int .i64 0] 3) (.cells #[.int .i64 ((ys.length : Int) + 1)] 3)) (XZ1.out.block HBL3.out)) rfl
    simp only [List.getElem_toArray, List.getElem_cons_zero] at l0 l1
    gi_wp2_with fail
    obtain ⟨Y2, hY2⟩ : ∃ Y, (Z1.alloc (.cells #[.int .i64 0] 3)).alloc (.cells #[.int .i64 ((ys.length : Int) + 1)] 3) = Y := ⟨_, rfl⟩
    have XWY2 := hid (show Ext Z1 Y2 from hY2 ▸ Ext.alloc2 _ _ _)
    have XY2 := hid (show Ext w3 Y2 from XZ1.out.trans XWY2.out)
    have HIB2 := hid (show Y2.heap[Z1.heap.size]? = some (.cells #[.int .i64 0] 3) from hY2 ▸ blkOld _ (blk0 _ _))
    have HSB2 := hid (show Y2.heap[Z1.heap.size + 1]? = some (.cells #[.int .i64 ((ys.length : Int) + 1)] 3) from hY2 ▸ blk1 _ _ _)
    have hsY2 : Z1.heap.size + 1 < Y2.heap.size := lt_of_block HSB2.out
    have hsW2 : w3.heap.size ≤ Z1.heap.size := XZ1.out.size
    rw [hY2]
    clear hY2 o0 o1 o2 o3 o4 o5 o6 o7 o8 o9 o10 l0 l1
    refine rangeM rfl (enters_of Try.func45 (by kernel_rfl) rfl) ys.length (fun q => q = Z1.heap.size) (eachX t Y2.heap.size) (HIT.out Y2 _ XY2.out (fun q hq => by have hq' : q = _ := hq; omega)) eachX_size eachX_mono eachX_new
      (ecI Z1.heap.size ys.length) (ecX Z1.heap.size ys.length ys.length)
      (fun M' i Z h q hq => by rw [h.1] at hq; have hq' : q = _ := hq; subst hq'; exact lt_of_block h.2.1) (fun M' i Z Z' h hk => ⟨h.1, hk.block' h.2.1 (.inl (by omega)), h.2.2⟩)
      (fun c M' Z h q hq => by rw [h.2.1] at hq; have hq' : q = _ := hq; subst hq'; exact lt_of_block h.2.2.1) (fun c M' Z Z' h hk => ⟨h.1, h.2.1, hk.block' h.2.2.1 (.inl (by omega)), h.2.2.2⟩) ⟨rfl, HIB2.out, Nat.zero_le _⟩ ?round2 ?done2 ?stop2
    case round2 =>
      rintro l2 M' i Z args E hl2 ⟨r2, hr2⟩ hml hel hi ⟨rfl, hcb, hisv⟩ ⟨pv, tv, p, u, d', bs', rfl, hL, hpw, hown, _, _, rfl, hE⟩ hk5 h4
      obtain ⟨u0, u1, u2, u3, rfl⟩ := hown.rd.agg
      obtain ⟨k1, n1, x1, a1, c1, rfl, rfl, rfl, rfl⟩ := hown.rd.shape
      obtain ⟨pa1, pc1, rfl⟩ := hpw.shape
      generalize (T.kids u).length = kl1 at hown
      have HOWN := hid hown
      have HPW := hid hpw
      clear hown hpw
      gi_wp2_with fail
      refine ⟨Ext.alloc _ _, fun W₂ hk2 r3 hr3 => ?_⟩
      have hzl : Z.heap.size ≠ l2 := by have := lt_of_block hr2; omega
      have hbx := hk2.block' (blk0 Z _) hzl
      have hkz : Kp (· ≠ l2) Z W₂ := ((Ext.alloc Z _).kp _).trans hk2
      have hcb2 := hkz.block' hcb (show Z1.heap.size ≠ l2 by omega)
      have KW : Kp (fun q => q < Y2.heap.size ∧ q ≠ Z1.heap.size) Y2 W₂ := (hk5.mono (fun q _ hq e => hq.2 e)).trans (hkz.mono (fun q _ hq e => by have e' : q = l2 := e; have := hq.1; omega))
      have KW3 : Kp (fun q => q < w3.heap.size) w3 W₂ := (XY2.out.kp _).trans (KW.mono (fun q _ hq => by have hq' : q < _ := hq; have := XY2.out.size; exact ⟨by omega, by omega⟩))
      have hsb2 := KW.block' HSB2.out ⟨by omega, by omega⟩
      have hlb2 := KW3.block' HBL3.out (show w1.heap.size < w3.heap.size by omega)
      have HI2 := hid (show Ints W₂ (.slice pa1 p.length pc1) p from HPW.out.ints.keep hkz (fun g hg => by obtain ⟨v, hv⟩ := hg; exact cell_loop hr2 hv))
      have HR2 := hid (show Rd (· ∈ bs') W₂ d' (.agg #[.string k1, .int .i64 n1, .string x1, .slice a1 kl1 c1]) u from HOWN.out.rd.keep (hkz.mono (fun q _ hq e => hel (.inr (by have e' : q = l2 := e; rw [← e']; exact hq)))))
      have hys : T.all [] t = ys := by
        have h := HYS.out
        by_cases hs : t.small
        · rw [if_pos hs] at h; exact h
        · rw [if_neg hs] at h; rw [← h] at hi; exact absurd hi (Nat.not_lt_zero _)
      have hyi : ys[i] = (p, u) := by rw [hys] at hL; rw [List.getElem?_eq_getElem hi] at hL; exact Option.some.inj hL
      have hpl64 : p.length ≤ 64 := by
        have hs : t.small := by
          by_cases hs : t.small
          · exact hs
          · have h := HYS.out; rw [if_neg hs] at h; rw [← h] at hi; exact absurd hi (Nat.not_lt_zero _)
        exact path_len hs hL
      have hrow := row5_keep HST3.out.1 KW3 (fun b hb => (HST3.out.1.lt b hb).2)
      obtain ⟨pa2, pc2, b0, b1, b2, b3, d2, g0, g1, g2, g3, g4, hI3, hR3⟩ := (HST3.out.2 i hi).keep (KW3.mono (fun q _ hq => hq.2.1))
      rw [hyi] at g0 hI3 hR3
      obtain ⟨k2, n2, x2, a2, c2, rfl, rfl, rfl, rfl⟩ := hR3.shape
      generalize (T.kids u).length = kl2 at hR3 g4
      obtain ⟨gL, rfl⟩ : ∃ gL, la = some ⟨gL, 0, none⟩ := by
        rcases hrow.2 with ⟨h, h0⟩ | ⟨g, cap, cur, h, _⟩
        · rw [h0] at hi; exact absurd hi (Nat.not_lt_zero _)
        · simp only [Value.slice.injEq] at h; exact ⟨g, h.1⟩
      have HR3 := hid hR3
      have HI3 := hid hI3.1
      have hrl := hrow.1
      have r0 := (hrow.cellAt (i * 5) (by omega)).trans g0
      have r1 := (hrow.cellAt (i * 5 + 1) (by omega)).trans g1
      have r2' := (hrow.cellAt (i * 5 + 2) (by omega)).trans g2
      have r3' := (hrow.cellAt (i * 5 + 3) (by omega)).trans g3
      have r4 := (hrow.cellAt (i * 5 + 4) (by omega)).trans g4
      obtain ⟨q0, q1, q2, q3⟩ := four_of hbx
      have c0 := cell_of (i := 0) hcb2 rfl
      have e0 := cell_of (i := 0) hsb2 rfl
      have l0 := cell_of (i := 0) hlb2 rfl
      simp only [List.getElem_toArray, List.getElem_cons_zero] at c0 e0 l0
      have HCB := hid hcb2
      have HSB2 := hid hsb2
      have hiN : (i : Int) < ys.length := by omega
      have hige : decide ((ys.length : Int) ≤ i) = false := decide_eq_false (by omega)
      have hbl1 := lt_of_cell c0
      have hbl2 := lt_of_cell l0
      have hbl3 := lt_of_cell r0
      have hbl4 := lt_of_cell q0
      have HSK := hid (show ∀ W', Ext W₂ W' → (W'.cell? ⟨Z1.heap.size, 0, none⟩ = some (.int .i64 i) ∧ W'.cell? ⟨w1.heap.size, 0, none⟩ = some (.slice (some ⟨gL, 0, none⟩) ys.length lc) ∧ W'.cell? ⟨gL, i * 5, none⟩ = some (.slice pa2 p.length pc2) ∧ W'.cell? ⟨gL, i * 5 + 1, none⟩ = some (.string k2) ∧ W'.cell? ⟨gL, i * 5 + 2, none⟩ = some (.int .i64 n2) ∧ W'.cell? ⟨gL, i * 5 + 3, none⟩ = some (.string x2) ∧ W'.cell? ⟨gL, i * 5 + 4, none⟩ = some (.slice a2 kl2 c2)) ∧ W'.cell? ⟨Z.heap.size, 0, none⟩ = some (.string k1) ∧ W'.cell? ⟨Z.heap.size, 1, none⟩ = some (.int .i64 n1) ∧ W'.cell? ⟨Z.heap.size, 2, none⟩ = some (.string x1) ∧ W'.cell? ⟨Z.heap.size, 3, none⟩ = some (.slice a1 kl1 c1) from fun W' Y => ⟨⟨(Y.kp (fun _ => True)).cell c0 trivial, (Y.kp (fun _ => True)).cell l0 trivial, (Y.kp (fun _ => True)).cell r0 trivial, (Y.kp (fun _ => True)).cell r1 trivial, (Y.kp (fun _ => True)).cell r2' trivial, (Y.kp (fun _ => True)).cell r3' trivial, (Y.kp (fun _ => True)).cell r4 trivial⟩, four_of (Y.block hbx)⟩)
      have C3 := hid (fun W' (Y : Ext W₂ W') => eqPath_any pa1 pa2 pc1 pc2 p p W' (by omega) (by omega) (HI2.out.later Y) (HI3.out.later Y))
      have C4 := hid (fun W' (Y : Ext W₂ W') => eq_any d' _ _ u u (· ∈ bs') _ W' d2 (HR2.out.later Y) (HR3.out.later Y))
      rw [T.beq_refl] at C4
      simp only [decide_true] at C3
      have fin : ∀ (W₃ : World) (m : Int), Ext W₂ W₃ → m = ((i + 1 : Nat) : Int) → i + 1 ≤ ys.length → bodyR (ecI Z1.heap.size ys.length) (ecX Z1.heap.size ys.length ys.length) (fun q => q = Z1.heap.size) (fun k => (Value.slice pa1 p.length pc1).ownBlock = some k ∨ k ∈ bs') i Z W₂ .normal { tmps := #[], defers := [] } (W₃.setCell ⟨Z1.heap.size, 0, none⟩ (.int .i64 m)) := fun W₃ m hx e hle =>
        ⟨(hx.kp _).trans (Kp.set _ _ _ _ (fun h => h (.inl rfl))), fun q => q = Z1.heap.size, ⟨rfl, by rw [e]; exact set_one (hx.block HCB.out), hle⟩, fun q hq => .inl hq⟩
      have finx : ∀ (W₃ : World) (m : Int), Ext W₂ W₃ → m = ((ys.length : Nat) : Int) + 1 → ys.length + 1 ≤ ys.length → bodyR (ecI Z1.heap.size ys.length) (ecX Z1.heap.size ys.length ys.length) (fun q => q = Z1.heap.size) (fun k => (Value.slice pa1 p.length pc1).ownBlock = some k ∨ k ∈ bs') i Z W₂ (.exit 2) { tmps := #[], defers := [] } (W₃.setCell ⟨Z1.heap.size, 0, none⟩ (.int .i64 m)) := fun W₃ m hx e hle =>
        ⟨(hx.kp _).trans (Kp.set _ _ _ _ (fun h => h (.inl rfl))), fun q => q = Z1.heap.size, ⟨rfl, rfl, by rw [e]; exact set_one (hx.block HCB.out), hle⟩, fun q hq => .inl hq⟩
      have HF := hid fin
      have HFX := hid finx
      have wf : ∀ f, Fence.wide.fn f := fun _ => trivial
      have wd : Fence.wide.depth = none := rfl
      have hmx : Try.prog.follows Departure.mixedOrders = true := by kernel_rfl
      have hys' := hid hys
      clear fin finx hk2 hkz hr3 hcb hbx hcb2 hsb2 hlb2 hE hL hI3 hR3 g0 g1 g2 g3 g4 hrow hk5 h4 KW KW3 hys hyi
      gi_wp2_with fail
      refine region_in (S := fun W' => (W'.cell? ⟨Z1.heap.size, 0, none⟩ = some (.int .i64 i) ∧ W'.cell? ⟨w1.heap.size, 0, none⟩ = some (.slice (some ⟨gL, 0, none⟩) ys.length lc) ∧ W'.cell? ⟨gL, i * 5, none⟩ = some (.slice pa2 p.length pc2) ∧ W'.cell? ⟨gL, i * 5 + 1, none⟩ = some (.string k2) ∧ W'.cell? ⟨gL, i * 5 + 2, none⟩ = some (.int .i64 n2) ∧ W'.cell? ⟨gL, i * 5 + 3, none⟩ = some (.string x2) ∧ W'.cell? ⟨gL, i * 5 + 4, none⟩ = some (.slice a2 kl2 c2)) ∧ W'.cell? ⟨Z.heap.size, 0, none⟩ = some (.string k1) ∧ W'.cell? ⟨Z.heap.size, 1, none⟩ = some (.int .i64 n1) ∧ W'.cell? ⟨Z.heap.size, 2, none⟩ = some (.string x1) ∧ W'.cell? ⟨Z.heap.size, 3, none⟩ = some (.slice a1 kl1 c1)) l2 hmx (by kernel_rfl) (by rintro ⟨_, _, h⟩; exact h.2) (HSK.out _ (Ext.refl W₂).drew) (fun hHeld => ?_)
      refine wpAnyH_take (i := 0) (v := ?v2x0) rfl (by kernel_rfl) (by kernel_rfl) (by kernel_rfl) (fun _ _ _ h => h) (Or.inl ⟨by kernel_rfl, ?h2x0⟩) (by assumption) ?r2x0
      case h2x0 => (intro w hSw; (try dsimp only at hSw); go_simp; try with_reducible rfl)
      try simp only [Act.put, List.getElem_toArray, List.getElem_cons_zero, List.setIfInBounds_toArray, List.set_cons_zero, List.set_cons_succ]
      refine wpAnyH_take (i := 1) (v := ?v2x1) rfl (by kernel_rfl) (by kernel_rfl) (by kernel_rfl) (fun _ _ _ h => h) (Or.inl ⟨by kernel_rfl, ?h2x1⟩) (by assumption) ?r2x1
      case h2x1 => (intro w hSw; (try dsimp only at hSw); go_simp; try with_reducible rfl)
      try simp only [Act.put, List.getElem_toArray, List.getElem_cons_zero, List.getElem_cons_succ, List.setIfInBounds_toArray, List.set_cons_zero, List.set_cons_succ]
      refine wpAnyH_take (i := 2) (v := ?v2x2) rfl (by kernel_rfl) (by kernel_rfl) (by kernel_rfl) (fun _ _ _ h => h) (Or.inl ⟨by kernel_rfl, ?h2x2⟩) (by assumption) ?r2x2
      case h2x2 => (intro w hSw; (try dsimp only at hSw); go_simp; try with_reducible rfl)
      try simp only [Act.put, List.getElem_toArray, List.getElem_cons_zero, List.getElem_cons_succ, List.setIfInBounds_toArray, List.set_cons_zero, List.set_cons_succ]
      refine wpAnyH_take (i := 3) (v := .bool false) rfl (by kernel_rfl) (by kernel_rfl) (by kernel_rfl) (fun _ _ _ h => h) (Or.inl ⟨by kernel_rfl, ?h2x3⟩) (by assumption) ?r2x3
      case h2x3 => (intro w hSw; (try dsimp only at hSw); go_simp; try with_reducible rfl)
      try simp only [Act.put, List.getElem_toArray, List.getElem_cons_zero, List.getElem_cons_succ, List.setIfInBounds_toArray, List.set_cons_zero, List.set_cons_succ]
      refine wpAnyH_take (i := 4) (v := .bool false) rfl (by kernel_rfl) (by kernel_rfl) (by kernel_rfl) (fun _ _ _ h => h) (Or.inl ⟨by kernel_rfl, ?h2x4⟩) (by assumption) ?r2x4
      case h2x4 => (intro w hSw; (try dsimp only at hSw); go_simp; try with_reducible rfl)
      try simp only [Act.put, List.getElem_toArray, List.getElem_cons_zero, List.getElem_cons_succ, List.setIfInBounds_toArray, List.set_cons_zero, List.set_cons_succ]
      refine wpAnyH_take (i := 5) (v := ?v2x5) rfl (by kernel_rfl) (by kernel_rfl) (by kernel_rfl) (fun _ _ _ h => h) (Or.inl ⟨by kernel_rfl, ?h2x5⟩) (by assumption) ?r2x5
      case h2x5 => (intro w hSw; (try dsimp only at hSw); go_simp; try with_reducible rfl)
      try simp only [Act.put, List.getElem_toArray, List.getElem_cons_zero, List.getElem_cons_succ, List.setIfInBounds_toArray, List.set_cons_zero, List.set_cons_succ]
      refine wpAnyH_take (i := 6) (v := ?v2x6) rfl (by kernel_rfl) (by kernel_rfl) (by kernel_rfl) (fun _ _ _ h => h) (Or.inl ⟨by kernel_rfl, ?h2x6⟩) (by assumption) ?r2x6
      case h2x6 => (intro w hSw; (try dsimp only at hSw); go_simp; try with_reducible rfl)
      try simp only [Act.put, List.getElem_toArray, List.getElem_cons_zero, List.getElem_cons_succ, List.setIfInBounds_toArray, List.set_cons_zero, List.set_cons_succ]
      refine wpAnyH_take (i := 7) (v := ?v2x7) rfl (by kernel_rfl) (by kernel_rfl) (by kernel_rfl) (fun _ _ _ h => h) (Or.inl ⟨by kernel_rfl, ?h2x7⟩) (by assumption) ?r2x7
      case h2x7 => (intro w hSw; (try dsimp only at hSw); go_simp; try with_reducible rfl)
      try simp only [Act.put, List.getElem_toArray, List.getElem_cons_zero, List.getElem_cons_succ, List.setIfInBounds_toArray, List.set_cons_zero, List.set_cons_succ]
      refine wpAnyH_take (i := 8) (v := ?v2x8) rfl (by kernel_rfl) (by kernel_rfl) (by kernel_rfl) (fun _ _ _ h => h) (Or.inl ⟨by kernel_rfl, ?h2x8⟩) (by assumption) ?r2x8
      case h2x8 => (intro w hSw; (try dsimp only at hSw); go_simp; try with_reducible rfl)
      try simp only [Act.put, List.getElem_toArray, List.getElem_cons_zero, List.getElem_cons_succ, List.setIfInBounds_toArray, List.set_cons_zero, List.set_cons_succ]
      refine wpAnyH_take (i := 9) (v := ?v2x9) rfl (by kernel_rfl) (by kernel_rfl) (by kernel_rfl) (fun _ _ _ h => h) (Or.inl ⟨by kernel_rfl, ?h2x9⟩) (by assumption) ?r2x9
      case h2x9 => (intro w hSw; (try dsimp only at hSw); go_simp; try with_reducible rfl)
      try simp only [Act.put, List.getElem_toArray, List.getElem_cons_zero, List.getElem_cons_succ, List.setIfInBounds_toArray, List.set_cons_zero, List.set_cons_succ]
      refine wpAnyH_take (i := 10) (v := ?v2x10) rfl (by kernel_rfl) (by kernel_rfl) (by kernel_rfl) (fun _ _ _ h => h) (Or.inl ⟨by kernel_rfl, ?h2x10⟩) (by assumption) ?r2x10
      case h2x10 => (intro w hSw; (try dsimp only at hSw); go_simp; try with_reducible rfl)
      try simp only [Act.put, List.getElem_toArray, List.getElem_cons_zero, List.getElem_cons_succ, List.setIfInBounds_toArray, List.set_cons_zero, List.set_cons_succ]
      refine wpAnyH_ready (rs := [11]) (by kernel_rfl) (by simp) ?_
      refine AllReadyH.cons rfl (fun K hK => ?_) AllReadyH.nil
      go_simp
      refine (C3.out _ (Ext.refl W₂).drew).mono ?_
      rintro e W₃ ⟨rfl, hx3⟩
      have Z3 : Ext W₂ W₃ := Ext.trans (Ext.refl W₂).drew hx3
      show K _ _
      refine hK.out _ _ (HSK.out _ Z3) (fun hHeld3 => ?_)
      clear hK K hHeld
      try simp only [Act.put, List.getElem_toArray, List.getElem_cons_zero, List.getElem_cons_succ, List.setIfInBounds_toArray, List.set_cons_zero, List.set_cons_succ]
      refine wpAnyH_take (i := 12) (v := .bool false) rfl (by kernel_rfl) (by kernel_rfl) (by kernel_rfl) (fun _ _ _ h => h) (Or.inl ⟨by kernel_rfl, ?h2x12⟩) (by assumption) ?r2x12
      case h2x12 => (intro w hSw; (try dsimp only at hSw); go_simp; try with_reducible rfl)
      try simp only [Act.put, List.getElem_toArray, List.getElem_cons_zero, List.getElem_cons_succ, List.setIfInBounds_toArray, List.set_cons_zero, List.set_cons_succ]
      refine wpAnyH_take (i := 13) (v := .bool false) rfl (by kernel_rfl) (by kernel_rfl) (by kernel_rfl) (fun _ _ _ h => h) (Or.inl ⟨by kernel_rfl, ?h2x13⟩) (by assumption) ?r2x13
      case h2x13 => (intro w hSw; (try dsimp only at hSw); go_simp; try with_reducible rfl)
      try simp only [Act.put, List.getElem_toArray, List.getElem_cons_zero, List.getElem_cons_succ, List.setIfInBounds_toArray, List.set_cons_zero, List.set_cons_succ]
      refine wpAnyH_take (i := 14) (v := .bool false) rfl (by kernel_rfl) (by kernel_rfl) (by kernel_rfl) (fun _ _ _ h => h) (Or.inl ⟨by kernel_rfl, ?h2x14⟩) (by assumption) ?r2x14
      case h2x14 => (intro w hSw; (try dsimp only at hSw); go_simp; try with_reducible rfl)
      try simp only [Act.put, List.getElem_toArray, List.getElem_cons_zero, List.getElem_cons_succ, List.setIfInBounds_toArray, List.set_cons_zero, List.set_cons_succ]
      refine wpAnyH_take (i := 15) (v := ?v2x15) rfl (by kernel_rfl) (by kernel_rfl) (by kernel_rfl) (fun _ _ _ h => h) (Or.inl ⟨by kernel_rfl, ?h2x15⟩) (by assumption) ?r2x15
      case h2x15 => (intro w hSw; (try dsimp only at hSw); go_simp; try with_reducible rfl)
      try simp only [Act.put, List.getElem_toArray, List.getElem_cons_zero, List.getElem_cons_succ, List.setIfInBounds_toArray, List.set_cons_zero, List.set_cons_succ]
      refine wpAnyH_take (i := 16) (v := ?v2x16) rfl (by kernel_rfl) (by kernel_rfl) (by kernel_rfl) (fun _ _ _ h => h) (Or.inl ⟨by kernel_rfl, ?h2x16⟩) (by assumption) ?r2x16
      case h2x16 => (intro w hSw; (try dsimp only at hSw); go_simp; try with_reducible rfl)
      try simp only [Act.put, List.getElem_toArray, List.getElem_cons_zero, List.getElem_cons_succ, List.setIfInBounds_toArray, List.set_cons_zero, List.set_cons_succ]
      refine wpAnyH_take (i := 17) (v := ?v2x17) rfl (by kernel_rfl) (by kernel_rfl) (by kernel_rfl) (fun _ _ _ h => h) (Or.inl ⟨by kernel_rfl, ?h2x17⟩) (by assumption) ?r2x17
      case h2x17 => (intro w hSw; (try dsimp only at hSw); go_simp; try with_reducible rfl)
      try simp only [Act.put, List.getElem_toArray, List.getElem_cons_zero, List.getElem_cons_succ, List.setIfInBounds_toArray, List.set_cons_zero, List.set_cons_succ]
      refine wpAnyH_take (i := 18) (v := ?v2x18) rfl (by kernel_rfl) (by kernel_rfl) (by kernel_rfl) (fun _ _ _ h => h) (Or.inl ⟨by kernel_rfl, ?h2x18⟩) (by assumption) ?r2x18
      case h2x18 => (intro w hSw; (try dsimp only at hSw); go_simp; try with_reducible rfl)
      try simp only [Act.put, List.getElem_toArray, List.getElem_cons_zero, List.getElem_cons_succ, List.setIfInBounds_toArray, List.set_cons_zero, List.set_cons_succ]
      refine wpAnyH_take (i := 19) (v := ?v2x19) rfl (by kernel_rfl) (by kernel_rfl) (by kernel_rfl) (fun _ _ _ h => h) (Or.inl ⟨by kernel_rfl, ?h2x19⟩) (by assumption) ?r2x19
      case h2x19 => (intro w hSw; (try dsimp only at hSw); go_simp; try with_reducible rfl)
      try simp only [Act.put, List.getElem_toArray, List.getElem_cons_zero, List.getElem_cons_succ, List.setIfInBounds_toArray, List.set_cons_zero, List.set_cons_succ]
      refine wpAnyH_take (i := 20) (v := ?v2x20) rfl (by kernel_rfl) (by kernel_rfl) (by kernel_rfl) (fun _ _ _ h => h) (Or.inl ⟨by kernel_rfl, ?h2x20⟩) (by assumption) ?r2x20
      case h2x20 => (intro w hSw; (try dsimp only at hSw); go_simp; try with_reducible rfl)
      try simp only [Act.put, List.getElem_toArray, List.getElem_cons_zero, List.getElem_cons_succ, List.setIfInBounds_toArray, List.set_cons_zero, List.set_cons_succ]
      refine wpAnyH_ready (rs := [21]) (by kernel_rfl) (by simp) ?_
      refine AllReadyH.cons rfl (fun K hK => ?_) AllReadyH.nil
      go_simp
      refine (C4.out _ Z3).mono ?_
      rintro e W₄ ⟨rfl, hx4⟩
      have Z4 : Ext W₂ W₄ := Ext.trans Z3 hx4
      show K _ _
      refine hK.out _ _ (HSK.out _ Z4) (fun hHeld4 => ?_)
      clear hK K hHeld3
      try simp only [Act.put, List.getElem_toArray, List.getElem_cons_zero, List.getElem_cons_succ, List.setIfInBounds_toArray, List.set_cons_zero, List.set_cons_succ]
      refine wpAnyH_take (i := 22) (v := .bool false) rfl (by kernel_rfl) (by kernel_rfl) (by kernel_rfl) (fun _ _ _ h => h) (Or.inl ⟨by kernel_rfl, ?h2x22⟩) (by assumption) ?r2x22
      case h2x22 => (intro w hSw; (try dsimp only at hSw); go_simp; try with_reducible rfl)
      try simp only [Act.put, List.getElem_toArray, List.getElem_cons_zero, List.getElem_cons_succ, List.setIfInBounds_toArray, List.set_cons_zero, List.set_cons_succ]
      refine wpAnyH_take (i := 23) (v := .bool false) rfl (by kernel_rfl) (by kernel_rfl) (by kernel_rfl) (fun _ _ _ h => h) (Or.inl ⟨by kernel_rfl, ?h2x23⟩) (by assumption) ?r2x23
      case h2x23 => (intro w hSw; (try dsimp only at hSw); go_simp; try with_reducible rfl)
      try simp only [Act.put, List.getElem_toArray, List.getElem_cons_zero, List.getElem_cons_succ, List.setIfInBounds_toArray, List.set_cons_zero, List.set_cons_succ]
      refine wpAnyH_done (by kernel_rfl) ?_ _
      have fz := frozen_of (i := 0) (Z4.block HCB.out)
      have z0 := cell_of (i := 0) (Z4.block HCB.out) rfl
      have z1 := cell_of (i := 0) (Z4.block HSB2.out) rfl
      simp only [List.getElem_toArray, List.getElem_cons_zero] at z0 z1
      clear c0 e0 l0 r0 r1 r2' r3' r4 q0 q1 q2 q3 hHeld4 hx3 hx4
      by_cases hlast : i = ys.length
      · have hle : (((i : Int) + 1) == ((ys.length : Nat) : Int) + 1) = true := by rw [hlast]; simp
        have hxx : ys.length + 1 ≤ ys.length := by omega
        have HXX := hid (And.intro hlast hxx)
        clear hlast hxx
        gi_wp2_with fail
        exact HFX.out _ _ Z4 (by rw [HXX.out.1]) HXX.out.2
      · have hle : (((i : Int) + 1) == ((ys.length : Nat) : Int) + 1) = false := by rw [beq_eq_false_iff_ne]; omega
        have hxx : i + 1 ≤ ys.length := by omega
        clear hlast
        gi_wp2_with fail
        exact HF.out _ _ Z4 (by push_cast; rfl) hxx
    case stop2 =>
      rintro D Z c' M' hD ⟨rfl, rfl, hcb, hle⟩ hd hmd hsub hk
      exact absurd hle (by omega)
    case done2 =>
      rintro D2 Z2 M' hD2 ⟨rfl, hcb, hle⟩ hd2 hmd hsub hk
      have XWZ2 := hid (show Ext Z1 Z2 from Kp.ext ((XWY2.out.kp (fun q => q < Z1.heap.size)).trans (hk.mono (fun q _ hq e => by have hq' : q < Z1.heap.size := hq; have e' : q = Z1.heap.size := e; omega))) (fun q hq => hq))
      have XZ2 := hid (show Ext w3 Z2 from Kp.ext ((XY2.out.kp (fun q => q < w3.heap.size)).trans (hk.mono (fun q _ hq e => by have hq' : q < w3.heap.size := hq; have e' : q = Z1.heap.size := e; omega))) (fun q hq => hq))
      have hsbZ := hk.block' HSB2.out (show ¬ Z1.heap.size + 1 = Z1.heap.size by omega)
      have c0 := cell_of (i := 0) hcb rfl
      have e0 := cell_of (i := 0) hsbZ rfl
      have l0 := cell_of (i := 0) (XZ2.out.block HBL3.out) rfl
      simp only [List.getElem_toArray, List.getElem_cons_zero] at c0 e0 l0
      clear hcb hsbZ hmd hsub
      have HD2 := hid hd2
      clear hd2 hk
      gi_wp2_with fail
      rw [roundsIn_succ]
      clear c0 e0 l0
      have hbr := XZ2.out.block HBR3.out
      have c0 := cell_of (i := 0) hbr rfl
      have f0 := frozen_of (i := 0) hbr
      simp only [List.getElem_toArray, List.getElem_cons_zero] at c0
      have HBRZ := hid hbr
      clear hbr
      gi_wp2_with fail
      have hlt1 := lt_of_block HD1.out
      have hszX := XWY2.out.size
      have hws := X3.out.size
      have hbF := set_one (u := .bool true) HBRZ.out
      have kF := Kp.set (K := (· ≠ w.heap.size + 1)) Z2 (w.heap.size + 1) 0 (.bool true) (fun h => h rfl)
      have hd2 := kF.block' HD2.out (show D2 ≠ w.heap.size + 1 by omega)
      have k2 := Kp.putObj (Z2.setCell ⟨w.heap.size + 1, 0, none⟩ (.bool true)) D2 (.deferred none)
      have hd1 := k2.block' (kF.block' (XWZ2.out.block HD1.out) (show D1 ≠ w.heap.size + 1 by omega)) (show D1 ≠ D2 by omega)
      have k1 := Kp.putObj ((Z2.setCell ⟨w.heap.size + 1, 0, none⟩ (.bool true)).putObj D2 (.deferred none)) D1 (.deferred none)
      have hbE := k1.block' (k2.block' hbF (show w.heap.size + 1 ≠ D2 by omega)) (show w.heap.size + 1 ≠ D1 by omega)
      have z0 := cell_of (i := 0) hbE rfl
      simp only [List.getElem_toArray, List.getElem_cons_zero] at z0
      refine ⟨by simp, .inl ⟨_, _, rfl, run_takeDeferred hd2, ?_⟩⟩
      refine ⟨by simp, .inl ⟨_, _, rfl, run_takeDeferred hd1, ?_⟩⟩
      exact ⟨.bool true, by simp [results, Try.results40, go_sem, z0], rfl, Kp.extOf (Kp.extOf (Kp.extOf (X3.out.trans XZ2.out) kF (by omega)) k2 (by omega)) k1 (by omega)⟩
end Go.Proofs.Ythdmoghooaccgaa
