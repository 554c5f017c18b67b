/-
  The walk of espalierlaw5.SortThere, given that begun answers true: it returns true.
-/
import Derived.Test.YtllbelglilkdpaaDoorSRead
import Derived.Test.YtllbelglilkdpaaDoorSText
import Derived.Test.YtllbelglilkdpaaDoorSSameF
import Derived.Deep.RegionHeld3
import Derived.Deep.Cut
import Derived.WalkSpells
namespace Go.Proofs.YtllbelglilkdpaaDoor
open Go.RowKit
set_option maxRecDepth 100000 in
theorem named_any (x : ByteArray) (w : World) : Calls Tryd.prog 13 #[.string x] w fun e w' => e = .returned (.agg #[.string x, .slice none 0 0]) ∧ Ext w w' := by
  go_enter Tryd.func13, Tryd.ntmps13
  go_wp2_with fail
  refine bodyPost_ret (v := .agg #[.string x, .slice none 0 0]) (by simp [results, Tryd.results13, go_sem]) rfl ?_
  exact ⟨rfl, Ext.alloc _ _⟩
theorem arr_list (x : ByteArray) : (⟨x.data.toList.toArray⟩ : ByteArray) = x := data_inj (by simp)
theorem readS_txt {t : S} {n : Nat} {x : ByteArray} (h : shp t = some (n, x)) : readS (txtB n x) = .ok n x.data.toList := by
  have hs := shp_some h
  have hn : n ≤ 64 := by rw [← hs.1]; exact peel_le 64 t
  have e : (txtB n x).data.toList = txtL n x.data.toList := by unfold txtB; simp
  have e2 : (txtB n x).size = 5 * n + x.data.toList.length := by
    have : (txtB n x).size = (txtB n x).data.toList.length := by rw [Array.length_toList]; rfl
    rw [this, e, txt_len]
  unfold readS
  rw [e, rdS_txt hs.2.2.2 n _ 0 0 (by omega) (by omega), Nat.zero_add]
theorem readS_back {s : ByteArray} {n : Nat} {l : List UInt8} (h : readS s = .ok n l) : txtV (chain n ⟨l.toArray⟩) = .tuple #[.string s, .int .i64 0] := by
  obtain ⟨m, e1, e2, e3, e4⟩ := rdS_ok _ _ _ _ _ _ (by omega) h
  have e0 : m = n := by omega
  subst e0
  have hl : (⟨l.toArray⟩ : ByteArray).data.toList = l := by simp
  unfold txtV
  rw [shp_chain (by omega) (by rw [hl]; exact e3)]
  show Value.tuple #[.string (txtB m ⟨l.toArray⟩), .int .i64 0] = _
  rw [show txtB m ⟨l.toArray⟩ = s from data_inj (by unfold txtB; rw [hl, e2])]
theorem sameS_chain {t : S} {n : Nat} {x : ByteArray} (h : shp t = some (n, x)) : sameS (chain n x) t = true := by
  have hs := shp_some h
  have hn : n ≤ 64 := by rw [← hs.1]; exact peel_le 64 t
  unfold sameS
  rw [shp_chain hn hs.2.2.2, h]
  simp
theorem txtB_size {t : S} {n : Nat} {x : ByteArray} (h : shp t = some (n, x)) : (txtB n x).size ≤ 140737488351232 := by
  have hs := shp_some h
  have hn : n ≤ 64 := by rw [← hs.1]; exact peel_le 64 t
  have hl := (leaf_len hs.2.2.2).1
  have : (txtB n x).size = (txtL n x.data.toList).length := by unfold txtB; show (txtL n x.data.toList).toArray.size = _; simp
  rw [this, txt_len]
  omega
theorem chain_kids : ∀ (n : Nat) (x : ByteArray), (chain n x).kids.length = if n = 0 then 0 else 1
  | 0, _ => rfl
  | _ + 1, _ => rfl
set_option maxRecDepth 100000 in
set_option maxHeartbeats 4000000 in
theorem there_walk (HBEG : ∀ w, Calls Tryd.prog 7 #[] w fun e w' => e = .returned (.bool true) ∧ Ext w w') {K : Nat → Prop} {d : Nat} {v : Value} {t : S} (s : ByteArray) (w : World) (hr : SRd K w d v t) (hs : s.size ≤ 140737488351232) : Calls Tryd.prog 4 #[v, .string s] w fun e w' => e = .returned (.bool true) ∧ Ext w w' := by
  obtain ⟨a, c, rfl⟩ := hr.shape
  have HB := hid HBEG
  have HR := hid hr.low
  have hs' : (s.size : Int) ≤ 140737488351232 := by omega
  have HTX := hid (fun w1 (h : Ext w w1) => textS_any w1 (hr.later h))
  have HMY := hid (fun w1 (h : Ext w w1) => mayS_any w1 (hr.later h))
  have HRD := hid (fun w1 => readS_any s w1 hs)
  clear HBEG hr
  obtain ⟨nm, hnm⟩ : ∃ nm, t.name = nm := ⟨_, rfl⟩
  obtain ⟨kl, hkl⟩ : ∃ kl, t.kids.length = kl := ⟨_, rfl⟩
  rw [hnm, hkl] at HTX HMY HR ⊢
  clear hnm hkl
  obtain ⟨M, hM⟩ : ∃ M, w.alloc (.cells #[.string nm, .slice a kl c] 27) = M := ⟨_, rfl⟩
  have HXM := hid (show Ext w M from hM ▸ Ext.alloc _ _)
  have HBX := hid (show M.heap[w.heap.size]? = some (.cells #[.string nm, .slice a kl c] 27) from hM ▸ blk0 _ _)
  go_enter Tryd.func4, Tryd.ntmps4
  go_wp2_with fail
  clear hM
  refine (HB.out _).mono ?_
  rintro e w1 ⟨rfl, hx1⟩
  have X1 := hid (HXM.out.trans hx1)
  have B1 := hid (hx1.block HBX.out)
  clear hx1
  obtain ⟨p0, p1⟩ := two_of B1.out
  cases h1 : shp t with
  | none =>
    have hT : txtV t = .tuple #[.string ⟨#[]⟩, .int .i64 14] := by unfold txtV; rw [h1]
    have hY : mayS t = 14 := by unfold mayS; rw [h1]; rfl
    rw [hT] at HTX
    rw [hY] at HMY
    clear h1 hT hY
    go_wp2_with fail
    refine (HTX.out w1 X1.out).mono ?_
    rintro e w2 ⟨rfl, hx2⟩
    have X2 := hid (X1.out.trans hx2)
    have B2 := hid (hx2.block B1.out)
    clear hx2 p0 p1
    obtain ⟨p0, p1⟩ := two_of B2.out
    go_wp2_with fail
    refine (HMY.out w2 X2.out).mono ?_
    rintro e w9 ⟨rfl, hx9⟩
    have X9 := hid (X2.out.trans hx9)
    clear hx9 p0 p1
    cases hq : readS s with
    | bad c0 a0 =>
      have HRB := hid (show ∀ w1, Calls Tryd.prog _ #[.string s] w1 (ReadSR w1 (.bad c0 a0)) from fun w1 => by have h := HRD.out w1; rw [hq] at h; exact h)
      have hbd := rdS_bad _ _ _ _ _ _ (by rw [Array.length_toList]; exact Nat.lt_succ_self _) hq
      rw [Array.length_toList] at hbd
      have ha0 : a0 ≤ s.size := by have h := hbd.1; have h2 : s.data.size = s.size := rfl; omega
      have hc0 : ((c0 : Int) != 0) = true := by have h := hbd.2; simp; omega
      have hc1 : ¬ (c0 : Int) = 0 := by have h := hbd.2; omega
      have g1 : decide ((0 : Int) ≤ (a0 : Int)) = true := decide_eq_true (by omega)
      have g2 : decide ((a0 : Int) ≤ (s.size : Int)) = true := decide_eq_true (by omega)
      have HA0 := hid ha0
      clear hq hbd ha0 g2
      go_wp2_with fail
      refine (HRB.out w9).mono ?_
      rintro e w10 ⟨hx10, rfl⟩
      have X10 := hid ((X9.out.trans hx10).more (.cells #[.string ⟨#[]⟩, .slice none 0 0] 27))
      obtain ⟨q0, q1⟩ := two_of (blk0 w10 (.cells #[.string ⟨#[]⟩, .slice none 0 0] 27))
      clear hx10
      go_wp2_with fail
      go_ret
      refine ⟨?_, X10.out⟩
      show Ending.returned (.bool (decide (a0 ≤ s.size))) = _
      rw [decide_eq_true HA0.out]
    | ok n0 l0 =>
      have HRO := hid (show ∀ w1, Calls Tryd.prog _ #[.string s] w1 (ReadSR w1 (.ok n0 l0)) from fun w1 => by have h := HRD.out w1; rw [hq] at h; exact h)
      have HBK := hid (readS_back hq)
      clear hq
      go_wp2_with fail
      refine (HRO.out w9).mono ?_
      rintro e w10 ⟨hx10, v10, rfl, hr10, -⟩
      obtain ⟨a10, c10, rfl⟩ := hr10.shape
      have HT10 := hid (textS_any (w10.alloc (.cells #[.string (chain n0 ⟨l0.toArray⟩).name, .slice a10 (chain n0 ⟨l0.toArray⟩).kids.length c10] 27)) (hr10.later (Ext.alloc _ _)))
      rw [HBK.out] at HT10
      obtain ⟨nm10, hnm10⟩ : ∃ nm10, (chain n0 ⟨l0.toArray⟩).name = nm10 := ⟨_, rfl⟩
      obtain ⟨kl10, hkl10⟩ : ∃ kl10, (chain n0 ⟨l0.toArray⟩).kids.length = kl10 := ⟨_, rfl⟩
      rw [hnm10, hkl10] at HT10 ⊢
      have X10 := hid ((X9.out.trans hx10).more (.cells #[.string nm10, .slice a10 kl10 c10] 27))
      obtain ⟨q0, q1⟩ := two_of (blk0 w10 (.cells #[.string nm10, .slice a10 kl10 c10] 27))
      clear hx10 hr10 hnm10 hkl10 HBK
      go_wp2_with fail
      refine HT10.out.mono ?_
      rintro e w11 ⟨rfl, hx11⟩
      have X11 := hid (X10.out.trans hx11)
      clear hx11 q0 q1
      go_wp2_with fail
      go_ret
      exact ⟨by first | rfl | simp, X11.out⟩
  | some y =>
    obtain ⟨n, x⟩ := y
    have hT : txtV t = .tuple #[.string (txtB n x), .int .i64 0] := by unfold txtV; rw [h1]
    have hY : mayS t = 0 := by unfold mayS; rw [h1]; rfl
    rw [hT] at HTX
    rw [hY] at HMY
    have HRT := hid (show ∀ w1, Calls Tryd.prog _ #[.string (txtB n x)] w1 (ReadSR w1 (.ok n x.data.toList)) from fun w1 => by
      have h := readS_any (txtB n x) w1 (txtB_size h1)
      rw [readS_txt h1] at h
      exact h)
    have HSM := hid (sameS_chain h1)
    clear h1 hT hY
    generalize txtB n x = u at *
    go_wp2_with fail
    refine (HTX.out w1 X1.out).mono ?_
    rintro e w2 ⟨rfl, hx2⟩
    have X2 := hid (X1.out.trans hx2)
    have B2 := hid (hx2.block B1.out)
    clear hx2 p0 p1
    obtain ⟨p0, p1⟩ := two_of B2.out
    go_wp2_with fail
    refine (HMY.out w2 X2.out).mono ?_
    rintro e w3 ⟨rfl, hx3⟩
    have X3 := hid (X2.out.trans hx3)
    have B3 := hid (hx3.block B2.out)
    clear hx3 p0 p1
    obtain ⟨p0, p1⟩ := two_of B3.out
    go_wp2_with fail
    refine (HRT.out w3).mono ?_
    rintro e w4 ⟨hx4, v4, rfl, hr4, ht4⟩
    rw [arr_list] at hr4
    obtain ⟨a4, c4, rfl⟩ := hr4.shape
    obtain ⟨nm4, hnm4⟩ : ∃ nm4, (chain n x).name = nm4 := ⟨_, rfl⟩
    obtain ⟨kl4, hkl4⟩ : ∃ kl4, (chain n x).kids.length = kl4 := ⟨_, rfl⟩
    have HKL := hid (show kl4 = if n = 0 then 0 else 1 from hkl4 ▸ chain_kids n x)
    rw [hnm4, hkl4] at hr4 ht4 ⊢
    have HGL := hid (show ∀ g, a4 = some ⟨g, 0, none⟩ → n ≠ 0 → g < w4.heap.size from fun g e1 e2 => by
      rcases ht4 with h0 | ⟨g', u0, u1, hv, _, hgb⟩
      · exact absurd h0 e2
      · simp only [Value.agg.injEq, Array.mk.injEq, List.cons.injEq, Value.slice.injEq, and_true] at hv
        have e3 := hv.2.1
        rw [e1] at e3
        injection e3 with e4
        injection e4 with e5
        rw [e5]
        exact lt_of_block hgb)
    have HT4 := hid (ht4.later (Ext.alloc w4 (.cells #[.string nm4, .slice a4 kl4 c4] 27)))
    have HR4 := hid (hr4.later (Ext.alloc w4 (.cells #[.string nm4, .slice a4 kl4 c4] 27)))
    have X4 := hid ((X3.out.trans hx4).more (.cells #[.string nm4, .slice a4 kl4 c4] 27))
    have B4 := hid (show (w4.alloc (.cells #[.string nm4, .slice a4 kl4 c4] 27)).heap[w.heap.size]? = _ from blkOld _ (hx4.block B3.out))
    have A4 := hid (blk0 w4 (.cells #[.string nm4, .slice a4 kl4 c4] 27))
    have hs3 := lt_of_block B3.out
    have HS4 := hid (show w.heap.size < w3.heap.size ∧ w3.heap.size ≤ w4.heap.size from ⟨hs3, hx4.size⟩)
    clear hx4 hr4 ht4 hnm4 hkl4 p0 p1 hs3
    go_upto_region 8 with fail
    generalize w4.alloc (.cells #[.string nm4, .slice a4 kl4 c4] 27) = M4 at *
    obtain ⟨ab, hab⟩ : ∃ ab, w4.heap.size = ab := ⟨_, rfl⟩
    rw [hab] at A4 HS4 HGL ⊢
    clear hab
    obtain ⟨p0, p1⟩ := two_of B4.out
    obtain ⟨q0, q1⟩ := two_of A4.out
    have HSA := hid (sameS_any M4 HR4.out (HR.out.later X4.out))
    rw [HSM.out] at HSA
    go_wp2_with fail
    refine HSA.out.mono ?_
    rintro e w5 ⟨rfl, hx5⟩
    have X5 := hid (X4.out.trans hx5)
    have B5 := hid (hx5.block B4.out)
    have A5 := hid (hx5.block A4.out)
    have HR5 := hid (HR4.out.later hx5)
    have HT5 := hid (HT4.out.later hx5)
    have HL5 := hid (show M4.heap.size ≤ w5.heap.size from hx5.size)
    clear hx5 p0 p1 q0 q1
    obtain ⟨q0, q1⟩ := two_of A5.out
    by_cases hn0 : n = 0
    · have hk0 : kl4 = 0 := by rw [HKL.out, if_pos hn0]
      subst hk0
      go_upto_region 12 with fail
      clear q0 q1 hn0
      have X6 := hid X5.out
      have B6 := hid B5.out
      generalize w5 = w6 at *
      go_wp2_with fail
      refine (HRT.out w6).mono ?_
      rintro e w7 ⟨hx7, v7, rfl, hr7, -⟩
      rw [arr_list] at hr7
      obtain ⟨a7, c7, rfl⟩ := hr7.shape
      obtain ⟨nm7, hnm7⟩ : ∃ nm7, (chain n x).name = nm7 := ⟨_, rfl⟩
      obtain ⟨kl7, hkl7⟩ : ∃ kl7, (chain n x).kids.length = kl7 := ⟨_, rfl⟩
      rw [hnm7, hkl7] at hr7 ⊢
      have HR7 := hid (hr7.later (Ext.alloc w7 (.cells #[.string nm7, .slice a7 kl7 c7] 27)))
      have X7 := hid ((X6.out.trans hx7).more (.cells #[.string nm7, .slice a7 kl7 c7] 27))
      have B7 := hid (show (w7.alloc (.cells #[.string nm7, .slice a7 kl7 c7] 27)).heap[w.heap.size]? = _ from blkOld _ (hx7.block B6.out))
      have A7 := hid (blk0 w7 (.cells #[.string nm7, .slice a7 kl7 c7] 27))
      clear hx7 hr7 hnm7 hkl7
      go_upto_region 13 with fail
      generalize w7.alloc (.cells #[.string nm7, .slice a7 kl7 c7] 27) = M7 at *
      generalize w7.heap.size = ab7 at *
      obtain ⟨p0, p1⟩ := two_of B7.out
      obtain ⟨q0, q1⟩ := two_of A7.out
      have HSA7 := hid (sameS_any M7 HR7.out (HR.out.later X7.out))
      rw [HSM.out] at HSA7
      go_wp2_with fail
      refine HSA7.out.mono ?_
      rintro e w9 ⟨rfl, hx9⟩
      have X9 := hid (X7.out.trans hx9)
      clear hx9 p0 p1 q0 q1
      cases hq : readS s with
      | bad c0 a0 =>
        have HRB := hid (show ∀ w1, Calls Tryd.prog _ #[.string s] w1 (ReadSR w1 (.bad c0 a0)) from fun w1 => by have h := HRD.out w1; rw [hq] at h; exact h)
        have hbd := rdS_bad _ _ _ _ _ _ (by rw [Array.length_toList]; exact Nat.lt_succ_self _) hq
        rw [Array.length_toList] at hbd
        have ha0 : a0 ≤ s.size := by have h := hbd.1; have h2 : s.data.size = s.size := rfl; omega
        have hc0 : ((c0 : Int) != 0) = true := by have h := hbd.2; simp; omega
        have hc1 : ¬ (c0 : Int) = 0 := by have h := hbd.2; omega
        have g1 : decide ((0 : Int) ≤ (a0 : Int)) = true := decide_eq_true (by omega)
        have g2 : decide ((a0 : Int) ≤ (s.size : Int)) = true := decide_eq_true (by omega)
        have HA0 := hid ha0
        clear hq hbd ha0 g2
        go_wp2_with fail
        refine (HRB.out w9).mono ?_
        rintro e w10 ⟨hx10, rfl⟩
        have X10 := hid ((X9.out.trans hx10).more (.cells #[.string ⟨#[]⟩, .slice none 0 0] 27))
        obtain ⟨q0, q1⟩ := two_of (blk0 w10 (.cells #[.string ⟨#[]⟩, .slice none 0 0] 27))
        clear hx10
        go_wp2_with fail
        go_ret
        refine ⟨?_, X10.out⟩
        show Ending.returned (.bool (decide (a0 ≤ s.size))) = _
        rw [decide_eq_true HA0.out]
      | ok n0 l0 =>
        have HRO := hid (show ∀ w1, Calls Tryd.prog _ #[.string s] w1 (ReadSR w1 (.ok n0 l0)) from fun w1 => by have h := HRD.out w1; rw [hq] at h; exact h)
        have HBK := hid (readS_back hq)
        clear hq
        go_wp2_with fail
        refine (HRO.out w9).mono ?_
        rintro e w10 ⟨hx10, v10, rfl, hr10, -⟩
        obtain ⟨a10, c10, rfl⟩ := hr10.shape
        have HT10 := hid (textS_any (w10.alloc (.cells #[.string (chain n0 ⟨l0.toArray⟩).name, .slice a10 (chain n0 ⟨l0.toArray⟩).kids.length c10] 27)) (hr10.later (Ext.alloc _ _)))
        rw [HBK.out] at HT10
        obtain ⟨nm10, hnm10⟩ : ∃ nm10, (chain n0 ⟨l0.toArray⟩).name = nm10 := ⟨_, rfl⟩
        obtain ⟨kl10, hkl10⟩ : ∃ kl10, (chain n0 ⟨l0.toArray⟩).kids.length = kl10 := ⟨_, rfl⟩
        rw [hnm10, hkl10] at HT10 ⊢
        have X10 := hid ((X9.out.trans hx10).more (.cells #[.string nm10, .slice a10 kl10 c10] 27))
        obtain ⟨q0, q1⟩ := two_of (blk0 w10 (.cells #[.string nm10, .slice a10 kl10 c10] 27))
        clear hx10 hr10 hnm10 hkl10 HBK
        go_wp2_with fail
        refine HT10.out.mono ?_
        rintro e w11 ⟨rfl, hx11⟩
        have X11 := hid (X10.out.trans hx11)
        clear hx11 q0 q1
        go_wp2_with fail
        go_ret
        exact ⟨by first | rfl | simp, X11.out⟩
    · have hk1 : kl4 = 1 := by rw [HKL.out, if_neg hn0]
      subst hk1
      rcases HT5.out with h0 | ⟨g, u0, u1, hv, hg, hgb⟩
      · exact absurd h0 hn0
      simp only [Value.agg.injEq, Array.mk.injEq, List.cons.injEq, Value.string.injEq, Value.slice.injEq, and_true, true_and] at hv
      obtain ⟨rfl, rfl, rfl⟩ := hv
      have GB := hid hgb
      have hgn : g ≠ w.heap.size := by have h := HS4.out; omega
      have hgab : g ≠ ab := by have h := HGL.out g rfl hn0; omega
      clear hgb
      have HNA := hid (fun w1 => named_any ⟨#[115, 112, 111, 105, 108, 116]⟩ w1)
      have HSK := hid (show ∀ W', Ext w5 W' → W'.cell? ⟨ab, 1, none⟩ = some (.slice (some ⟨g, 0, none⟩) 1 1) from fun W' Y => (two_of (Y.block A5.out)).2)
      have HKS := hid (show ∀ (W' : World) (i : Nat) (v : Value), W'.cell? ⟨ab, 1, none⟩ = some (.slice (some ⟨g, 0, none⟩) 1 1) → (W'.setCell ⟨g, i, none⟩ v).cell? ⟨ab, 1, none⟩ = some (.slice (some ⟨g, 0, none⟩) 1 1) from fun W' i v k0 => (Kp.set (K := (· ≠ g)) W' g i v (fun h => h rfl)).cell k0 (fun e => hgab e.symm))
      go_upto_region 11 with fail
      go_region_held3 (fun W' => W'.cell? ⟨ab, 1, none⟩ = some (.slice (some ⟨g, 0, none⟩) 1 1))
        (first | with_reducible exact SK1 | with_reducible exact q1 | with_reducible exact HKS.out _ _ _ (HKS.out _ _ _ SK1) | go_keep)
        (first | (go_at_call 13; refine (HNA.out _).mono ?_; rintro e w6 ⟨rfl, hx6⟩; have Z1 : Ext w5 w6 := Ext.trans (by repeat (first | with_reducible exact Ext.refl _ | with_reducible refine Ext.drew ?_)) hx6; have SK1 := HSK.out w6 Z1; obtain ⟨m0, m1⟩ := two_of (Z1.block GB.out); obtain ⟨f0, f1⟩ := two_free (Z1.block GB.out)))
      all_goals
        go_upto_region 12 with fail
        have k2 := Kp.set2 w6 g 0 (.string ⟨#[115, 112, 111, 105, 108, 116]⟩) (.slice none 0 0)
        have Y6 := Kp.ext (((X5.out.trans Z1).kp _).trans k2) (fun q hq => by show q ≠ g; have h := HS4.out; omega)
        have C6 := k2.block' (Z1.block B5.out) (fun e => hgn e.symm)
        have X6 := hid Y6
        have B6 := hid C6
        clear Y6 C6 k2 SK1 m0 m1 f0 f1 q0 q1
        generalize (w6.setCell ⟨g, 0, none⟩ (.string ⟨#[115, 112, 111, 105, 108, 116]⟩)).setCell ⟨g, 1, none⟩ (.slice none 0 0) = w8 at *
        go_wp2_with fail
        refine (HRT.out w8).mono ?_
        rintro e w7 ⟨hx7, v7, rfl, hr7, -⟩
        rw [arr_list] at hr7
        obtain ⟨a7, c7, rfl⟩ := hr7.shape
        obtain ⟨nm7, hnm7⟩ : ∃ nm7, (chain n x).name = nm7 := ⟨_, rfl⟩
        obtain ⟨kl7, hkl7⟩ : ∃ kl7, (chain n x).kids.length = kl7 := ⟨_, rfl⟩
        rw [hnm7, hkl7] at hr7 ⊢
        have HR7 := hid (hr7.later (Ext.alloc w7 (.cells #[.string nm7, .slice a7 kl7 c7] 27)))
        have X7 := hid ((X6.out.trans hx7).more (.cells #[.string nm7, .slice a7 kl7 c7] 27))
        have B7 := hid (show (w7.alloc (.cells #[.string nm7, .slice a7 kl7 c7] 27)).heap[w.heap.size]? = _ from blkOld _ (hx7.block B6.out))
        have A7 := hid (blk0 w7 (.cells #[.string nm7, .slice a7 kl7 c7] 27))
        clear hx7 hr7 hnm7 hkl7
        go_upto_region 13 with fail
        generalize w7.alloc (.cells #[.string nm7, .slice a7 kl7 c7] 27) = M7 at *
        generalize w7.heap.size = ab7 at *
        obtain ⟨p0, p1⟩ := two_of B7.out
        obtain ⟨q0, q1⟩ := two_of A7.out
        have HSA7 := hid (sameS_any M7 HR7.out (HR.out.later X7.out))
        rw [HSM.out] at HSA7
        go_wp2_with fail
        refine HSA7.out.mono ?_
        rintro e w9 ⟨rfl, hx9⟩
        have X9 := hid (X7.out.trans hx9)
        clear hx9 p0 p1 q0 q1
        cases hq : readS s with
        | bad c0 a0 =>
          have HRB := hid (show ∀ w1, Calls Tryd.prog _ #[.string s] w1 (ReadSR w1 (.bad c0 a0)) from fun w1 => by have h := HRD.out w1; rw [hq] at h; exact h)
          have hbd := rdS_bad _ _ _ _ _ _ (by rw [Array.length_toList]; exact Nat.lt_succ_self _) hq
          rw [Array.length_toList] at hbd
          have ha0 : a0 ≤ s.size := by have h := hbd.1; have h2 : s.data.size = s.size := rfl; omega
          have hc0 : ((c0 : Int) != 0) = true := by have h := hbd.2; simp; omega
          have hc1 : ¬ (c0 : Int) = 0 := by have h := hbd.2; omega
          have g1 : decide ((0 : Int) ≤ (a0 : Int)) = true := decide_eq_true (by omega)
          have g2 : decide ((a0 : Int) ≤ (s.size : Int)) = true := decide_eq_true (by omega)
          have HA0 := hid ha0
          clear hq hbd ha0 g2
          go_wp2_with fail
          refine (HRB.out w9).mono ?_
          rintro e w10 ⟨hx10, rfl⟩
          have X10 := hid ((X9.out.trans hx10).more (.cells #[.string ⟨#[]⟩, .slice none 0 0] 27))
          obtain ⟨q0, q1⟩ := two_of (blk0 w10 (.cells #[.string ⟨#[]⟩, .slice none 0 0] 27))
          clear hx10
          go_wp2_with fail
          go_ret
          refine ⟨?_, X10.out⟩
          show Ending.returned (.bool (decide (a0 ≤ s.size))) = _
          rw [decide_eq_true HA0.out]
        | ok n0 l0 =>
          have HRO := hid (show ∀ w1, Calls Tryd.prog _ #[.string s] w1 (ReadSR w1 (.ok n0 l0)) from fun w1 => by have h := HRD.out w1; rw [hq] at h; exact h)
          have HBK := hid (readS_back hq)
          clear hq
          go_wp2_with fail
          refine (HRO.out w9).mono ?_
          rintro e w10 ⟨hx10, v10, rfl, hr10, -⟩
          obtain ⟨a10, c10, rfl⟩ := hr10.shape
          have HT10 := hid (textS_any (w10.alloc (.cells #[.string (chain n0 ⟨l0.toArray⟩).name, .slice a10 (chain n0 ⟨l0.toArray⟩).kids.length c10] 27)) (hr10.later (Ext.alloc _ _)))
          rw [HBK.out] at HT10
          obtain ⟨nm10, hnm10⟩ : ∃ nm10, (chain n0 ⟨l0.toArray⟩).name = nm10 := ⟨_, rfl⟩
          obtain ⟨kl10, hkl10⟩ : ∃ kl10, (chain n0 ⟨l0.toArray⟩).kids.length = kl10 := ⟨_, rfl⟩
          rw [hnm10, hkl10] at HT10 ⊢
          have X10 := hid ((X9.out.trans hx10).more (.cells #[.string nm10, .slice a10 kl10 c10] 27))
          obtain ⟨q0, q1⟩ := two_of (blk0 w10 (.cells #[.string nm10, .slice a10 kl10 c10] 27))
          clear hx10 hr10 hnm10 hkl10 HBK
          go_wp2_with fail
          refine HT10.out.mono ?_
          rintro e w11 ⟨rfl, hx11⟩
          have X11 := hid (X10.out.trans hx11)
          clear hx11 q0 q1
          go_wp2_with fail
          go_ret
          exact ⟨by first | rfl | simp, X11.out⟩
end Go.Proofs.YtllbelglilkdpaaDoor
