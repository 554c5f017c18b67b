/-
  The walk of espalierlaw4.TreeNest: it returns true, whatever the tree and the number.
-/
import Derived.Test.YthdmoghooaccgaaRangeN
import Derived.Test.YthdmoghooaccgaaRegIn
import Derived.Test.YthdmoghooaccgaaNestHead
import Derived.Test.YthdmoghooaccgaaRefAllF
import Derived.Test.YthdmoghooaccgaaEachNone
import Derived.Test.YthdmoghooaccgaaRef
import Derived.Test.YthdmoghooaccgaaRefEq
import Derived.Test.YthdmoghooaccgaaPathsMath
import Derived.Test.YthdmoghooaccgaaBegun
import Derived.WalkMore
namespace Go.Proofs.Ythdmoghooaccgaa
open Go.RowKit Go.Shelf
attribute [local go_sem] Oper.semAt_some
set_option maxRecDepth 100000 in
set_option maxHeartbeats 4000000 in
theorem nest_true {d : Nat} {v : Value} {t : T} (w : World) (stop : Int) (hr : Rd (fun _ => True) w d v t) : CallsIn Fence.wide 0 Try.prog 6 #[v, .int .i64 stop] w fun e w' => e = .returned (.bool true) ∧ Ext w w' := by
  obtain ⟨u0, u1, u2, u3, rfl⟩ := hr.agg
  obtain ⟨k, n, x, a, c, rfl, rfl, rfl, rfl⟩ := hr.shape
  have C1 := hid (fun w1 (h : Ext w w1) => refAll_any w1 (hr.later h))
  have C2 := hid (fun w1 (h : Ext w w1) => each_face w1 (hr.later h))
  clear hr
  generalize (T.kids t).length = kt at *
  obtain ⟨ys, hys⟩ : ∃ ys, (if t.small then T.all [] t else []) = ys := ⟨_, rfl⟩
  have HYS := hid hys
  have hN1 : ys.length ≤ 1024 := by
    rw [← hys]
    split
    · rename_i h; rw [T.all_length]; exact h.1
    · exact Nat.zero_le _
  rw [hys] at C1
  clear hys
  obtain ⟨U, hU⟩ : ∃ U, ((w.alloc (.cells #[.string k, .int .i64 n, .string x, .slice a kt c] 26)).alloc (.cells #[.int .i64 stop] 3)).alloc (.cells #[.bool false] 4) = U := ⟨_, rfl⟩
  have XU := hid (show Ext w U from hU ▸ Ext.alloc3 _ _ _ _)
  have HT0 := hid (show U.heap[w.heap.size]? = some (.cells #[.string k, .int .i64 n, .string x, .slice a kt c] 26) from hU ▸ blkOld _ (blkOld _ (blk0 _ _)))
  have HS0 := hid (show U.heap[w.heap.size + 1]? = some (.cells #[.int .i64 stop] 3) from hU ▸ blkOld _ (blk1 _ _ _))
  have HR0 := hid (show U.heap[w.heap.size + 1 + 1]? = some (.cells #[.bool false] 4) from hU ▸ blk2 _ _ _ _)
  refine callsIn_of_wp_marks Try.func6 rfl trivial ?_ rfl
  show Code.wpIn _ _ _ _ _ _ _
  simp only [Try.ntmps6, List.size_toArray, List.length_cons, List.length_nil, Nat.reduceAdd, Nat.reduceSub, Array.replicate_succ, Array.replicate_zero, List.push_toArray, List.append_toArray, List.nil_append, List.cons_append]
  gi_wp2_with fail
  refine ⟨trivial, rfl, (begun_true _).mono ?_⟩
  rintro e V ⟨rfl, hxV⟩
  have XV := hid hxV
  obtain ⟨p0, p1, p2, p3⟩ := four_of (hxV.block HT0.out)
  clear hxV hU
  gi_wp2_with fail
  refine ⟨trivial, rfl, (callsIn_wide.2 (C1.out _ (XU.out.trans XV.out))).mono ?_⟩
  rintro e w1 ⟨v1, xs, rfl, hst1, hx1⟩
  obtain ⟨la, lc, rfl⟩ := row5_slice hst1.1
  have HST := hid hst1
  have X1 := hid (XV.out.trans hx1)
  have HL1 := hid (blk0 w1 (.cells #[.slice la ys.length lc] 51))
  clear hst1 hx1 p0 p1 p2 p3
  by_cases h60 : (60 : Int) < ys.length
  · have h60' : decide ((60 : Int) < ys.length) = true := decide_eq_true h60
    have hbr := (X1.out.more (.cells #[.slice la ys.length lc] 51)).block HR0.out
    have c0 := cell_of (i := 0) hbr rfl
    have f0 := frozen_of (i := 0) hbr
    simp only [List.getElem_toArray, List.getElem_cons_zero] at c0
    have HBR := hid hbr
    clear hbr
    gi_wp2_with fail
    have hbF := set_one (u := .bool true) HBR.out
    have kF := Kp.set (K := (· ≠ w.heap.size + 1 + 1)) (w1.alloc (.cells #[.slice la ys.length lc] 51)) (w.heap.size + 1 + 1) 0 (.bool true) (fun h => h rfl)
    have z0 := cell_of (i := 0) hbF rfl
    simp only [List.getElem_toArray, List.getElem_cons_zero] at z0
    exact ⟨.bool true, by simp [results, Try.results6, go_sem, z0], rfl, Kp.extOf (XU.out.trans (X1.out.more _)) kF (by omega)⟩
  have h60' : decide ((60 : Int) < ys.length) = false := decide_eq_false h60
  have X4 := hid (((X1.out.more (.cells #[.slice la ys.length lc] 51)).more (.cells #[.slice none 0 0, .slice none 0 0, .int .i64 0, .slice none 0 0] 55)).more (.cells #[.pointer (some ⟨w1.heap.size + 1, 0, none⟩)] 53))
  obtain ⟨p0, p1, p2, p3⟩ := four_of (X4.out.block HT0.out)
  gi_wp2_with fail
  refine ⟨trivial, rfl, (callsIn_wide.2 (C2.out _ (XU.out.trans X4.out))).mono ?_⟩
  rintro e w3 ⟨hx3, eb, ob, kk, nn, xx, aa, ll, cc, rfl, heb, hob, hbo, hcase⟩
  obtain ⟨w2, hw2⟩ : ∃ w2, ((w1.alloc (.cells #[.slice la ys.length lc] 51)).alloc (.cells #[.slice none 0 0, .slice none 0 0, .int .i64 0, .slice none 0 0] 55)).alloc (.cells #[.pointer (some ⟨w1.heap.size + 1, 0, none⟩)] 53) = w2 := ⟨_, rfl⟩
  have hx12 : Ext w1 w2 := hw2 ▸ Ext.alloc3 _ _ _ _
  have hl2 : w2.heap[w1.heap.size]? = some (.cells #[.slice la ys.length lc] 51) := hw2 ▸ blkOld _ (blkOld _ (blk0 _ _))
  have hb2 : w2.heap[w1.heap.size + 1]? = some (.cells #[.slice none 0 0, .slice none 0 0, .int .i64 0, .slice none 0 0] 55) := hw2 ▸ blkOld _ (blk1 _ _ _)
  have hp2 : w2.heap[w1.heap.size + 1 + 1]? = some (.cells #[.pointer (some ⟨w1.heap.size + 1, 0, none⟩)] 53) := hw2 ▸ blk2 _ _ _ _
  rw [hw2] at hx3 heb hob hcase
  clear hw2 X4 p0 p1 p2 p3 HL1 C1 C2
  have hsz12 := lt_of_block hp2
  have hsz23 := hx3.size
  have hsw1 := X1.out.size
  have hswU := lt_of_block HR0.out
  have X13 := hid (hx12.trans hx3)
  have XW3 := hid (XU.out.trans (X1.out.trans X13.out))
  have HL3 := hid (hx3.block hl2)
  have HB3 := hid (hx3.block hb2)
  have HP3 := hid (hx3.block hp2)
  have HS3 := hid (X13.out.block (X1.out.block HS0.out))
  have HR3 := hid (X13.out.block (X1.out.block HR0.out))
  obtain ⟨bs, hbs, hit⟩ := nest_iter hbo hcase
  rw [HYS.out] at hit
  have HIT := hid hit
  have hebl : eb < w3.heap.size := by rcases hcase with ⟨_, h, _⟩ | ⟨_, h⟩ <;> exact lt_of_block h
  have hobl := lt_of_block hbo
  clear hit hcase hbo hl2 hb2 hp2 hx12 hx3 XU XV X1 HS0 HR0 HT0
  gi_wp2_with fail
  obtain ⟨Y, hY⟩ : ∃ Y, (w3.alloc (.cells #[.func (.func 45) #[] #[.pointer (some ⟨eb, 0, none⟩), .pointer (some ⟨ob, 0, none⟩)]] 39)).alloc (.cells #[.int .i64 0] 3) = Y := ⟨_, rfl⟩
  have XY := hid (show Ext w3 Y from hY ▸ Ext.alloc2 _ _ _)
  have HSY := hid (show Y.heap[w3.heap.size]? = some (.cells #[.func (.func 45) #[] #[.pointer (some ⟨eb, 0, none⟩), .pointer (some ⟨ob, 0, none⟩)]] 39) from hY ▸ blkOld _ (blk0 _ _))
  have HIY := hid (show Y.heap[w3.heap.size + 1]? = some (.cells #[.int .i64 0] 3) from hY ▸ blk1 _ _ _)
  have hsY : w3.heap.size + 1 < Y.heap.size := lt_of_block HIY.out
  rw [hY]
  clear hY
  obtain ⟨M0, hM0, hM0s⟩ := nsB_start (base := Y.heap.size) HIY.out (XY.out.block HB3.out) (show w3.heap.size + 1 ≠ w1.heap.size + 1 by omega)
  refine rangeM rfl (enters_of Try.func45 (by kernel_rfl) rfl) ys.length M0 (eachX t Y.heap.size)
    (HIT.out Y M0 (XY.out.kp _) (fun q hq hb => by have := hbs q hb; rcases hM0s q hq with rfl | rfl <;> omega)) eachX_size eachX_mono eachX_new
    (fun M' i Z => nsB (w3.heap.size + 1) (w1.heap.size + 1) Y.heap.size (i * 61) (i : Int) M' Z) (fun _ _ _ => False)
    (fun M' i Z h q hq => nsB_lt h q hq) (fun M' i Z Z' h hk => nsB_keep h hk (fun q hq => .inr hq))
    (fun c M' Z h => h.elim) (fun c M' Z Z' h => h.elim) (by simpa using hM0) ?round ?done ?stop
  case stop =>
    rintro D Z c M' hD h
    exact h.elim
  case done =>
    rintro D Z M' hD hI hd hmd hsub hk
    have KZ : Kp (fun q => q < w3.heap.size ∧ q ≠ w1.heap.size + 1) w3 Z := (XY.out.kp _).trans (hk.mono (fun q _ hq e => by have h := hq; rcases hM0s q e with rfl | rfl <;> omega))
    have hXZ : Ext w Z := Kp.ext ((XW3.out.kp (fun q => q < w.heap.size)).trans (KZ.mono (fun q _ hq => by have hq' : q < w.heap.size := hq; exact ⟨by omega, by omega⟩))) (fun q hq => hq)
    have hR := KZ.block' HR3.out ⟨by omega, by omega⟩
    have hi := (nsB_box hI).1
    have c0 := cell_of (i := 0) hi rfl
    have l0 := cell_of (i := 0) (KZ.block' HL3.out ⟨by omega, by omega⟩) rfl
    have b0 := cell_of (i := 0) (KZ.block' HP3.out ⟨by omega, by omega⟩) rfl
    simp only [List.getElem_toArray, List.getElem_cons_zero] at c0 l0 b0
    have HRZ := hid hR
    have HI := hid hI
    have HD := hid hd
    have HMD := hid hmd
    have HSUB := hid hsub
    clear hR hi hI hd hmd hsub hk KZ
    gi_wp2_with fail
    refine ⟨trivial, rfl, (callsIn_wide.2 (nsB_whole HI.out (by omega))).mono ?_⟩
    rintro e Z3 ⟨rfl, hkw⟩
    have hbr := hkw.block' HRZ.out (fun h => by rcases nsB_from HI.out _ h.1 with e | e | e <;> omega)
    have HDZ := hid (hkw.block' HD.out (fun h => HMD.out h.1))
    have XZ3 := hid (show Ext w Z3 from Kp.ext ((hXZ.kp (fun q => q < w.heap.size)).trans (hkw.mono (fun q _ hq h => by have hq' : q < w.heap.size := hq; rcases nsB_from HI.out q h.1 with e | e | e <;> omega))) (fun q hq => hq))
    clear c0 l0 b0 hkw hXZ
    have c0 := cell_of (i := 0) hbr rfl
    have f0 := frozen_of (i := 0) hbr
    simp only [List.getElem_toArray, List.getElem_cons_zero] at c0
    have HBR := hid hbr
    clear hbr
    gi_wp2_with fail
    have hbF := set_one (u := .bool true) HBR.out
    have kF := Kp.set (K := (· ≠ w.heap.size + 1 + 1)) Z3 (w.heap.size + 1 + 1) 0 (.bool true) (fun h => h rfl)
    have hd2 := kF.block' HDZ.out (show D ≠ w.heap.size + 1 + 1 by omega)
    have k2 := Kp.putObj (Z3.setCell ⟨w.heap.size + 1 + 1, 0, none⟩ (.bool true)) D (.deferred none)
    have hbE := k2.block' hbF (show w.heap.size + 1 + 1 ≠ D by omega)
    have z0 := cell_of (i := 0) hbE rfl
    simp only [List.getElem_toArray, List.getElem_cons_zero] at z0
    refine ⟨by simp, .inl ⟨_, _, rfl, run_takeDeferred hd2, ?_⟩⟩
    exact ⟨.bool true, by simp [results, Try.results6, go_sem, z0], rfl, Kp.extOf (Kp.extOf XZ3.out kF (by omega)) k2 (by omega)⟩
  case round =>
    rintro l2 M i Z argsA EA hlA ⟨r2A, hr2A⟩ hmlA helA hiA hIA ⟨pvA, tvA, pA, uA, dA, bsA, rfl, hLA, hpwA, hownA, _, _, rfl, hEA⟩ hk5A h4A
    obtain ⟨u0, u1, u2, u3, rfl⟩ := hownA.rd.agg
    obtain ⟨k1A, n1A, x1A, a1A, c1A, rfl, rfl, rfl, rfl⟩ := hownA.rd.shape
    obtain ⟨pa1A, pc1A, rfl⟩ := hpwA.shape
    generalize (T.kids uA).length = kl1A at hownA
    have HOWNA := hid hownA
    have HPWA := hid hpwA
    have HEA := hid hEA
    have HIA := hid hIA
    have HK5A := hid hk5A
    have H4A := hid h4A
    have HR2A := hid hr2A
    clear hownA hpwA hEA hIA hk5A h4A hr2A
    gi_wp2_with fail
    refine ⟨Ext.alloc _ _, fun W₂ hk2A r3A hr3A => ?_⟩
    have hzlA : Z.heap.size ≠ l2 := by have := lt_of_block HR2A.out; omega
    have hbxA := hk2A.block' (blk0 Z _) hzlA
    have hkzA : Kp (· ≠ l2) Z W₂ := ((Ext.alloc Z _).kp _).trans hk2A
    have HR3A := hid hr3A
    have HKZA := hid hkzA
    clear hr3A hk2A
    have KZA := hid (show Kp (fun q => q < w3.heap.size ∧ q ≠ w1.heap.size + 1) w3 W₂ from ((XY.out.kp _).trans (HK5A.out.mono (fun q _ hq e => by have h := hq; rcases hM0s q e with rfl | rfl <;> omega))).trans (hkzA.mono (fun q _ hq e => by have e' : q = l2 := e; have := hq.1; omega)))
    have K1A : Kp (fun q => q < w1.heap.size) w1 W₂ := (X13.out.kp _).trans (KZA.out.mono (fun q _ hq => by have hq' : q < w1.heap.size := hq; exact ⟨by omega, by omega⟩))
    have HIWA := hid (nsB_keep HIA.out hkzA (fun q hq (e : q = l2) => hmlA (by rw [← e]; exact hq)))
    have HI2A := hid (show Ints W₂ (.slice pa1A pA.length pc1A) pA from HPWA.out.ints.keep hkzA (fun g hg => by obtain ⟨v, hv⟩ := hg; exact cell_loop HR2A.out hv))
    have HRDA := hid (show Rd (· ∈ bsA) W₂ dA (.agg #[.string k1A, .int .i64 n1A, .string x1A, .slice a1A kl1A c1A]) uA from HOWNA.out.rd.keep (hkzA.mono (fun q _ hq e => helA (.inr (by have e' : q = l2 := e; rw [← e']; exact hq)))))
    have hys : T.all [] t = ys := by
      have h := HYS.out
      by_cases hs : t.small
      · rw [if_pos hs] at h; exact h
      · rw [if_neg hs] at h; rw [← h] at hiA; exact absurd hiA (Nat.not_lt_zero _)
    have hyi : ys[i] = (pA, uA) := by rw [hys] at hLA; rw [List.getElem?_eq_getElem hiA] at hLA; exact Option.some.inj hLA
    have hplA : pA.length ≤ 64 := by
      have hs : t.small := by
        by_cases hs : t.small
        · exact hs
        · have h := HYS.out; rw [if_neg hs] at h; rw [← h] at hiA; exact absurd hiA (Nat.not_lt_zero _)
      exact path_len hs hLA
    have hrow := row5_keep HST.out.1 K1A (fun b hb => (HST.out.1.lt b hb).2)
    obtain ⟨pa2A, pc2A, b0, b1, b2, b3, d2A, g0, g1, g2, g3, g4, hI3, hR3⟩ := (HST.out.2 i hiA).keep (K1A.mono (fun q _ hq => hq.2.1))
    rw [hyi] at g0 hI3 hR3
    obtain ⟨k2A, n2A, x2A, a2A, c2A, rfl, rfl, rfl, rfl⟩ := hR3.shape
    generalize (T.kids uA).length = kl2A at hR3 g4
    obtain ⟨gLA, hglA⟩ : ∃ gL, la = some ⟨gL, 0, none⟩ := by
      rcases hrow.2 with ⟨h, h0⟩ | ⟨g, cap, cur, h, _⟩
      · rw [h0] at hiA; exact absurd hiA (Nat.not_lt_zero _)
      · simp only [Value.slice.injEq] at h; exact ⟨g, h.1⟩
    rw [hglA] at hrow
    have HR3sA := hid hR3
    have HI3A := hid hI3.1
    have hrl := hrow.1
    have r0 := (hrow.cellAt (i * 5) (by omega)).trans g0
    have r1 := (hrow.cellAt (i * 5 + 1) (by omega)).trans g1
    have r2' := (hrow.cellAt (i * 5 + 2) (by omega)).trans g2
    have r3' := (hrow.cellAt (i * 5 + 3) (by omega)).trans g3
    have r4 := (hrow.cellAt (i * 5 + 4) (by omega)).trans g4
    obtain ⟨q0, q1, q2, q3⟩ := four_of hbxA
    have c0 := cell_of (i := 0) (nsB_box HIWA.out).1 rfl
    have l0 := cell_of (i := 0) (KZA.out.block' HL3.out ⟨by omega, by omega⟩) rfl
    rw [hglA] at l0
    simp only [List.getElem_toArray, List.getElem_cons_zero] at c0 l0
    have hiNA : (i : Int) < ys.length := by omega
    have higeA : decide ((ys.length : Int) ≤ i) = false := decide_eq_false (by omega)
    have hbl1 := lt_of_cell c0
    have hbl2 := lt_of_cell l0
    have hbl3 := lt_of_cell r0
    have hbl4 := lt_of_cell q0
    have HSKA := hid (show ∀ W', Ext W₂ W' → (W'.cell? ⟨w3.heap.size + 1, 0, none⟩ = some (.int .i64 i) ∧ W'.cell? ⟨w1.heap.size, 0, none⟩ = some (.slice (some ⟨gLA, 0, none⟩) ys.length lc) ∧ W'.cell? ⟨gLA, i * 5, none⟩ = some (.slice pa2A pA.length pc2A) ∧ W'.cell? ⟨gLA, i * 5 + 1, none⟩ = some (.string k2A) ∧ W'.cell? ⟨gLA, i * 5 + 2, none⟩ = some (.int .i64 n2A) ∧ W'.cell? ⟨gLA, i * 5 + 3, none⟩ = some (.string x2A) ∧ W'.cell? ⟨gLA, i * 5 + 4, none⟩ = some (.slice a2A kl2A c2A)) ∧ W'.cell? ⟨Z.heap.size, 0, none⟩ = some (.string k1A) ∧ W'.cell? ⟨Z.heap.size, 1, none⟩ = some (.int .i64 n1A) ∧ W'.cell? ⟨Z.heap.size, 2, none⟩ = some (.string x1A) ∧ W'.cell? ⟨Z.heap.size, 3, none⟩ = some (.slice a1A kl1A c1A) from fun W' Y => ⟨⟨(Y.kp (fun _ => True)).cell c0 trivial, (Y.kp (fun _ => True)).cell l0 trivial, (Y.kp (fun _ => True)).cell r0 trivial, (Y.kp (fun _ => True)).cell r1 trivial, (Y.kp (fun _ => True)).cell r2' trivial, (Y.kp (fun _ => True)).cell r3' trivial, (Y.kp (fun _ => True)).cell r4 trivial⟩, four_of (Y.block hbxA)⟩)
    have C3A := hid (fun W' (Y : Ext W₂ W') => eqPath_any pa1A pa2A pc1A pc2A pA pA W' (by omega) (by omega) (HI2A.out.later Y) (HI3A.out.later Y))
    have C4A := hid (fun W' (Y : Ext W₂ W') => eq_any dA _ _ uA uA (· ∈ bsA) _ W' d2A (HRDA.out.later Y) (HR3sA.out.later Y))
    rw [T.beq_refl] at C4A
    simp only [decide_true] at C3A
    have wf : ∀ f, Fence.wide.fn f := fun _ => trivial
    have wd : Fence.wide.depth = none := rfl
    have hmx : Try.prog.follows Departure.mixedOrders = true := by kernel_rfl
    clear hI3 hR3 g0 g1 g2 g3 g4 hrow hbxA hkzA hLA hys hyi K1A
    gi_wp2_with fail
    refine region_in (S := fun W' => (W'.cell? ⟨w3.heap.size + 1, 0, none⟩ = some (.int .i64 i) ∧ W'.cell? ⟨w1.heap.size, 0, none⟩ = some (.slice (some ⟨gLA, 0, none⟩) ys.length lc) ∧ W'.cell? ⟨gLA, i * 5, none⟩ = some (.slice pa2A pA.length pc2A) ∧ W'.cell? ⟨gLA, i * 5 + 1, none⟩ = some (.string k2A) ∧ W'.cell? ⟨gLA, i * 5 + 2, none⟩ = some (.int .i64 n2A) ∧ W'.cell? ⟨gLA, i * 5 + 3, none⟩ = some (.string x2A) ∧ W'.cell? ⟨gLA, i * 5 + 4, none⟩ = some (.slice a2A kl2A c2A)) ∧ W'.cell? ⟨Z.heap.size, 0, none⟩ = some (.string k1A) ∧ W'.cell? ⟨Z.heap.size, 1, none⟩ = some (.int .i64 n1A) ∧ W'.cell? ⟨Z.heap.size, 2, none⟩ = some (.string x1A) ∧ W'.cell? ⟨Z.heap.size, 3, none⟩ = some (.slice a1A kl1A c1A)) l2 hmx (by kernel_rfl) (by rintro ⟨_, _, h⟩; exact h.2) (HSKA.out _ (Ext.refl W₂).drew) (fun hHeld => ?_)
    refine wpAnyH_take (i := 0) (v := ?vAx0) rfl (by kernel_rfl) (by kernel_rfl) (by kernel_rfl) (fun _ _ _ h => h) (Or.inl ⟨by kernel_rfl, ?hAx0⟩) (by assumption) ?rAx0
    case hAx0 => (intro w hSw; (try dsimp only at hSw); go_simp; try with_reducible rfl)
    try simp only [Act.put, List.getElem_toArray, List.getElem_cons_zero, List.setIfInBounds_toArray, List.set_cons_zero, List.set_cons_succ]
    refine wpAnyH_take (i := 1) (v := ?vAx1) rfl (by kernel_rfl) (by kernel_rfl) (by kernel_rfl) (fun _ _ _ h => h) (Or.inl ⟨by kernel_rfl, ?hAx1⟩) (by assumption) ?rAx1
    case hAx1 => (intro w hSw; (try dsimp only at hSw); go_simp; try with_reducible rfl)
    try simp only [Act.put, List.getElem_toArray, List.getElem_cons_zero, List.getElem_cons_succ, List.setIfInBounds_toArray, List.set_cons_zero, List.set_cons_succ]
    refine wpAnyH_take (i := 2) (v := ?vAx2) rfl (by kernel_rfl) (by kernel_rfl) (by kernel_rfl) (fun _ _ _ h => h) (Or.inl ⟨by kernel_rfl, ?hAx2⟩) (by assumption) ?rAx2
    case hAx2 => (intro w hSw; (try dsimp only at hSw); go_simp; try with_reducible rfl)
    try simp only [Act.put, List.getElem_toArray, List.getElem_cons_zero, List.getElem_cons_succ, List.setIfInBounds_toArray, List.set_cons_zero, List.set_cons_succ]
    refine wpAnyH_take (i := 3) (v := .bool false) rfl (by kernel_rfl) (by kernel_rfl) (by kernel_rfl) (fun _ _ _ h => h) (Or.inl ⟨by kernel_rfl, ?hAx3⟩) (by assumption) ?rAx3
    case hAx3 => (intro w hSw; (try dsimp only at hSw); go_simp; try with_reducible rfl)
    try simp only [Act.put, List.getElem_toArray, List.getElem_cons_zero, List.getElem_cons_succ, List.setIfInBounds_toArray, List.set_cons_zero, List.set_cons_succ]
    refine wpAnyH_take (i := 4) (v := .bool false) rfl (by kernel_rfl) (by kernel_rfl) (by kernel_rfl) (fun _ _ _ h => h) (Or.inl ⟨by kernel_rfl, ?hAx4⟩) (by assumption) ?rAx4
    case hAx4 => (intro w hSw; (try dsimp only at hSw); go_simp; try with_reducible rfl)
    try simp only [Act.put, List.getElem_toArray, List.getElem_cons_zero, List.getElem_cons_succ, List.setIfInBounds_toArray, List.set_cons_zero, List.set_cons_succ]
    refine wpAnyH_take (i := 5) (v := ?vAx5) rfl (by kernel_rfl) (by kernel_rfl) (by kernel_rfl) (fun _ _ _ h => h) (Or.inl ⟨by kernel_rfl, ?hAx5⟩) (by assumption) ?rAx5
    case hAx5 => (intro w hSw; (try dsimp only at hSw); go_simp; try with_reducible rfl)
    try simp only [Act.put, List.getElem_toArray, List.getElem_cons_zero, List.getElem_cons_succ, List.setIfInBounds_toArray, List.set_cons_zero, List.set_cons_succ]
    refine wpAnyH_take (i := 6) (v := ?vAx6) rfl (by kernel_rfl) (by kernel_rfl) (by kernel_rfl) (fun _ _ _ h => h) (Or.inl ⟨by kernel_rfl, ?hAx6⟩) (by assumption) ?rAx6
    case hAx6 => (intro w hSw; (try dsimp only at hSw); go_simp; try with_reducible rfl)
    try simp only [Act.put, List.getElem_toArray, List.getElem_cons_zero, List.getElem_cons_succ, List.setIfInBounds_toArray, List.set_cons_zero, List.set_cons_succ]
    refine wpAnyH_take (i := 7) (v := ?vAx7) rfl (by kernel_rfl) (by kernel_rfl) (by kernel_rfl) (fun _ _ _ h => h) (Or.inl ⟨by kernel_rfl, ?hAx7⟩) (by assumption) ?rAx7
    case hAx7 => (intro w hSw; (try dsimp only at hSw); go_simp; try with_reducible rfl)
    try simp only [Act.put, List.getElem_toArray, List.getElem_cons_zero, List.getElem_cons_succ, List.setIfInBounds_toArray, List.set_cons_zero, List.set_cons_succ]
    refine wpAnyH_take (i := 8) (v := ?vAx8) rfl (by kernel_rfl) (by kernel_rfl) (by kernel_rfl) (fun _ _ _ h => h) (Or.inl ⟨by kernel_rfl, ?hAx8⟩) (by assumption) ?rAx8
    case hAx8 => (intro w hSw; (try dsimp only at hSw); go_simp; try with_reducible rfl)
    try simp only [Act.put, List.getElem_toArray, List.getElem_cons_zero, List.getElem_cons_succ, List.setIfInBounds_toArray, List.set_cons_zero, List.set_cons_succ]
    refine wpAnyH_take (i := 9) (v := ?vAx9) rfl (by kernel_rfl) (by kernel_rfl) (by kernel_rfl) (fun _ _ _ h => h) (Or.inl ⟨by kernel_rfl, ?hAx9⟩) (by assumption) ?rAx9
    case hAx9 => (intro w hSw; (try dsimp only at hSw); go_simp; try with_reducible rfl)
    try simp only [Act.put, List.getElem_toArray, List.getElem_cons_zero, List.getElem_cons_succ, List.setIfInBounds_toArray, List.set_cons_zero, List.set_cons_succ]
    refine wpAnyH_take (i := 10) (v := ?vAx10) rfl (by kernel_rfl) (by kernel_rfl) (by kernel_rfl) (fun _ _ _ h => h) (Or.inl ⟨by kernel_rfl, ?hAx10⟩) (by assumption) ?rAx10
    case hAx10 => (intro w hSw; (try dsimp only at hSw); go_simp; try with_reducible rfl)
    try simp only [Act.put, List.getElem_toArray, List.getElem_cons_zero, List.getElem_cons_succ, List.setIfInBounds_toArray, List.set_cons_zero, List.set_cons_succ]
    refine wpAnyH_ready (rs := [11]) (by kernel_rfl) (by simp) ?_
    refine AllReadyH.cons rfl (fun K hK => ?_) AllReadyH.nil
    go_simp
    refine (C3A.out _ (Ext.refl W₂).drew).mono ?_
    rintro e W₃ ⟨rfl, hx3⟩
    have Z3 : Ext W₂ W₃ := Ext.trans (Ext.refl W₂).drew hx3
    show K _ _
    refine hK.out _ _ (HSKA.out _ Z3) (fun hHeld3 => ?_)
    clear hK K hHeld
    try simp only [Act.put, List.getElem_toArray, List.getElem_cons_zero, List.getElem_cons_succ, List.setIfInBounds_toArray, List.set_cons_zero, List.set_cons_succ]
    refine wpAnyH_take (i := 12) (v := .bool false) rfl (by kernel_rfl) (by kernel_rfl) (by kernel_rfl) (fun _ _ _ h => h) (Or.inl ⟨by kernel_rfl, ?hAx12⟩) (by assumption) ?rAx12
    case hAx12 => (intro w hSw; (try dsimp only at hSw); go_simp; try with_reducible rfl)
    try simp only [Act.put, List.getElem_toArray, List.getElem_cons_zero, List.getElem_cons_succ, List.setIfInBounds_toArray, List.set_cons_zero, List.set_cons_succ]
    refine wpAnyH_take (i := 13) (v := .bool false) rfl (by kernel_rfl) (by kernel_rfl) (by kernel_rfl) (fun _ _ _ h => h) (Or.inl ⟨by kernel_rfl, ?hAx13⟩) (by assumption) ?rAx13
    case hAx13 => (intro w hSw; (try dsimp only at hSw); go_simp; try with_reducible rfl)
    try simp only [Act.put, List.getElem_toArray, List.getElem_cons_zero, List.getElem_cons_succ, List.setIfInBounds_toArray, List.set_cons_zero, List.set_cons_succ]
    refine wpAnyH_take (i := 14) (v := .bool false) rfl (by kernel_rfl) (by kernel_rfl) (by kernel_rfl) (fun _ _ _ h => h) (Or.inl ⟨by kernel_rfl, ?hAx14⟩) (by assumption) ?rAx14
    case hAx14 => (intro w hSw; (try dsimp only at hSw); go_simp; try with_reducible rfl)
    try simp only [Act.put, List.getElem_toArray, List.getElem_cons_zero, List.getElem_cons_succ, List.setIfInBounds_toArray, List.set_cons_zero, List.set_cons_succ]
    refine wpAnyH_take (i := 15) (v := ?vAx15) rfl (by kernel_rfl) (by kernel_rfl) (by kernel_rfl) (fun _ _ _ h => h) (Or.inl ⟨by kernel_rfl, ?hAx15⟩) (by assumption) ?rAx15
    case hAx15 => (intro w hSw; (try dsimp only at hSw); go_simp; try with_reducible rfl)
    try simp only [Act.put, List.getElem_toArray, List.getElem_cons_zero, List.getElem_cons_succ, List.setIfInBounds_toArray, List.set_cons_zero, List.set_cons_succ]
    refine wpAnyH_take (i := 16) (v := ?vAx16) rfl (by kernel_rfl) (by kernel_rfl) (by kernel_rfl) (fun _ _ _ h => h) (Or.inl ⟨by kernel_rfl, ?hAx16⟩) (by assumption) ?rAx16
    case hAx16 => (intro w hSw; (try dsimp only at hSw); go_simp; try with_reducible rfl)
    try simp only [Act.put, List.getElem_toArray, List.getElem_cons_zero, List.getElem_cons_succ, List.setIfInBounds_toArray, List.set_cons_zero, List.set_cons_succ]
    refine wpAnyH_take (i := 17) (v := ?vAx17) rfl (by kernel_rfl) (by kernel_rfl) (by kernel_rfl) (fun _ _ _ h => h) (Or.inl ⟨by kernel_rfl, ?hAx17⟩) (by assumption) ?rAx17
    case hAx17 => (intro w hSw; (try dsimp only at hSw); go_simp; try with_reducible rfl)
    try simp only [Act.put, List.getElem_toArray, List.getElem_cons_zero, List.getElem_cons_succ, List.setIfInBounds_toArray, List.set_cons_zero, List.set_cons_succ]
    refine wpAnyH_take (i := 18) (v := ?vAx18) rfl (by kernel_rfl) (by kernel_rfl) (by kernel_rfl) (fun _ _ _ h => h) (Or.inl ⟨by kernel_rfl, ?hAx18⟩) (by assumption) ?rAx18
    case hAx18 => (intro w hSw; (try dsimp only at hSw); go_simp; try with_reducible rfl)
    try simp only [Act.put, List.getElem_toArray, List.getElem_cons_zero, List.getElem_cons_succ, List.setIfInBounds_toArray, List.set_cons_zero, List.set_cons_succ]
    refine wpAnyH_take (i := 19) (v := ?vAx19) rfl (by kernel_rfl) (by kernel_rfl) (by kernel_rfl) (fun _ _ _ h => h) (Or.inl ⟨by kernel_rfl, ?hAx19⟩) (by assumption) ?rAx19
    case hAx19 => (intro w hSw; (try dsimp only at hSw); go_simp; try with_reducible rfl)
    try simp only [Act.put, List.getElem_toArray, List.getElem_cons_zero, List.getElem_cons_succ, List.setIfInBounds_toArray, List.set_cons_zero, List.set_cons_succ]
    refine wpAnyH_take (i := 20) (v := ?vAx20) rfl (by kernel_rfl) (by kernel_rfl) (by kernel_rfl) (fun _ _ _ h => h) (Or.inl ⟨by kernel_rfl, ?hAx20⟩) (by assumption) ?rAx20
    case hAx20 => (intro w hSw; (try dsimp only at hSw); go_simp; try with_reducible rfl)
    try simp only [Act.put, List.getElem_toArray, List.getElem_cons_zero, List.getElem_cons_succ, List.setIfInBounds_toArray, List.set_cons_zero, List.set_cons_succ]
    refine wpAnyH_ready (rs := [21]) (by kernel_rfl) (by simp) ?_
    refine AllReadyH.cons rfl (fun K hK => ?_) AllReadyH.nil
    go_simp
    refine (C4A.out _ Z3).mono ?_
    rintro e W₄ ⟨rfl, hx4⟩
    have Z4 : Ext W₂ W₄ := Ext.trans Z3 hx4
    show K _ _
    refine hK.out _ _ (HSKA.out _ Z4) (fun hHeld4 => ?_)
    clear hK K hHeld3
    try simp only [Act.put, List.getElem_toArray, List.getElem_cons_zero, List.getElem_cons_succ, List.setIfInBounds_toArray, List.set_cons_zero, List.set_cons_succ]
    refine wpAnyH_take (i := 22) (v := .bool false) rfl (by kernel_rfl) (by kernel_rfl) (by kernel_rfl) (fun _ _ _ h => h) (Or.inl ⟨by kernel_rfl, ?hAx22⟩) (by assumption) ?rAx22
    case hAx22 => (intro w hSw; (try dsimp only at hSw); go_simp; try with_reducible rfl)
    try simp only [Act.put, List.getElem_toArray, List.getElem_cons_zero, List.getElem_cons_succ, List.setIfInBounds_toArray, List.set_cons_zero, List.set_cons_succ]
    refine wpAnyH_take (i := 23) (v := .bool false) rfl (by kernel_rfl) (by kernel_rfl) (by kernel_rfl) (fun _ _ _ h => h) (Or.inl ⟨by kernel_rfl, ?hAx23⟩) (by assumption) ?rAx23
    case hAx23 => (intro w hSw; (try dsimp only at hSw); go_simp; try with_reducible rfl)
    try simp only [Act.put, List.getElem_toArray, List.getElem_cons_zero, List.getElem_cons_succ, List.setIfInBounds_toArray, List.set_cons_zero, List.set_cons_succ]
    refine wpAnyH_done (by kernel_rfl) ?_ _
    have ZXA := hid Z4
    clear c0 l0 r0 r1 r2' r3' r4 q0 q1 q2 q3 hHeld4 hx3 hx4 Z3 Z4 hbl1 hbl2 hbl3 hbl4 hrl
    have HSW := hid (HKZA.out.block' (HK5A.out.block' HSY.out (fun h => by rcases hM0s _ h with e | e <;> omega)) (show w3.heap.size ≠ l2 by omega))
    have z0 := cell_of (i := 0) (blkOld (.cells #[.int .i64 0] 3) (ZXA.out.block HSW.out)) rfl
    simp only [List.getElem_toArray, List.getElem_cons_zero] at z0
    gi_wp2_with fail
    obtain ⟨Y2, hY2⟩ : ∃ Y2, W₄.alloc (.cells #[.int .i64 0] 3) = Y2 := ⟨_, rfl⟩
    have X24 := hid (show Ext W₂ Y2 from ZXA.out.trans (hY2 ▸ Ext.alloc _ _))
    have HKB := hid (show Y2.heap[W₄.heap.size]? = some (.cells #[.int .i64 0] 3) from hY2 ▸ blk0 _ _)
    rw [hY2]
    clear hY2 z0
    have hsW4 := ZXA.out.size
    have hsY2 := lt_of_block HKB.out
    have hsZ2 := HKZA.out.size
    have hsYZ := HK5A.out.size
    have hsY22 := X24.out.size
    have hM4 := nsB_keep HIWA.out (X24.out.kp (fun _ => True)) (fun _ _ => trivial)
    obtain ⟨M1, hM1, hM1s, hM1n⟩ := nsB_swap hM4 HKB.out (fun h => by have := nsB_lt HIA.out _ h; omega)
    have HM1 := hid hM1
    have KY2 := hid (KZA.out.trans (X24.out.kp _))
    refine rangeN (X24.out.block HR3A.out) rfl (enters_of Try.func45 (by kernel_rfl) rfl) ys.length M1 (eachX t Y2.heap.size)
      (HIT.out Y2 M1 (KY2.out.mono (fun q _ hq => by rcases hq with rfl | rfl | hq; exact ⟨by omega, by omega⟩; exact ⟨by omega, by omega⟩; have := hbs q hq; exact ⟨by omega, by omega⟩)) (fun q hq hb => by
        have := hbs q hb
        rcases hM1s q hq with rfl | h
        · omega
        · rcases nsB_from HIA.out q h with e | e | e <;> omega)) eachX_size eachX_mono eachX_new
      (fun M' j Z' => nsB W₄.heap.size (w1.heap.size + 1) Y.heap.size (i * 61 + j) (j : Int) M' Z') (fun c M' Z' => c = .exit 2 ∧ ∃ j : Nat, j ≤ ys.length ∧ (j : Int) = stop ∧ nsB W₄.heap.size (w1.heap.size + 1) Y.heap.size (i * 61 + j) stop M' Z')
      (fun M' j Z' h q hq => nsB_lt h q hq) (fun M' j Z' Z'' h hk => nsB_keep h hk (fun q hq => .inr hq))
      (fun c M' Z' h q hq => by obtain ⟨_, j, _, _, h⟩ := h; exact nsB_lt h q hq) (fun c M' Z' Z'' h hk => by obtain ⟨h0, j, h1, h2, h⟩ := h; exact ⟨h0, j, h1, h2, nsB_keep h hk (fun q hq => .inr hq)⟩) (by simpa using hM1) ?rnd2 ?done2 ?stop2
    case done2 =>
      rintro Z5 M' hJ hsub hk6
      have HJ := hid hJ
      have HSUB := hid hsub
      have HK6 := hid hk6
      clear hJ hsub hk6
      have hib5 := HK6.out.block' (X24.out.block (nsB_box HIWA.out).1) hM1n
      obtain ⟨M5, hM5, hM5s, _⟩ := nsB_swap HJ.out hib5 (fun h => by rcases HSUB.out _ h with h | h; exact hM1n h; omega)
      have HM5 := hid hM5
      have KZ5 := hid (show Kp (fun q => q < w3.heap.size ∧ q ≠ w1.heap.size + 1) w3 Z5 from KY2.out.trans (HK6.out.mono (fun q _ hq e => by
        have h := hq
        rcases hM1s q e with rfl | e
        · omega
        · rcases nsB_from HIA.out q e with e | e | e <;> omega)))
      have hpn : ∀ q, (Value.slice pa1A pA.length pc1A).ownBlock = some q → ¬ M1 q := fun q hq h => by
        have h3 := HEA.out q (.inl hq)
        rcases hM1s q h with rfl | h
        · omega
        · exact h3.1 h
      have HP5 := hid (show PathW Z5 Y.heap.size (.slice pa1A pA.length pc1A) pA from ((HPWA.out.keep HKZA.out (fun q hq (e : q = l2) => helA (.inl (by rw [← e]; exact hq)))).keep (X24.out.kp (fun _ => True)) (fun _ _ => trivial)).keep HK6.out hpn)
      have HPN := hid hpn
      have c0 := cell_of (i := 0) (nsB_box HJ.out).1 rfl
      have l0 := cell_of (i := 0) (KZ5.out.block' HL3.out ⟨by omega, by omega⟩) rfl
      have s0 := cell_of (i := 0) (KZ5.out.block' HS3.out ⟨by omega, by omega⟩) rfl
      have b0 := cell_of (i := 0) (KZ5.out.block' HP3.out ⟨by omega, by omega⟩) rfl
      have i0 := cell_of (i := 0) (nsB_box HM5.out).1 rfl
      simp only [List.getElem_toArray, List.getElem_cons_zero] at c0 l0 s0 b0 i0
      clear hpn hib5 hM5
      gi_wp2_with fail
      have hsZ5 := HK6.out.size
      have hal5 := (Ext.alloc Z5 (.cells #[.slice pa1A pA.length pc1A] 27)).size
      refine (CallsIn.inRound l2 (callsIn_wide.2 (nsB_take (nsB_keep HM5.out ((Ext.alloc Z5 (.cells #[.slice pa1A pA.length pc1A] 27)).kp (fun _ => True)) (fun _ _ => trivial)) (by omega) (blk0 Z5 _) (HP5.out.keep ((Ext.alloc Z5 (.cells #[.slice pa1A pA.length pc1A] 27)).kp (fun _ => True)) (fun _ _ => trivial)) (Nat.le_refl _) (by omega) (fun q hq h => by
        have h3 := HEA.out q (.inl hq)
        rcases hM5s q h with rfl | h
        · exact h3.1 (nsB_box HIA.out).2.1
        · rcases HSUB.out q h with h | h
          · exact HPN.out q hq h
          · omega) (fun h => by have := nsB_lt HM5.out _ h; omega) (by omega)))).mono ?_
      rintro e Z6 ⟨⟨v6, rfl⟩, M6, hM6, hk7, hM6s⟩
      have KF := hid (show Kp (fun q => ¬ (M q ∨ ((Value.slice pa1A pA.length pc1A).ownBlock = some q ∨ q ∈ bsA))) W₂ Z6 from Kp.mono (K := fun q => q < W₂.heap.size ∧ ¬ (M q ∨ ((Value.slice pa1A pA.length pc1A).ownBlock = some q ∨ q ∈ bsA))) ((((X24.out.kp _).trans (HK6.out.mono (fun q _ hq e => by
        rcases hM1s q e with rfl | e
        · have := hq.1; omega
        · exact hq.2 (.inl e)))).trans ((Ext.alloc Z5 (.cells #[.slice pa1A pA.length pc1A] 27)).kp _)).trans (hk7.mono (fun q _ hq e => by
        have h3 := hq.1
        rcases e with e | e
        · rcases hM5s q e with rfl | e
          · exact hq.2 (.inl (nsB_box HIA.out).2.1)
          · rcases HSUB.out q e with e | e
            · rcases hM1s q e with rfl | e
              · omega
              · exact hq.2 (.inl e)
            · omega
        · exact hq.2 (.inr (.inl e))))) (fun q hq h => ⟨hq, h⟩))
      have HM6S := hid (show ∀ q, M6 q → M q ∨ ((Value.slice pa1A pA.length pc1A).ownBlock = some q ∨ q ∈ bsA) ∨ Z.heap.size ≤ q from fun q hq => by
        rcases hM6s q hq with e | e | e
        · rcases hM5s q e with rfl | e
          · exact .inl (nsB_box HIA.out).2.1
          · rcases HSUB.out q e with e | e
            · rcases hM1s q e with rfl | e
              · exact .inr (.inr (by omega))
              · exact .inl e
            · exact .inr (.inr (by omega))
        · exact .inr (.inl (.inl e))
        · exact .inr (.inr (by omega)))
      have HF := hid (fun (m : Int) (e : m = ((i + 1 : Nat) : Int)) => (show bodyR (fun M' i Z => nsB (w3.heap.size + 1) (w1.heap.size + 1) Y.heap.size (i * 61) (i : Int) M' Z) (fun _ _ _ => False) M (fun k => (Value.slice pa1A pA.length pc1A).ownBlock = some k ∨ k ∈ bsA) i Z W₂ .normal { tmps := #[], defers := [] } (Z6.setCell ⟨w3.heap.size + 1, 0, none⟩ (.int .i64 m)) from
        ⟨KF.out.trans (Kp.set _ _ _ _ (fun h => h (.inl (nsB_box HIA.out).2.1))), M6, by rw [e]; exact nsB_le (nsB_set hM6) (by omega), HM6S.out⟩))
      clear c0 l0 s0 b0 i0
      have c0 := cell_of (i := 0) (nsB_box hM6).1 rfl
      have fz := frozen_of (i := 0) (nsB_box hM6).1
      simp only [List.getElem_toArray, List.getElem_cons_zero] at c0
      clear hM6 hk7 hM6s
      gi_wp2_with fail
      exact HF.out _ (by push_cast; rfl)
    case stop2 =>
      rintro Z5 c M' ⟨rfl, jn, hjn, hjs, hJ⟩ hsub hk6
      have HJ := hid hJ
      have HSUB := hid hsub
      have HK6 := hid hk6
      clear hJ hsub hk6
      have hib5 := HK6.out.block' (X24.out.block (nsB_box HIWA.out).1) hM1n
      obtain ⟨M5, hM5, hM5s, _⟩ := nsB_swap HJ.out hib5 (fun h => by rcases HSUB.out _ h with h | h; exact hM1n h; omega)
      have HM5 := hid hM5
      have KZ5 := hid (show Kp (fun q => q < w3.heap.size ∧ q ≠ w1.heap.size + 1) w3 Z5 from KY2.out.trans (HK6.out.mono (fun q _ hq e => by
        have h := hq
        rcases hM1s q e with rfl | e
        · omega
        · rcases nsB_from HIA.out q e with e | e | e <;> omega)))
      have hpn : ∀ q, (Value.slice pa1A pA.length pc1A).ownBlock = some q → ¬ M1 q := fun q hq h => by
        have h3 := HEA.out q (.inl hq)
        rcases hM1s q h with rfl | h
        · omega
        · exact h3.1 h
      have HP5 := hid (show PathW Z5 Y.heap.size (.slice pa1A pA.length pc1A) pA from ((HPWA.out.keep HKZA.out (fun q hq (e : q = l2) => helA (.inl (by rw [← e]; exact hq)))).keep (X24.out.kp (fun _ => True)) (fun _ _ => trivial)).keep HK6.out hpn)
      have HPN := hid hpn
      have c0 := cell_of (i := 0) (nsB_box HJ.out).1 rfl
      have l0 := cell_of (i := 0) (KZ5.out.block' HL3.out ⟨by omega, by omega⟩) rfl
      have s0 := cell_of (i := 0) (KZ5.out.block' HS3.out ⟨by omega, by omega⟩) rfl
      have b0 := cell_of (i := 0) (KZ5.out.block' HP3.out ⟨by omega, by omega⟩) rfl
      have i0 := cell_of (i := 0) (nsB_box HM5.out).1 rfl
      simp only [List.getElem_toArray, List.getElem_cons_zero] at c0 l0 s0 b0 i0
      clear hpn hib5 hM5
      gi_wp2_with fail
      · have hsZ5 := HK6.out.size
        have hal5 := (Ext.alloc Z5 (.cells #[.slice pa1A pA.length pc1A] 27)).size
        refine (CallsIn.inRound l2 (callsIn_wide.2 (nsB_take (nsB_keep HM5.out ((Ext.alloc Z5 (.cells #[.slice pa1A pA.length pc1A] 27)).kp (fun _ => True)) (fun _ _ => trivial)) (by omega) (blk0 Z5 _) (HP5.out.keep ((Ext.alloc Z5 (.cells #[.slice pa1A pA.length pc1A] 27)).kp (fun _ => True)) (fun _ _ => trivial)) (Nat.le_refl _) (by omega) (fun q hq h => by
          have h3 := HEA.out q (.inl hq)
          rcases hM5s q h with rfl | h
          · exact h3.1 (nsB_box HIA.out).2.1
          · rcases HSUB.out q h with h | h
            · exact HPN.out q hq h
            · omega) (fun h => by have := nsB_lt HM5.out _ h; omega) (by omega)))).mono ?_
        rintro e Z6 ⟨⟨v6, rfl⟩, M6, hM6, hk7, hM6s⟩
        have KF := hid (show Kp (fun q => ¬ (M q ∨ ((Value.slice pa1A pA.length pc1A).ownBlock = some q ∨ q ∈ bsA))) W₂ Z6 from Kp.mono (K := fun q => q < W₂.heap.size ∧ ¬ (M q ∨ ((Value.slice pa1A pA.length pc1A).ownBlock = some q ∨ q ∈ bsA))) ((((X24.out.kp _).trans (HK6.out.mono (fun q _ hq e => by
          rcases hM1s q e with rfl | e
          · have := hq.1; omega
          · exact hq.2 (.inl e)))).trans ((Ext.alloc Z5 (.cells #[.slice pa1A pA.length pc1A] 27)).kp _)).trans (hk7.mono (fun q _ hq e => by
          have h3 := hq.1
          rcases e with e | e
          · rcases hM5s q e with rfl | e
            · exact hq.2 (.inl (nsB_box HIA.out).2.1)
            · rcases HSUB.out q e with e | e
              · rcases hM1s q e with rfl | e
                · omega
                · exact hq.2 (.inl e)
              · omega
          · exact hq.2 (.inr (.inl e))))) (fun q hq h => ⟨hq, h⟩))
        have HM6S := hid (show ∀ q, M6 q → M q ∨ ((Value.slice pa1A pA.length pc1A).ownBlock = some q ∨ q ∈ bsA) ∨ Z.heap.size ≤ q from fun q hq => by
          rcases hM6s q hq with e | e | e
          · rcases hM5s q e with rfl | e
            · exact .inl (nsB_box HIA.out).2.1
            · rcases HSUB.out q e with e | e
              · rcases hM1s q e with rfl | e
                · exact .inr (.inr (by omega))
                · exact .inl e
              · exact .inr (.inr (by omega))
          · exact .inr (.inl (.inl e))
          · exact .inr (.inr (by omega)))
        have HF := hid (fun (m : Int) (e : m = ((i + 1 : Nat) : Int)) => (show bodyR (fun M' i Z => nsB (w3.heap.size + 1) (w1.heap.size + 1) Y.heap.size (i * 61) (i : Int) M' Z) (fun _ _ _ => False) M (fun k => (Value.slice pa1A pA.length pc1A).ownBlock = some k ∨ k ∈ bsA) i Z W₂ .normal { tmps := #[], defers := [] } (Z6.setCell ⟨w3.heap.size + 1, 0, none⟩ (.int .i64 m)) from
          ⟨KF.out.trans (Kp.set _ _ _ _ (fun h => h (.inl (nsB_box HIA.out).2.1))), M6, by rw [e]; exact nsB_le (nsB_set hM6) (by omega), HM6S.out⟩))
        clear c0 l0 s0 b0 i0
        have c0 := cell_of (i := 0) (nsB_box hM6).1 rfl
        have fz := frozen_of (i := 0) (nsB_box hM6).1
        simp only [List.getElem_toArray, List.getElem_cons_zero] at c0
        clear hM6 hk7 hM6s
        gi_wp2_with fail
        exact HF.out _ (by push_cast; rfl)
      · have hsZ5 := HK6.out.size
        have hal5 := (Ext.alloc Z5 (.cells #[.slice pa1A pA.length pc1A] 27)).size
        refine (CallsIn.inRound l2 (callsIn_wide.2 (nsB_take (nsB_keep HM5.out ((Ext.alloc Z5 (.cells #[.slice pa1A pA.length pc1A] 27)).kp (fun _ => True)) (fun _ _ => trivial)) (by omega) (blk0 Z5 _) (HP5.out.keep ((Ext.alloc Z5 (.cells #[.slice pa1A pA.length pc1A] 27)).kp (fun _ => True)) (fun _ _ => trivial)) (Nat.le_refl _) (by omega) (fun q hq h => by
          have h3 := HEA.out q (.inl hq)
          rcases hM5s q h with rfl | h
          · exact h3.1 (nsB_box HIA.out).2.1
          · rcases HSUB.out q h with h | h
            · exact HPN.out q hq h
            · omega) (fun h => by have := nsB_lt HM5.out _ h; omega) (by omega)))).mono ?_
        rintro e Z6 ⟨⟨v6, rfl⟩, M6, hM6, hk7, hM6s⟩
        have KF := hid (show Kp (fun q => ¬ (M q ∨ ((Value.slice pa1A pA.length pc1A).ownBlock = some q ∨ q ∈ bsA))) W₂ Z6 from Kp.mono (K := fun q => q < W₂.heap.size ∧ ¬ (M q ∨ ((Value.slice pa1A pA.length pc1A).ownBlock = some q ∨ q ∈ bsA))) ((((X24.out.kp _).trans (HK6.out.mono (fun q _ hq e => by
          rcases hM1s q e with rfl | e
          · have := hq.1; omega
          · exact hq.2 (.inl e)))).trans ((Ext.alloc Z5 (.cells #[.slice pa1A pA.length pc1A] 27)).kp _)).trans (hk7.mono (fun q _ hq e => by
          have h3 := hq.1
          rcases e with e | e
          · rcases hM5s q e with rfl | e
            · exact hq.2 (.inl (nsB_box HIA.out).2.1)
            · rcases HSUB.out q e with e | e
              · rcases hM1s q e with rfl | e
                · omega
                · exact hq.2 (.inl e)
              · omega
          · exact hq.2 (.inr (.inl e))))) (fun q hq h => ⟨hq, h⟩))
        have HM6S := hid (show ∀ q, M6 q → M q ∨ ((Value.slice pa1A pA.length pc1A).ownBlock = some q ∨ q ∈ bsA) ∨ Z.heap.size ≤ q from fun q hq => by
          rcases hM6s q hq with e | e | e
          · rcases hM5s q e with rfl | e
            · exact .inl (nsB_box HIA.out).2.1
            · rcases HSUB.out q e with e | e
              · rcases hM1s q e with rfl | e
                · exact .inr (.inr (by omega))
                · exact .inl e
              · exact .inr (.inr (by omega))
          · exact .inr (.inl (.inl e))
          · exact .inr (.inr (by omega)))
        have HF := hid (fun (m : Int) (e : m = ((i + 1 : Nat) : Int)) => (show bodyR (fun M' i Z => nsB (w3.heap.size + 1) (w1.heap.size + 1) Y.heap.size (i * 61) (i : Int) M' Z) (fun _ _ _ => False) M (fun k => (Value.slice pa1A pA.length pc1A).ownBlock = some k ∨ k ∈ bsA) i Z W₂ .normal { tmps := #[], defers := [] } (Z6.setCell ⟨w3.heap.size + 1, 0, none⟩ (.int .i64 m)) from
          ⟨KF.out.trans (Kp.set _ _ _ _ (fun h => h (.inl (nsB_box HIA.out).2.1))), M6, by rw [e]; exact nsB_le (nsB_set hM6) (by omega), HM6S.out⟩))
        clear c0 l0 s0 b0 i0
        have c0 := cell_of (i := 0) (nsB_box hM6).1 rfl
        have fz := frozen_of (i := 0) (nsB_box hM6).1
        simp only [List.getElem_toArray, List.getElem_cons_zero] at c0
        clear hM6 hk7 hM6s
        gi_wp2_with fail
        exact HF.out _ (by push_cast; rfl)
    case rnd2 =>
      rintro l3 M2 j Z2 argsB EB hlB ⟨r2B, hr2B⟩ hmlB helB hiB hIB ⟨pvB, tvB, pB, uB, dB, bsB, rfl, hLB, hpwB, hownB, _, _, rfl, hEB⟩ hk5B h4B
      obtain ⟨u0, u1, u2, u3, rfl⟩ := hownB.rd.agg
      obtain ⟨k1B, n1B, x1B, a1B, c1B, rfl, rfl, rfl, rfl⟩ := hownB.rd.shape
      obtain ⟨pa1B, pc1B, rfl⟩ := hpwB.shape
      generalize (T.kids uB).length = kl1B at hownB
      have HOWNB := hid hownB
      have HPWB := hid hpwB
      have HEB := hid hEB
      have HIB := hid hIB
      have HK5B := hid hk5B
      have H4B := hid h4B
      have HR2B := hid hr2B
      clear hownB hpwB hEB hIB hk5B h4B hr2B
      gi_wp2_with fail
      refine ⟨Ext.alloc _ _, fun W₅ hk2B r3B hr3B => ?_⟩
      have hzlB : Z2.heap.size ≠ l3 := by have := lt_of_block HR2B.out; omega
      have hbxB := hk2B.block' (blk0 Z2 _) hzlB
      have hkzB : Kp (· ≠ l3) Z2 W₅ := ((Ext.alloc Z2 _).kp _).trans hk2B
      have HR3B := hid hr3B
      have HKZB := hid hkzB
      clear hr3B hk2B
      have KZB := hid (show Kp (fun q => q < w3.heap.size ∧ q ≠ w1.heap.size + 1) w3 W₅ from (KY2.out.trans (HK5B.out.mono (fun q _ hq e => by have h := hq; rcases hM1s q e with rfl | e; omega; rcases nsB_from HIA.out q e with e | e | e <;> omega))).trans (hkzB.mono (fun q _ hq e => by have e' : q = l3 := e; have := hq.1; omega)))
      have K1B : Kp (fun q => q < w1.heap.size) w1 W₅ := (X13.out.kp _).trans (KZB.out.mono (fun q _ hq => by have hq' : q < w1.heap.size := hq; exact ⟨by omega, by omega⟩))
      have HIWB := hid (nsB_keep HIB.out hkzB (fun q hq (e : q = l3) => hmlB (by rw [← e]; exact hq)))
      have HI2B := hid (show Ints W₅ (.slice pa1B pB.length pc1B) pB from HPWB.out.ints.keep hkzB (fun g hg => by obtain ⟨v, hv⟩ := hg; exact cell_loop HR2B.out hv))
      have HRDB := hid (show Rd (· ∈ bsB) W₅ dB (.agg #[.string k1B, .int .i64 n1B, .string x1B, .slice a1B kl1B c1B]) uB from HOWNB.out.rd.keep (hkzB.mono (fun q _ hq e => helB (.inr (by have e' : q = l3 := e; rw [← e']; exact hq)))))
      have hys : T.all [] t = ys := by
        have h := HYS.out
        by_cases hs : t.small
        · rw [if_pos hs] at h; exact h
        · rw [if_neg hs] at h; rw [← h] at hiB; exact absurd hiB (Nat.not_lt_zero _)
      have hyi : ys[j] = (pB, uB) := by rw [hys] at hLB; rw [List.getElem?_eq_getElem hiB] at hLB; exact Option.some.inj hLB
      have hplB : pB.length ≤ 64 := by
        have hs : t.small := by
          by_cases hs : t.small
          · exact hs
          · have h := HYS.out; rw [if_neg hs] at h; rw [← h] at hiB; exact absurd hiB (Nat.not_lt_zero _)
        exact path_len hs hLB
      have hrow := row5_keep HST.out.1 K1B (fun b hb => (HST.out.1.lt b hb).2)
      obtain ⟨pa2B, pc2B, b0, b1, b2, b3, d2B, g0, g1, g2, g3, g4, hI3, hR3⟩ := (HST.out.2 j hiB).keep (K1B.mono (fun q _ hq => hq.2.1))
      rw [hyi] at g0 hI3 hR3
      obtain ⟨k2B, n2B, x2B, a2B, c2B, rfl, rfl, rfl, rfl⟩ := hR3.shape
      generalize (T.kids uB).length = kl2B at hR3 g4
      rw [hglA] at hrow
      have HR3sB := hid hR3
      have HI3B := hid hI3.1
      have hrl := hrow.1
      have r0 := (hrow.cellAt (j * 5) (by omega)).trans g0
      have r1 := (hrow.cellAt (j * 5 + 1) (by omega)).trans g1
      have r2' := (hrow.cellAt (j * 5 + 2) (by omega)).trans g2
      have r3' := (hrow.cellAt (j * 5 + 3) (by omega)).trans g3
      have r4 := (hrow.cellAt (j * 5 + 4) (by omega)).trans g4
      obtain ⟨q0, q1, q2, q3⟩ := four_of hbxB
      have c0 := cell_of (i := 0) (nsB_box HIWB.out).1 rfl
      have l0 := cell_of (i := 0) (KZB.out.block' HL3.out ⟨by omega, by omega⟩) rfl
      rw [hglA] at l0
      simp only [List.getElem_toArray, List.getElem_cons_zero] at c0 l0
      have hiNB : (j : Int) < ys.length := by omega
      have higeB : decide ((ys.length : Int) ≤ j) = false := decide_eq_false (by omega)
      have hbl1 := lt_of_cell c0
      have hbl2 := lt_of_cell l0
      have hbl3 := lt_of_cell r0
      have hbl4 := lt_of_cell q0
      have HSKB := hid (show ∀ W', Ext W₅ W' → (W'.cell? ⟨W₄.heap.size, 0, none⟩ = some (.int .i64 j) ∧ W'.cell? ⟨w1.heap.size, 0, none⟩ = some (.slice (some ⟨gLA, 0, none⟩) ys.length lc) ∧ W'.cell? ⟨gLA, j * 5, none⟩ = some (.slice pa2B pB.length pc2B) ∧ W'.cell? ⟨gLA, j * 5 + 1, none⟩ = some (.string k2B) ∧ W'.cell? ⟨gLA, j * 5 + 2, none⟩ = some (.int .i64 n2B) ∧ W'.cell? ⟨gLA, j * 5 + 3, none⟩ = some (.string x2B) ∧ W'.cell? ⟨gLA, j * 5 + 4, none⟩ = some (.slice a2B kl2B c2B)) ∧ W'.cell? ⟨Z2.heap.size, 0, none⟩ = some (.string k1B) ∧ W'.cell? ⟨Z2.heap.size, 1, none⟩ = some (.int .i64 n1B) ∧ W'.cell? ⟨Z2.heap.size, 2, none⟩ = some (.string x1B) ∧ W'.cell? ⟨Z2.heap.size, 3, none⟩ = some (.slice a1B kl1B c1B) from fun W' Y => ⟨⟨(Y.kp (fun _ => True)).cell c0 trivial, (Y.kp (fun _ => True)).cell l0 trivial, (Y.kp (fun _ => True)).cell r0 trivial, (Y.kp (fun _ => True)).cell r1 trivial, (Y.kp (fun _ => True)).cell r2' trivial, (Y.kp (fun _ => True)).cell r3' trivial, (Y.kp (fun _ => True)).cell r4 trivial⟩, four_of (Y.block hbxB)⟩)
      have C3B := hid (fun W' (Y : Ext W₅ W') => eqPath_any pa1B pa2B pc1B pc2B pB pB W' (by omega) (by omega) (HI2B.out.later Y) (HI3B.out.later Y))
      have C4B := hid (fun W' (Y : Ext W₅ W') => eq_any dB _ _ uB uB (· ∈ bsB) _ W' d2B (HRDB.out.later Y) (HR3sB.out.later Y))
      rw [T.beq_refl] at C4B
      simp only [decide_true] at C3B
      have wf : ∀ f, Fence.wide.fn f := fun _ => trivial
      have wd : Fence.wide.depth = none := rfl
      have hmx : Try.prog.follows Departure.mixedOrders = true := by kernel_rfl
      clear hI3 hR3 g0 g1 g2 g3 g4 hrow hbxB hkzB hLB hys hyi K1B
      gi_wp2_with fail
      refine region_in (S := fun W' => (W'.cell? ⟨W₄.heap.size, 0, none⟩ = some (.int .i64 j) ∧ W'.cell? ⟨w1.heap.size, 0, none⟩ = some (.slice (some ⟨gLA, 0, none⟩) ys.length lc) ∧ W'.cell? ⟨gLA, j * 5, none⟩ = some (.slice pa2B pB.length pc2B) ∧ W'.cell? ⟨gLA, j * 5 + 1, none⟩ = some (.string k2B) ∧ W'.cell? ⟨gLA, j * 5 + 2, none⟩ = some (.int .i64 n2B) ∧ W'.cell? ⟨gLA, j * 5 + 3, none⟩ = some (.string x2B) ∧ W'.cell? ⟨gLA, j * 5 + 4, none⟩ = some (.slice a2B kl2B c2B)) ∧ W'.cell? ⟨Z2.heap.size, 0, none⟩ = some (.string k1B) ∧ W'.cell? ⟨Z2.heap.size, 1, none⟩ = some (.int .i64 n1B) ∧ W'.cell? ⟨Z2.heap.size, 2, none⟩ = some (.string x1B) ∧ W'.cell? ⟨Z2.heap.size, 3, none⟩ = some (.slice a1B kl1B c1B)) l3 hmx (by kernel_rfl) (by rintro ⟨_, _, h⟩; exact h.2) (HSKB.out _ (Ext.refl W₅).drew) (fun hHeld => ?_)
      refine wpAnyH_take (i := 0) (v := ?vBx0) rfl (by kernel_rfl) (by kernel_rfl) (by kernel_rfl) (fun _ _ _ h => h) (Or.inl ⟨by kernel_rfl, ?hBx0⟩) (by assumption) ?rBx0
      case hBx0 => (intro w hSw; (try dsimp only at hSw); go_simp; try with_reducible rfl)
      try simp only [Act.put, List.getElem_toArray, List.getElem_cons_zero, List.setIfInBounds_toArray, List.set_cons_zero, List.set_cons_succ]
      refine wpAnyH_take (i := 1) (v := ?vBx1) rfl (by kernel_rfl) (by kernel_rfl) (by kernel_rfl) (fun _ _ _ h => h) (Or.inl ⟨by kernel_rfl, ?hBx1⟩) (by assumption) ?rBx1
      case hBx1 => (intro w hSw; (try dsimp only at hSw); go_simp; try with_reducible rfl)
      try simp only [Act.put, List.getElem_toArray, List.getElem_cons_zero, List.getElem_cons_succ, List.setIfInBounds_toArray, List.set_cons_zero, List.set_cons_succ]
      refine wpAnyH_take (i := 2) (v := ?vBx2) rfl (by kernel_rfl) (by kernel_rfl) (by kernel_rfl) (fun _ _ _ h => h) (Or.inl ⟨by kernel_rfl, ?hBx2⟩) (by assumption) ?rBx2
      case hBx2 => (intro w hSw; (try dsimp only at hSw); go_simp; try with_reducible rfl)
      try simp only [Act.put, List.getElem_toArray, List.getElem_cons_zero, List.getElem_cons_succ, List.setIfInBounds_toArray, List.set_cons_zero, List.set_cons_succ]
      refine wpAnyH_take (i := 3) (v := .bool false) rfl (by kernel_rfl) (by kernel_rfl) (by kernel_rfl) (fun _ _ _ h => h) (Or.inl ⟨by kernel_rfl, ?hBx3⟩) (by assumption) ?rBx3
      case hBx3 => (intro w hSw; (try dsimp only at hSw); go_simp; try with_reducible rfl)
      try simp only [Act.put, List.getElem_toArray, List.getElem_cons_zero, List.getElem_cons_succ, List.setIfInBounds_toArray, List.set_cons_zero, List.set_cons_succ]
      refine wpAnyH_take (i := 4) (v := .bool false) rfl (by kernel_rfl) (by kernel_rfl) (by kernel_rfl) (fun _ _ _ h => h) (Or.inl ⟨by kernel_rfl, ?hBx4⟩) (by assumption) ?rBx4
      case hBx4 => (intro w hSw; (try dsimp only at hSw); go_simp; try with_reducible rfl)
      try simp only [Act.put, List.getElem_toArray, List.getElem_cons_zero, List.getElem_cons_succ, List.setIfInBounds_toArray, List.set_cons_zero, List.set_cons_succ]
      refine wpAnyH_take (i := 5) (v := ?vBx5) rfl (by kernel_rfl) (by kernel_rfl) (by kernel_rfl) (fun _ _ _ h => h) (Or.inl ⟨by kernel_rfl, ?hBx5⟩) (by assumption) ?rBx5
      case hBx5 => (intro w hSw; (try dsimp only at hSw); go_simp; try with_reducible rfl)
      try simp only [Act.put, List.getElem_toArray, List.getElem_cons_zero, List.getElem_cons_succ, List.setIfInBounds_toArray, List.set_cons_zero, List.set_cons_succ]
      refine wpAnyH_take (i := 6) (v := ?vBx6) rfl (by kernel_rfl) (by kernel_rfl) (by kernel_rfl) (fun _ _ _ h => h) (Or.inl ⟨by kernel_rfl, ?hBx6⟩) (by assumption) ?rBx6
      case hBx6 => (intro w hSw; (try dsimp only at hSw); go_simp; try with_reducible rfl)
      try simp only [Act.put, List.getElem_toArray, List.getElem_cons_zero, List.getElem_cons_succ, List.setIfInBounds_toArray, List.set_cons_zero, List.set_cons_succ]
      refine wpAnyH_take (i := 7) (v := ?vBx7) rfl (by kernel_rfl) (by kernel_rfl) (by kernel_rfl) (fun _ _ _ h => h) (Or.inl ⟨by kernel_rfl, ?hBx7⟩) (by assumption) ?rBx7
      case hBx7 => (intro w hSw; (try dsimp only at hSw); go_simp; try with_reducible rfl)
      try simp only [Act.put, List.getElem_toArray, List.getElem_cons_zero, List.getElem_cons_succ, List.setIfInBounds_toArray, List.set_cons_zero, List.set_cons_succ]
      refine wpAnyH_take (i := 8) (v := ?vBx8) rfl (by kernel_rfl) (by kernel_rfl) (by kernel_rfl) (fun _ _ _ h => h) (Or.inl ⟨by kernel_rfl, ?hBx8⟩) (by assumption) ?rBx8
      case hBx8 => (intro w hSw; (try dsimp only at hSw); go_simp; try with_reducible rfl)
      try simp only [Act.put, List.getElem_toArray, List.getElem_cons_zero, List.getElem_cons_succ, List.setIfInBounds_toArray, List.set_cons_zero, List.set_cons_succ]
      refine wpAnyH_take (i := 9) (v := ?vBx9) rfl (by kernel_rfl) (by kernel_rfl) (by kernel_rfl) (fun _ _ _ h => h) (Or.inl ⟨by kernel_rfl, ?hBx9⟩) (by assumption) ?rBx9
      case hBx9 => (intro w hSw; (try dsimp only at hSw); go_simp; try with_reducible rfl)
      try simp only [Act.put, List.getElem_toArray, List.getElem_cons_zero, List.getElem_cons_succ, List.setIfInBounds_toArray, List.set_cons_zero, List.set_cons_succ]
      refine wpAnyH_take (i := 10) (v := ?vBx10) rfl (by kernel_rfl) (by kernel_rfl) (by kernel_rfl) (fun _ _ _ h => h) (Or.inl ⟨by kernel_rfl, ?hBx10⟩) (by assumption) ?rBx10
      case hBx10 => (intro w hSw; (try dsimp only at hSw); go_simp; try with_reducible rfl)
      try simp only [Act.put, List.getElem_toArray, List.getElem_cons_zero, List.getElem_cons_succ, List.setIfInBounds_toArray, List.set_cons_zero, List.set_cons_succ]
      refine wpAnyH_ready (rs := [11]) (by kernel_rfl) (by simp) ?_
      refine AllReadyH.cons rfl (fun K hK => ?_) AllReadyH.nil
      go_simp
      refine (C3B.out _ (Ext.refl W₅).drew).mono ?_
      rintro e W₆ ⟨rfl, hx3⟩
      have Z3 : Ext W₅ W₆ := Ext.trans (Ext.refl W₅).drew hx3
      show K _ _
      refine hK.out _ _ (HSKB.out _ Z3) (fun hHeld3 => ?_)
      clear hK K hHeld
      try simp only [Act.put, List.getElem_toArray, List.getElem_cons_zero, List.getElem_cons_succ, List.setIfInBounds_toArray, List.set_cons_zero, List.set_cons_succ]
      refine wpAnyH_take (i := 12) (v := .bool false) rfl (by kernel_rfl) (by kernel_rfl) (by kernel_rfl) (fun _ _ _ h => h) (Or.inl ⟨by kernel_rfl, ?hBx12⟩) (by assumption) ?rBx12
      case hBx12 => (intro w hSw; (try dsimp only at hSw); go_simp; try with_reducible rfl)
      try simp only [Act.put, List.getElem_toArray, List.getElem_cons_zero, List.getElem_cons_succ, List.setIfInBounds_toArray, List.set_cons_zero, List.set_cons_succ]
      refine wpAnyH_take (i := 13) (v := .bool false) rfl (by kernel_rfl) (by kernel_rfl) (by kernel_rfl) (fun _ _ _ h => h) (Or.inl ⟨by kernel_rfl, ?hBx13⟩) (by assumption) ?rBx13
      case hBx13 => (intro w hSw; (try dsimp only at hSw); go_simp; try with_reducible rfl)
      try simp only [Act.put, List.getElem_toArray, List.getElem_cons_zero, List.getElem_cons_succ, List.setIfInBounds_toArray, List.set_cons_zero, List.set_cons_succ]
      refine wpAnyH_take (i := 14) (v := .bool false) rfl (by kernel_rfl) (by kernel_rfl) (by kernel_rfl) (fun _ _ _ h => h) (Or.inl ⟨by kernel_rfl, ?hBx14⟩) (by assumption) ?rBx14
      case hBx14 => (intro w hSw; (try dsimp only at hSw); go_simp; try with_reducible rfl)
      try simp only [Act.put, List.getElem_toArray, List.getElem_cons_zero, List.getElem_cons_succ, List.setIfInBounds_toArray, List.set_cons_zero, List.set_cons_succ]
      refine wpAnyH_take (i := 15) (v := ?vBx15) rfl (by kernel_rfl) (by kernel_rfl) (by kernel_rfl) (fun _ _ _ h => h) (Or.inl ⟨by kernel_rfl, ?hBx15⟩) (by assumption) ?rBx15
      case hBx15 => (intro w hSw; (try dsimp only at hSw); go_simp; try with_reducible rfl)
      try simp only [Act.put, List.getElem_toArray, List.getElem_cons_zero, List.getElem_cons_succ, List.setIfInBounds_toArray, List.set_cons_zero, List.set_cons_succ]
      refine wpAnyH_take (i := 16) (v := ?vBx16) rfl (by kernel_rfl) (by kernel_rfl) (by kernel_rfl) (fun _ _ _ h => h) (Or.inl ⟨by kernel_rfl, ?hBx16⟩) (by assumption) ?rBx16
      case hBx16 => (intro w hSw; (try dsimp only at hSw); go_simp; try with_reducible rfl)
      try simp only [Act.put, List.getElem_toArray, List.getElem_cons_zero, List.getElem_cons_succ, List.setIfInBounds_toArray, List.set_cons_zero, List.set_cons_succ]
      refine wpAnyH_take (i := 17) (v := ?vBx17) rfl (by kernel_rfl) (by kernel_rfl) (by kernel_rfl) (fun _ _ _ h => h) (Or.inl ⟨by kernel_rfl, ?hBx17⟩) (by assumption) ?rBx17
      case hBx17 => (intro w hSw; (try dsimp only at hSw); go_simp; try with_reducible rfl)
      try simp only [Act.put, List.getElem_toArray, List.getElem_cons_zero, List.getElem_cons_succ, List.setIfInBounds_toArray, List.set_cons_zero, List.set_cons_succ]
      refine wpAnyH_take (i := 18) (v := ?vBx18) rfl (by kernel_rfl) (by kernel_rfl) (by kernel_rfl) (fun _ _ _ h => h) (Or.inl ⟨by kernel_rfl, ?hBx18⟩) (by assumption) ?rBx18
      case hBx18 => (intro w hSw; (try dsimp only at hSw); go_simp; try with_reducible rfl)
      try simp only [Act.put, List.getElem_toArray, List.getElem_cons_zero, List.getElem_cons_succ, List.setIfInBounds_toArray, List.set_cons_zero, List.set_cons_succ]
      refine wpAnyH_take (i := 19) (v := ?vBx19) rfl (by kernel_rfl) (by kernel_rfl) (by kernel_rfl) (fun _ _ _ h => h) (Or.inl ⟨by kernel_rfl, ?hBx19⟩) (by assumption) ?rBx19
      case hBx19 => (intro w hSw; (try dsimp only at hSw); go_simp; try with_reducible rfl)
      try simp only [Act.put, List.getElem_toArray, List.getElem_cons_zero, List.getElem_cons_succ, List.setIfInBounds_toArray, List.set_cons_zero, List.set_cons_succ]
      refine wpAnyH_take (i := 20) (v := ?vBx20) rfl (by kernel_rfl) (by kernel_rfl) (by kernel_rfl) (fun _ _ _ h => h) (Or.inl ⟨by kernel_rfl, ?hBx20⟩) (by assumption) ?rBx20
      case hBx20 => (intro w hSw; (try dsimp only at hSw); go_simp; try with_reducible rfl)
      try simp only [Act.put, List.getElem_toArray, List.getElem_cons_zero, List.getElem_cons_succ, List.setIfInBounds_toArray, List.set_cons_zero, List.set_cons_succ]
      refine wpAnyH_ready (rs := [21]) (by kernel_rfl) (by simp) ?_
      refine AllReadyH.cons rfl (fun K hK => ?_) AllReadyH.nil
      go_simp
      refine (C4B.out _ Z3).mono ?_
      rintro e W₇ ⟨rfl, hx4⟩
      have Z4 : Ext W₅ W₇ := Ext.trans Z3 hx4
      show K _ _
      refine hK.out _ _ (HSKB.out _ Z4) (fun hHeld4 => ?_)
      clear hK K hHeld3
      try simp only [Act.put, List.getElem_toArray, List.getElem_cons_zero, List.getElem_cons_succ, List.setIfInBounds_toArray, List.set_cons_zero, List.set_cons_succ]
      refine wpAnyH_take (i := 22) (v := .bool false) rfl (by kernel_rfl) (by kernel_rfl) (by kernel_rfl) (fun _ _ _ h => h) (Or.inl ⟨by kernel_rfl, ?hBx22⟩) (by assumption) ?rBx22
      case hBx22 => (intro w hSw; (try dsimp only at hSw); go_simp; try with_reducible rfl)
      try simp only [Act.put, List.getElem_toArray, List.getElem_cons_zero, List.getElem_cons_succ, List.setIfInBounds_toArray, List.set_cons_zero, List.set_cons_succ]
      refine wpAnyH_take (i := 23) (v := .bool false) rfl (by kernel_rfl) (by kernel_rfl) (by kernel_rfl) (fun _ _ _ h => h) (Or.inl ⟨by kernel_rfl, ?hBx23⟩) (by assumption) ?rBx23
      case hBx23 => (intro w hSw; (try dsimp only at hSw); go_simp; try with_reducible rfl)
      try simp only [Act.put, List.getElem_toArray, List.getElem_cons_zero, List.getElem_cons_succ, List.setIfInBounds_toArray, List.set_cons_zero, List.set_cons_succ]
      refine wpAnyH_done (by kernel_rfl) ?_ _
      have ZXB := hid Z4
      clear c0 l0 r0 r1 r2' r3' r4 q0 q1 q2 q3 hHeld4 hx3 hx4 Z3 Z4 hbl1 hbl2 hbl3 hbl4 hrl
      have hsZ2' := HKZB.out.size
      have hsW7 := ZXB.out.size
      have hsY2Z := HK5B.out.size
      have K7 := hid (KZB.out.trans (ZXB.out.kp _))
      have b0 := cell_of (i := 0) (K7.out.block' HP3.out ⟨by omega, by omega⟩) rfl
      simp only [List.getElem_toArray, List.getElem_cons_zero] at b0
      gi_wp2_with fail
      have hal7 := (Ext.alloc W₇ (.cells #[.slice pa1B pB.length pc1B] 27)).size
      refine (CallsIn.inRound l3 (callsIn_wide.2 (nsB_take (nsB_keep HIWB.out ((ZXB.out.trans (Ext.alloc W₇ (.cells #[.slice pa1B pB.length pc1B] 27))).kp (fun _ => True)) (fun _ _ => trivial)) (by omega) (blk0 W₇ _) ((HPWB.out.keep HKZB.out (fun q hq (e : q = l3) => helB (.inl (by rw [← e]; exact hq)))).keep ((ZXB.out.trans (Ext.alloc W₇ (.cells #[.slice pa1B pB.length pc1B] 27))).kp (fun _ => True)) (fun _ _ => trivial)) (show Y.heap.size ≤ Y2.heap.size by omega) (by omega) (fun q hq => (HEB.out q (.inl hq)).1) (fun h => by have := nsB_lt HIB.out _ h; omega) (by omega)))).mono ?_
      rintro e Z8 ⟨⟨v8, rfl⟩, M8, hM8, hk8, hM8s⟩
      have K8 : Kp (fun q => q < w3.heap.size ∧ q ≠ w1.heap.size + 1) w3 Z8 := (K7.out.trans ((Ext.alloc W₇ (.cells #[.slice pa1B pB.length pc1B] 27)).kp _)).trans (hk8.mono (fun q _ hq e => by
        have h := hq
        rcases e with e | e
        · rcases nsB_from HIB.out q e with e | e | e <;> omega
        · have := HEB.out q (.inl e); omega))
      have KF := hid (show Kp (fun q => ¬ (M2 q ∨ ((Value.slice pa1B pB.length pc1B).ownBlock = some q ∨ q ∈ bsB))) W₅ Z8 from ((ZXB.out.kp _).trans ((Ext.alloc W₇ (.cells #[.slice pa1B pB.length pc1B] 27)).kp _)).trans (hk8.mono (fun q _ hq e => hq (e.imp id .inl))))
      have HM8S := hid (show ∀ q, M8 q → M2 q ∨ ((Value.slice pa1B pB.length pc1B).ownBlock = some q ∨ q ∈ bsB) ∨ Z2.heap.size ≤ q from fun q hq => by
        rcases hM8s q hq with e | e | e
        · exact .inl e
        · exact .inr (.inl (.inl e))
        · exact .inr (.inr (by omega)))
      have HM8 := hid hM8
      have HF := hid (fun (m : Int) (e : m = ((j + 1 : Nat) : Int)) => (show bodyR (fun M' j Z' => nsB W₄.heap.size (w1.heap.size + 1) Y.heap.size (i * 61 + j) (j : Int) M' Z') (fun c M' Z' => c = .exit 2 ∧ ∃ j : Nat, j ≤ ys.length ∧ (j : Int) = stop ∧ nsB W₄.heap.size (w1.heap.size + 1) Y.heap.size (i * 61 + j) stop M' Z') M2 (fun k => (Value.slice pa1B pB.length pc1B).ownBlock = some k ∨ k ∈ bsB) j Z2 W₅ .normal { tmps := #[], defers := [] } (Z8.setCell ⟨W₄.heap.size, 0, none⟩ (.int .i64 m)) from
        ⟨KF.out.trans (Kp.set _ _ _ _ (fun h => h (.inl (nsB_box HIB.out).2.1))), M8, by rw [e]; exact nsB_le (nsB_set HM8.out) (by omega), HM8S.out⟩))
      have HFX := hid (fun (m : Int) (e : m = ((j + 1 : Nat) : Int)) (es : ((j + 1 : Nat) : Int) = stop) => (show bodyR (fun M' j Z' => nsB W₄.heap.size (w1.heap.size + 1) Y.heap.size (i * 61 + j) (j : Int) M' Z') (fun c M' Z' => c = .exit 2 ∧ ∃ j : Nat, j ≤ ys.length ∧ (j : Int) = stop ∧ nsB W₄.heap.size (w1.heap.size + 1) Y.heap.size (i * 61 + j) stop M' Z') M2 (fun k => (Value.slice pa1B pB.length pc1B).ownBlock = some k ∨ k ∈ bsB) j Z2 W₅ (.exit 2) { tmps := #[], defers := [] } (Z8.setCell ⟨W₄.heap.size, 0, none⟩ (.int .i64 m)) from
        ⟨KF.out.trans (Kp.set _ _ _ _ (fun h => h (.inl (nsB_box HIB.out).2.1))), M8, ⟨rfl, j + 1, by omega, es, by rw [e, es]; exact nsB_le (nsB_set HM8.out) (by omega)⟩, HM8S.out⟩))
      clear b0
      have c0 := cell_of (i := 0) (nsB_box HM8.out).1 rfl
      have fz := frozen_of (i := 0) (nsB_box HM8.out).1
      have s0 := cell_of (i := 0) (K8.block' HS3.out ⟨by omega, by omega⟩) rfl
      simp only [List.getElem_toArray, List.getElem_cons_zero] at c0 s0
      clear hM8 hk8 hM8s K8
      have hkw : w.heap.size + 1 ≠ W₄.heap.size := by omega
      by_cases hst : ((j : Int) + 1) = stop
      · have hle : (((j : Int) + 1) == stop) = true := by rw [beq_iff_eq]; exact hst
        have HSTP := hid hst
        clear hst
        gi_wp2_with fail
        exact HFX.out _ (by push_cast; rfl) (by push_cast; exact HSTP.out)
      · have hle : (((j : Int) + 1) == stop) = false := by rw [beq_eq_false_iff_ne]; exact hst
        clear hst
        gi_wp2_with fail
        exact HF.out _ (by push_cast; rfl)
end Go.Proofs.Ythdmoghooaccgaa
