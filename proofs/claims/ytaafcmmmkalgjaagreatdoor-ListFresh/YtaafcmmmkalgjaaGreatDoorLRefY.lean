/-
  espalierref11.Work: turn, cut; by contracts.
-/
import Derived.Test.YtaafcmmmkalgjaaGreatDoorLRefX
namespace Go.Proofs.YtaafcmmmkalgjaaGreatDoor
open Go.RowKit
set_option maxRecDepth 100000 in
set_option maxHeartbeats 4000000 in
theorem rwL_turn {d : Nat} (a : Option Addr) (c : Nat) (ks : List T) (w : World) (bq : Nat) (hbq : bq ≤ w.heap.size) (h : RdL (· < bq) w d a [listT ks]) (hV : askK listK nTurn [listT ks] = 0) : Calls Tryz.prog 7 #[.string nTurn, .slice a 1 c] w (WorkR bq (lonF ks.reverse) w) := by
  obtain ⟨g, off, d', a0, c0, rfl, hg, h40, hks⟩ := arg_list (j := 0) h (show [listT ks][0]? = some (listT ks) from rfl)
  have H40 := hid (show ∀ w1, Ext w w1 → Four w1 g off (.int .i64 5) (.int .i64 0) (.string ⟨#[]⟩) (.slice a0 ks.length c0) from fun w1 hx => by
    have := Four.keep h40 (hx.kp (fun _ => True)) trivial
    rwa [Nat.zero_mul, Nat.add_zero] at this)
  have HKS := hid hks
  have hgw : g < w.heap.size := lt_of_cell h40.1
  have hlen := hks.1
  have HA := hid (show ∀ w1, Ext w w1 → Calls Tryz.prog 19 #[.string nTurn, .slice (some ⟨g, off, none⟩) 1 c] w1 (fun e w' => e = .returned (.int .i64 0) ∧ Ext w1 w') from fun w1 hx => by
    have := mayL_any (K := (· < bq)) (d := d) nTurn (some ⟨g, off, none⟩) c [listT ks] w1 (h.keep (hx.kp _))
    rwa [hV] at this)
  have HKD := hid (show ∀ w1, Ext w w1 → Calls Tryz.prog 20 #[.string nTurn, .slice (some ⟨g, off, none⟩) 1 c] w1 (fun e w' => e = .returned (.bool true) ∧ w' = w1) from fun w1 hx => kdRTurn g off c 5 w1 (H40.out w1 hx).1)
  clear h hV h40 hks hg
  obtain ⟨n, hne⟩ : ∃ n, ks.length = n := ⟨_, rfl⟩
  have HNE := hid hne
  rw [hne] at H40 hlen
  clear hne
  have hn' : (n : Int) ≤ 140737488351232 := by omega
  unfold nTurn at *
  go_enter Tryz.func7, Tryz.ntmps7
  go_wp2_with fail
  refine (HA.out _ (Ext.alloc _ _)).mono ?_
  rintro e w1 ⟨rfl, hx1⟩
  have HX := hid ((Ext.alloc w (.cells #[.int .i64 0, .int .i64 0, .string ⟨#[]⟩, .slice none 0 0] 30)).trans hx1)
  have HB := hid (hx1.block (blk0 w (.cells #[.int .i64 0, .int .i64 0, .string ⟨#[]⟩, .slice none 0 0] 30)))
  have HSZ := hid (lt_of_block HB.out)
  obtain ⟨z0, z1, z2, z3⟩ := four_of HB.out
  obtain ⟨f0, f1, f2, f3⟩ := four_free HB.out
  clear hx1
  go_wp2_with fail
  refine (HKD.out _ HX.out).mono ?_
  rintro e w2 ⟨rfl, hw2⟩
  rw [hw2]
  clear hw2 w2
  obtain ⟨o0, o1, o2, o3⟩ := H40.out _ HX.out
  have hgl := lt_of_cell o0
  clear o0 o1 o2
  have HBW := HB
  go_wp2_with fail
  clear o3 z0 z1 z2 z3 f0 f1 f2 f3
  go_loopw [12, 13] (fun q12 q13 wr => ∃ (j : Nat) (ao : Option Addr) (c1 : Nat), j ≤ n ∧ q13 = .int .i64 ((n : Int) - 1 - (j : Int)) ∧ q12 = .slice ao j c1 ∧ RIt wr bq (w.heap.size + 1) d' (.slice ao j c1) (ks.reverse.take j) ∧ wr.heap[w.heap.size]? = some (.cells #[.int .i64 0, .int .i64 0, .string ⟨#[]⟩, .slice none 0 0] 30) ∧ Ext w wr) (fun _ q13 _ => (intOf q13 + 1).toNat)
  case atStart => exact ⟨0, none, 0, Nat.zero_le _, by simp, rfl, RIt.nil _ _ _, HB.out, HX.out⟩
  case round =>
    obtain ⟨j, ao, c1, hj, rfl, rfl, hit, hbk, hx⟩ := hrel
    have HIT := hid hit
    have HBR := hid hbk
    have X := hid hx
    clear hit hbk hx HBW HB
    by_cases hlt : j < n
    · obtain ⟨i, hi⟩ : ∃ i : Nat, (n : Int) - 1 - (j : Int) = (i : Int) := ⟨n - 1 - j, by omega⟩
      have HIN := hid (show i = n - 1 - j by omega)
      have hil : i < ks.length := by have := HIN.out; rw [HNE.out]; omega
      have hi' : (i : Int) < (n : Int) := by omega
      obtain ⟨g0, o0', k', n', x', a', l', c', rfl, _, h4j, hrj⟩ := HKS.out.kid hil
      obtain ⟨r0, r1, r2, r3⟩ := Four.keep h4j (X.out.kp (fun _ => True)) trivial
      have HRJ := hid (hrj.later X.out)
      have hgl2 := lt_of_cell r0
      have HTS := hid (show ks.reverse.take j ++ [ks[i]] = ks.reverse.take (j + 1) from by
        have hjr : j < ks.reverse.length := by rw [List.length_reverse, HNE.out]; exact hlt
        rw [List.take_succ_eq_append_getElem hjr, List.getElem_reverse]
        congr 2
        congr 1
        have := HNE.out
        have := HIN.out
        omega)
      have HTL := hid (show (ks.reverse.take j).length = j by rw [List.length_take, List.length_reverse, HNE.out]; omega)
      clear h4j hrj
      generalize ks[i] = tj at *
      have HSB := hid (lt_of_block HBR.out)
      have HSR := hid (show SRow (wr.alloc (.cells #[.int .i64 k', .int .i64 n', .string x', .slice a' l' c'] 30)) bq d' (some ⟨wr.heap.size, 0, none⟩) [tj] from .inr ⟨_, 0, rfl, fun q hq => by
        obtain rfl : q = 0 := by simpa using hq
        obtain ⟨s0, s1, s2, s3⟩ := four_of (blk0 wr (.cells #[.int .i64 k', .int .i64 n', .string x', .slice a' l' c'] 30))
        exact ⟨_, _, _, _, ⟨s0, s1, s2, s3⟩, HRJ.out.later (Ext.alloc _ _)⟩⟩)
      have HIA := hid (HIT.out.later (Ext.alloc wr (.cells #[.int .i64 k', .int .i64 n', .string x', .slice a' l' c'] 30)))
      first | rw [hi] | skip
      go_wp2_with (at_builtin; refine app_rits rfl _ _ rfl rfl bq (w.heap.size + 1) d' _ (ks.reverse.take j) (some ⟨wr.heap.size, 0, none⟩) 1 1 [tj] rfl rfl rfl (by omega) (by rw [blkS]; have := HSB.out; omega) HIA.out HSR.out (by rw [HTL.out]; omega) (j + 1) (by rw [HTL.out]) (ks.reverse.take (j + 1)) HTS.out ?_; intro a9 c9 w9 hit9 hb9 _; have HI9 := hid hit9; have HB9' := hid hb9; clear hit9 hb9)
      go_roundw
      case rel =>
        have hsz := HSB.out
        refine ⟨j + 1, a9, c9, hlt, ?_, rfl, HI9.out, ?_, ?_⟩
        · congr 1
          omega
        · exact (HB9'.out.block w.heap.size (by omega)).trans (blkOld _ HBR.out)
        · exact Below.trans (X.out.trans (Ext.alloc _ _)) (HB9'.out.mono (by omega))
      case measure => simp [intOf]
    · obtain rfl : j = n := by omega
      have hlt3 : ¬ (0 : Int) ≤ (j : Int) - 1 - (j : Int) := by omega
      have hl2 : (j : Int) - 1 - (j : Int) < 0 := by omega
      have HTK := hid (show ks.reverse.take j = ks.reverse by rw [← HNE.out, ← List.length_reverse, List.take_length])
      rw [HTK.out] at HIT
      have HLR := hid (show ks.reverse.length = j by rw [List.length_reverse, HNE.out])
      have HWH := hid (whole_any (K := KB bq w.heap.size) c1 wr (HIT.out.rdl (fun x hx => by show x < bq ∨ w.heap.size < x; omega) (by rw [HLR.out]; omega)))
      rw [HLR.out] at HWH
      have HBW := HBR
      go_wp2_with fail
      refine HWH.out.mono ?_
      rintro e w4 ⟨R, rfl, hr, hx4⟩
      obtain ⟨pk, pn, px, pa, pl', pc, ec, ex, rfl⟩ := hr.shape
      have HR := hid hr
      have HX4 := hid (X.out.trans hx4)
      have HB4 := hid (hx4.block HBW.out)
      obtain ⟨z0, z1, z2, z3⟩ := four_of HB4.out
      obtain ⟨f0, f1, f2, f3⟩ := four_free HB4.out
      clear hr hx4
      go_wp2_with fail
      have HB2 := hid (four_set (u0 := .int .i64 pk) (u1 := .int .i64 pn) (u2 := .string px) (u3 := (.slice pa pl' pc)) HB4.out)
      have HKZ := hid (Kp.set4 w4 w.heap.size 0 (.int .i64 pk) (.int .i64 pn) (.string px) ((.slice pa pl' pc)))
      have HE := hid (HKZ.out.extOf HX4.out (Nat.le_refl _))
      obtain ⟨y0, y1, y2, y3⟩ := four_of HB2.out
      refine bodyPost_ret (v := .tuple #[.agg #[.int .i64 pk, .int .i64 pn, .string px, (.slice pa pl' pc)], .int .i64 ec, .string ex]) (by simp [results, Tryz.results7, go_sem, y0, y1, y2, y3]) rfl ?_
      first | exact ⟨_, rfl, (HR.out.keep (kb_keep hbq HKZ.out)), HE.out⟩ | exact ⟨_, rfl, (HR.out.keep (kb_keep hbq HKZ.out)), HE.out.drew⟩
set_option maxRecDepth 100000 in
set_option maxHeartbeats 4000000 in
theorem rwL_cut {d : Nat} (a : Option Addr) (c : Nat) (ks : List T) (i k : Int) (w : World) (bq : Nat) (hbq : bq ≤ w.heap.size) (h : RdL (· < bq) w d a [listT ks, intT i, intT k]) (hcap : CapL w a 3) (hV : askK listK nCut [listT ks, intT i, intT k] = 0) : Calls Tryz.prog 7 #[.string nCut, .slice a 3 c] w (WorkR bq (if i < 0 ∨ k < i ∨ (ks.length : Int) < k then .one 23 else lonF ((ks.take k.toNat).drop i.toNat)) w) := by
  obtain ⟨g, off, d', a0, c0, rfl, hg, h40, hks⟩ := arg_list (j := 0) h (show [listT ks, intT i, intT k][0]? = some (listT ks) from rfl)
  have H40 := hid (show ∀ w1, Ext w w1 → Four w1 g off (.int .i64 5) (.int .i64 0) (.string ⟨#[]⟩) (.slice a0 ks.length c0) from fun w1 hx => by
    have := Four.keep h40 (hx.kp (fun _ => True)) trivial
    rwa [Nat.zero_mul, Nat.add_zero] at this)
  have HKS := hid hks
  have hgw : g < w.heap.size := lt_of_cell h40.1
  have hlen := hks.1
  obtain ⟨ig, ioff, iq, il, ic, ea, h4i⟩ := arg_int (j := 1) h (show [listT ks, intT i, intT k][1]? = some (intT i) from rfl)
  obtain ⟨rfl, rfl⟩ : g = ig ∧ off = ioff := by injection ea with ea; injection ea with ea eb; exact ⟨ea, eb⟩
  clear ea
  have H4i := hid (show ∀ w1, Ext w w1 → Four w1 g (off + 4) (.int .i64 3) (.int .i64 i) (.string ⟨#[]⟩) (.slice iq il ic) from fun w1 hx => Four.keep h4i (hx.kp (fun _ => True)) trivial)
  clear h4i
  obtain ⟨kg, koff, kq, kl, kc, ea, h4k⟩ := arg_int (j := 2) h (show [listT ks, intT i, intT k][2]? = some (intT k) from rfl)
  obtain ⟨rfl, rfl⟩ : g = kg ∧ off = koff := by injection ea with ea; injection ea with ea eb; exact ⟨ea, eb⟩
  clear ea
  have H4k := hid (show ∀ w1, Ext w w1 → Four w1 g (off + 8) (.int .i64 3) (.int .i64 k) (.string ⟨#[]⟩) (.slice kq kl kc) from fun w1 hx => Four.keep h4k (hx.kp (fun _ => True)) trivial)
  clear h4k
  have HA := hid (show ∀ w1, Ext w w1 → Calls Tryz.prog 19 #[.string nCut, .slice (some ⟨g, off, none⟩) 3 c] w1 (fun e w' => e = .returned (.int .i64 0) ∧ Ext w1 w') from fun w1 hx => by
    have := mayL_any (K := (· < bq)) (d := d) nCut (some ⟨g, off, none⟩) c [listT ks, intT i, intT k] w1 (h.keep (hx.kp _))
    rwa [hV] at this)
  have HKD := hid (show ∀ w1, Ext w w1 → Calls Tryz.prog 20 #[.string nCut, .slice (some ⟨g, off, none⟩) 3 c] w1 (fun e w' => e = .returned (.bool true) ∧ w' = w1) from fun w1 hx => kdRCut g off c 5 3 3 w1 (H40.out w1 hx).1 (H4i.out w1 hx).1 (H4k.out w1 hx).1)
  have hlc : ks.length ≤ c0 := hcap g off rfl 0 (by decide) a0 ks.length c0 h40.2.2.2
  clear h hV h40 hks hg hcap
  unfold nCut at *
  by_cases b1 : i < 0
  case pos =>
    rw [if_pos (.inl b1)]
    generalize ks.length = n at *
    have hn' : (n : Int) ≤ 140737488351232 := by omega
    go_enter Tryz.func7, Tryz.ntmps7
    go_wp2_with fail
    refine (HA.out _ (Ext.alloc _ _)).mono ?_
    rintro e w1 ⟨rfl, hx1⟩
    have HX := hid ((Ext.alloc w (.cells #[.int .i64 0, .int .i64 0, .string ⟨#[]⟩, .slice none 0 0] 30)).trans hx1)
    have HB := hid (hx1.block (blk0 w (.cells #[.int .i64 0, .int .i64 0, .string ⟨#[]⟩, .slice none 0 0] 30)))
    have HSZ := hid (lt_of_block HB.out)
    obtain ⟨z0, z1, z2, z3⟩ := four_of HB.out
    obtain ⟨f0, f1, f2, f3⟩ := four_free HB.out
    clear hx1
    go_wp2_with fail
    refine (HKD.out _ HX.out).mono ?_
    rintro e w2 ⟨rfl, hw2⟩
    rw [hw2]
    clear hw2 w2
    obtain ⟨o0, o1, o2, o3⟩ := H40.out _ HX.out
    obtain ⟨p0, p1, p2, p3⟩ := H4i.out _ HX.out
    obtain ⟨q0, q1, q2, q3⟩ := H4k.out _ HX.out
    have hgl := lt_of_cell o0
    clear o0 o1 o2 p0 p2 p3 q0 q2 q3
    go_wp2_with fail
    go_quiet (fail)
    have HXq := hid (HX.out.drewN nq)
    have HBq := hid (show (w1.drewN nq).heap[w.heap.size]? = some (.cells #[.int .i64 0, .int .i64 0, .string ⟨#[]⟩, .slice none 0 0] 30) from HB.out)
    go_wp2_with fail
    have HB2 := hid (four_set (u0 := .int .i64 0) (u1 := .int .i64 0) (u2 := .string ⟨#[]⟩) (u3 := .slice none 0 0) HBq.out)
    have HKZ := hid (Kp.set4 (w1.drewN nq) w.heap.size 0 (.int .i64 0) (.int .i64 0) (.string ⟨#[]⟩) (.slice none 0 0))
    have HE := hid (HKZ.out.extOf HXq.out (Nat.le_refl _))
    obtain ⟨y0, y1, y2, y3⟩ := four_of HB2.out
    refine bodyPost_ret (v := .tuple #[.agg #[.int .i64 0, .int .i64 0, .string ⟨#[]⟩, .slice none 0 0], .int .i64 23, .string ⟨#[]⟩]) (by simp [results, Tryz.results7, go_sem, y0, y1, y2, y3]) rfl ?_
    first | exact ⟨_, rfl, rfl, HE.out⟩ | exact ⟨_, rfl, rfl, HE.out.drew⟩
  by_cases b2 : k < i
  case pos =>
    rw [if_pos (.inr (.inl b2))]
    generalize ks.length = n at *
    have hn' : (n : Int) ≤ 140737488351232 := by omega
    go_enter Tryz.func7, Tryz.ntmps7
    go_wp2_with fail
    refine (HA.out _ (Ext.alloc _ _)).mono ?_
    rintro e w1 ⟨rfl, hx1⟩
    have HX := hid ((Ext.alloc w (.cells #[.int .i64 0, .int .i64 0, .string ⟨#[]⟩, .slice none 0 0] 30)).trans hx1)
    have HB := hid (hx1.block (blk0 w (.cells #[.int .i64 0, .int .i64 0, .string ⟨#[]⟩, .slice none 0 0] 30)))
    have HSZ := hid (lt_of_block HB.out)
    obtain ⟨z0, z1, z2, z3⟩ := four_of HB.out
    obtain ⟨f0, f1, f2, f3⟩ := four_free HB.out
    clear hx1
    go_wp2_with fail
    refine (HKD.out _ HX.out).mono ?_
    rintro e w2 ⟨rfl, hw2⟩
    rw [hw2]
    clear hw2 w2
    obtain ⟨o0, o1, o2, o3⟩ := H40.out _ HX.out
    obtain ⟨p0, p1, p2, p3⟩ := H4i.out _ HX.out
    obtain ⟨q0, q1, q2, q3⟩ := H4k.out _ HX.out
    have hgl := lt_of_cell o0
    clear o0 o1 o2 p0 p2 p3 q0 q2 q3
    go_wp2_with fail
    go_quiet (fail)
    have HXq := hid (HX.out.drewN nq)
    have HBq := hid (show (w1.drewN nq).heap[w.heap.size]? = some (.cells #[.int .i64 0, .int .i64 0, .string ⟨#[]⟩, .slice none 0 0] 30) from HB.out)
    go_wp2_with fail
    have HB2 := hid (four_set (u0 := .int .i64 0) (u1 := .int .i64 0) (u2 := .string ⟨#[]⟩) (u3 := .slice none 0 0) HBq.out)
    have HKZ := hid (Kp.set4 (w1.drewN nq) w.heap.size 0 (.int .i64 0) (.int .i64 0) (.string ⟨#[]⟩) (.slice none 0 0))
    have HE := hid (HKZ.out.extOf HXq.out (Nat.le_refl _))
    obtain ⟨y0, y1, y2, y3⟩ := four_of HB2.out
    refine bodyPost_ret (v := .tuple #[.agg #[.int .i64 0, .int .i64 0, .string ⟨#[]⟩, .slice none 0 0], .int .i64 23, .string ⟨#[]⟩]) (by simp [results, Tryz.results7, go_sem, y0, y1, y2, y3]) rfl ?_
    first | exact ⟨_, rfl, rfl, HE.out⟩ | exact ⟨_, rfl, rfl, HE.out.drew⟩
  by_cases b3 : (ks.length : Int) < k
  case pos =>
    rw [if_pos (.inr (.inr b3))]
    generalize ks.length = n at *
    have hn' : (n : Int) ≤ 140737488351232 := by omega
    go_enter Tryz.func7, Tryz.ntmps7
    go_wp2_with fail
    refine (HA.out _ (Ext.alloc _ _)).mono ?_
    rintro e w1 ⟨rfl, hx1⟩
    have HX := hid ((Ext.alloc w (.cells #[.int .i64 0, .int .i64 0, .string ⟨#[]⟩, .slice none 0 0] 30)).trans hx1)
    have HB := hid (hx1.block (blk0 w (.cells #[.int .i64 0, .int .i64 0, .string ⟨#[]⟩, .slice none 0 0] 30)))
    have HSZ := hid (lt_of_block HB.out)
    obtain ⟨z0, z1, z2, z3⟩ := four_of HB.out
    obtain ⟨f0, f1, f2, f3⟩ := four_free HB.out
    clear hx1
    go_wp2_with fail
    refine (HKD.out _ HX.out).mono ?_
    rintro e w2 ⟨rfl, hw2⟩
    rw [hw2]
    clear hw2 w2
    obtain ⟨o0, o1, o2, o3⟩ := H40.out _ HX.out
    obtain ⟨p0, p1, p2, p3⟩ := H4i.out _ HX.out
    obtain ⟨q0, q1, q2, q3⟩ := H4k.out _ HX.out
    have hgl := lt_of_cell o0
    clear o0 o1 o2 p0 p2 p3 q0 q2 q3
    go_wp2_with fail
    go_quiet (fail)
    have HXq := hid (HX.out.drewN nq)
    have HBq := hid (show (w1.drewN nq).heap[w.heap.size]? = some (.cells #[.int .i64 0, .int .i64 0, .string ⟨#[]⟩, .slice none 0 0] 30) from HB.out)
    go_wp2_with fail
    have HB2 := hid (four_set (u0 := .int .i64 0) (u1 := .int .i64 0) (u2 := .string ⟨#[]⟩) (u3 := .slice none 0 0) HBq.out)
    have HKZ := hid (Kp.set4 (w1.drewN nq) w.heap.size 0 (.int .i64 0) (.int .i64 0) (.string ⟨#[]⟩) (.slice none 0 0))
    have HE := hid (HKZ.out.extOf HXq.out (Nat.le_refl _))
    obtain ⟨y0, y1, y2, y3⟩ := four_of HB2.out
    refine bodyPost_ret (v := .tuple #[.agg #[.int .i64 0, .int .i64 0, .string ⟨#[]⟩, .slice none 0 0], .int .i64 23, .string ⟨#[]⟩]) (by simp [results, Tryz.results7, go_sem, y0, y1, y2, y3]) rfl ?_
    first | exact ⟨_, rfl, rfl, HE.out⟩ | exact ⟨_, rfl, rfl, HE.out.drew⟩
  rw [if_neg (fun h => h.elim b1 (fun h => h.elim b2 b3))]
  obtain ⟨i, rfl⟩ : ∃ j : Nat, i = (j : Int) := ⟨i.toNat, by omega⟩
  obtain ⟨k, rfl⟩ : ∃ j : Nat, k = (j : Int) := ⟨k.toNat, by omega⟩
  rw [Int.toNat_natCast, Int.toNat_natCast]
  have hik : i ≤ k := by omega
  have hkl : k ≤ ks.length := by omega
  have HLN := hid (show ((ks.take k).drop i).length = k - i by rw [List.length_drop, List.length_take]; omega)
  have HSW := hid (show ∀ w1, Ext w w1 → SRow w1 bq d' a0 ks from fun w1 hx => (rdl_srow HKS.out).later hx)
  have HS1 := hid (show ∀ w1 g0 o0', Ext w w1 → a0 = some ⟨g0, o0', none⟩ → SRow w1 bq d' (some ⟨g0, o0' + i * 4, none⟩) ((ks.take k).drop i) from fun w1 g0 o0' hx e => by
    rcases HSW.out w1 hx with h | ⟨g1, o1, e1, hc⟩
    · exact .inl (by rw [h]; simp)
    · rw [e] at e1
      injection e1 with e1
      injection e1 with e1 e2
      subst e1; subst e2
      refine .inr ⟨_, _, rfl, fun j hj => ?_⟩
      rw [List.length_drop, List.length_take] at hj
      obtain ⟨u0, u1, u2, u3, h4, hr⟩ := hc (i + j) (by omega)
      refine ⟨u0, u1, u2, u3, ?_, ?_⟩
      · rw [show o0' + i * 4 + j * 4 = o0' + (i + j) * 4 by omega]
        exact h4
      · rw [List.getElem_drop, List.getElem_take]
        exact hr)
  have HS2 := hid (show ∀ (w1 : World) q, i = k → SRow w1 bq d' q ((ks.take k).drop i) from fun w1 q e => .inl (List.eq_nil_of_length_eq_zero (by rw [HLN.out]; omega)))
  have HZ := hid (show ks.length = 0 → ∀ (w1 : World) q, SRow w1 bq d' q ((ks.take k).drop i) from fun e w1 q => .inl (by rw [List.eq_nil_of_length_eq_zero e]; simp))
  have HP := hid (show 0 < ks.length → ∃ g0 o0', a0 = some ⟨g0, o0', none⟩ from fun e => by
    rcases HKS.out.2 with h | ⟨g0, o0', h, _⟩
    · rw [h] at e; exact absurd e (by decide)
    · exact ⟨g0, o0', h⟩)
  clear HKS HSW
  generalize ks.length = n at *
  have hn' : (n : Int) ≤ 140737488351232 := by omega
  have i1 : ¬ (i : Int) < 0 := b1
  have i2 : ¬ (k : Int) < (i : Int) := b2
  have i3 : ¬ (n : Int) < (k : Int) := b3
  have i5 : (i : Int) ≤ (k : Int) := by omega
  have i6 : (k : Int) ≤ (n : Int) := by omega
  have i7 : (n : Int) ≤ (c0 : Int) := by omega
  have j1 : ¬ k < i := by omega
  have j2 : ¬ n < k := by omega
  clear b1 b2 b3
  go_enter Tryz.func7, Tryz.ntmps7
  go_wp2_with fail
  refine (HA.out _ (Ext.alloc _ _)).mono ?_
  rintro e w1 ⟨rfl, hx1⟩
  have HX := hid ((Ext.alloc w (.cells #[.int .i64 0, .int .i64 0, .string ⟨#[]⟩, .slice none 0 0] 30)).trans hx1)
  have HB := hid (hx1.block (blk0 w (.cells #[.int .i64 0, .int .i64 0, .string ⟨#[]⟩, .slice none 0 0] 30)))
  have HSZ := hid (lt_of_block HB.out)
  obtain ⟨z0, z1, z2, z3⟩ := four_of HB.out
  obtain ⟨f0, f1, f2, f3⟩ := four_free HB.out
  clear hx1
  go_wp2_with fail
  refine (HKD.out _ HX.out).mono ?_
  rintro e w2 ⟨rfl, hw2⟩
  rw [hw2]
  clear hw2 w2
  obtain ⟨o0, o1, o2, o3⟩ := H40.out _ HX.out
  obtain ⟨p0, p1, p2, p3⟩ := H4i.out _ HX.out
  obtain ⟨q0, q1, q2, q3⟩ := H4k.out _ HX.out
  have hgl := lt_of_cell o0
  clear o0 o1 o2 p0 p2 p3 q0 q2 q3
  go_wp2_with fail
  go_quiet (fail)
  have HXq := hid (HX.out.drewN nq)
  have HBq := hid (show (w1.drewN nq).heap[w.heap.size]? = some (.cells #[.int .i64 0, .int .i64 0, .string ⟨#[]⟩, .slice none 0 0] 30) from HB.out)
  go_upto_region 27 with fail
  have HXW := hid HXq.out
  have HBW0 := hid HBq.out
  rcases Nat.eq_zero_or_pos n with hn0 | hn0
  case inl =>
    rw [show (ks.take k).drop i = [] from List.eq_nil_of_length_eq_zero (by rw [HLN.out]; omega)]
    obtain rfl : k = 0 := by omega
    obtain rfl : i = 0 := by omega
    subst hn0
    cases a0 with
    | none =>
      have HWH := hid (fun W (hx : Ext w W) (hb : W.heap[w.heap.size]? = some (.cells #[.int .i64 0, .int .i64 0, .string ⟨#[]⟩, .slice none 0 0] 30)) q cq (hi : RIt W bq (w.heap.size + 1) d' (.slice q 0 cq) []) => whole_any (K := KB bq w.heap.size) cq W (hi.rdl (fun x hx => by show x < bq ∨ w.heap.size < x; omega) (by decide)))
      go_wp2_with (at_builtin; refine app_rits rfl _ _ rfl rfl bq (w.heap.size + 1) d' (.slice none 0 0) [] _ 0 _ [] rfl rfl rfl (by omega) (by have := HSZ.out; exact this) (RIt.nil _ _ _) (.inl rfl) (by decide) 0 rfl [] rfl ?_; intro a9 c9 w9 hit9 _ hx9; have HI9 := hid hit9; have X9 := hid (hx9 rfl); clear hit9 hx9)
      have HBW := hid (X9.out.block HBW0.out)
      clear z0 z1 z2 z3 f0 f1 f2 f3
      refine (HWH.out _ (HXW.out.trans X9.out) HBW.out _ _ HI9.out).mono ?_
      rintro e w4 ⟨R, rfl, hr, hx4⟩
      obtain ⟨pk, pn, px, pa, pl', pc, ec, ex, rfl⟩ := hr.shape
      have HR := hid hr
      have HX4 := hid ((HXW.out.trans X9.out).trans hx4)
      have HB4 := hid (hx4.block HBW.out)
      obtain ⟨z0, z1, z2, z3⟩ := four_of HB4.out
      obtain ⟨f0, f1, f2, f3⟩ := four_free HB4.out
      clear hr hx4
      go_wp2_with fail
      have HB2 := hid (four_set (u0 := .int .i64 pk) (u1 := .int .i64 pn) (u2 := .string px) (u3 := (.slice pa pl' pc)) HB4.out)
      have HKZ := hid (Kp.set4 w4 w.heap.size 0 (.int .i64 pk) (.int .i64 pn) (.string px) ((.slice pa pl' pc)))
      have HE := hid (HKZ.out.extOf HX4.out (Nat.le_refl _))
      obtain ⟨y0, y1, y2, y3⟩ := four_of HB2.out
      refine bodyPost_ret (v := .tuple #[.agg #[.int .i64 pk, .int .i64 pn, .string px, (.slice pa pl' pc)], .int .i64 ec, .string ex]) (by simp [results, Tryz.results7, go_sem, y0, y1, y2, y3]) rfl ?_
      first | exact ⟨_, rfl, (HR.out.keep (kb_keep hbq HKZ.out)), HE.out⟩ | exact ⟨_, rfl, (HR.out.keep (kb_keep hbq HKZ.out)), HE.out.drew⟩
    | some ad =>
      have HWH := hid (fun W (hx : Ext w W) (hb : W.heap[w.heap.size]? = some (.cells #[.int .i64 0, .int .i64 0, .string ⟨#[]⟩, .slice none 0 0] 30)) q cq (hi : RIt W bq (w.heap.size + 1) d' (.slice q 0 cq) []) => whole_any (K := KB bq w.heap.size) cq W (hi.rdl (fun x hx => by show x < bq ∨ w.heap.size < x; omega) (by decide)))
      go_wp2_with (at_builtin; refine app_rits rfl _ _ rfl rfl bq (w.heap.size + 1) d' (.slice none 0 0) [] _ 0 _ [] rfl rfl rfl (by omega) (by have := HSZ.out; exact this) (RIt.nil _ _ _) (.inl rfl) (by decide) 0 rfl [] rfl ?_; intro a9 c9 w9 hit9 _ hx9; have HI9 := hid hit9; have X9 := hid (hx9 rfl); clear hit9 hx9)
      have HBW := hid (X9.out.block HBW0.out)
      clear z0 z1 z2 z3 f0 f1 f2 f3
      refine (HWH.out _ (HXW.out.trans X9.out) HBW.out _ _ HI9.out).mono ?_
      rintro e w4 ⟨R, rfl, hr, hx4⟩
      obtain ⟨pk, pn, px, pa, pl', pc, ec, ex, rfl⟩ := hr.shape
      have HR := hid hr
      have HX4 := hid ((HXW.out.trans X9.out).trans hx4)
      have HB4 := hid (hx4.block HBW.out)
      obtain ⟨z0, z1, z2, z3⟩ := four_of HB4.out
      obtain ⟨f0, f1, f2, f3⟩ := four_free HB4.out
      clear hr hx4
      go_wp2_with fail
      have HB2 := hid (four_set (u0 := .int .i64 pk) (u1 := .int .i64 pn) (u2 := .string px) (u3 := (.slice pa pl' pc)) HB4.out)
      have HKZ := hid (Kp.set4 w4 w.heap.size 0 (.int .i64 pk) (.int .i64 pn) (.string px) ((.slice pa pl' pc)))
      have HE := hid (HKZ.out.extOf HX4.out (Nat.le_refl _))
      obtain ⟨y0, y1, y2, y3⟩ := four_of HB2.out
      refine bodyPost_ret (v := .tuple #[.agg #[.int .i64 pk, .int .i64 pn, .string px, (.slice pa pl' pc)], .int .i64 ec, .string ex]) (by simp [results, Tryz.results7, go_sem, y0, y1, y2, y3]) rfl ?_
      first | exact ⟨_, rfl, (HR.out.keep (kb_keep hbq HKZ.out)), HE.out⟩ | exact ⟨_, rfl, (HR.out.keep (kb_keep hbq HKZ.out)), HE.out.drew⟩
  obtain ⟨g0, o0', rfl⟩ := HP.out hn0
  by_cases hci : c0 = i
  case pos =>
    obtain rfl : k = i := by omega
    subst hci
    have HE0 := hid (show (ks.take c0).drop c0 = [] from List.eq_nil_of_length_eq_zero (by rw [List.length_drop, List.length_take]; omega))
    have HWH := hid (fun W (hx : Ext w W) (hb : W.heap[w.heap.size]? = some (.cells #[.int .i64 0, .int .i64 0, .string ⟨#[]⟩, .slice none 0 0] 30)) q cq (hi : RIt W bq (w.heap.size + 1) d' (.slice q 0 cq) []) => whole_any (K := KB bq w.heap.size) cq W (hi.rdl (fun x hx => by show x < bq ∨ w.heap.size < x; omega) (by decide)))
    go_wp2_with (at_builtin; refine app_rits rfl _ _ rfl rfl bq (w.heap.size + 1) d' (.slice none 0 0) [] _ 0 _ [] rfl rfl rfl (by omega) (by have := HSZ.out; exact this) (RIt.nil _ _ _) (.inl rfl) (by decide) 0 rfl [] rfl ?_; intro a9 c9 w9 hit9 _ hx9; have HI9 := hid hit9; have X9 := hid (hx9 rfl); clear hit9 hx9)
    have HBW := hid (X9.out.block HBW0.out)
    clear z0 z1 z2 z3 f0 f1 f2 f3
    refine (HWH.out _ (HXW.out.trans X9.out) HBW.out _ _ HI9.out).mono ?_
    rintro e w4 ⟨R, rfl, hr, hx4⟩
    obtain ⟨pk, pn, px, pa, pl', pc, ec, ex, rfl⟩ := hr.shape
    have HR := hid hr
    have HX4 := hid ((HXW.out.trans X9.out).trans hx4)
    have HB4 := hid (hx4.block HBW.out)
    obtain ⟨z0, z1, z2, z3⟩ := four_of HB4.out
    obtain ⟨f0, f1, f2, f3⟩ := four_free HB4.out
    clear hr hx4
    go_wp2_with fail
    have HB2 := hid (four_set (u0 := .int .i64 pk) (u1 := .int .i64 pn) (u2 := .string px) (u3 := (.slice pa pl' pc)) HB4.out)
    have HKZ := hid (Kp.set4 w4 w.heap.size 0 (.int .i64 pk) (.int .i64 pn) (.string px) ((.slice pa pl' pc)))
    have HE := hid (HKZ.out.extOf HX4.out (Nat.le_refl _))
    obtain ⟨y0, y1, y2, y3⟩ := four_of HB2.out
    refine bodyPost_ret (v := .tuple #[.agg #[.int .i64 pk, .int .i64 pn, .string px, (.slice pa pl' pc)], .int .i64 ec, .string ex]) (by simp [results, Tryz.results7, go_sem, y0, y1, y2, y3]) rfl ?_
    first | exact ⟨_, rfl, (by rw [HE0.out]; exact (HR.out.keep (kb_keep hbq HKZ.out))), HE.out⟩ | exact ⟨_, rfl, (by rw [HE0.out]; exact (HR.out.keep (kb_keep hbq HKZ.out))), HE.out.drew⟩
  have hc2 : ¬ (c0 - i = 0) := by omega
  have hc3 : ¬ c0 ≤ i := by omega
  have hc4 : i < c0 := by omega
  have hc5 : ¬ i = c0 := by omega
  go_wp2_with (at_builtin; refine app_rits rfl _ _ rfl rfl bq (w.heap.size + 1) d' (.slice none 0 0) [] (some ⟨g0, o0' + i * 4, none⟩) (k - i) (c0 - i) ((ks.take k).drop i) rfl rfl HLN.out (by omega) (by have := HSZ.out; exact this) (RIt.nil _ _ _) (HS1.out _ g0 o0' HXW.out rfl) (by rw [List.length_nil]; omega) (k - i) (by rw [List.length_nil, Nat.zero_add]) ((ks.take k).drop i) (List.nil_append _) ?_; intro a9 c9 w9 hit9 _ hx9; have HI9 := hid hit9; have X9 := hid (hx9 rfl); clear hit9 hx9)
  have HBW := hid (X9.out.block HBW0.out)
  have HWH := hid (whole_any (K := KB bq w.heap.size) c9 w9 (HI9.out.rdl (fun x hx => by show x < bq ∨ w.heap.size < x; omega) (by rw [HLN.out]; omega)))
  rw [HLN.out] at HWH
  clear z0 z1 z2 z3 f0 f1 f2 f3
  refine HWH.out.mono ?_
  rintro e w4 ⟨R, rfl, hr, hx4⟩
  obtain ⟨pk, pn, px, pa, pl', pc, ec, ex, rfl⟩ := hr.shape
  have HR := hid hr
  have HX4 := hid ((HXW.out.trans X9.out).trans hx4)
  have HB4 := hid (hx4.block HBW.out)
  obtain ⟨z0, z1, z2, z3⟩ := four_of HB4.out
  obtain ⟨f0, f1, f2, f3⟩ := four_free HB4.out
  clear hr hx4
  go_wp2_with fail
  have HB2 := hid (four_set (u0 := .int .i64 pk) (u1 := .int .i64 pn) (u2 := .string px) (u3 := (.slice pa pl' pc)) HB4.out)
  have HKZ := hid (Kp.set4 w4 w.heap.size 0 (.int .i64 pk) (.int .i64 pn) (.string px) ((.slice pa pl' pc)))
  have HE := hid (HKZ.out.extOf HX4.out (Nat.le_refl _))
  obtain ⟨y0, y1, y2, y3⟩ := four_of HB2.out
  refine bodyPost_ret (v := .tuple #[.agg #[.int .i64 pk, .int .i64 pn, .string px, (.slice pa pl' pc)], .int .i64 ec, .string ex]) (by simp [results, Tryz.results7, go_sem, y0, y1, y2, y3]) rfl ?_
  first | exact ⟨_, rfl, (HR.out.keep (kb_keep hbq HKZ.out)), HE.out⟩ | exact ⟨_, rfl, (HR.out.keep (kb_keep hbq HKZ.out)), HE.out.drew⟩

end Go.Proofs.YtaafcmmmkalgjaaGreatDoor
