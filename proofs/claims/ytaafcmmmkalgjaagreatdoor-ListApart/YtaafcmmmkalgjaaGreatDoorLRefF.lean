/-
  espalierref11.Work: turn, cut; by contracts.
-/
import Derived.Test.YtaafcmmmkalgjaaGreatDoorLRefX
import Derived.Deep.RegionHeld3
import Derived.Test.YtaafcmmmkalgjaaGreatDoorLFBoth
namespace Go.Proofs.YtaafcmmmkalgjaaGreatDoor
open Go.RowKit
set_option maxRecDepth 100000 in
set_option maxHeartbeats 4000000 in
theorem rwL_turn {d : Nat} (a : Option Addr) (c : Nat) (ks : List T) (w : World) (bq : Nat) (hbq : bq ≤ w.heap.size) (h : RdL (· < bq) w d a [listT ks]) (hV : askK listK nTurn [listT ks] = 0) : Calls Tryz.prog 7 #[.string nTurn, .slice a 1 c] w (WorkR bq (lonF ks.reverse) w) := by
  obtain ⟨g, off, d', a0, c0, rfl, hg, h40, hks⟩ := arg_list (j := 0) h (show [listT ks][0]? = some (listT ks) from rfl)
  have H40 := hid (show ∀ w1, Ext w w1 → Four w1 g off (.int .i64 5) (.int .i64 0) (.string ⟨#[]⟩) (.slice a0 ks.length c0) from fun w1 hx => by
    have := Four.keep h40 (hx.kp (fun _ => True)) trivial
    rwa [Nat.zero_mul, Nat.add_zero] at this)
  have HKS := hid hks
  have hgw : g < w.heap.size := lt_of_cell h40.1
  have hlen := hks.1
  have HA := hid (show ∀ w1, Ext w w1 → Calls Tryz.prog 19 #[.string nTurn, .slice (some ⟨g, off, none⟩) 1 c] w1 (fun e w' => e = .returned (.int .i64 0) ∧ Ext w1 w') from fun w1 hx => by
    have := mayL_any (K := (· < bq)) (d := d) nTurn (some ⟨g, off, none⟩) c [listT ks] w1 (h.keep (hx.kp _))
    rwa [hV] at this)
  have HKD := hid (show ∀ w1, Ext w w1 → Calls Tryz.prog 20 #[.string nTurn, .slice (some ⟨g, off, none⟩) 1 c] w1 (fun e w' => e = .returned (.bool true) ∧ w' = w1) from fun w1 hx => kdRTurn g off c 5 w1 (H40.out w1 hx).1)
  clear h hV h40 hks hg
  obtain ⟨n, hne⟩ : ∃ n, ks.length = n := ⟨_, rfl⟩
  have HNE := hid hne
  rw [hne] at H40 hlen
  clear hne
  have hn' : (n : Int) ≤ 140737488351232 := by omega
  unfold nTurn at *
  go_enter Tryz.func7, Tryz.ntmps7
  go_wp2_with fail
  refine (HA.out _ (Ext.alloc _ _)).mono ?_
  rintro e w1 ⟨rfl, hx1⟩
  have HX := hid ((Ext.alloc w (.cells #[.int .i64 0, .int .i64 0, .string ⟨#[]⟩, .slice none 0 0] 30)).trans hx1)
  have HB := hid (hx1.block (blk0 w (.cells #[.int .i64 0, .int .i64 0, .string ⟨#[]⟩, .slice none 0 0] 30)))
  have HSZ := hid (lt_of_block HB.out)
  obtain ⟨z0, z1, z2, z3⟩ := four_of HB.out
  obtain ⟨f0, f1, f2, f3⟩ := four_free HB.out
  clear hx1
  go_wp2_with fail
  refine (HKD.out _ HX.out).mono ?_
  rintro e w2 ⟨rfl, hw2⟩
  rw [hw2]
  clear hw2 w2
  obtain ⟨o0, o1, o2, o3⟩ := H40.out _ HX.out
  have hgl := lt_of_cell o0
  clear o0 o1 o2
  have HBW := HB
  go_wp2_with fail
  clear o3 z0 z1 z2 z3 f0 f1 f2 f3
  go_loopw [12, 13] (fun q12 q13 wr => ∃ (j : Nat) (ao : Option Addr) (c1 : Nat), j ≤ n ∧ q13 = .int .i64 ((n : Int) - 1 - (j : Int)) ∧ q12 = .slice ao j c1 ∧ RIt wr bq (w.heap.size + 1) d' (.slice ao j c1) (ks.reverse.take j) ∧ wr.heap[w.heap.size]? = some (.cells #[.int .i64 0, .int .i64 0, .string ⟨#[]⟩, .slice none 0 0] 30) ∧ Ext w wr) (fun _ q13 _ => (intOf q13 + 1).toNat)
  case atStart => exact ⟨0, none, 0, Nat.zero_le _, by simp, rfl, RIt.nil _ _ _, HB.out, HX.out⟩
  case round =>
    obtain ⟨j, ao, c1, hj, rfl, rfl, hit, hbk, hx⟩ := hrel
    have HIT := hid hit
    have HBR := hid hbk
    have X := hid hx
    clear hit hbk hx HBW HB
    by_cases hlt : j < n
    · obtain ⟨i, hi⟩ : ∃ i : Nat, (n : Int) - 1 - (j : Int) = (i : Int) := ⟨n - 1 - j, by omega⟩
      have HIN := hid (show i = n - 1 - j by omega)
      have hil : i < ks.length := by have := HIN.out; rw [HNE.out]; omega
      have hi' : (i : Int) < (n : Int) := by omega
      obtain ⟨g0, o0', k', n', x', a', l', c', rfl, _, h4j, hrj⟩ := HKS.out.kid hil
      obtain ⟨r0, r1, r2, r3⟩ := Four.keep h4j (X.out.kp (fun _ => True)) trivial
      have HRJ := hid (hrj.later X.out)
      have hgl2 := lt_of_cell r0
      have HTS := hid (show ks.reverse.take j ++ [ks[i]] = ks.reverse.take (j + 1) from by
        have hjr : j < ks.reverse.length := by rw [List.length_reverse, HNE.out]; exact hlt
        rw [List.take_succ_eq_append_getElem hjr, List.getElem_reverse]
        congr 2
        congr 1
        have := HNE.out
        have := HIN.out
        omega)
      have HTL := hid (show (ks.reverse.take j).length = j by rw [List.length_take, List.length_reverse, HNE.out]; omega)
      clear h4j hrj
      generalize ks[i] = tj at *
      have HSB := hid (lt_of_block HBR.out)
      have HSR := hid (show SRow (wr.alloc (.cells #[.int .i64 k', .int .i64 n', .string x', .slice a' l' c'] 30)) bq d' (some ⟨wr.heap.size, 0, none⟩) [tj] from .inr ⟨_, 0, rfl, fun q hq => by
        obtain rfl : q = 0 := by simpa using hq
        obtain ⟨s0, s1, s2, s3⟩ := four_of (blk0 wr (.cells #[.int .i64 k', .int .i64 n', .string x', .slice a' l' c'] 30))
        exact ⟨_, _, _, _, ⟨s0, s1, s2, s3⟩, HRJ.out.later (Ext.alloc _ _)⟩⟩)
      have HIA := hid (HIT.out.later (Ext.alloc wr (.cells #[.int .i64 k', .int .i64 n', .string x', .slice a' l' c'] 30)))
      first | rw [hi] | skip
      go_wp2_with (at_builtin; refine app_rits rfl _ _ rfl rfl bq (w.heap.size + 1) d' _ (ks.reverse.take j) (some ⟨wr.heap.size, 0, none⟩) 1 1 [tj] rfl rfl rfl (by omega) (by rw [blkS]; have := HSB.out; omega) HIA.out HSR.out (by rw [HTL.out]; omega) (j + 1) (by rw [HTL.out]) (ks.reverse.take (j + 1)) HTS.out ?_; intro a9 c9 w9 hit9 hb9 _; have HI9 := hid hit9; have HB9' := hid hb9; clear hit9 hb9)
      go_roundw
      case rel =>
        have hsz := HSB.out
        refine ⟨j + 1, a9, c9, hlt, ?_, rfl, HI9.out, ?_, ?_⟩
        · congr 1
          omega
        · exact (HB9'.out.block w.heap.size (by omega)).trans (blkOld _ HBR.out)
        · exact Below.trans (X.out.trans (Ext.alloc _ _)) (HB9'.out.mono (by omega))
      case measure => simp [intOf]
    · obtain rfl : j = n := by omega
      have hlt3 : ¬ (0 : Int) ≤ (j : Int) - 1 - (j : Int) := by omega
      have hl2 : (j : Int) - 1 - (j : Int) < 0 := by omega
      have HTK := hid (show ks.reverse.take j = ks.reverse by rw [← HNE.out, ← List.length_reverse, List.take_length])
      rw [HTK.out] at HIT
      have HLR := hid (show ks.reverse.length = j by rw [List.length_reverse, HNE.out])
      have HWH := hid (whole_any (K := KB bq w.heap.size) c1 wr (HIT.out.rdl (fun x hx => by show x < bq ∨ w.heap.size < x; omega) (by rw [HLR.out]; omega)))
      rw [HLR.out] at HWH
      have HBW := HBR
      go_wp2_with fail
      refine HWH.out.mono ?_
      rintro e w4 ⟨R, rfl, hr, hx4⟩
      obtain ⟨pk, pn, px, pa, pl', pc, ec, ex, rfl⟩ := hr.shape
      have HR := hid hr
      have HX4 := hid (X.out.trans hx4)
      have HB4 := hid (hx4.block HBW.out)
      obtain ⟨z0, z1, z2, z3⟩ := four_of HB4.out
      obtain ⟨f0, f1, f2, f3⟩ := four_free HB4.out
      clear hr hx4
      go_wp2_with fail
      have HB2 := hid (four_set (u0 := .int .i64 pk) (u1 := .int .i64 pn) (u2 := .string px) (u3 := (.slice pa pl' pc)) HB4.out)
      have HKZ := hid (Kp.set4 w4 w.heap.size 0 (.int .i64 pk) (.int .i64 pn) (.string px) ((.slice pa pl' pc)))
      have HE := hid (HKZ.out.extOf HX4.out (Nat.le_refl _))
      obtain ⟨y0, y1, y2, y3⟩ := four_of HB2.out
      refine bodyPost_ret (v := .tuple #[.agg #[.int .i64 pk, .int .i64 pn, .string px, (.slice pa pl' pc)], .int .i64 ec, .string ex]) (by simp [results, Tryz.results7, go_sem, y0, y1, y2, y3]) rfl ?_
      first | exact ⟨_, rfl, (HR.out.keep (kb_keep hbq HKZ.out)), HE.out⟩ | exact ⟨_, rfl, (HR.out.keep (kb_keep hbq HKZ.out)), HE.out.drew⟩
set_option maxRecDepth 100000 in
set_option maxHeartbeats 4000000 in
theorem rwL_cut {d : Nat} (a : Option Addr) (c : Nat) (ks : List T) (i k : Int) (w : World) (bq : Nat) (hbq : bq ≤ w.heap.size) (h : RdL (· < bq) w d a [listT ks, intT i, intT k]) (hcap : CapL w a 3) (hV : askK listK nCut [listT ks, intT i, intT k] = 0) : Calls Tryz.prog 7 #[.string nCut, .slice a 3 c] w (WorkR bq (if i < 0 ∨ k < i ∨ (ks.length : Int) < k then .one 23 else lonF ((ks.take k.toNat).drop i.toNat)) w) := by
  obtain ⟨g, off, d', a0, c0, rfl, hg, h40, hks⟩ := arg_list (j := 0) h (show [listT ks, intT i, intT k][0]? = some (listT ks) from rfl)
  have H40 := hid (show ∀ w1, Ext w w1 → Four w1 g off (.int .i64 5) (.int .i64 0) (.string ⟨#[]⟩) (.slice a0 ks.length c0) from fun w1 hx => by
    have := Four.keep h40 (hx.kp (fun _ => True)) trivial
    rwa [Nat.zero_mul, Nat.add_zero] at this)
  have HKS := hid hks
  have hgw : g < w.heap.size := lt_of_cell h40.1
  have hlen := hks.1
  obtain ⟨ig, ioff, iq, il, ic, ea, h4i⟩ := arg_int (j := 1) h (show [listT ks, intT i, intT k][1]? = some (intT i) from rfl)
  obtain ⟨rfl, rfl⟩ : g = ig ∧ off = ioff := by injection ea with ea; injection ea with ea eb; exact ⟨ea, eb⟩
  clear ea
  have H4i := hid (show ∀ w1, Ext w w1 → Four w1 g (off + 4) (.int .i64 3) (.int .i64 i) (.string ⟨#[]⟩) (.slice iq il ic) from fun w1 hx => Four.keep h4i (hx.kp (fun _ => True)) trivial)
  clear h4i
  obtain ⟨kg, koff, kq, kl, kc, ea, h4k⟩ := arg_int (j := 2) h (show [listT ks, intT i, intT k][2]? = some (intT k) from rfl)
  obtain ⟨rfl, rfl⟩ : g = kg ∧ off = koff := by injection ea with ea; injection ea with ea eb; exact ⟨ea, eb⟩
  clear ea
  have H4k := hid (show ∀ w1, Ext w w1 → Four w1 g (off + 8) (.int .i64 3) (.int .i64 k) (.string ⟨#[]⟩) (.slice kq kl kc) from fun w1 hx => Four.keep h4k (hx.kp (fun _ => True)) trivial)
  clear h4k
  have HA := hid (show ∀ w1, Ext w w1 → Calls Tryz.prog 19 #[.string nCut, .slice (some ⟨g, off, none⟩) 3 c] w1 (fun e w' => e = .returned (.int .i64 0) ∧ Ext w1 w') from fun w1 hx => by
    have := mayL_any (K := (· < bq)) (d := d) nCut (some ⟨g, off, none⟩) c [listT ks, intT i, intT k] w1 (h.keep (hx.kp _))
    rwa [hV] at this)
  have HKD := hid (show ∀ w1, Ext w w1 → Calls Tryz.prog 20 #[.string nCut, .slice (some ⟨g, off, none⟩) 3 c] w1 (fun e w' => e = .returned (.bool true) ∧ w' = w1) from fun w1 hx => kdRCut g off c 5 3 3 w1 (H40.out w1 hx).1 (H4i.out w1 hx).1 (H4k.out w1 hx).1)
  have hlc : ks.length ≤ c0 := hcap g off rfl 0 (by decide) a0 ks.length c0 h40.2.2.2
  clear h hV h40 hks hg hcap
  unfold nCut at *
  by_cases b1 : i < 0
  case pos =>
    rw [if_pos (.inl b1)]
    generalize ks.length = n at *
    have hn' : (n : Int) ≤ 140737488351232 := by omega
    go_enter Tryz.func7, Tryz.ntmps7
    go_wp2_with fail
    refine (HA.out _ (Ext.alloc _ _)).mono ?_
    rintro e w1 ⟨rfl, hx1⟩
    have HX := hid ((Ext.alloc w (.cells #[.int .i64 0, .int .i64 0, .string ⟨#[]⟩, .slice none 0 0] 30)).trans hx1)
    have HB := hid (hx1.block (blk0 w (.cells #[.int .i64 0, .int .i64 0, .string ⟨#[]⟩, .slice none 0 0] 30)))
    have HSZ := hid (lt_of_block HB.out)
    obtain ⟨z0, z1, z2, z3⟩ := four_of HB.out
    obtain ⟨f0, f1, f2, f3⟩ := four_free HB.out
    clear hx1
    go_wp2_with fail
    refine (HKD.out _ HX.out).mono ?_
    rintro e w2 ⟨rfl, hw2⟩
    rw [hw2]
    clear hw2 w2
    obtain ⟨o0, o1, o2, o3⟩ := H40.out _ HX.out
    obtain ⟨p0, p1, p2, p3⟩ := H4i.out _ HX.out
    obtain ⟨q0, q1, q2, q3⟩ := H4k.out _ HX.out
    have hgl := lt_of_cell o0
    clear o0 o1 o2 p0 p2 p3 q0 q2 q3
    go_wp2_with fail
    go_quiet (fail)
    have HXq := hid (HX.out.drewN nq)
    have HBq := hid (show (w1.drewN nq).heap[w.heap.size]? = some (.cells #[.int .i64 0, .int .i64 0, .string ⟨#[]⟩, .slice none 0 0] 30) from HB.out)
    go_wp2_with fail
    have HB2 := hid (four_set (u0 := .int .i64 0) (u1 := .int .i64 0) (u2 := .string ⟨#[]⟩) (u3 := .slice none 0 0) HBq.out)
    have HKZ := hid (Kp.set4 (w1.drewN nq) w.heap.size 0 (.int .i64 0) (.int .i64 0) (.string ⟨#[]⟩) (.slice none 0 0))
    have HE := hid (HKZ.out.extOf HXq.out (Nat.le_refl _))
    obtain ⟨y0, y1, y2, y3⟩ := four_of HB2.out
    refine bodyPost_ret (v := .tuple #[.agg #[.int .i64 0, .int .i64 0, .string ⟨#[]⟩, .slice none 0 0], .int .i64 23, .string ⟨#[]⟩]) (by simp [results, Tryz.results7, go_sem, y0, y1, y2, y3]) rfl ?_
    first | exact ⟨_, rfl, rfl, HE.out⟩ | exact ⟨_, rfl, rfl, HE.out.drew⟩
  by_cases b2 : k < i
  case pos =>
    rw [if_pos (.inr (.inl b2))]
    generalize ks.length = n at *
    have hn' : (n : Int) ≤ 140737488351232 := by omega
    go_enter Tryz.func7, Tryz.ntmps7
    go_wp2_with fail
    refine (HA.out _ (Ext.alloc _ _)).mono ?_
    rintro e w1 ⟨rfl, hx1⟩
    have HX := hid ((Ext.alloc w (.cells #[.int .i64 0, .int .i64 0, .string ⟨#[]⟩, .slice none 0 0] 30)).trans hx1)
    have HB := hid (hx1.block (blk0 w (.cells #[.int .i64 0, .int .i64 0, .string ⟨#[]⟩, .slice none 0 0] 30)))
    have HSZ := hid (lt_of_block HB.out)
    obtain ⟨z0, z1, z2, z3⟩ := four_of HB.out
    obtain ⟨f0, f1, f2, f3⟩ := four_free HB.out
    clear hx1
    go_wp2_with fail
    refine (HKD.out _ HX.out).mono ?_
    rintro e w2 ⟨rfl, hw2⟩
    rw [hw2]
    clear hw2 w2
    obtain ⟨o0, o1, o2, o3⟩ := H40.out _ HX.out
    obtain ⟨p0, p1, p2, p3⟩ := H4i.out _ HX.out
    obtain ⟨q0, q1, q2, q3⟩ := H4k.out _ HX.out
    have hgl := lt_of_cell o0
    clear o0 o1 o2 p0 p2 p3 q0 q2 q3
    go_wp2_with fail
    go_quiet (fail)
    have HXq := hid (HX.out.drewN nq)
    have HBq := hid (show (w1.drewN nq).heap[w.heap.size]? = some (.cells #[.int .i64 0, .int .i64 0, .string ⟨#[]⟩, .slice none 0 0] 30) from HB.out)
    go_wp2_with fail
    have HB2 := hid (four_set (u0 := .int .i64 0) (u1 := .int .i64 0) (u2 := .string ⟨#[]⟩) (u3 := .slice none 0 0) HBq.out)
    have HKZ := hid (Kp.set4 (w1.drewN nq) w.heap.size 0 (.int .i64 0) (.int .i64 0) (.string ⟨#[]⟩) (.slice none 0 0))
    have HE := hid (HKZ.out.extOf HXq.out (Nat.le_refl _))
    obtain ⟨y0, y1, y2, y3⟩ := four_of HB2.out
    refine bodyPost_ret (v := .tuple #[.agg #[.int .i64 0, .int .i64 0, .string ⟨#[]⟩, .slice none 0 0], .int .i64 23, .string ⟨#[]⟩]) (by simp [results, Tryz.results7, go_sem, y0, y1, y2, y3]) rfl ?_
    first | exact ⟨_, rfl, rfl, HE.out⟩ | exact ⟨_, rfl, rfl, HE.out.drew⟩
  by_cases b3 : (ks.length : Int) < k
  case pos =>
    rw [if_pos (.inr (.inr b3))]
    generalize ks.length = n at *
    have hn' : (n : Int) ≤ 140737488351232 := by omega
    go_enter Tryz.func7, Tryz.ntmps7
    go_wp2_with fail
    refine (HA.out _ (Ext.alloc _ _)).mono ?_
    rintro e w1 ⟨rfl, hx1⟩
    have HX := hid ((Ext.alloc w (.cells #[.int .i64 0, .int .i64 0, .string ⟨#[]⟩, .slice none 0 0] 30)).trans hx1)
    have HB := hid (hx1.block (blk0 w (.cells #[.int .i64 0, .int .i64 0, .string ⟨#[]⟩, .slice none 0 0] 30)))
    have HSZ := hid (lt_of_block HB.out)
    obtain ⟨z0, z1, z2, z3⟩ := four_of HB.out
    obtain ⟨f0, f1, f2, f3⟩ := four_free HB.out
    clear hx1
    go_wp2_with fail
    refine (HKD.out _ HX.out).mono ?_
    rintro e w2 ⟨rfl, hw2⟩
    rw [hw2]
    clear hw2 w2
    obtain ⟨o0, o1, o2, o3⟩ := H40.out _ HX.out
    obtain ⟨p0, p1, p2, p3⟩ := H4i.out _ HX.out
    obtain ⟨q0, q1, q2, q3⟩ := H4k.out _ HX.out
    have hgl := lt_of_cell o0
    clear o0 o1 o2 p0 p2 p3 q0 q2 q3
    go_wp2_with fail
    go_quiet (fail)
    have HXq := hid (HX.out.drewN nq)
    have HBq := hid (show (w1.drewN nq).heap[w.heap.size]? = some (.cells #[.int .i64 0, .int .i64 0, .string ⟨#[]⟩, .slice none 0 0] 30) from HB.out)
    go_wp2_with fail
    have HB2 := hid (four_set (u0 := .int .i64 0) (u1 := .int .i64 0) (u2 := .string ⟨#[]⟩) (u3 := .slice none 0 0) HBq.out)
    have HKZ := hid (Kp.set4 (w1.drewN nq) w.heap.size 0 (.int .i64 0) (.int .i64 0) (.string ⟨#[]⟩) (.slice none 0 0))
    have HE := hid (HKZ.out.extOf HXq.out (Nat.le_refl _))
    obtain ⟨y0, y1, y2, y3⟩ := four_of HB2.out
    refine bodyPost_ret (v := .tuple #[.agg #[.int .i64 0, .int .i64 0, .string ⟨#[]⟩, .slice none 0 0], .int .i64 23, .string ⟨#[]⟩]) (by simp [results, Tryz.results7, go_sem, y0, y1, y2, y3]) rfl ?_
    first | exact ⟨_, rfl, rfl, HE.out⟩ | exact ⟨_, rfl, rfl, HE.out.drew⟩
  rw [if_neg (fun h => h.elim b1 (fun h => h.elim b2 b3))]
  obtain ⟨i, rfl⟩ : ∃ j : Nat, i = (j : Int) := ⟨i.toNat, by omega⟩
  obtain ⟨k, rfl⟩ : ∃ j : Nat, k = (j : Int) := ⟨k.toNat, by omega⟩
  rw [Int.toNat_natCast, Int.toNat_natCast]
  have hik : i ≤ k := by omega
  have hkl : k ≤ ks.length := by omega
  have HLN := hid (show ((ks.take k).drop i).length = k - i by rw [List.length_drop, List.length_take]; omega)
  have HSW := hid (show ∀ w1, Ext w w1 → SRow w1 bq d' a0 ks from fun w1 hx => (rdl_srow HKS.out).later hx)
  have HS1 := hid (show ∀ w1 g0 o0', Ext w w1 → a0 = some ⟨g0, o0', none⟩ → SRow w1 bq d' (some ⟨g0, o0' + i * 4, none⟩) ((ks.take k).drop i) from fun w1 g0 o0' hx e => by
    rcases HSW.out w1 hx with h | ⟨g1, o1, e1, hc⟩
    · exact .inl (by rw [h]; simp)
    · rw [e] at e1
      injection e1 with e1
      injection e1 with e1 e2
      subst e1; subst e2
      refine .inr ⟨_, _, rfl, fun j hj => ?_⟩
      rw [List.length_drop, List.length_take] at hj
      obtain ⟨u0, u1, u2, u3, h4, hr⟩ := hc (i + j) (by omega)
      refine ⟨u0, u1, u2, u3, ?_, ?_⟩
      · rw [show o0' + i * 4 + j * 4 = o0' + (i + j) * 4 by omega]
        exact h4
      · rw [List.getElem_drop, List.getElem_take]
        exact hr)
  have HS2 := hid (show ∀ (w1 : World) q, i = k → SRow w1 bq d' q ((ks.take k).drop i) from fun w1 q e => .inl (List.eq_nil_of_length_eq_zero (by rw [HLN.out]; omega)))
  have HZ := hid (show ks.length = 0 → ∀ (w1 : World) q, SRow w1 bq d' q ((ks.take k).drop i) from fun e w1 q => .inl (by rw [List.eq_nil_of_length_eq_zero e]; simp))
  have HP := hid (show 0 < ks.length → ∃ g0 o0', a0 = some ⟨g0, o0', none⟩ from fun e => by
    rcases HKS.out.2 with h | ⟨g0, o0', h, _⟩
    · rw [h] at e; exact absurd e (by decide)
    · exact ⟨g0, o0', h⟩)
  clear HKS HSW
  generalize ks.length = n at *
  have hn' : (n : Int) ≤ 140737488351232 := by omega
  have i1 : ¬ (i : Int) < 0 := b1
  have i2 : ¬ (k : Int) < (i : Int) := b2
  have i3 : ¬ (n : Int) < (k : Int) := b3
  have i5 : (i : Int) ≤ (k : Int) := by omega
  have i6 : (k : Int) ≤ (n : Int) := by omega
  have i7 : (n : Int) ≤ (c0 : Int) := by omega
  have j1 : ¬ k < i := by omega
  have j2 : ¬ n < k := by omega
  clear b1 b2 b3
  go_enter Tryz.func7, Tryz.ntmps7
  go_wp2_with fail
  refine (HA.out _ (Ext.alloc _ _)).mono ?_
  rintro e w1 ⟨rfl, hx1⟩
  have HX := hid ((Ext.alloc w (.cells #[.int .i64 0, .int .i64 0, .string ⟨#[]⟩, .slice none 0 0] 30)).trans hx1)
  have HB := hid (hx1.block (blk0 w (.cells #[.int .i64 0, .int .i64 0, .string ⟨#[]⟩, .slice none 0 0] 30)))
  have HSZ := hid (lt_of_block HB.out)
  obtain ⟨z0, z1, z2, z3⟩ := four_of HB.out
  obtain ⟨f0, f1, f2, f3⟩ := four_free HB.out
  clear hx1
  go_wp2_with fail
  refine (HKD.out _ HX.out).mono ?_
  rintro e w2 ⟨rfl, hw2⟩
  rw [hw2]
  clear hw2 w2
  obtain ⟨o0, o1, o2, o3⟩ := H40.out _ HX.out
  obtain ⟨p0, p1, p2, p3⟩ := H4i.out _ HX.out
  obtain ⟨q0, q1, q2, q3⟩ := H4k.out _ HX.out
  have hgl := lt_of_cell o0
  clear o0 o1 o2 p0 p2 p3 q0 q2 q3
  go_wp2_with fail
  go_quiet (fail)
  have HXq := hid (HX.out.drewN nq)
  have HBq := hid (show (w1.drewN nq).heap[w.heap.size]? = some (.cells #[.int .i64 0, .int .i64 0, .string ⟨#[]⟩, .slice none 0 0] 30) from HB.out)
  go_upto_region 27 with fail
  have HXW := hid HXq.out
  have HBW0 := hid HBq.out
  rcases Nat.eq_zero_or_pos n with hn0 | hn0
  case inl =>
    rw [show (ks.take k).drop i = [] from List.eq_nil_of_length_eq_zero (by rw [HLN.out]; omega)]
    obtain rfl : k = 0 := by omega
    obtain rfl : i = 0 := by omega
    subst hn0
    cases a0 with
    | none =>
      have HWH := hid (fun W (hx : Ext w W) (hb : W.heap[w.heap.size]? = some (.cells #[.int .i64 0, .int .i64 0, .string ⟨#[]⟩, .slice none 0 0] 30)) q cq (hi : RIt W bq (w.heap.size + 1) d' (.slice q 0 cq) []) => whole_any (K := KB bq w.heap.size) cq W (hi.rdl (fun x hx => by show x < bq ∨ w.heap.size < x; omega) (by decide)))
      go_wp2_with (at_builtin; refine app_rits rfl _ _ rfl rfl bq (w.heap.size + 1) d' (.slice none 0 0) [] _ 0 _ [] rfl rfl rfl (by omega) (by have := HSZ.out; exact this) (RIt.nil _ _ _) (.inl rfl) (by decide) 0 rfl [] rfl ?_; intro a9 c9 w9 hit9 _ hx9; have HI9 := hid hit9; have X9 := hid (hx9 rfl); clear hit9 hx9)
      have HBW := hid (X9.out.block HBW0.out)
      clear z0 z1 z2 z3 f0 f1 f2 f3
      refine (HWH.out _ (HXW.out.trans X9.out) HBW.out _ _ HI9.out).mono ?_
      rintro e w4 ⟨R, rfl, hr, hx4⟩
      obtain ⟨pk, pn, px, pa, pl', pc, ec, ex, rfl⟩ := hr.shape
      have HR := hid hr
      have HX4 := hid ((HXW.out.trans X9.out).trans hx4)
      have HB4 := hid (hx4.block HBW.out)
      obtain ⟨z0, z1, z2, z3⟩ := four_of HB4.out
      obtain ⟨f0, f1, f2, f3⟩ := four_free HB4.out
      clear hr hx4
      go_wp2_with fail
      have HB2 := hid (four_set (u0 := .int .i64 pk) (u1 := .int .i64 pn) (u2 := .string px) (u3 := (.slice pa pl' pc)) HB4.out)
      have HKZ := hid (Kp.set4 w4 w.heap.size 0 (.int .i64 pk) (.int .i64 pn) (.string px) ((.slice pa pl' pc)))
      have HE := hid (HKZ.out.extOf HX4.out (Nat.le_refl _))
      obtain ⟨y0, y1, y2, y3⟩ := four_of HB2.out
      refine bodyPost_ret (v := .tuple #[.agg #[.int .i64 pk, .int .i64 pn, .string px, (.slice pa pl' pc)], .int .i64 ec, .string ex]) (by simp [results, Tryz.results7, go_sem, y0, y1, y2, y3]) rfl ?_
      first | exact ⟨_, rfl, (HR.out.keep (kb_keep hbq HKZ.out)), HE.out⟩ | exact ⟨_, rfl, (HR.out.keep (kb_keep hbq HKZ.out)), HE.out.drew⟩
    | some ad =>
      have HWH := hid (fun W (hx : Ext w W) (hb : W.heap[w.heap.size]? = some (.cells #[.int .i64 0, .int .i64 0, .string ⟨#[]⟩, .slice none 0 0] 30)) q cq (hi : RIt W bq (w.heap.size + 1) d' (.slice q 0 cq) []) => whole_any (K := KB bq w.heap.size) cq W (hi.rdl (fun x hx => by show x < bq ∨ w.heap.size < x; omega) (by decide)))
      go_wp2_with (at_builtin; refine app_rits rfl _ _ rfl rfl bq (w.heap.size + 1) d' (.slice none 0 0) [] _ 0 _ [] rfl rfl rfl (by omega) (by have := HSZ.out; exact this) (RIt.nil _ _ _) (.inl rfl) (by decide) 0 rfl [] rfl ?_; intro a9 c9 w9 hit9 _ hx9; have HI9 := hid hit9; have X9 := hid (hx9 rfl); clear hit9 hx9)
      have HBW := hid (X9.out.block HBW0.out)
      clear z0 z1 z2 z3 f0 f1 f2 f3
      refine (HWH.out _ (HXW.out.trans X9.out) HBW.out _ _ HI9.out).mono ?_
      rintro e w4 ⟨R, rfl, hr, hx4⟩
      obtain ⟨pk, pn, px, pa, pl', pc, ec, ex, rfl⟩ := hr.shape
      have HR := hid hr
      have HX4 := hid ((HXW.out.trans X9.out).trans hx4)
      have HB4 := hid (hx4.block HBW.out)
      obtain ⟨z0, z1, z2, z3⟩ := four_of HB4.out
      obtain ⟨f0, f1, f2, f3⟩ := four_free HB4.out
      clear hr hx4
      go_wp2_with fail
      have HB2 := hid (four_set (u0 := .int .i64 pk) (u1 := .int .i64 pn) (u2 := .string px) (u3 := (.slice pa pl' pc)) HB4.out)
      have HKZ := hid (Kp.set4 w4 w.heap.size 0 (.int .i64 pk) (.int .i64 pn) (.string px) ((.slice pa pl' pc)))
      have HE := hid (HKZ.out.extOf HX4.out (Nat.le_refl _))
      obtain ⟨y0, y1, y2, y3⟩ := four_of HB2.out
      refine bodyPost_ret (v := .tuple #[.agg #[.int .i64 pk, .int .i64 pn, .string px, (.slice pa pl' pc)], .int .i64 ec, .string ex]) (by simp [results, Tryz.results7, go_sem, y0, y1, y2, y3]) rfl ?_
      first | exact ⟨_, rfl, (HR.out.keep (kb_keep hbq HKZ.out)), HE.out⟩ | exact ⟨_, rfl, (HR.out.keep (kb_keep hbq HKZ.out)), HE.out.drew⟩
  obtain ⟨g0, o0', rfl⟩ := HP.out hn0
  by_cases hci : c0 = i
  case pos =>
    obtain rfl : k = i := by omega
    subst hci
    have HE0 := hid (show (ks.take c0).drop c0 = [] from List.eq_nil_of_length_eq_zero (by rw [List.length_drop, List.length_take]; omega))
    have HWH := hid (fun W (hx : Ext w W) (hb : W.heap[w.heap.size]? = some (.cells #[.int .i64 0, .int .i64 0, .string ⟨#[]⟩, .slice none 0 0] 30)) q cq (hi : RIt W bq (w.heap.size + 1) d' (.slice q 0 cq) []) => whole_any (K := KB bq w.heap.size) cq W (hi.rdl (fun x hx => by show x < bq ∨ w.heap.size < x; omega) (by decide)))
    go_wp2_with (at_builtin; refine app_rits rfl _ _ rfl rfl bq (w.heap.size + 1) d' (.slice none 0 0) [] _ 0 _ [] rfl rfl rfl (by omega) (by have := HSZ.out; exact this) (RIt.nil _ _ _) (.inl rfl) (by decide) 0 rfl [] rfl ?_; intro a9 c9 w9 hit9 _ hx9; have HI9 := hid hit9; have X9 := hid (hx9 rfl); clear hit9 hx9)
    have HBW := hid (X9.out.block HBW0.out)
    clear z0 z1 z2 z3 f0 f1 f2 f3
    refine (HWH.out _ (HXW.out.trans X9.out) HBW.out _ _ HI9.out).mono ?_
    rintro e w4 ⟨R, rfl, hr, hx4⟩
    obtain ⟨pk, pn, px, pa, pl', pc, ec, ex, rfl⟩ := hr.shape
    have HR := hid hr
    have HX4 := hid ((HXW.out.trans X9.out).trans hx4)
    have HB4 := hid (hx4.block HBW.out)
    obtain ⟨z0, z1, z2, z3⟩ := four_of HB4.out
    obtain ⟨f0, f1, f2, f3⟩ := four_free HB4.out
    clear hr hx4
    go_wp2_with fail
    have HB2 := hid (four_set (u0 := .int .i64 pk) (u1 := .int .i64 pn) (u2 := .string px) (u3 := (.slice pa pl' pc)) HB4.out)
    have HKZ := hid (Kp.set4 w4 w.heap.size 0 (.int .i64 pk) (.int .i64 pn) (.string px) ((.slice pa pl' pc)))
    have HE := hid (HKZ.out.extOf HX4.out (Nat.le_refl _))
    obtain ⟨y0, y1, y2, y3⟩ := four_of HB2.out
    refine bodyPost_ret (v := .tuple #[.agg #[.int .i64 pk, .int .i64 pn, .string px, (.slice pa pl' pc)], .int .i64 ec, .string ex]) (by simp [results, Tryz.results7, go_sem, y0, y1, y2, y3]) rfl ?_
    first | exact ⟨_, rfl, (by rw [HE0.out]; exact (HR.out.keep (kb_keep hbq HKZ.out))), HE.out⟩ | exact ⟨_, rfl, (by rw [HE0.out]; exact (HR.out.keep (kb_keep hbq HKZ.out))), HE.out.drew⟩
  have hc2 : ¬ (c0 - i = 0) := by omega
  have hc3 : ¬ c0 ≤ i := by omega
  have hc4 : i < c0 := by omega
  have hc5 : ¬ i = c0 := by omega
  go_wp2_with (at_builtin; refine app_rits rfl _ _ rfl rfl bq (w.heap.size + 1) d' (.slice none 0 0) [] (some ⟨g0, o0' + i * 4, none⟩) (k - i) (c0 - i) ((ks.take k).drop i) rfl rfl HLN.out (by omega) (by have := HSZ.out; exact this) (RIt.nil _ _ _) (HS1.out _ g0 o0' HXW.out rfl) (by rw [List.length_nil]; omega) (k - i) (by rw [List.length_nil, Nat.zero_add]) ((ks.take k).drop i) (List.nil_append _) ?_; intro a9 c9 w9 hit9 _ hx9; have HI9 := hid hit9; have X9 := hid (hx9 rfl); clear hit9 hx9)
  have HBW := hid (X9.out.block HBW0.out)
  have HWH := hid (whole_any (K := KB bq w.heap.size) c9 w9 (HI9.out.rdl (fun x hx => by show x < bq ∨ w.heap.size < x; omega) (by rw [HLN.out]; omega)))
  rw [HLN.out] at HWH
  clear z0 z1 z2 z3 f0 f1 f2 f3
  refine HWH.out.mono ?_
  rintro e w4 ⟨R, rfl, hr, hx4⟩
  obtain ⟨pk, pn, px, pa, pl', pc, ec, ex, rfl⟩ := hr.shape
  have HR := hid hr
  have HX4 := hid ((HXW.out.trans X9.out).trans hx4)
  have HB4 := hid (hx4.block HBW.out)
  obtain ⟨z0, z1, z2, z3⟩ := four_of HB4.out
  obtain ⟨f0, f1, f2, f3⟩ := four_free HB4.out
  clear hr hx4
  go_wp2_with fail
  have HB2 := hid (four_set (u0 := .int .i64 pk) (u1 := .int .i64 pn) (u2 := .string px) (u3 := (.slice pa pl' pc)) HB4.out)
  have HKZ := hid (Kp.set4 w4 w.heap.size 0 (.int .i64 pk) (.int .i64 pn) (.string px) ((.slice pa pl' pc)))
  have HE := hid (HKZ.out.extOf HX4.out (Nat.le_refl _))
  obtain ⟨y0, y1, y2, y3⟩ := four_of HB2.out
  refine bodyPost_ret (v := .tuple #[.agg #[.int .i64 pk, .int .i64 pn, .string px, (.slice pa pl' pc)], .int .i64 ec, .string ex]) (by simp [results, Tryz.results7, go_sem, y0, y1, y2, y3]) rfl ?_
  first | exact ⟨_, rfl, (HR.out.keep (kb_keep hbq HKZ.out)), HE.out⟩ | exact ⟨_, rfl, (HR.out.keep (kb_keep hbq HKZ.out)), HE.out.drew⟩

end Go.Proofs.YtaafcmmmkalgjaaGreatDoor
/-
  espalierref11.Work: join, add; by contracts.
-/
namespace Go.Proofs.YtaafcmmmkalgjaaGreatDoor
open Go.RowKit
theorem rdl_deeper {K : Nat → Prop} {w : World} {d : Nat} {a : Option Addr} {ks : List T} (h : RdL K w d a ks) : RdL K w (d + 1) a ks :=
  ⟨h.1, h.2.imp id fun ⟨g, off, ha, hg, hc⟩ => ⟨g, off, ha, hg, fun j hj => by
    obtain ⟨u0, u1, u2, u3, h4, hr⟩ := hc j hj
    exact ⟨u0, u1, u2, u3, h4, hr.deeper⟩⟩⟩
theorem arg_listU {K : Nat → Prop} {w : World} {d : Nat} {a : Option Addr} {ts : List T} (h : RdL K w d a ts) {j : Nat} {ks : List T} (ht : ts[j]? = some (listT ks)) : ∃ g off a0 c0, a = some ⟨g, off, none⟩ ∧ Four w g (off + j * 4) (.int .i64 5) (.int .i64 0) (.string ⟨#[]⟩) (.slice a0 ks.length c0) ∧ RdL K w d a0 ks := by
  obtain ⟨g, off, k, n, x, a0, l0, c0, ha, hg, h4, hr⟩ := arg_any h ht
  cases d with
  | zero => exact hr.elim
  | succ d =>
    obtain ⟨a1, c1, e, hk⟩ := Rd.kidsL (show Rd K w (d + 1) _ (.node 5 0 ⟨#[]⟩ ks) from hr)
    simp only [Value.agg.injEq, Array.mk.injEq, List.cons.injEq, and_true, Value.int.injEq, Value.string.injEq, true_and] at e
    obtain ⟨rfl, rfl, rfl, e4⟩ := e
    rw [e4] at h4
    exact ⟨g, off, a1, c1, ha, h4, rdl_deeper hk⟩
theorem keep_set {w : World} {B g o : Nat} {v u0 u1 u2 u3 : Value} (h : w.cell? ⟨g, o, none⟩ = some v) (hne : g ≠ B) : ((((w.setCell ⟨B, 0, none⟩ u0).setCell ⟨B, 1, none⟩ u1).setCell ⟨B, 2, none⟩ u2).setCell ⟨B, 3, none⟩ u3).cell? ⟨g, o, none⟩ = some v := (Kp.set4 w B 0 u0 u1 u2 u3).cell h hne
set_option maxRecDepth 100000 in
set_option maxHeartbeats 4000000 in
theorem rwL_join {d : Nat} (a : Option Addr) (c : Nat) (ks ls : List T) (w : World) (bq : Nat) (hbq : bq ≤ w.heap.size) (h : RdL (· < bq) w d a [listT ks, listT ls]) (hn : ks.length + ls.length ≤ 1000000) (hV : askK listK nJoin [listT ks, listT ls] = 0) : Calls Tryz.prog 7 #[.string nJoin, .slice a 2 c] w (WorkR bq (lonF (ks ++ ls)) w) := by
  obtain ⟨g, off, a0, c0, rfl, h40, hks⟩ := arg_listU (j := 0) h (show [listT ks, listT ls][0]? = some (listT ks) from rfl)
  obtain ⟨g1, off1, a1, c1, ea, h41, hls⟩ := arg_listU (j := 1) h (show [listT ks, listT ls][1]? = some (listT ls) from rfl)
  obtain ⟨rfl, rfl⟩ : g = g1 ∧ off = off1 := by injection ea with ea; injection ea with ea eb; exact ⟨ea, eb⟩
  clear ea
  have H40 := hid (show ∀ w1, Ext w w1 → Four w1 g off (.int .i64 5) (.int .i64 0) (.string ⟨#[]⟩) (.slice a0 ks.length c0) from fun w1 hx => by
    have := Four.keep h40 (hx.kp (fun _ => True)) trivial
    rwa [Nat.zero_mul, Nat.add_zero] at this)
  have H41 := hid (show ∀ w1, Ext w w1 → Four w1 g (off + 4) (.int .i64 5) (.int .i64 0) (.string ⟨#[]⟩) (.slice a1 ls.length c1) from fun w1 hx => Four.keep h41 (hx.kp (fun _ => True)) trivial)
  have HS0 := hid (show ∀ w1, Ext w w1 → SRow w1 bq d a0 ks from fun w1 hx => (rdl_srow hks).later hx)
  have HS1 := hid (show ∀ w1, Ext w w1 → SRow w1 bq d a1 ls from fun w1 hx => (rdl_srow hls).later hx)
  have hgw : g ≠ w.heap.size := by have h : g < w.heap.size := lt_of_cell h40.1; omega
  have HWH := hid (show ∀ (W : World) q cq, RIt W bq (w.heap.size + 1) d (.slice q (ks.length + ls.length) cq) (ks ++ ls) → Calls Tryz.prog 21 #[.slice q (ks.length + ls.length) cq] W fun e w' => ∃ R, e = .returned R ∧ AnsK (KB bq w.heap.size) (lonF (ks ++ ls)) w' R ∧ Ext W w' from fun W q cq hi => by
    have := whole_any (K := KB bq w.heap.size) cq W (hi.rdl (fun x hx => by show x < bq ∨ w.heap.size < x; omega) (by rw [List.length_append]; omega))
    rwa [List.length_append] at this)
  have HA := hid (show ∀ w1, Ext w w1 → Calls Tryz.prog 19 #[.string nJoin, .slice (some ⟨g, off, none⟩) 2 c] w1 (fun e w' => e = .returned (.int .i64 0) ∧ Ext w1 w') from fun w1 hx => by
    have := mayL_any (K := (· < bq)) (d := d) nJoin (some ⟨g, off, none⟩) c [listT ks, listT ls] w1 (h.keep (hx.kp _))
    rwa [hV] at this)
  have HKD := hid (show ∀ w1, Ext w w1 → Calls Tryz.prog 20 #[.string nJoin, .slice (some ⟨g, off, none⟩) 2 c] w1 (fun e w' => e = .returned (.bool true) ∧ w' = w1) from fun w1 hx => kdRJoin g off c 5 5 w1 (H40.out w1 hx).1 (H41.out w1 hx).1)
  clear h hV h40 h41 hks hls
  obtain ⟨n, hne⟩ : ∃ n, ks.length = n := ⟨_, rfl⟩
  have HN0 := hid hne
  obtain ⟨m, hme⟩ : ∃ m, ls.length = m := ⟨_, rfl⟩
  have HN1 := hid hme
  rw [hne, hme] at HWH
  rw [hne] at H40
  rw [hme] at H41
  rw [hne, hme] at hn
  clear hne hme
  have hn' : (n : Int) ≤ 1000000 := by omega
  have hm' : (m : Int) ≤ 1000000 := by omega
  unfold nJoin at *
  go_enter Tryz.func7, Tryz.ntmps7
  go_wp2_with fail
  refine (HA.out _ (Ext.alloc _ _)).mono ?_
  rintro e w1 ⟨rfl, hx1⟩
  have HX := hid ((Ext.alloc w (.cells #[.int .i64 0, .int .i64 0, .string ⟨#[]⟩, .slice none 0 0] 30)).trans hx1)
  have HB := hid (hx1.block (blk0 w (.cells #[.int .i64 0, .int .i64 0, .string ⟨#[]⟩, .slice none 0 0] 30)))
  have HSZ := hid (lt_of_block HB.out)
  obtain ⟨z0, z1, z2, z3⟩ := four_of HB.out
  obtain ⟨f0, f1, f2, f3⟩ := four_free HB.out
  clear hx1
  go_wp2_with fail
  refine (HKD.out _ HX.out).mono ?_
  rintro e w2 ⟨rfl, hw2⟩
  rw [hw2]
  clear hw2 w2
  obtain ⟨o0, o1, o2, o3⟩ := H40.out _ HX.out
  have hgl := lt_of_cell o0
  clear o0 o1 o2
  go_upto_region 20 with fail
  clear o3 z0 z1 z2 z3 f0 f1 f2 f3
  have HSK := hid (show ∀ W', Ext w W' → W'.cell? ⟨g, off + 4 + 3, none⟩ = some (.slice a1 m c1) from fun W' hx => (H41.out W' hx).2.2.2)
  have XW := HX.out
  go_region_held3 (fun W' => W'.cell? ⟨g, off + 4 + 3, none⟩ = some (.slice a1 m c1))
    (first | (refine HSK.out _ ?_; (repeat (first | with_reducible exact Z9 | with_reducible exact Z5 | with_reducible exact Z4 | with_reducible exact XW | with_reducible refine Ext.drew ?_ | with_reducible refine Ext.more ?_ _)); done) | (with_reducible refine keep_set (HSK.out _ ?_) hgw; with_reducible exact Z9) | (simp only [World.cell?_drew]; with_reducible refine keep_set (HSK.out _ ?_) hgw; with_reducible exact Z9))
    (first
      | (refine step_rits _ (by rfl) _ _ (by rfl) (by rfl) bq (w.heap.size + 1) d (.slice none 0 0) [] a0 n c0 ks (by rfl) (by rfl) HN0.out (by omega) (by have := HSZ.out; exact this) (RIt.nil _ _ _) (HS0.out _ (by repeat (first | with_reducible exact XW | with_reducible refine Ext.drew ?_ | with_reducible refine Ext.more ?_ _))) (by rw [List.length_nil]; omega) n (by rw [List.length_nil, Nat.zero_add]) ks (List.nil_append _) ?_; intro a4 c4 w4 hi4 _ hx4; have Z4 : Ext w w4 := Ext.trans (by repeat (first | with_reducible exact XW | with_reducible refine Ext.drew ?_ | with_reducible refine Ext.more ?_ _)) (hx4 rfl); have HI4 := hid hi4; have HB4 := hid ((hx4 rfl).block HB.out); clear hi4 hx4)
      | (refine step_rits _ (by rfl) _ _ (by rfl) (by rfl) bq (w.heap.size + 1) d (.slice a4 n c4) ks a1 m c1 ls (by rfl) (by rfl) HN1.out (by omega) (by have := lt_of_block HB4.out; exact this) HI4.out (HS1.out _ (by repeat (first | with_reducible exact Z4 | with_reducible refine Ext.drew ?_ | with_reducible refine Ext.more ?_ _))) (by have := HN0.out; omega) (n + m) (by have := HN0.out; omega) (ks ++ ls) rfl ?_; intro a5 c5 w5 hi5 hb5 _; have Z5 : Ext w w5 := Below.trans (by repeat (first | with_reducible exact Z4 | with_reducible refine Ext.drew ?_ | with_reducible refine Ext.more ?_ _)) (hb5.mono (by omega)); have HI5 := hid hi5; have HB5 := hid ((hb5.block w.heap.size (by omega)).trans HB4.out); clear hi5 hb5)
      | (go_at_call 21; refine (HWH.out _ _ _ HI5.out).mono ?_; rintro e w9 ⟨R, rfl, hr, hx9⟩; obtain ⟨pk, pn, px, pa, pl', pc, ec, ex, rfl⟩ := hr.shape; have HR := hid hr; have Z9 : Ext w w9 := Ext.trans (by repeat (first | with_reducible exact Z5 | with_reducible refine Ext.drew ?_ | with_reducible refine Ext.more ?_ _)) hx9; have HB9 := hid (hx9.block HB5.out); clear hr hx9; obtain ⟨z0, z1, z2, z3⟩ := four_of HB9.out; obtain ⟨f0, f1, f2, f3⟩ := four_free HB9.out))
  all_goals
    go_wp2_with fail
    have HX9 := hid Z9
    have HB2 := hid (four_set (u0 := .int .i64 pk) (u1 := .int .i64 pn) (u2 := .string px) (u3 := (.slice pa pl' pc)) HB9.out)
    have HKZ := hid (Kp.set4 w9 w.heap.size 0 (.int .i64 pk) (.int .i64 pn) (.string px) ((.slice pa pl' pc)))
    have HE := hid (HKZ.out.extOf HX9.out (Nat.le_refl _))
    obtain ⟨y0, y1, y2, y3⟩ := four_of HB2.out
    refine bodyPost_ret (v := .tuple #[.agg #[.int .i64 pk, .int .i64 pn, .string px, (.slice pa pl' pc)], .int .i64 ec, .string ex]) (by simp [results, Tryz.results7, go_sem, y0, y1, y2, y3]) rfl ?_
    first | exact ⟨_, rfl, (HR.out.keep (kb_keep hbq HKZ.out)), HE.out⟩ | exact ⟨_, rfl, (HR.out.keep (kb_keep hbq HKZ.out)), HE.out.drew⟩
    first | exact rfl | skip

end Go.Proofs.YtaafcmmmkalgjaaGreatDoor
/-
  espalierref11.Work: add; by contracts.
-/
namespace Go.Proofs.YtaafcmmmkalgjaaGreatDoor
open Go.RowKit
theorem dheap2 {w : World} {q : Nat} {o : Obj} (h : w.heap[q]? = some o) : w.drew.heap[q]? = some o := h
theorem srow1 {w : World} {B d q : Nat} {u0 u1 u2 u3 : Value} {ty : TypeId} {t : T} (hb : w.heap[q]? = some (.cells #[u0, u1, u2, u3] ty)) (hr : Rd (fun x => x < B) w d (.agg #[u0, u1, u2, u3]) t) : SRow w B d (some ⟨q, 0, none⟩) [t] :=
  .inr ⟨_, 0, rfl, fun j hj => by
    obtain rfl : j = 0 := by simpa using hj
    obtain ⟨s0, s1, s2, s3⟩ := four_of hb
    exact ⟨_, _, _, _, ⟨s0, s1, s2, s3⟩, hr⟩⟩
set_option maxRecDepth 100000 in
set_option maxHeartbeats 4000000 in
theorem rwL_add {d : Nat} (a : Option Addr) (c : Nat) (ks : List T) (t : T) (w : World) (bq : Nat) (hbq : bq ≤ w.heap.size) (h : RdL (· < bq) w d a [listT ks, t]) (hn : ks.length ≤ 1000000) (hV : askK listK nAdd [listT ks, t] = 0) : Calls Tryz.prog 7 #[.string nAdd, .slice a 2 c] w (WorkR bq (lonF (ks ++ [t])) w) := by
  obtain ⟨g, off, a0, c0, rfl, h40, hks⟩ := arg_listU (j := 0) h (show [listT ks, t][0]? = some (listT ks) from rfl)
  obtain ⟨g1, off1, tk, tn, tx, ta, tl, tc, ea, _, h41, hrt⟩ := arg_any (j := 1) h (show [listT ks, t][1]? = some t from rfl)
  obtain ⟨rfl, rfl⟩ : g = g1 ∧ off = off1 := by injection ea with ea; injection ea with ea eb; exact ⟨ea, eb⟩
  clear ea
  have H40 := hid (show ∀ w1, Ext w w1 → Four w1 g off (.int .i64 5) (.int .i64 0) (.string ⟨#[]⟩) (.slice a0 ks.length c0) from fun w1 hx => by
    have := Four.keep h40 (hx.kp (fun _ => True)) trivial
    rwa [Nat.zero_mul, Nat.add_zero] at this)
  have H41 := hid (show ∀ w1, Ext w w1 → Four w1 g (off + 4) (.int .i64 tk) (.int .i64 tn) (.string tx) (.slice ta tl tc) from fun w1 hx => Four.keep h41 (hx.kp (fun _ => True)) trivial)
  have HS0 := hid (show ∀ w1, Ext w w1 → SRow w1 bq d a0 ks from fun w1 hx => (rdl_srow hks).later hx)
  have HRT := hid (show ∀ w1, Ext w w1 → Rd (fun x => x < bq) w1 d (.agg #[.int .i64 tk, .int .i64 tn, .string tx, .slice ta tl tc]) t from fun w1 hx => hrt.later hx)
  have hgw : g ≠ w.heap.size := by have h : g < w.heap.size := lt_of_cell h40.1; omega
  have HWH := hid (show ∀ (W : World) q cq, RIt W bq (w.heap.size + 1) d (.slice q (ks.length + 1) cq) (ks ++ [t]) → Calls Tryz.prog 21 #[.slice q (ks.length + 1) cq] W fun e w' => ∃ R, e = .returned R ∧ AnsK (KB bq w.heap.size) (lonF (ks ++ [t])) w' R ∧ Ext W w' from fun W q cq hi => by
    have := whole_any (K := KB bq w.heap.size) cq W (hi.rdl (fun x hx => by show x < bq ∨ w.heap.size < x; omega) (by rw [List.length_append, List.length_singleton]; omega))
    rwa [List.length_append, List.length_singleton] at this)
  have HA := hid (show ∀ w1, Ext w w1 → Calls Tryz.prog 19 #[.string nAdd, .slice (some ⟨g, off, none⟩) 2 c] w1 (fun e w' => e = .returned (.int .i64 0) ∧ Ext w1 w') from fun w1 hx => by
    have := mayL_any (K := (· < bq)) (d := d) nAdd (some ⟨g, off, none⟩) c [listT ks, t] w1 (h.keep (hx.kp _))
    rwa [hV] at this)
  have HKD := hid (show ∀ w1, Ext w w1 → Calls Tryz.prog 20 #[.string nAdd, .slice (some ⟨g, off, none⟩) 2 c] w1 (fun e w' => e = .returned (.bool true) ∧ w' = w1) from fun w1 hx => kdRAdd g off c 5 w1 (H40.out w1 hx).1)
  clear h hV h40 h41 hks hrt
  obtain ⟨n, hne⟩ : ∃ n, ks.length = n := ⟨_, rfl⟩
  have HN0 := hid hne
  rw [hne] at HWH H40 hn
  clear hne
  have hn' : (n : Int) ≤ 1000000 := by omega
  unfold nAdd at *
  go_enter Tryz.func7, Tryz.ntmps7
  go_wp2_with fail
  refine (HA.out _ (Ext.alloc _ _)).mono ?_
  rintro e w1 ⟨rfl, hx1⟩
  have HX := hid ((Ext.alloc w (.cells #[.int .i64 0, .int .i64 0, .string ⟨#[]⟩, .slice none 0 0] 30)).trans hx1)
  have HB := hid (hx1.block (blk0 w (.cells #[.int .i64 0, .int .i64 0, .string ⟨#[]⟩, .slice none 0 0] 30)))
  have HSZ := hid (lt_of_block HB.out)
  obtain ⟨z0, z1, z2, z3⟩ := four_of HB.out
  obtain ⟨f0, f1, f2, f3⟩ := four_free HB.out
  clear hx1
  go_wp2_with fail
  refine (HKD.out _ HX.out).mono ?_
  rintro e w2 ⟨rfl, hw2⟩
  rw [hw2]
  clear hw2 w2
  obtain ⟨o0, o1, o2, o3⟩ := H40.out _ HX.out
  have hgl := lt_of_cell o0
  clear o0 o1 o2
  go_upto_region 22 with fail
  clear o3 z0 z1 z2 z3 f0 f1 f2 f3
  have HSK := hid (show ∀ W', Ext w W' → (W'.cell? ⟨g, off + 4, none⟩ = some (.int .i64 tk) ∧ W'.cell? ⟨g, off + 4 + 1, none⟩ = some (.int .i64 tn) ∧ W'.cell? ⟨g, off + 4 + 2, none⟩ = some (.string tx) ∧ W'.cell? ⟨g, off + 4 + 3, none⟩ = some (.slice ta tl tc)) from fun W' hx => H41.out W' hx)
  have XW := HX.out
  go_region_held3 (fun W' => W'.cell? ⟨g, off + 4, none⟩ = some (.int .i64 tk) ∧ W'.cell? ⟨g, off + 4 + 1, none⟩ = some (.int .i64 tn) ∧ W'.cell? ⟨g, off + 4 + 2, none⟩ = some (.string tx) ∧ W'.cell? ⟨g, off + 4 + 3, none⟩ = some (.slice ta tl tc))
    (first | (refine HSK.out _ ?_; (repeat (first | with_reducible exact Z9 | with_reducible exact Z5 | with_reducible exact Z4 | with_reducible exact XW | with_reducible refine Ext.drew ?_ | with_reducible refine Ext.more ?_ _)); done) | ((try simp only [World.cell?_drew]); (refine ⟨?_, ?_, ?_, ?_⟩ <;> (with_reducible refine keep_set ?_ hgw; first | with_reducible exact (HSK.out _ Z9).1 | with_reducible exact (HSK.out _ Z9).2.1 | with_reducible exact (HSK.out _ Z9).2.2.1 | with_reducible exact (HSK.out _ Z9).2.2.2))))
    (first
      | (refine step_rits _ (by rfl) _ _ (by rfl) (by rfl) bq (w.heap.size + 1) d (.slice none 0 0) [] a0 n c0 ks (by rfl) (by rfl) HN0.out (by omega) (by first | exact HSZ.out | (have := HSZ.out; simp; omega)) (RIt.nil _ _ _) (HS0.out _ (by repeat (first | with_reducible exact XW | with_reducible refine Ext.drew ?_ | with_reducible refine Ext.more ?_ _))) (by rw [List.length_nil]; omega) n (by rw [List.length_nil, Nat.zero_add]) ks (List.nil_append _) ?_; intro a4 c4 w4 hi4 _ hx4; have Z4 : Ext w w4 := Ext.trans (by repeat (first | with_reducible exact XW | with_reducible refine Ext.drew ?_ | with_reducible refine Ext.more ?_ _)) (hx4 rfl); have HI4 := hid hi4; have HB4 := hid ((hx4 rfl).block (by first | exact HB.out | exact blkOld _ HB.out)); (try have bB := hid ((hx4 rfl).block (blk0 w1 (.cells #[.int .i64 tk, .int .i64 tn, .string tx, .slice ta tl tc] 30)))); clear hi4 hx4)
      | (refine step_rits _ (by rfl) _ _ (by rfl) (by rfl) bq (w.heap.size + 1) d (.slice a4 n c4) ks (some ⟨_, 0, none⟩) 1 1 [t] (by rfl) (by rfl) rfl (by omega) (by have := lt_of_block HB4.out; first | exact this | (simp; omega)) (HI4.out.later (by repeat (first | with_reducible exact Ext.refl _ | with_reducible refine Ext.drew ?_ | with_reducible refine Ext.more ?_ _))) (srow1 (by first | with_reducible exact blk0 _ _ | with_reducible exact dheap2 (blk0 _ _) | with_reducible exact bB.out | with_reducible exact dheap2 bB.out) (HRT.out _ (by repeat (first | with_reducible exact Z4 | with_reducible refine Ext.drew ?_ | with_reducible refine Ext.more ?_ _)))) (by have := HN0.out; omega) (n + 1) (by have := HN0.out; omega) (ks ++ [t]) rfl ?_; intro a5 c5 w5 hi5 hb5 _; have Z5 : Ext w w5 := Below.trans (by repeat (first | with_reducible exact Z4 | with_reducible refine Ext.drew ?_ | with_reducible refine Ext.more ?_ _)) (hb5.mono (by omega)); have HI5 := hid hi5; have HB5 := hid ((hb5.block w.heap.size (by omega)).trans (by first | exact HB4.out | exact blkOld _ HB4.out)); clear hi5 hb5)
      | (go_at_call 21; refine (HWH.out _ _ _ HI5.out).mono ?_; rintro e w9 ⟨R, rfl, hr, hx9⟩; obtain ⟨pk, pn, px, pa, pl', pc, ec, ex, rfl⟩ := hr.shape; have HR := hid hr; have Z9 : Ext w w9 := Ext.trans (by repeat (first | with_reducible exact Z5 | with_reducible refine Ext.drew ?_ | with_reducible refine Ext.more ?_ _)) hx9; have HB9 := hid (hx9.block HB5.out); clear hr hx9; obtain ⟨z0, z1, z2, z3⟩ := four_of HB9.out; obtain ⟨f0, f1, f2, f3⟩ := four_free HB9.out))
  all_goals
    go_wp2_with fail
    have HX9 := hid Z9
    have HB2 := hid (four_set (u0 := .int .i64 pk) (u1 := .int .i64 pn) (u2 := .string px) (u3 := (.slice pa pl' pc)) HB9.out)
    have HKZ := hid (Kp.set4 w9 w.heap.size 0 (.int .i64 pk) (.int .i64 pn) (.string px) ((.slice pa pl' pc)))
    have HE := hid (HKZ.out.extOf HX9.out (Nat.le_refl _))
    obtain ⟨y0, y1, y2, y3⟩ := four_of HB2.out
    refine bodyPost_ret (v := .tuple #[.agg #[.int .i64 pk, .int .i64 pn, .string px, (.slice pa pl' pc)], .int .i64 ec, .string ex]) (by simp [results, Tryz.results7, go_sem, y0, y1, y2, y3]) rfl ?_
    first | exact ⟨_, rfl, (HR.out.keep (kb_keep hbq HKZ.out)), HE.out⟩ | exact ⟨_, rfl, (HR.out.keep (kb_keep hbq HKZ.out)), HE.out.drew⟩
    first | exact rfl | skip

end Go.Proofs.YtaafcmmmkalgjaaGreatDoor
/-
  espalierref11.Work on any operation and any plain values; list.Work and the document's Work: the same answer.
-/
namespace Go.Proofs.YtaafcmmmkalgjaaGreatDoor
open Go.RowKit
theorem arg_kind {K : Nat → Prop} {w : World} {d : Nat} {a : Option Addr} {ts : List T} (h : RdL K w d a ts) {j : Nat} {t : T} (ht : ts[j]? = some t) : ∃ g off, a = some ⟨g, off, none⟩ ∧ ∀ w1, Ext w w1 → w1.cell? ⟨g, off + j * 4, none⟩ = some (.int .i64 t.kind) := by
  obtain ⟨g, off, k, n, x, a0, l0, c0, ha, hg, h4, hr⟩ := arg_any h ht
  have e : t.kind = k := by
    cases d with
    | zero => exact hr.elim
    | succ d =>
      obtain ⟨k', n', x', ks⟩ := t
      obtain ⟨a1, c1, e, _⟩ := hr
      simp only [Value.agg.injEq, Array.mk.injEq, List.cons.injEq, Value.int.injEq, true_and] at e
      exact e.1.symm
  exact ⟨g, off, ha, fun w1 hx => by rw [e]; exact (Four.keep h4 (hx.kp (fun _ => True)) trivial).1⟩
/-- The lists of a row of plain values have room for what they have. -/
def CapE (w : World) (a : Option Addr) (n : Nat) : Prop := ∀ g off, a = some ⟨g, off, none⟩ → ∀ j, j < n → ∃ q l c, w.cell? ⟨g, off + j * 4 + 3, none⟩ = some (.slice q l c) ∧ l ≤ c
theorem CapE.later {w w' : World} {a : Option Addr} {n : Nat} (h : CapE w a n) (hx : Ext w w') : CapE w' a n := fun g off e j hj => by
  obtain ⟨q, l, c, h1, h2⟩ := h g off e j hj
  exact ⟨q, l, c, (hx.kp (fun _ => True)).cell h1 trivial, h2⟩
theorem CapE.cap {w : World} {a : Option Addr} {n : Nat} (h : CapE w a n) : CapL w a n := fun g off e j hj q l c hc => by
  obtain ⟨q', l', c', h1, h2⟩ := h g off e j hj
  rw [hc] at h1
  injection h1 with h1
  injection h1 with _ e2 e3
  subst e2; subst e3
  exact h2
set_option maxRecDepth 100000 in
theorem refWorkL_any {d : Nat} (op : ByteArray) (a : Option Addr) (c : Nat) (ts : List T) (hlen : ts.length ≤ 1000000) (w : World) (bq : Nat) (hbq : bq ≤ w.heap.size) (h : RdL (· < bq) w d a ts) (hcap : CapE w a ts.length) : Calls Tryz.prog 7 #[.string op, .slice a ts.length c] w (WorkR bq (ansOf listK op ts (listF op ts)) w) := by
  by_cases hz : askK listK op ts = 0
  case neg =>
    have hz' : (askK listK op ts == 0) = false := by simpa using hz
    rw [ansOf_ask hz']
    exact rwL_bad a c op ts w bq hbq h _ rfl hz'
  obtain ⟨k, f, h1, h2, h3, h4, h5⟩ := ask_zero hz
  rw [h5]
  rcases listAt8 h1 h2 with ⟨rfl, rfl, rfl⟩ | ⟨rfl, rfl, rfl⟩ | ⟨rfl, rfl, rfl⟩ | ⟨rfl, rfl, rfl⟩ | ⟨rfl, rfl, rfl⟩ | ⟨rfl, rfl, rfl⟩ | ⟨rfl, rfl, rfl⟩ | ⟨rfl, rfl, rfl⟩
  · rw [if_pos (rightLOf _), listF_of]
    exact rwL_of a c ts w bq hbq h hz
  · rw [cntLSize, decide_eq_true_eq] at h3
    obtain ⟨t, rfl⟩ := list_one h3
    have m0 := h4 t (by simp)
    rw [show rightB listK[1].signs.data.toList ([t].map T.kind) = (decide (t.kind = 5)) from rightLSize t.kind (kind_five m0)]
    by_cases hk : (decide (t.kind = 5)) = true
    · rw [if_pos hk, listF_size]
      rw [decide_eq_true_eq] at hk
      obtain ⟨ks, rfl⟩ : ∃ ks, t = listT ks := ⟨_, list_of m0 hk⟩
      exact rwL_size a c ks w bq hbq h hz
    · rw [if_neg hk]
      refine rwL_kind a c nSize [t] w bq hbq h hz (fun w1 hx => ?_)
      obtain ⟨g, off, rfl, c0⟩ := arg_kind (j := 0) h (show [t][0]? = some t from rfl)
      have hq := kdRSize g off c t.kind w1 (by have := c0 w1 hx; rwa [Nat.zero_mul, Nat.add_zero] at this)
      rwa [(Bool.not_eq_true _).mp hk] at hq
  · rw [cntLAt, decide_eq_true_eq] at h3
    obtain ⟨t, u, rfl⟩ := list_two h3
    have m0 := h4 t (by simp)
    have m1 := h4 u (by simp)
    rw [show rightB listK[2].signs.data.toList ([t, u].map T.kind) = (decide (t.kind = 5) && decide (u.kind = 3)) from rightLAt t.kind u.kind (kind_five m0) (kind_five m1)]
    by_cases hk : (decide (t.kind = 5) && decide (u.kind = 3)) = true
    · rw [if_pos hk, listF_at]
      simp only [Bool.and_eq_true, decide_eq_true_eq] at hk
      obtain ⟨ks, rfl⟩ : ∃ ks, t = listT ks := ⟨_, list_of m0 hk.1⟩
      obtain ⟨i, rfl⟩ : ∃ i, u = intT i := ⟨_, lint_of m1 hk.2⟩
      exact rwL_at a c ks i w bq hbq h hz
    · rw [if_neg hk]
      refine rwL_kind a c nAt [t, u] w bq hbq h hz (fun w1 hx => ?_)
      obtain ⟨g, off, rfl, c0⟩ := arg_kind (j := 0) h (show [t, u][0]? = some t from rfl)
      obtain ⟨g1, off1, e1, c1⟩ := arg_kind (j := 1) h (show [t, u][1]? = some u from rfl)
      obtain ⟨rfl, rfl⟩ : g = g1 ∧ off = off1 := by injection e1 with ea; injection ea with ea eb; exact ⟨ea, eb⟩
      have hq := kdRAt g off c t.kind u.kind w1 (by have := c0 w1 hx; rwa [Nat.zero_mul, Nat.add_zero] at this) (c1 w1 hx)
      rwa [(Bool.not_eq_true _).mp hk] at hq
  · rw [cntLJoin, decide_eq_true_eq] at h3
    obtain ⟨t, u, rfl⟩ := list_two h3
    have m0 := h4 t (by simp)
    have m1 := h4 u (by simp)
    rw [show rightB listK[3].signs.data.toList ([t, u].map T.kind) = (decide (t.kind = 5) && decide (u.kind = 5)) from rightLJoin t.kind u.kind (kind_five m0) (kind_five m1)]
    by_cases hk : (decide (t.kind = 5) && decide (u.kind = 5)) = true
    · rw [if_pos hk, listF_join]
      simp only [Bool.and_eq_true, decide_eq_true_eq] at hk
      obtain ⟨ks, rfl⟩ : ∃ ks, t = listT ks := ⟨_, list_of m0 hk.1⟩
      obtain ⟨ls, rfl⟩ : ∃ ks, u = listT ks := ⟨_, list_of m1 hk.2⟩
      exact rwL_join a c ks ls w bq hbq h (by have := len_may m0; have := len_may m1; omega) hz
    · rw [if_neg hk]
      refine rwL_kind a c nJoin [t, u] w bq hbq h hz (fun w1 hx => ?_)
      obtain ⟨g, off, rfl, c0⟩ := arg_kind (j := 0) h (show [t, u][0]? = some t from rfl)
      obtain ⟨g1, off1, e1, c1⟩ := arg_kind (j := 1) h (show [t, u][1]? = some u from rfl)
      obtain ⟨rfl, rfl⟩ : g = g1 ∧ off = off1 := by injection e1 with ea; injection ea with ea eb; exact ⟨ea, eb⟩
      have hq := kdRJoin g off c t.kind u.kind w1 (by have := c0 w1 hx; rwa [Nat.zero_mul, Nat.add_zero] at this) (c1 w1 hx)
      rwa [(Bool.not_eq_true _).mp hk] at hq
  · rw [cntLAdd, decide_eq_true_eq] at h3
    obtain ⟨t, u, rfl⟩ := list_two h3
    have m0 := h4 t (by simp)
    have m1 := h4 u (by simp)
    rw [show rightB listK[4].signs.data.toList ([t, u].map T.kind) = (decide (t.kind = 5)) from rightLAdd t.kind u.kind (kind_five m0) (kind_five m1)]
    by_cases hk : (decide (t.kind = 5)) = true
    · rw [if_pos hk, listF_add]
      rw [decide_eq_true_eq] at hk
      obtain ⟨ks, rfl⟩ : ∃ ks, t = listT ks := ⟨_, list_of m0 hk⟩
      exact rwL_add a c ks u w bq hbq h (by have := len_may m0; omega) hz
    · rw [if_neg hk]
      refine rwL_kind a c nAdd [t, u] w bq hbq h hz (fun w1 hx => ?_)
      obtain ⟨g, off, rfl, c0⟩ := arg_kind (j := 0) h (show [t, u][0]? = some t from rfl)
      have hq := kdRAdd g off c t.kind w1 (by have := c0 w1 hx; rwa [Nat.zero_mul, Nat.add_zero] at this)
      rwa [(Bool.not_eq_true _).mp hk] at hq
  · rw [cntLCut, decide_eq_true_eq] at h3
    obtain ⟨t, u, x, rfl⟩ := list_three h3
    have m0 := h4 t (by simp)
    have m1 := h4 u (by simp)
    have m2 := h4 x (by simp)
    rw [show rightB listK[5].signs.data.toList ([t, u, x].map T.kind) = (decide (t.kind = 5) && decide (u.kind = 3) && decide (x.kind = 3)) from rightLCut t.kind u.kind x.kind (kind_five m0) (kind_five m1) (kind_five m2)]
    by_cases hk : (decide (t.kind = 5) && decide (u.kind = 3) && decide (x.kind = 3)) = true
    · rw [if_pos hk, listF_cut]
      simp only [Bool.and_eq_true, decide_eq_true_eq] at hk
      obtain ⟨ks, rfl⟩ : ∃ ks, t = listT ks := ⟨_, list_of m0 hk.1.1⟩
      obtain ⟨i, rfl⟩ : ∃ i, u = intT i := ⟨_, lint_of m1 hk.1.2⟩
      obtain ⟨k, rfl⟩ : ∃ i, x = intT i := ⟨_, lint_of m2 hk.2⟩
      exact rwL_cut a c ks i k w bq hbq h hcap.cap hz
    · rw [if_neg hk]
      refine rwL_kind a c nCut [t, u, x] w bq hbq h hz (fun w1 hx => ?_)
      obtain ⟨g, off, rfl, c0⟩ := arg_kind (j := 0) h (show [t, u, x][0]? = some t from rfl)
      obtain ⟨g1, off1, e1, c1⟩ := arg_kind (j := 1) h (show [t, u, x][1]? = some u from rfl)
      obtain ⟨rfl, rfl⟩ : g = g1 ∧ off = off1 := by injection e1 with ea; injection ea with ea eb; exact ⟨ea, eb⟩
      obtain ⟨g2, off2, e2, c2⟩ := arg_kind (j := 2) h (show [t, u, x][2]? = some x from rfl)
      obtain ⟨rfl, rfl⟩ : g = g2 ∧ off = off2 := by injection e2 with ea; injection ea with ea eb; exact ⟨ea, eb⟩
      have hq := kdRCut g off c t.kind u.kind x.kind w1 (by have := c0 w1 hx; rwa [Nat.zero_mul, Nat.add_zero] at this) (c1 w1 hx) (c2 w1 hx)
      rwa [(Bool.not_eq_true _).mp hk] at hq
  · rw [cntLTurn, decide_eq_true_eq] at h3
    obtain ⟨t, rfl⟩ := list_one h3
    have m0 := h4 t (by simp)
    rw [show rightB listK[6].signs.data.toList ([t].map T.kind) = (decide (t.kind = 5)) from rightLTurn t.kind (kind_five m0)]
    by_cases hk : (decide (t.kind = 5)) = true
    · rw [if_pos hk, listF_turn]
      rw [decide_eq_true_eq] at hk
      obtain ⟨ks, rfl⟩ : ∃ ks, t = listT ks := ⟨_, list_of m0 hk⟩
      exact rwL_turn a c ks w bq hbq h hz
    · rw [if_neg hk]
      refine rwL_kind a c nTurn [t] w bq hbq h hz (fun w1 hx => ?_)
      obtain ⟨g, off, rfl, c0⟩ := arg_kind (j := 0) h (show [t][0]? = some t from rfl)
      have hq := kdRTurn g off c t.kind w1 (by have := c0 w1 hx; rwa [Nat.zero_mul, Nat.add_zero] at this)
      rwa [(Bool.not_eq_true _).mp hk] at hq
  · rw [cntLCount, decide_eq_true_eq] at h3
    obtain ⟨t, rfl⟩ := list_one h3
    have m0 := h4 t (by simp)
    rw [show rightB listK[7].signs.data.toList ([t].map T.kind) = (decide (t.kind = 3)) from rightLCount t.kind (kind_five m0)]
    by_cases hk : (decide (t.kind = 3)) = true
    · rw [if_pos hk, listF_count]
      rw [decide_eq_true_eq] at hk
      obtain ⟨y, rfl⟩ : ∃ i, t = intT i := ⟨_, lint_of m0 hk⟩
      exact rwL_count a c y w bq hbq h hz
    · rw [if_neg hk]
      refine rwL_kind a c nCount [t] w bq hbq h hz (fun w1 hx => ?_)
      obtain ⟨g, off, rfl, c0⟩ := arg_kind (j := 0) h (show [t][0]? = some t from rfl)
      have hq := kdRCount g off c t.kind w1 (by have := c0 w1 hx; rwa [Nat.zero_mul, Nat.add_zero] at this)
      rwa [(Bool.not_eq_true _).mp hk] at hq

/-- A fault bears a number that is none of no fault. -/
def Ans.fine (r : Ans) : Prop := ∀ c x, r = .bad c x → (c == 0) = false
theorem Ans.fine_one {c : Int} (h : (c == 0) = false) : (Ans.one c).fine := fun c' x e => by
  unfold Ans.one at e
  injection e with e1 _
  rw [← e1]
  exact h
theorem Ans.fine_good (t : T) : (Ans.good t).fine := fun c' x e => by cases e
theorem Ans.fine_ite {p : Prop} [Decidable p] {a b : Ans} (ha : a.fine) (hb : b.fine) : (if p then a else b).fine := by
  split
  · exact ha
  · exact hb
theorem lonF_fine (ks : List T) : (lonF ks).fine := by
  unfold lonF
  split
  · exact Ans.fine_good _
  · exact Ans.fine_one rfl
theorem listF_fine (op : ByteArray) (ts : List T) : (listF op ts).fine := by
  unfold listF
  refine Ans.fine_ite (lonF_fine _) (Ans.fine_ite ?_ (Ans.fine_ite ?_ (Ans.fine_ite ?_ (Ans.fine_ite ?_ (Ans.fine_ite ?_ (Ans.fine_ite ?_ ?_))))))
  · unfold sizeF
    split
    · exact Ans.fine_good _
    · exact Ans.fine_one rfl
  · unfold atF
    split
    · exact Ans.fine_ite (Ans.fine_one rfl) (Ans.fine_good _)
    · exact Ans.fine_one rfl
  · unfold joinF
    split
    · exact lonF_fine _
    · exact Ans.fine_one rfl
  · unfold addF
    split
    · exact lonF_fine _
    · exact Ans.fine_one rfl
  · unfold cutF
    split
    · exact Ans.fine_ite (Ans.fine_one rfl) (lonF_fine _)
    · exact Ans.fine_one rfl
  · unfold turnF
    split
    · exact lonF_fine _
    · exact Ans.fine_one rfl
  · unfold countL
    split
    · unfold countF
      exact Ans.fine_ite (Ans.fine_one rfl) (Ans.fine_ite (Ans.fine_one rfl) (Ans.fine_good _))
    · exact Ans.fine_one rfl
theorem ansOf_fine (ks : List Kd) (op : ByteArray) (ts : List T) {fn : Ans} (h : fn.fine) : (ansOf ks op ts fn).fine := by
  unfold ansOf
  split
  · exact Ans.fine_one rfl
  · split
    · exact Ans.fine_one rfl
    · split
      · exact Ans.fine_one rfl
      · split
        · exact Ans.fine_ite h (Ans.fine_one rfl)
        · exact Ans.fine_one rfl
/-- One answer of both, and where it lies. -/
def BothF (nw rw : Nat) (op : ByteArray) (ts : List T) : Prop := ∃ r : Ans, r.fine ∧ (∀ w a c, MaxAt w → PRow w a ts → Calls Tryz.prog nw #[.string op, .slice a ts.length c] w fun e w' => ∃ V, e = .returned V ∧ AnsF w.heap.size r w' V ∧ Ext w w') ∧
  ∀ d w a c bq, bq ≤ w.heap.size → RdL (· < bq) w d a ts → CapE w a ts.length → Calls Tryz.prog rw #[.string op, .slice a ts.length c] w fun e w' => ∃ R, e = .returned R ∧ AnsK (KB bq w.heap.size) r w' R ∧ Ext w w'
theorem bothF (op : ByteArray) (ts : List T) (hlen : ts.length ≤ 1000000) : BothF 8 7 op ts :=
  ⟨_, ansOf_fine listK op ts (listF_fine op ts), fun w a c hm hp => listWorkF_any op ts hlen a c w hm hp, fun _ w a c bq hb h hcap => refWorkL_any op a c ts hlen w bq hb h hcap⟩
/-- One answer of both. -/
def BothC (nw rw : Nat) (op : ByteArray) (ts : List T) : Prop := ∃ r : Ans, (∀ w a c, MaxAt w → PRow w a ts → Calls Tryz.prog nw #[.string op, .slice a ts.length c] w fun e w' => ∃ V, e = .returned V ∧ AnsV r w' V ∧ Ext w w') ∧
  ∀ K d w a c, RdL K w d a ts → CapE w a ts.length → Calls Tryz.prog rw #[.string op, .slice a ts.length c] w fun e w' => ∃ R, e = .returned R ∧ AnsP r w' R ∧ Ext w w'
theorem BothF.c {nw rw : Nat} {op : ByteArray} {ts : List T} (h : BothF nw rw op ts) : BothC nw rw op ts := by
  obtain ⟨r, _, h1, h2⟩ := h
  exact ⟨r, fun w a c hm hp => (h1 w a c hm hp).mono fun _ _ ⟨V, he, hv, hx⟩ => ⟨V, he, hv.ans, hx⟩, fun _ d w a c h hcap => (h2 d w a c w.heap.size (Nat.le_refl _) (rdl_low h) hcap).mono fun _ _ ⟨R, he, hr, hx⟩ => ⟨R, he, hr.p, hx⟩⟩
theorem bothL (op : ByteArray) (ts : List T) (hlen : ts.length ≤ 1000000) : BothC 8 7 op ts := (bothF op ts hlen).c
end Go.Proofs.YtaafcmmmkalgjaaGreatDoor
