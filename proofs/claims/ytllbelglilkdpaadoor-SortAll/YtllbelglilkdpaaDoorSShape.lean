/-
  ground, variable, shapeOf, shapesOf, May, Same of package sort, each by a contract.
-/
import Derived.Test.YtllbelglilkdpaaDoorSData
namespace Go.Proofs.YtllbelglilkdpaaDoor
open Go.RowKit
theorem lit_eq (x : ByteArray) (l : List UInt8) : (x.toList == l) = decide (x.data.toList = l) := by
  rw [ByteArray.toList_eq]
  by_cases h : x.data.toList = l
  · rw [h]; simp
  · rw [decide_eq_false h, beq_eq_false_iff_ne]; exact h
theorem of_list {x : ByteArray} {l : List UInt8} (h : x.data.toList = l) : x = ⟨l.toArray⟩ := ByteArray.ext (by simpa using congrArg List.toArray h)
set_option maxRecDepth 100000 in
theorem ground_any (x : ByteArray) (w : World) : Calls Tryd.prog 35 #[.string x] w fun e w' => e = .returned (.bool (grdL x.data.toList)) ∧ w' = w := by
  have HG := hid (show grdL x.data.toList = (decide (x.data.toList = [117, 110, 105, 116]) || decide (x.data.toList = [116, 114, 117, 116, 104]) || decide (x.data.toList = [105, 110, 116]) || decide (x.data.toList = [116, 101, 120, 116])) from rfl)
  have l1 := lit_eq x [117, 110, 105, 116]
  have l2 := lit_eq x [116, 114, 117, 116, 104]
  have l3 := lit_eq x [105, 110, 116]
  have l4 := lit_eq x [116, 101, 120, 116]
  generalize decide (x.data.toList = [117, 110, 105, 116]) = b1 at *
  generalize decide (x.data.toList = [116, 114, 117, 116, 104]) = b2 at *
  generalize decide (x.data.toList = [105, 110, 116]) = b3 at *
  generalize decide (x.data.toList = [116, 101, 120, 116]) = b4 at *
  cases b1 with
  | true =>
    go_enter Tryd.func35, Tryd.ntmps35
    go_wp2_with fail
    go_ret
    exact ⟨by rw [HG.out]; rfl, rfl⟩
  | false =>
    cases b2 with
    | true =>
      go_enter Tryd.func35, Tryd.ntmps35
      go_wp2_with fail
      go_ret
      exact ⟨by rw [HG.out]; rfl, rfl⟩
    | false =>
      cases b3 with
      | true =>
        go_enter Tryd.func35, Tryd.ntmps35
        go_wp2_with fail
        go_ret
        exact ⟨by rw [HG.out]; rfl, rfl⟩
      | false =>
        cases b4 with
        | true =>
          go_enter Tryd.func35, Tryd.ntmps35
          go_wp2_with fail
          go_ret
          exact ⟨by rw [HG.out]; rfl, rfl⟩
        | false =>
          go_enter Tryd.func35, Tryd.ntmps35
          go_wp2_with fail
          go_ret
          exact ⟨by rw [HG.out]; rfl, rfl⟩
set_option maxRecDepth 100000 in
theorem variable_any (x : ByteArray) (w : World) (hx : x.size ≤ 140737488351232) : Calls Tryd.prog 36 #[.string x] w fun e w' => e = .returned (.bool (vrbL x.data.toList)) ∧ w' = w := by
  have hx' : (x.size : Int) ≤ 140737488351232 := by omega
  by_cases h1 : x.size = 1
  · obtain ⟨c, hc⟩ : ∃ c, x.data.toList = [c] := by
      have hl : x.data.toList.length = 1 := by rw [Array.length_toList]; exact h1
      match x.data.toList, hl with
      | [c], _ => exact ⟨c, rfl⟩
    have hv : vrbL x.data.toList = (decide (97 ≤ c.toNat) && decide (c.toNat ≤ 122)) := by rw [hc]; rfl
    have HV := hid hv
    have hxe : x = ⟨#[c]⟩ := of_list hc
    clear hv hc hx hx'
    subst hxe
    clear h1
    have e1 : decide ((97 : Int) ≤ ((c.toNat : Nat) : Int)) = decide (97 ≤ c.toNat) := by by_cases h : 97 ≤ c.toNat; rw [decide_eq_true h]; exact decide_eq_true (by omega); rw [decide_eq_false h]; exact decide_eq_false (by omega)
    have e2 : decide (((c.toNat : Nat) : Int) ≤ 122) = decide (c.toNat ≤ 122) := by by_cases h : c.toNat ≤ 122; rw [decide_eq_true h]; exact decide_eq_true (by omega); rw [decide_eq_false h]; exact decide_eq_false (by omega)
    have e3 : decide ((97 : Int) ≤ ((((⟨#[c]⟩ : ByteArray)[0]'(Nat.lt_succ_self 0)).toNat : Nat) : Int)) = _ := e1
    have e4 : decide (((((⟨#[c]⟩ : ByteArray)[0]'(Nat.lt_succ_self 0)).toNat : Nat) : Int) ≤ 122) = _ := e2
    clear e1 e2
    generalize decide (97 ≤ c.toNat) = b1 at *
    generalize decide (c.toNat ≤ 122) = b2 at *
    cases b1 <;> cases b2
    all_goals
      go_enter Tryd.func36, Tryd.ntmps36
      go_wp2_with fail
      go_ret
      exact ⟨by rw [HV.out]; rfl, rfl⟩
  · have HV := hid (show vrbL x.data.toList = false by
      have hl : x.data.toList.length ≠ 1 := by rw [Array.length_toList]; exact h1
      match x.data.toList, hl with
      | [], _ => rfl
      | [c], hl => exact absurd rfl hl
      | c :: c' :: r, _ => rfl)
    have q : ((x.size : Int) == 1) = false := by rw [beq_eq_false_iff_ne]; omega
    go_enter Tryd.func36, Tryd.ntmps36
    go_wp2_with fail
    go_ret
    exact ⟨by rw [HV.out]; rfl, rfl⟩
/-- What shapeOf answers. -/
def shpV : Option (Nat × ByteArray) → Value
  | some (n, x) => .tuple #[.agg #[.int .i64 n, .string x], .int .i64 0]
  | none => .tuple #[.agg #[.int .i64 0, .string ⟨#[]⟩], .int .i64 14]
theorem peel_step {m : Nat} {x : ByteArray} {t : S} (h : x = wList) : peel (m + 1) (.node x [t]) = ((peel m t).1 + 1, (peel m t).2) := if_pos h
theorem peel_stop {m : Nat} {x : ByteArray} {ks : List S} (h : ¬ (x = wList ∧ ks.length = 1)) : peel (m + 1) (.node x ks) = (0, .node x ks) := by
  match ks, h with
  | [], _ => rfl
  | [t], h => unfold peel; simp only; rw [if_neg (fun e => h ⟨e, rfl⟩)]
  | t :: t' :: r, _ => rfl
set_option maxRecDepth 100000 in
set_option maxHeartbeats 2000000 in
theorem shapeOf_any {K : Nat → Prop} {d : Nat} {v : Value} {t : S} (w : World) (hr : SRd K w d v t) : Calls Tryd.prog 32 #[v] w fun e w' => e = .returned (shpV (shp t)) ∧ Ext w w' := by
  obtain ⟨a, c, rfl⟩ := hr.shape
  have HR := hid hr.low
  obtain ⟨r, hrr⟩ : ∃ r, peel 64 t = r := ⟨_, rfl⟩
  have HRR := hid hrr
  have hP : shp t = if r.2.kids.length = 0 ∧ leafL r.2.name.data.toList = true then some (r.1, r.2.name) else none := by unfold shp; rw [hrr]
  have HANS := hid hP
  obtain ⟨ans, hans⟩ : ∃ ans, shpV (shp t) = ans := ⟨_, rfl⟩
  rw [hans]
  have HA := hid hans
  clear hr hrr hP hans
  obtain ⟨x, ks⟩ := t
  go_enter Tryd.func32, Tryd.ntmps32
  go_wp2_with fail
  go_loopw [4] (fun l wr => ∃ (n : Nat) (s : S) (a' : Option Addr) (c' d' : Nat), l = .int .i64 n ∧ n ≤ 64 ∧ r = (n + (peel (64 - n) s).1, (peel (64 - n) s).2) ∧ Ext w wr ∧ wr.heap[w.heap.size]? = some (.cells #[.string s.name, .slice a' s.kids.length c'] 27) ∧ wr.heap[w.heap.size + 1]? = some (.cells #[.int .i64 0, .string ⟨#[]⟩] 58) ∧ SRd (· < w.heap.size) wr d' (.agg #[.string s.name, .slice a' s.kids.length c']) s) (fun l _ => 64 - (intOf l).toNat)
  case atStart => exact ⟨0, .node x ks, a, c, d, rfl, by omega, by rw [← HRR.out]; simp, Ext.alloc2 _ _ _, blkOld _ (blk0 _ _), blk1 _ _ _, HR.out.later (Ext.alloc2 _ _ _)⟩
  case round =>
    obtain ⟨n, s, a', c', d', rfl, hn, he, hx, hb1, hb2, hrd⟩ := hrel
    obtain ⟨x', ks'⟩ := s
    have HX := hid hx
    have HB1 := hid hb1
    have HB2 := hid hb2
    have HRD := hid hrd
    have HE := hid he
    have hsz := hrd.size
    have hz1 : (ks'.length : Int) ≤ 140737488351232 := by have := hsz.2; have h' : ks'.length * 40 ≤ 140737488351232 := this; omega
    have HZ := hid (show x'.size ≤ 140737488351232 from hsz.1)
    have hb1' : wr.heap[w.heap.size]? = some (.cells #[.string x', .slice a' ks'.length c'] 27) := hb1
    obtain ⟨t0, t1⟩ := two_of hb1'
    have hn' : (n : Int) ≤ 64 := by omega
    clear hx hb1 hb2 hrd he hsz hb1'
    have lq := lit_eq x' [108, 105, 115, 116]
    by_cases hgo : x' = wList ∧ ks'.length = 1 ∧ n < 64
    · obtain ⟨rfl, hk1, hn64⟩ := hgo
      obtain ⟨k, rfl⟩ : ∃ k, ks' = [k] := by
        match ks', hk1 with
        | [k], _ => exact ⟨k, rfl⟩
      have hrd' : SRd (· < w.heap.size) wr d' (.agg #[.string wList, .slice a' 1 c']) (.node wList [k]) := HRD.out
      obtain ⟨g, off, a2, c2, d2, rfl, hg, h2, hr2⟩ := hrd'.kid
      obtain ⟨m0, m1⟩ := h2
      have hgl := lt_of_cell m0
      obtain ⟨e0, e1⟩ := two_free HB1.out
      have HR2 := hid hr2
      have HG := hid hg
      have lt64 : (n : Int) < 64 := by omega
      have lq2 : (wList.toList == [108, 105, 115, 116]) = true := by rw [lit_eq]; decide
      clear hr2 hg hrd' lq hk1
      go_wp2_with fail
      go_roundw
      case rel =>
        have k2 := Kp.set2 wr w.heap.size 0 (.string k.name) (.slice a2 k.kids.length c2)
        refine ⟨n + 1, k, a2, c2, d2, by go_num, hn64, ?_, Kp.ext ((HX.out.kp _).trans k2) (fun q hq => by show q ≠ w.heap.size; omega), two_set HB1.out, k2.block' HB2.out (by omega), HR2.out.keep (k2.mono (fun q _ h => by have h' : q < w.heap.size := h; show q ≠ w.heap.size; omega))⟩
        rw [HE.out, show 64 - n = (64 - (n + 1)) + 1 by omega, peel_step rfl]
        simp
        omega
      case measure => simp [intOf]; omega
    · have HP := hid (show r = (n, .node x' ks') by
        rw [HE.out]
        by_cases h64 : n = 64
        · subst h64; simp [peel]
        · rw [show 64 - n = (64 - (n + 1)) + 1 by omega, peel_stop (fun h => hgo ⟨h.1, h.2, by omega⟩)]
          simp)
      have HQ := hid (show ans = shpV (if ks'.length = 0 ∧ leafL x'.data.toList = true then some (n, x') else none) by rw [← HA.out, HANS.out, HP.out]; rfl)
      by_cases hxl : x' = wList
      · subst hxl
        have lq2 : (wList.toList == [108, 105, 115, 116]) = true := by rw [lit_eq]; decide
        clear lq
        by_cases hk1 : ks'.length = 1
        · have hn64 : ¬ n < 64 := fun h => hgo ⟨rfl, hk1, h⟩
          have qn : decide ((n : Int) < 64) = false := decide_eq_false (by omega)
          have hk : ¬ ks'.length = 0 := by omega
          have hk1' : ((ks'.length : Int) == 1) = true := by rw [beq_iff_eq]; omega
          clear hn64
          have HNO := hid (show ¬ (ks'.length = 0 ∧ leafL wList.data.toList = true) from fun h => hk h.1)
          have hk' : (0 : Int) < (ks'.length : Int) := by omega
          obtain ⟨r0, r1⟩ := two_of HB2.out
          obtain ⟨e0, e1⟩ := two_free HB2.out
          go_wp2_with fail
          obtain ⟨z0, z1⟩ := two_of (two_set (u0 := .int .i64 0) (u1 := .string ⟨#[]⟩) HB2.out)
          refine bodyPost_ret (v := .tuple #[.agg #[.int .i64 0, .string ⟨#[]⟩], .int .i64 14]) (by simp [results, Tryd.results32, go_sem, z0, z1]) rfl ?_
          have k2 := Kp.set2 wr (w.heap.size + 1) 0 (.int .i64 0) (.string ⟨#[]⟩)
          refine ⟨?_, Kp.ext ((HX.out.kp _).trans k2) (fun q hq => by show q ≠ w.heap.size + 1; omega)⟩
          rw [HQ.out, if_neg HNO.out]; rfl
        · have hk1' : ((ks'.length : Int) == 1) = false := by rw [beq_eq_false_iff_ne]; omega
          by_cases hk : ks'.length = 0
          · have HK := hid hk
            have hk' : (ks'.length : Int) = 0 := by omega
            have hk2 : decide ((0 : Int) < (ks'.length : Int)) = false := decide_eq_false (by omega)
            have HGR := hid (ground_any wList wr)
            have HVB := hid (variable_any wList wr HZ.out)
            have HL := hid (show leafL wList.data.toList = (grdL wList.data.toList || vrbL wList.data.toList) from rfl)
            generalize leafL wList.data.toList = bl at *
            generalize grdL wList.data.toList = b1 at *
            generalize vrbL wList.data.toList = b2 at *
            clear hk
            cases b1 with
            | true =>
              have HYES := hid (show ks'.length = 0 ∧ bl = true from ⟨HK.out, HL.out⟩)
              obtain ⟨r0, r1⟩ := two_of HB2.out
              obtain ⟨e0, e1⟩ := two_free HB2.out
              go_wp2_with (first | (go_at_call 35; refine HGR.out.mono ?_; rintro e w9 ⟨rfl, hw9⟩; rw [hw9]; clear hw9 w9))
              obtain ⟨z0, z1⟩ := two_of (two_set (u0 := .int .i64 n) (u1 := .string wList) HB2.out)
              refine bodyPost_ret (v := .tuple #[.agg #[.int .i64 n, .string wList], .int .i64 0]) (by simp [results, Tryd.results32, go_sem, z0, z1]) rfl ?_
              have k2 := Kp.set2 wr (w.heap.size + 1) 0 (.int .i64 n) (.string wList)
              refine ⟨?_, Kp.ext ((HX.out.kp _).trans k2) (fun q hq => by show q ≠ w.heap.size + 1; omega)⟩
              rw [HQ.out, if_pos HYES.out]; rfl
            | false =>
              cases b2 with
              | true =>
                have HYES := hid (show ks'.length = 0 ∧ bl = true from ⟨HK.out, HL.out⟩)
                obtain ⟨r0, r1⟩ := two_of HB2.out
                obtain ⟨e0, e1⟩ := two_free HB2.out
                go_wp2_with (first | (go_at_call 35; refine HGR.out.mono ?_; rintro e w9 ⟨rfl, hw9⟩; rw [hw9]; clear hw9 w9) | (go_at_call 36; refine HVB.out.mono ?_; rintro e w9 ⟨rfl, hw9⟩; rw [hw9]; clear hw9 w9))
                obtain ⟨z0, z1⟩ := two_of (two_set (u0 := .int .i64 n) (u1 := .string wList) HB2.out)
                refine bodyPost_ret (v := .tuple #[.agg #[.int .i64 n, .string wList], .int .i64 0]) (by simp [results, Tryd.results32, go_sem, z0, z1]) rfl ?_
                have k2 := Kp.set2 wr (w.heap.size + 1) 0 (.int .i64 n) (.string wList)
                refine ⟨?_, Kp.ext ((HX.out.kp _).trans k2) (fun q hq => by show q ≠ w.heap.size + 1; omega)⟩
                rw [HQ.out, if_pos HYES.out]; rfl
              | false =>
                have HNO := hid (show ¬ (ks'.length = 0 ∧ bl = true) from fun h => by rw [HL.out] at h; cases h.2)
                obtain ⟨r0, r1⟩ := two_of HB2.out
                obtain ⟨e0, e1⟩ := two_free HB2.out
                go_wp2_with (first | (go_at_call 35; refine HGR.out.mono ?_; rintro e w9 ⟨rfl, hw9⟩; rw [hw9]; clear hw9 w9) | (go_at_call 36; refine HVB.out.mono ?_; rintro e w9 ⟨rfl, hw9⟩; rw [hw9]; clear hw9 w9))
                obtain ⟨z0, z1⟩ := two_of (two_set (u0 := .int .i64 0) (u1 := .string ⟨#[]⟩) HB2.out)
                refine bodyPost_ret (v := .tuple #[.agg #[.int .i64 0, .string ⟨#[]⟩], .int .i64 14]) (by simp [results, Tryd.results32, go_sem, z0, z1]) rfl ?_
                have k2 := Kp.set2 wr (w.heap.size + 1) 0 (.int .i64 0) (.string ⟨#[]⟩)
                refine ⟨?_, Kp.ext ((HX.out.kp _).trans k2) (fun q hq => by show q ≠ w.heap.size + 1; omega)⟩
                rw [HQ.out, if_neg HNO.out]; rfl
          · have HNO := hid (show ¬ (ks'.length = 0 ∧ leafL wList.data.toList = true) from fun h => hk h.1)
            have hk' : (0 : Int) < (ks'.length : Int) := by omega
            obtain ⟨r0, r1⟩ := two_of HB2.out
            obtain ⟨e0, e1⟩ := two_free HB2.out
            go_wp2_with fail
            obtain ⟨z0, z1⟩ := two_of (two_set (u0 := .int .i64 0) (u1 := .string ⟨#[]⟩) HB2.out)
            refine bodyPost_ret (v := .tuple #[.agg #[.int .i64 0, .string ⟨#[]⟩], .int .i64 14]) (by simp [results, Tryd.results32, go_sem, z0, z1]) rfl ?_
            have k2 := Kp.set2 wr (w.heap.size + 1) 0 (.int .i64 0) (.string ⟨#[]⟩)
            refine ⟨?_, Kp.ext ((HX.out.kp _).trans k2) (fun q hq => by show q ≠ w.heap.size + 1; omega)⟩
            rw [HQ.out, if_neg HNO.out]; rfl
      · rw [decide_eq_false (fun h => hxl (of_list h))] at lq
        by_cases hk : ks'.length = 0
        · have HK := hid hk
          have hk' : (ks'.length : Int) = 0 := by omega
          have hk2 : decide ((0 : Int) < (ks'.length : Int)) = false := decide_eq_false (by omega)
          have HGR := hid (ground_any x' wr)
          have HVB := hid (variable_any x' wr HZ.out)
          have HL := hid (show leafL x'.data.toList = (grdL x'.data.toList || vrbL x'.data.toList) from rfl)
          generalize leafL x'.data.toList = bl at *
          generalize grdL x'.data.toList = b1 at *
          generalize vrbL x'.data.toList = b2 at *
          clear hk
          cases b1 with
          | true =>
            have HYES := hid (show ks'.length = 0 ∧ bl = true from ⟨HK.out, HL.out⟩)
            obtain ⟨r0, r1⟩ := two_of HB2.out
            obtain ⟨e0, e1⟩ := two_free HB2.out
            go_wp2_with (first | (go_at_call 35; refine HGR.out.mono ?_; rintro e w9 ⟨rfl, hw9⟩; rw [hw9]; clear hw9 w9))
            obtain ⟨z0, z1⟩ := two_of (two_set (u0 := .int .i64 n) (u1 := .string x') HB2.out)
            refine bodyPost_ret (v := .tuple #[.agg #[.int .i64 n, .string x'], .int .i64 0]) (by simp [results, Tryd.results32, go_sem, z0, z1]) rfl ?_
            have k2 := Kp.set2 wr (w.heap.size + 1) 0 (.int .i64 n) (.string x')
            refine ⟨?_, Kp.ext ((HX.out.kp _).trans k2) (fun q hq => by show q ≠ w.heap.size + 1; omega)⟩
            rw [HQ.out, if_pos HYES.out]; rfl
          | false =>
            cases b2 with
            | true =>
              have HYES := hid (show ks'.length = 0 ∧ bl = true from ⟨HK.out, HL.out⟩)
              obtain ⟨r0, r1⟩ := two_of HB2.out
              obtain ⟨e0, e1⟩ := two_free HB2.out
              go_wp2_with (first | (go_at_call 35; refine HGR.out.mono ?_; rintro e w9 ⟨rfl, hw9⟩; rw [hw9]; clear hw9 w9) | (go_at_call 36; refine HVB.out.mono ?_; rintro e w9 ⟨rfl, hw9⟩; rw [hw9]; clear hw9 w9))
              obtain ⟨z0, z1⟩ := two_of (two_set (u0 := .int .i64 n) (u1 := .string x') HB2.out)
              refine bodyPost_ret (v := .tuple #[.agg #[.int .i64 n, .string x'], .int .i64 0]) (by simp [results, Tryd.results32, go_sem, z0, z1]) rfl ?_
              have k2 := Kp.set2 wr (w.heap.size + 1) 0 (.int .i64 n) (.string x')
              refine ⟨?_, Kp.ext ((HX.out.kp _).trans k2) (fun q hq => by show q ≠ w.heap.size + 1; omega)⟩
              rw [HQ.out, if_pos HYES.out]; rfl
            | false =>
              have HNO := hid (show ¬ (ks'.length = 0 ∧ bl = true) from fun h => by rw [HL.out] at h; cases h.2)
              obtain ⟨r0, r1⟩ := two_of HB2.out
              obtain ⟨e0, e1⟩ := two_free HB2.out
              go_wp2_with (first | (go_at_call 35; refine HGR.out.mono ?_; rintro e w9 ⟨rfl, hw9⟩; rw [hw9]; clear hw9 w9) | (go_at_call 36; refine HVB.out.mono ?_; rintro e w9 ⟨rfl, hw9⟩; rw [hw9]; clear hw9 w9))
              obtain ⟨z0, z1⟩ := two_of (two_set (u0 := .int .i64 0) (u1 := .string ⟨#[]⟩) HB2.out)
              refine bodyPost_ret (v := .tuple #[.agg #[.int .i64 0, .string ⟨#[]⟩], .int .i64 14]) (by simp [results, Tryd.results32, go_sem, z0, z1]) rfl ?_
              have k2 := Kp.set2 wr (w.heap.size + 1) 0 (.int .i64 0) (.string ⟨#[]⟩)
              refine ⟨?_, Kp.ext ((HX.out.kp _).trans k2) (fun q hq => by show q ≠ w.heap.size + 1; omega)⟩
              rw [HQ.out, if_neg HNO.out]; rfl
        · have HNO := hid (show ¬ (ks'.length = 0 ∧ leafL x'.data.toList = true) from fun h => hk h.1)
          have hk' : (0 : Int) < (ks'.length : Int) := by omega
          obtain ⟨r0, r1⟩ := two_of HB2.out
          obtain ⟨e0, e1⟩ := two_free HB2.out
          go_wp2_with fail
          obtain ⟨z0, z1⟩ := two_of (two_set (u0 := .int .i64 0) (u1 := .string ⟨#[]⟩) HB2.out)
          refine bodyPost_ret (v := .tuple #[.agg #[.int .i64 0, .string ⟨#[]⟩], .int .i64 14]) (by simp [results, Tryd.results32, go_sem, z0, z1]) rfl ?_
          have k2 := Kp.set2 wr (w.heap.size + 1) 0 (.int .i64 0) (.string ⟨#[]⟩)
          refine ⟨?_, Kp.ext ((HX.out.kp _).trans k2) (fun q hq => by show q ≠ w.heap.size + 1; omega)⟩
          rw [HQ.out, if_neg HNO.out]; rfl
end Go.Proofs.YtllbelglilkdpaaDoor
