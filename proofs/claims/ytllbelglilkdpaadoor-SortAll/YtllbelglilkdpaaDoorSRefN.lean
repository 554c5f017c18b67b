/-
  The document's own Apply (package espalierref5), by a contract.
-/
import Derived.Test.YtllbelglilkdpaaDoorSRefL
import Derived.Deep.Cut
import Derived.Deep.CutRange
namespace Go.Proofs.YtllbelglilkdpaaDoor
open Go.RowKit
/-- Whether all may be. -/
def okB (t : S) (l : List (ByteArray × S)) : Bool := (shp t).isSome && l.all (fun g => (shp g.2).isSome)
theorem okB_step {t : S} {l : List (ByteArray × S)} {i : Nat} (h : i < l.length) : okB t (l.take (i + 1)) = (okB t (l.take i) && (shp l[i].2).isSome) := by
  unfold okB
  rw [take_snoc l i h, List.all_append]
  simp [Bool.and_assoc]
theorem okB_eAt (t : S) (l : List (ByteArray × S)) : eAt t l = if okB t l = true then 0 else 14 := by
  unfold eAt okB
  simp only [Bool.and_eq_true]
theorem okB_false {t : S} {l : List (ByteArray × S)} (h : okB t l = false) : apS t l = (14, .node ⟨#[]⟩ []) := (apS_bad (by rw [okB_eAt, h]; simp)).1
theorem okB_true {t : S} {l : List (ByteArray × S)} (h : okB t l = true) : (∃ nx x, shp t = some (nx, x)) ∧ ∀ g ∈ l, ∃ sn sx, shp g.2 = some (sn, sx) := eAt_all (by rw [okB_eAt, h]; rfl)
theorem ap_good {t : S} {l : List (ByteArray × S)} {n : Nat} {x : ByteArray} (h : okB t l = true) (ht : shp t = some (n, x)) : apS t l = if goodG l then (match tauG l x with
      | none => ((0 : Int), chain n x)
      | some s => if 64 < s.1 + n then (2, .node ⟨#[]⟩ []) else (0, chain (s.1 + n).toNat s.2)) else (1, .node ⟨#[]⟩ []) := by
  unfold apS
  rw [ht]
  have ha : l.all (fun g => (shp g.2).isSome) = true := by unfold okB at h; rw [Bool.and_eq_true] at h; exact h.2
  show (if l.all (fun g => (shp g.2).isSome) = true then _ else _) = _
  rw [if_pos ha]
  rfl
set_option maxRecDepth 100000 in
set_option maxHeartbeats 4000000 in
theorem rapply_any {K K' : Nat → Prop} {d d' : Nat} {v v' : Value} {t : S} {l : List (ByteArray × S)} (w : World) (hr : SRd K w d v t) (hr' : GsRd K' w d' v' l) : Calls Tryd.prog 29 #[v, v'] w (ApR w (apS t l)) := by
  obtain ⟨a, c, rfl⟩ := hr.shape
  obtain ⟨a', c', rfl, hlen, hgs⟩ := hr'
  have HGS := hid hgs
  have C1 := hid (fun w1 (h : Ext w w1) => cut_any w1 (hr.later h))
  rw [cutV_O] at C1
  have hlen' : (l.length : Int) ≤ 140737488351232 := by omega
  clear hr hgs hlen
  obtain ⟨ll, hll⟩ : ∃ ll, l.length = ll := ⟨_, rfl⟩
  rw [hll] at hlen' ⊢
  have HLL := hid hll
  clear hll
  generalize t.name = nt at *
  generalize t.kids.length = kt at *
  obtain ⟨n0, hn0⟩ : ∃ z, (shO t).1 = z := ⟨_, rfl⟩
  obtain ⟨x, hx⟩ : ∃ z, (shO t).2 = z := ⟨_, rfl⟩
  obtain ⟨B1, hB1⟩ : ∃ z, (shp t).isSome = z := ⟨_, rfl⟩
  rw [hn0, hx, hB1] at C1
  have HV := hid (show (shO t).1 = n0 ∧ (shO t).2 = x ∧ (shp t).isSome = B1 from ⟨hn0, hx, hB1⟩)
  have HO0 := hid (show B1 = okB t (l.take 0) by rw [← hB1]; unfold okB; simp)
  clear hn0 hx hB1
  obtain ⟨M, hM⟩ : ∃ M, (w.alloc (.cells #[.string nt, .slice a kt c] 27)).alloc (.cells #[.string ⟨#[]⟩, .slice none 0 0] 27) = M := ⟨_, rfl⟩
  have XM := hid (show Ext w M from hM ▸ Ext.alloc2 _ _ _)
  have HM0 := hid (show M.heap[w.heap.size]? = some (.cells #[.string nt, .slice a kt c] 27) from hM ▸ blkOld _ (blk0 _ _))
  have HM1 := hid (show M.heap[w.heap.size + 1]? = some (.cells #[.string ⟨#[]⟩, .slice none 0 0] 27) from hM ▸ blk1 _ _ _)
  obtain ⟨m0, m1⟩ := two_of HM0.out
  go_enter Tryd.func29, Tryd.ntmps29
  go_wp2_with fail
  go_at_call 44
  refine (C1.out M XM.out).mono ?_
  rintro e w1 ⟨rfl, hx1⟩
  clear hM m0 m1
  obtain ⟨V1, hV1⟩ : ∃ V, w1.alloc (.cells #[.int .i64 n0, .string x] 83) = V := ⟨_, rfl⟩
  have X1 := hid (show Ext M V1 from hV1 ▸ hx1.trans (Ext.alloc _ _))
  have HB1 := hid (show V1.heap[w1.heap.size]? = some (.cells #[.int .i64 n0, .string x] 83) from hV1 ▸ blk0 _ _)
  have HLW := hid (show w.heap.size + 1 < w1.heap.size from Nat.lt_of_lt_of_le (lt_of_block HM1.out) hx1.size)
  clear hx1
  go_wp2_with fail
  clear hV1
  go_loopw [7, 8] (fun q7 q8 wr => ∃ i : Nat, i ≤ ll ∧ q8 = .int .i64 i ∧ q7 = .bool (okB t (l.take i)) ∧ Ext V1 wr) (fun _ q8 _ => ll - (intOf q8).toNat)
  case atStart => exact ⟨0, Nat.zero_le _, rfl, by rw [HO0.out], Ext.refl _⟩
  case round =>
    obtain ⟨i, hi, rfl, rfl, hxr⟩ := hrel
    have XR := hid hxr
    clear hxr
    by_cases hil : i < ll
    · have hil' : (i : Int) < ll := by omega
      have hjl : i < l.length := by have := HLL.out; omega
      rcases HGS.out with h0 | ⟨g, off, rfl, hg, hc⟩
      · rw [h0] at hjl; exact absurd hjl (Nat.not_lt_zero _)
      have HXW := hid (XM.out.trans (X1.out.trans XR.out))
      obtain ⟨a2, c2, p0, hys, p1, p2, hr2⟩ := ((hc i hjl).keep (HXW.out.kp K') hg).open'
      have C2 := hid (fun w1 (h : Ext wr w1) => cut_any w1 (hr2.later h))
      rw [cutV_O] at C2
      have HST := hid (okB_step (t := t) hjl)
      generalize (shO l[i].2).1 = n2 at *
      generalize (shO l[i].2).2 = x2 at *
      generalize (shp l[i].2).isSome = b2 at *
      generalize l[i].2.name = ny at *
      generalize l[i].2.kids.length = kl at *
      generalize okB t (l.take i) = b1 at *
      clear hc hg hr2 hys hjl p0
      cases b1 <;> cases b2
      all_goals
        go_wp2_with fail
        go_at_call 44
        refine (C2.out wr (Ext.refl _)).mono ?_
        rintro e w5 ⟨rfl, hx5⟩
        have X5 := hid (XR.out.trans (hx5.trans (Ext.alloc w5 (.cells #[.int .i64 n2, .string x2] 83))))
        clear hx5 p1 p2
        go_wp2_with fail
        go_roundw
        case rel => exact ⟨i + 1, by omega, by go_num, by rw [HST.out]; rfl, X5.out⟩
        case measure => simp [intOf]; omega
    · have hil' : ¬ (i : Int) < ll := by omega
      have hie : i = ll := by omega
      subst hie
      have HTK := hid (show l.take i = l from List.take_of_length_le (by have := HLL.out; omega))
      rw [HTK.out]
      have HRr := hid (XR.out.block (X1.out.block HM1.out))
      have HBr := hid (XR.out.block HB1.out)
      have XW := hid (XM.out.trans (X1.out.trans XR.out))
      obtain ⟨W, hW⟩ : ∃ V, V = wr := ⟨wr, rfl⟩
      subst hW
      obtain ⟨ok, hok⟩ : ∃ z, okB t l = z := ⟨_, rfl⟩
      rw [hok]
      have HOK := hid hok
      clear hok
      cases ok with
      | false =>
        have HA := hid (okB_false HOK.out)
        obtain ⟨f0, f1⟩ := two_free HRr.out
        obtain ⟨r0, r1⟩ := two_of HRr.out
        go_wp2_with fail
        obtain ⟨z0, z1⟩ := two_of (two_set (u0 := .string ⟨#[]⟩) (u1 := .slice none 0 0) HRr.out)
        refine bodyPost_ret (v := .tuple #[.agg #[.string ⟨#[]⟩, .slice none 0 0], .int .i64 14]) (by simp [results, Tryd.results29, go_sem, z0, z1]) rfl ?_
        rw [HA.out]
        exact ⟨_, 1, rfl, srd_nil _, Kp.extOf XW.out (Kp.set2 _ (w.heap.size + 1) 0 _ _) (by omega)⟩
      | true =>
      obtain ⟨⟨nx, x', hst⟩, hall⟩ := okB_true HOK.out
      have e1 : n0 = (nx : Int) ∧ x = x' := by
        rw [← HV.out.1, ← HV.out.2.1]; unfold shO; rw [hst]; exact ⟨rfl, rfl⟩
      obtain ⟨rfl, rfl⟩ := e1
      have HALL := hid hall
      have HLE := hid (shp_le hst)
      have HAP := hid (ap_good HOK.out hst)
      clear hst hall
      have HRW := hid (show ∀ W', Ext W W' → W'.heap[w.heap.size + 1]? = some (.cells #[.string ⟨#[]⟩, .slice none 0 0] 27) from fun W' X => X.block HRr.out)
      have HBW := hid (show ∀ W', Ext W W' → W'.heap[w1.heap.size]? = some (.cells #[.int .i64 (nx : Int), .string x] 83) from fun W' X => X.block HBr.out)
      have hi64 : (i : Int) ≤ 140737488351232 := hlen'
      go_wp2_with fail
      go_loopg [11] i (fun g q11 wr => ∃ j : Nat, j + g = i ∧ q11 = .int .i64 j ∧ goodG (l.take j) ∧ Ext W wr)
      case atStart => exact ⟨0, by omega, rfl, ⟨by simp, by simp⟩, Ext.refl _⟩
      case round =>
        obtain ⟨j, hj, rfl, hgd, hxr⟩ := hrel
        have HJ := hid hj
        have HGD := hid hgd
        have XR2 := hid hxr
        clear hgd hxr
        by_cases hil : j < i
        · have hil' : (j : Int) < i := by omega
          have hjl : j < l.length := by have := HLL.out; omega
          rcases HGS.out with h0 | ⟨g, off, rfl, hg, hc⟩
          · rw [h0] at hjl; exact absurd hjl (Nat.not_lt_zero _)
          have HCC := hid (show ∀ W', Ext W W' → ∀ k, (hk : k < l.length) → W'.cell? ⟨g, off + k * 3, none⟩ = some (.string l[k].1) ∧ l[k].1.size ≤ 140737488351232 from fun W' X k hk => by
            obtain ⟨a2, c2, p0, hys, p1, p2, hr2⟩ := ((hc k hk).keep ((XW.out.trans X).kp K') hg).open'
            exact ⟨p0, hys⟩)
          clear hc hg
          obtain ⟨p0, hys⟩ := HCC.out wr XR2.out j hjl
          have HSTEP := hid (fun hv hn => good_step (i := j) hjl HGD.out hv hn)
          have HNV := hid (fun h => good_novar (i := j) hjl h)
          have HTW := hid (fun k (hk : k < j) he => good_twice (l := l) (i := j) (k := k) hjl hk he)
          have HPJ := hid (fun W' (X : Ext W W') => (HCC.out W' X j hjl).1)
          obtain ⟨yj, hyj⟩ : ∃ yj, l[j].1 = yj := ⟨_, rfl⟩
          simp only [hyj] at p0 hys HSTEP HNV HTW HPJ
          have HVA := hid (fun w1 => rvar_any yj w1 hys)
          obtain ⟨bv, hbv⟩ : ∃ bv, vrbL yj.data.toList = bv := ⟨_, rfl⟩
          rw [hbv] at HVA
          have HR2 := hid (HRW.out wr XR2.out)
          clear hyj hys
          cases bv with
          | false =>
            have HNG := hid (HNV.out hbv)
            clear hbv hj
            obtain ⟨f0, f1⟩ := two_free HR2.out
            obtain ⟨r0, r1⟩ := two_of HR2.out
            go_wp2_with fail
            go_at_call 46
            refine (HVA.out wr).mono ?_
            rintro e w9 ⟨rfl, hw9⟩
            rw [hw9]
            clear hw9 w9
            go_wp2_with fail
            obtain ⟨z0, z1⟩ := two_of (two_set (u0 := .string ⟨#[]⟩) (u1 := .slice none 0 0) HR2.out)
            refine bodyPost_ret (v := .tuple #[.agg #[.string ⟨#[]⟩, .slice none 0 0], .int .i64 1]) (by simp [results, Tryd.results29, go_sem, z0, z1]) rfl ?_
            rw [HAP.out, if_neg HNG.out]
            exact ⟨_, 1, rfl, srd_nil _, Kp.extOf (XW.out.trans XR2.out) (Kp.set2 _ (w.heap.size + 1) 0 _ _) (by omega)⟩
          | true =>
            have HBV := hid hbv
            clear hbv hj
            go_wp2_with fail
            go_at_call 46
            refine (HVA.out wr).mono ?_
            rintro e w9 ⟨rfl, hw9⟩
            rw [hw9]
            clear hw9 w9
            obtain ⟨Wo, hWo⟩ : ∃ V, V = wr := ⟨wr, rfl⟩
            subst hWo
            clear p0
            go_wp2_with fail
            go_loopw [12] (fun q12 wi => ∃ k : Nat, k ≤ j ∧ q12 = .int .i64 k ∧ (∀ k', (hk : k' < l.length) → k' < k → l[k'].1 ≠ yj) ∧ Ext W wi) (fun q12 _ => j - (intOf q12).toNat)
            case atStart => exact ⟨0, Nat.zero_le _, rfl, fun k' _ h => absurd h (Nat.not_lt_zero _), XR2.out⟩
            case round =>
              obtain ⟨k, hk, rfl, hne, hxi⟩ := hrel
              have HNE := hid hne
              have XI := hid hxi
              clear hne hxi
              by_cases hkl : k < j
              · have hkl' : (k : Int) < j := by omega
                have hkll : k < l.length := by have := HLL.out; omega
                have hki : (k : Int) < i := by omega
                have p0 := (HCC.out wr XI.out k hkll).1
                have p2 := HPJ.out wr XI.out
                have heq := str_beq l[k].1 yj
                have HTK := hid (fun he => HTW.out k hkl he)
                have HNX := hid (show l[k].1 ≠ yj → ∀ k', (hk : k' < l.length) → k' < k + 1 → l[k'].1 ≠ yj from fun h k' hk' hlt => by
                  by_cases e : k' = k
                  · subst e; exact h
                  · exact HNE.out k' hk' (by omega))
                obtain ⟨yk, hyk⟩ : ∃ yk, l[k].1 = yk := ⟨_, rfl⟩
                rw [hyk] at p0 heq HTK HNX
                clear hyk
                by_cases he : yk = yj
                · have HNG := hid (HTK.out he)
                  rw [decide_eq_true he] at heq
                  have HR2 := hid (HRW.out wr XI.out)
                  obtain ⟨f0, f1⟩ := two_free HR2.out
                  obtain ⟨r0, r1⟩ := two_of HR2.out
                  clear he
                  go_wp2_with fail
                  go_region
                  all_goals
                    go_wp2_with fail
                    obtain ⟨z0, z1⟩ := two_of (two_set (u0 := .string ⟨#[]⟩) (u1 := .slice none 0 0) HR2.out)
                    refine bodyPost_ret (v := .tuple #[.agg #[.string ⟨#[]⟩, .slice none 0 0], .int .i64 1]) (by simp [results, Tryd.results29, go_sem, z0, z1]) rfl ?_
                    rw [HAP.out, if_neg HNG.out]
                    exact ⟨_, 1, rfl, srd_nil _, (Kp.extOf (XW.out.trans XI.out) (Kp.set2 wr (w.heap.size + 1) 0 _ _) (by omega)).drew⟩
                · have HNY := hid (HNX.out he)
                  rw [decide_eq_false he] at heq
                  clear he
                  go_wp2_with fail
                  go_region
                  all_goals
                    go_wp2_with fail
                    go_roundw
                    case rel => exact ⟨k + 1, by omega, by go_num, HNY.out, XI.out.drew⟩
                    case measure => simp [intOf]; omega
              · have hkl' : ¬ (k : Int) < j := by omega
                have hkj : k = j := by omega
                subst hkj
                have HG2 := hid (HSTEP.out HBV.out HNE.out)
                go_wp2_with fail
                go_roundg (i - (k + 1))
                case measure => have := HJ.out; omega
                case rel => exact ⟨k + 1, by omega, by go_num, HG2.out, XI.out⟩
        · have hil' : ¬ (j : Int) < i := by omega
          have hje : j = i := by have := HJ.out; omega
          subst hje
          rw [HTK.out] at HGD
          rw [if_pos HGD.out] at HAP
          have XW2 := hid (XW.out.trans XR2.out)
          have HRr := hid (HRW.out wr XR2.out)
          have HBr := hid (HBW.out wr XR2.out)
          obtain ⟨W2, hW2⟩ : ∃ V, V = wr := ⟨wr, rfl⟩
          subst hW2
          have HXS := hid (show x.size ≤ 140737488351232 from Nat.le_trans (leaf_size HLE.out.2) (by decide))
          clear hj hil hil' XR2 HRW HBW
          go_wp2_with fail
          go_loopw [13] (fun q13 wr => ∃ k : Nat, k ≤ j ∧ q13 = .int .i64 k ∧ (∀ k', (hk : k' < l.length) → k' < k → l[k'].1 ≠ x) ∧ Ext W2 wr) (fun q13 _ => j - (intOf q13).toNat)
          case atStart => exact ⟨0, Nat.zero_le _, rfl, fun k' _ h => absurd h (Nat.not_lt_zero _), Ext.refl _⟩
          case round =>
            obtain ⟨k, hk, rfl, hne, hxi⟩ := hrel
            have HNE := hid hne
            have XI := hid hxi
            clear hne hxi
            by_cases hkl : k < j
            · have hkl' : (k : Int) < j := by omega
              have hkll : k < l.length := by have := HLL.out; omega
              rcases HGS.out with h0 | ⟨g, off, rfl, hg, hc⟩
              · rw [h0] at hkll; exact absurd hkll (Nat.not_lt_zero _)
              obtain ⟨a2, c2, p0, hys, p1, p2, hr2⟩ := ((hc k hkll).keep ((XW2.out.trans XI.out).kp K') hg).open'
              have HRD := hid hr2
              have heq := str_beq l[k].1 x
              have HTA := hid (tauG_at HGD.out hkll)
              obtain ⟨sn, sx, hsn⟩ := HALL.out l[k] (List.getElem_mem hkll)
              have HSN := hid (shp_le hsn)
              have HSO := hid (show shO l[k].2 = ((sn : Int), sx) by unfold shO; rw [hsn]; rfl)
              have HNX := hid (show l[k].1 ≠ x → ∀ k', (hk : k' < l.length) → k' < k + 1 → l[k'].1 ≠ x from fun h k' hk' hlt => by
                by_cases e : k' = k
                · subst e; exact h
                · exact HNE.out k' hk' (by omega))
              have C2 := hid (fun w1 (hx : Ext wr w1) => cut_any w1 (HRD.out.later hx))
              rw [show cutV (shp l[k].2) = .tuple #[.agg #[.int .i64 (sn : Int), .string sx], .bool true] by rw [hsn]; rfl] at C2
              obtain ⟨yk, hyk⟩ : ∃ yk, l[k].1 = yk := ⟨_, rfl⟩
              rw [hyk] at p0 heq HTA HNX
              generalize l[k].2.name = ny at *
              generalize l[k].2.kids.length = kl at *
              clear hyk hc hg hys hr2 hsn HRD
              obtain ⟨d0, d1⟩ := two_of (XI.out.block HBr.out)
              by_cases he : yk = x
              · subst he
                rw [decide_eq_true rfl] at heq
                rw [HTA.out, HSO.out] at HAP
                obtain ⟨tot, htot⟩ : ∃ tot : Nat, (sn : Int) + (nx : Int) = tot := ⟨sn + nx, by omega⟩
                have htot' : (nx : Int) + (sn : Int) = tot := by omega
                have HTL := hid (show tot ≤ 128 by have h1 := HSN.out.1; have h2 := HLE.out.1; omega)
                have hsn' : (sn : Int) ≤ 64 := by have := HSN.out.1; omega
                have hnx' : (nx : Int) ≤ 64 := by have := HLE.out.1; omega
                have HAP2 := hid (show apS t l = if (64 : Int) < tot then (2, .node ⟨#[]⟩ []) else (0, chain tot sx) by
                  rw [HAP.out]
                  show (if (64 : Int) < (sn : Int) + (nx : Int) then ((2 : Int), S.node ⟨#[]⟩ []) else (0, chain ((sn : Int) + (nx : Int)).toNat sx)) = _
                  rw [htot]
                  simp)
                clear htot
                go_wp2_with fail
                go_region
                all_goals
                  go_wp2_with fail
                  go_at_call 44
                  refine (C2.out wr.drew (Ext.refl _).drew).mono ?_
                  rintro e w5 ⟨rfl, hx5⟩
                  clear d0 d1
                  obtain ⟨V5, hV5⟩ : ∃ V, w5.alloc (.cells #[.int .i64 (sn : Int), .string sx] 83) = V := ⟨_, rfl⟩
                  have Y5 := hid (show Ext wr V5 from hV5 ▸ (((Ext.refl wr).drew).trans hx5).trans (Ext.alloc _ _))
                  have X5 := hid (XI.out.trans Y5.out)
                  have HR5 := hid (X5.out.block HRr.out)
                  have HV5 := hid (X5.out.block HBr.out)
                  have HB5 := hid (show V5.heap[w5.heap.size]? = some (.cells #[.int .i64 (sn : Int), .string sx] 83) from hV5 ▸ blk0 _ _)
                  have HX5W := hid (XW2.out.trans X5.out)
                  clear hx5 p0 p1 p2 heq
                  obtain ⟨d0, d1⟩ := two_of HV5.out
                  obtain ⟨d2, d3⟩ := two_of HB5.out
                  obtain ⟨f2, f3⟩ := two_free HV5.out
                  obtain ⟨U, hU⟩ : ∃ U, (V5.setCell ⟨w1.heap.size, 0, none⟩ (.int .i64 (tot : Int))).setCell ⟨w1.heap.size, 1, none⟩ (.string sx) = U := ⟨_, rfl⟩
                  have HU := hid (show U.heap[w1.heap.size]? = some (.cells #[.int .i64 (tot : Int), .string sx] 83) from hU ▸ two_set HV5.out)
                  have KU := hid (show Kp (· ≠ w1.heap.size) V5 U from hU ▸ Kp.set2 V5 w1.heap.size 0 (.int .i64 (tot : Int)) (.string sx))
                  have XU := hid (show Ext w U from Kp.extOf HX5W.out KU.out (by have := HLW.out; omega))
                  have HRU := hid (KU.out.block' HR5.out (by have := HLW.out; omega))
                  obtain ⟨e0, e1⟩ := two_of HU.out
                  obtain ⟨f0, f1⟩ := two_free HRU.out
                  obtain ⟨r0, r1⟩ := two_of HRU.out
                  have htl' : (tot : Int) ≤ 128 := by have := HTL.out; omega
                  by_cases htl : (64 : Int) < tot
                  · rw [if_pos htl] at HAP2
                    have hq : (65 : Int) < (tot : Int) + 1 := by omega
                    go_wp2_with fail
                    obtain ⟨z0, z1⟩ := two_of (two_set (u0 := .string ⟨#[]⟩) (u1 := .slice none 0 0) HRU.out)
                    refine bodyPost_ret (v := .tuple #[.agg #[.string ⟨#[]⟩, .slice none 0 0], .int .i64 2]) (by simp [results, Tryd.results29, go_sem, z0, z1]) rfl ?_
                    rw [HAP2.out]
                    exact ⟨_, 1, rfl, srd_nil _, Kp.extOf XU.out (Kp.set2 U (w.heap.size + 1) 0 _ _) (by omega)⟩
                  · rw [if_neg htl] at HAP2
                    have hq : ¬ (65 : Int) < (tot : Int) + 1 := by omega
                    go_wp2_with fail
                    go_at_call 47
                    refine (whole_any tot sx U (by have := HTL.out; omega) (Nat.le_trans (leaf_size HSN.out.2) (by decide))).mono ?_
                    rintro e w8 ⟨v8, rfl, hr8, hx8⟩
                    obtain ⟨a9, c9, rfl⟩ := hr8.shape
                    have R8 := hid hr8
                    have X8 := hid hx8
                    obtain ⟨nm, hnm⟩ : ∃ nm, (chain tot sx).name = nm := ⟨_, rfl⟩
                    obtain ⟨kk, hkk⟩ : ∃ kk, (chain tot sx).kids.length = kk := ⟨_, rfl⟩
                    rw [hnm, hkk] at R8 ⊢
                    have HR8 := hid (hx8.block HRU.out)
                    clear hr8 hx8 hnm hkk d0 d1 d2 d3 e0 e1 f0 f1 f2 f3 r0 r1 hU htl hV5
                    obtain ⟨f0, f1⟩ := two_free HR8.out
                    obtain ⟨r0, r1⟩ := two_of HR8.out
                    go_wp2_with fail
                    obtain ⟨z0, z1⟩ := two_of (two_set (u0 := .string nm) (u1 := .slice a9 kk c9) HR8.out)
                    refine bodyPost_ret (v := .tuple #[.agg #[.string nm, .slice a9 kk c9], .int .i64 0]) (by simp [results, Tryd.results29, go_sem, z0, z1]) rfl ?_
                    rw [HAP2.out]
                    have hlt5 := lt_of_block HRU.out
                    refine ⟨_, tot + 1, rfl, ?_, Kp.extOf (XU.out.trans X8.out) (Kp.set2 w8 (w.heap.size + 1) 0 _ _) (by omega)⟩
                    exact (R8.out.keep ((Kp.set2 w8 (w.heap.size + 1) 0 (.string nm) (.slice a9 kk c9)).mono (fun k _ (hk : U.heap.size ≤ k) => by show k ≠ _; omega))).mono (fun k _ (hk : U.heap.size ≤ k) => Nat.le_trans XU.out.size hk)
              · have HNY := hid (HNX.out he)
                rw [decide_eq_false he] at heq
                clear he
                go_wp2_with fail
                go_region
                all_goals
                  go_wp2_with fail
                  go_roundw
                  case rel => exact ⟨k + 1, by omega, by go_num, HNY.out, XI.out.drew⟩
                  case measure => simp [intOf]; omega
            · have hkl' : ¬ (k : Int) < j := by omega
              have hkj : k = j := by omega
              subst hkj
              have HTN := hid (show tauG l x = none from tauG_no (fun j' hj' => HNE.out j' hj' (by have := HLL.out; omega)))
              rw [HTN.out] at HAP
              have HR5 := hid (XI.out.block HRr.out)
              obtain ⟨d0, d1⟩ := two_of (XI.out.block HBr.out)
              have hq : ¬ (65 : Int) < (nx : Int) + 1 := by have := HLE.out.1; omega
              have hnx' : (nx : Int) ≤ 64 := by have := HLE.out.1; omega
              go_wp2_with fail
              go_at_call 47
              refine (whole_any nx x wr (by have := HLE.out.1; omega) HXS.out).mono ?_
              rintro e w8 ⟨v8, rfl, hr8, hx8⟩
              obtain ⟨a9, c9, rfl⟩ := hr8.shape
              have R8 := hid hr8
              have X8 := hid hx8
              obtain ⟨nm, hnm⟩ : ∃ nm, (chain nx x).name = nm := ⟨_, rfl⟩
              obtain ⟨kk, hkk⟩ : ∃ kk, (chain nx x).kids.length = kk := ⟨_, rfl⟩
              rw [hnm, hkk] at R8 ⊢
              have HR8 := hid (hx8.block HR5.out)
              have XI2 := hid (XW2.out.trans XI.out)
              clear hr8 hx8 hnm hkk d0 d1
              obtain ⟨f0, f1⟩ := two_free HR8.out
              obtain ⟨r0, r1⟩ := two_of HR8.out
              go_wp2_with fail
              obtain ⟨z0, z1⟩ := two_of (two_set (u0 := .string nm) (u1 := .slice a9 kk c9) HR8.out)
              refine bodyPost_ret (v := .tuple #[.agg #[.string nm, .slice a9 kk c9], .int .i64 0]) (by simp [results, Tryd.results29, go_sem, z0, z1]) rfl ?_
              rw [HAP.out]
              have hlt5 := lt_of_block HR5.out
              refine ⟨_, nx + 1, rfl, ?_, Kp.extOf (XI2.out.trans X8.out) (Kp.set2 w8 (w.heap.size + 1) 0 _ _) (by omega)⟩
              exact (R8.out.keep ((Kp.set2 w8 (w.heap.size + 1) 0 (.string nm) (.slice a9 kk c9)).mono (fun k _ (hk : wr.heap.size ≤ k) => by show k ≠ _; omega))).mono (fun k _ (hk : wr.heap.size ≤ k) => Nat.le_trans XI2.out.size hk)
end Go.Proofs.YtllbelglilkdpaaDoor
/-
  The document's own Read (package espalierref5), by a contract.
-/
namespace Go.Proofs.YtllbelglilkdpaaDoor
open Go.RowKit
theorem rseg (s : ByteArray) (a b : Nat) : (s.extract a b).data.toList = (s.data.toList.drop a).take (b - a) := by rw [Lib.extract_data]
/-- What Read answers. -/
def RReadR (w : World) (r : ShR) (e : Ending) (w' : World) : Prop := Ext w w' ∧
  match r with
  | .ok n l => ∃ v', e = .returned (.tuple #[v', .int .i64 0, .int .i64 0]) ∧ SRd (fun q => w.heap.size ≤ q) w' (n + 1) v' (chain n ⟨l.toArray⟩)
  | .bad c a => e = .returned (.tuple #[.agg #[.string ⟨#[]⟩, .slice none 0 0], .int .i64 a, .int .i64 c])
/-- Where the loop stands. -/
def RAt (s : ByteArray) (r : ShR) (at0 i n wd : Nat) (nm : ByteArray) : Prop :=
  (i ≤ s.size ∧ at0 ≤ i ∧ (∀ k, at0 ≤ k → k < i → s.data.toList[k]? ≠ some 32) ∧ RSt s.data.toList r at0 n wd nm.data.toList) ∨ (i = s.size + 1 ∧ r = .ok n nm.data.toList ∧ n ≤ 64 ∧ nm.size ≤ 5)
theorem rat_word {s : ByteArray} {at0 i : Nat} (hi : i ≤ s.size) (ha : at0 ≤ i) (hk : ∀ k, at0 ≤ k → k < i → s.data.toList[k]? ≠ some 32) (he : i = s.size ∨ s.data.toList[i]? = some 32) : wordL (s.data.toList.drop at0) = (s.data.toList.drop at0).take (i - at0) ∧ ((32 : UInt8) ∈ s.data.toList.drop at0 ↔ i < s.data.toList.length) := by
  have hl : s.data.toList.length = s.size := by rw [Array.length_toList]; rfl
  have key := word_run (l := s.data.toList.drop at0) (k := i - at0) (by rw [List.length_drop, hl]; omega) (fun j hj hji => by
    rw [List.getElem_drop]
    intro e
    refine hk (at0 + j) (by omega) (by omega) ?_
    rw [List.getElem?_eq_getElem (by rw [List.length_drop] at hj; omega), e]) (by
    rcases he with he | he
    · left; rw [List.length_drop, hl]; omega
    · right
      obtain ⟨h1, h2⟩ := List.getElem?_eq_some_iff.1 he
      refine ⟨by rw [List.length_drop]; omega, ?_⟩
      rw [List.getElem_drop]
      have : at0 + (i - at0) = i := by omega
      simp only [this]
      exact h2)
  refine ⟨key.1, ?_⟩
  rw [key.2, List.length_drop, hl]
  omega
set_option maxRecDepth 100000 in
set_option maxHeartbeats 4000000 in
theorem rread_any (s : ByteArray) (w : World) (hs : s.size ≤ 140737488351232) : Calls Tryd.prog 27 #[.string s] w (RReadR w (readS s)) := by
  obtain ⟨r, hr⟩ : ∃ r, readS s = r := ⟨_, rfl⟩
  rw [hr]
  have HR := hid (show rdS (s.size + 1) s.data.toList 0 0 = r from hr)
  have hs' : (s.size : Int) ≤ 140737488351232 := by omega
  have HSL := hid (show s.data.toList.length = s.size by rw [Array.length_toList]; rfl)
  clear hr
  go_enter Tryd.func27, Tryd.ntmps27
  go_wp2_with fail
  generalize hM : (w.alloc (.cells #[.string ⟨#[]⟩, .slice none 0 0] 27)).alloc (.cells #[.int .i64 0, .string ⟨#[]⟩] 83) = M
  have XM := hid (show Ext w M from hM ▸ Ext.alloc2 _ _ _)
  have HM0 := hid (show M.heap[w.heap.size]? = some (.cells #[.string ⟨#[]⟩, .slice none 0 0] 27) from hM ▸ blkOld _ (blk0 _ _))
  have HM1 := hid (show M.heap[w.heap.size + 1]? = some (.cells #[.int .i64 0, .string ⟨#[]⟩] 83) from hM ▸ blk1 _ _ _)
  clear hM
  go_loopg [6, 7, 8, 9] (s.size + 1) (fun g q6 q7 q8 q9 wr => ∃ (wd at0 i n : Nat) (nm : ByteArray), q6 = .int .i64 wd ∧ q7 = .int .i64 at0 ∧ q8 = .int .i64 (-1) ∧ q9 = .int .i64 i ∧ i + g = s.size + 1 ∧ n ≤ 65 ∧ wd ≤ 65 ∧ RAt s r at0 i n wd nm ∧ wr.heap[w.heap.size + 1]? = some (.cells #[.int .i64 n, .string nm] 83) ∧ Kp (· ≠ w.heap.size + 1) M wr)
  case atStart =>
    refine ⟨0, 0, 0, 0, ⟨#[]⟩, rfl, rfl, rfl, rfl, by omega, by omega, by omega, .inl ⟨Nat.zero_le _, Nat.le_refl _, fun k _ h => absurd h (Nat.not_lt_zero _), .inl ⟨rfl, by omega, rfl, s.size + 1, by have := HSL.out; omega, ?_⟩⟩, HM1.out, Kp.refl _ _⟩
    simpa using HR.out
  case round =>
    obtain ⟨wd, at0, i, n, nm, rfl, rfl, rfl, rfl, hig, hn65, hwd, hst, hcb, hkp⟩ := hrel
    have HIG := hid hig
    have HKP := hid hkp
    have HCB := hid hcb
    have HZB := hid (hkp.block' HM0.out (by omega))
    have HX := hid (Kp.extOf XM.out hkp (by omega))
    have hn' : (n : Int) ≤ 65 := by omega
    have hwd' : (wd : Int) ≤ 65 := by omega
    clear hkp hcb hig
    obtain ⟨W, hW⟩ : ∃ V, V = wr := ⟨wr, rfl⟩
    subst hW
    rcases hst with ⟨his, hai, hno, hrs⟩ | ⟨rfl, hrr, hn64, hnm⟩
    case inr =>
      have HRR := hid hrr
      have HN := hid hn64
      have HNM := hid hnm
      have hle : ¬ ((s.size : Int) + 1 ≤ (s.size : Int)) := by omega
      have hle2 : ¬ (((s.size + 1 : Nat) : Int) ≤ (s.size : Int)) := by omega
      obtain ⟨d0, d1⟩ := two_of HCB.out
      clear hrr hn64 hnm
      go_wp2_with fail
      go_at_call 47
      refine (whole_any n nm W (by have := HN.out; omega) (Nat.le_trans HNM.out (by decide))).mono ?_
      rintro e w6 ⟨v', rfl, hr6, hx6⟩
      obtain ⟨a9, c9, rfl⟩ := hr6.shape
      obtain ⟨nn, hnn⟩ : ∃ nn, (chain n nm).name = nn := ⟨_, rfl⟩
      obtain ⟨kk, hkk⟩ : ∃ kk, (chain n nm).kids.length = kk := ⟨_, rfl⟩
      rw [hnn, hkk] at hr6 ⊢
      have R6 := hid hr6
      have X6 := hid hx6
      have H6 := hid (hx6.block HZB.out)
      clear hnn hkk hr6 hx6 d0 d1
      obtain ⟨d0, d1⟩ := two_of H6.out
      obtain ⟨d2, d3⟩ := two_free H6.out
      go_wp2_with fail
      obtain ⟨z0, z1⟩ := two_of (two_set (u0 := .string nn) (u1 := .slice a9 kk c9) H6.out)
      refine bodyPost_ret (v := .tuple #[.agg #[.string nn, .slice a9 kk c9], .int .i64 0, .int .i64 0]) (by simp [results, Tryd.results27, go_sem, z0, z1]) rfl ?_
      rw [HRR.out]
      have hlt := lt_of_block HZB.out
      refine ⟨Kp.extOf (HX.out.trans X6.out) (Kp.set2 w6 w.heap.size 0 _ _) (by omega), _, rfl, ?_⟩
      have e : (⟨nm.data.toList.toArray⟩ : ByteArray) = nm := by simp
      rw [e]
      exact (R6.out.keep ((Kp.set2 w6 w.heap.size 0 (.string nn) (.slice a9 kk c9)).mono (fun k _ (hk : W.heap.size ≤ k) => by show k ≠ _; omega))).mono (fun k _ (hk : W.heap.size ≤ k) => Nat.le_trans HX.out.size hk)
    case inl =>
    have HIS := hid his
    have HAI := hid hai
    have HNO := hid hno
    have HRS := hid hrs
    have his' : (i : Int) ≤ s.size := by omega
    have hai' : (at0 : Int) ≤ i := by omega
    clear hno hrs
    by_cases hgo : i < s.size ∧ ¬ s.data.toList[i]? = some 32
    case pos =>
      obtain ⟨hlt, hne⟩ := hgo
      have hlt' : (i : Int) < s.size := by omega
      have hz : (((s.data[i]'hlt).toNat : Int) != 32) = true := by
        rw [bne_iff_ne]
        intro e
        refine hne ?_
        rw [List.getElem?_eq_getElem (by have := HSL.out; omega)]
        congr 1
        exact UInt8.toNat_inj.1 (by have e' : (32 : UInt8).toNat = 32 := rfl; rw [Array.getElem_toList]; omega)
      have hz' : (((s[i]'hlt).toNat : Int) != 32) = true := hz
      have HNE := hid hne
      clear hne
      go_wp2_with fail
      go_roundg (s.size - i)
      case measure => have := HIG.out; omega
      case rel => exact ⟨wd, at0, i + 1, n, nm, rfl, rfl, rfl, by go_num, by omega, hn65, hwd, .inl ⟨by omega, by omega, fun k h1 h2 => by
        by_cases e : k = i
        · rw [e]; exact HNE.out
        · exact HNO.out k h1 (by omega), HRS.out⟩, HCB.out, HKP.out⟩
    case neg =>
    have HEND := hid (show i = s.size ∨ s.data.toList[i]? = some 32 by
      by_cases h : i < s.size
      · right
        refine Classical.byContradiction fun h2 => hgo ⟨h, h2⟩
      · left; omega)
    have HWD := hid (rat_word HIS.out HAI.out HNO.out HEND.out)
    clear hgo
    obtain ⟨X, hX⟩ : ∃ X, s.extract at0 i = X := ⟨_, rfl⟩
    have HXL := hid (show X.data.toList = (s.data.toList.drop at0).take (i - at0) by rw [← hX]; exact rseg s at0 i)
    have HXS := hid (show X.size ≤ 140737488351232 by
      have h1 : X.data.toList.length = X.size := by rw [Array.length_toList]; rfl
      rw [← h1, HXL.out, List.length_take, List.length_drop, HSL.out]
      omega)
    obtain ⟨d0, d1⟩ := two_of HCB.out
    obtain ⟨d2, d3⟩ := two_free HCB.out
    obtain ⟨e0, e1⟩ := two_of HZB.out
    obtain ⟨e2, e3⟩ := two_free HZB.out
    have HVA := hid (fun w1 => rvar_any X w1 HXS.out)
    have HG := hid (show grdL X.data.toList = (decide (X.data.toList = [117, 110, 105, 116]) || decide (X.data.toList = [116, 114, 117, 116, 104]) || decide (X.data.toList = [105, 110, 116]) || decide (X.data.toList = [116, 101, 120, 116])) from rfl)
    have HLF := hid (show leafL X.data.toList = (grdL X.data.toList || vrbL X.data.toList) from rfl)
    have l1 := lit_eq X [117, 110, 105, 116]
    have l2 := lit_eq X [116, 114, 117, 116, 104]
    have l3 := lit_eq X [105, 110, 116]
    have l4 := lit_eq X [116, 101, 120, 116]
    have l5 := lit_eq X [108, 105, 115, 116]
    have HL5 := hid (show (decide (X.data.toList = [108, 105, 115, 116])) = decide (X.data.toList = wL) from rfl)
    generalize decide (X.data.toList = [117, 110, 105, 116]) = t1 at *
    generalize decide (X.data.toList = [116, 114, 117, 116, 104]) = t2 at *
    generalize decide (X.data.toList = [105, 110, 116]) = t3 at *
    generalize decide (X.data.toList = [116, 101, 120, 116]) = t4 at *
    generalize decide (X.data.toList = [108, 105, 115, 116]) = t5 at *
    have hstop : (i = s.size) ∨ (∃ hlt : i < s.size, (((s.data[i]'hlt).toNat : Int) != 32) = false) := by
      rcases HEND.out with h | h
      · exact .inl h
      · obtain ⟨h1, h2⟩ := List.getElem?_eq_some_iff.1 h
        refine .inr ⟨by have := HSL.out; omega, ?_⟩
        rw [Array.getElem_toList] at h2
        rw [h2]
        rfl
    have HSTOP := hid hstop
    clear hstop
    go_upto_region 8 with fail
    go_cut [29] from 20 to 29 (fun s29 wx => s29 = .bool false ∧ wx = W)
    case first =>
      rcases HSTOP.out with h | ⟨hlt, hz⟩
      · subst h
        have hnl : ¬ (s.size : Int) < (s.size : Int) := by omega
        go_wp2_with fail
        go_meet
        case rel => exact ⟨rfl, rfl⟩
      · have hlt' : (i : Int) < s.size := by omega
        have hz' : (((s[i]'hlt).toNat : Int) != 32) = false := hz
        go_wp2_with fail
        go_meet
        case rel => exact ⟨rfl, rfl⟩
    case rest =>
    obtain ⟨rfl, rfl⟩ := hcut
    obtain ⟨W, hW⟩ : ∃ V, V = wc := ⟨wc, rfl⟩
    subst hW
    have hnx : (n : Int) = 65 → (65 : Int) < (wd : Int) + 1 := fun h => by have := (rst_long HRS.out (by omega)).1; omega
    have HNX := hid hnx
    clear hnx
    go_upto_region 11 with fail
    go_cut [42] from 36 to 42 (fun s42 wx => s42 = .bool (decide (n = 65)) ∧ wx = W)
    case first =>
      by_cases h65 : n = 65
      · have hq := HNX.out (by omega)
        subst h65
        go_wp2_with fail
        go_meet
        case rel => exact ⟨rfl, rfl⟩
      · have hq2 : ((n : Int) == 65) = false := by rw [beq_eq_false_iff_ne]; omega
        have hdd := decide_eq_false h65
        have HDD := hid hdd
        clear hdd
        by_cases hq : (65 : Int) < (wd : Int) + 1
        · go_wp2_with fail
          go_meet
          case rel => exact ⟨by rw [HDD.out], rfl⟩
        · go_wp2_with fail
          go_meet
          case rel => exact ⟨by rw [HDD.out], rfl⟩
    case rest =>
    obtain ⟨rfl, rfl⟩ := hcut
    obtain ⟨W, hW⟩ : ∃ V, V = wc := ⟨wc, rfl⟩
    subst hW
    by_cases h65 : n = 65
    case pos =>
      rw [decide_eq_true h65]
      have HRR := hid (rst_long HRS.out h65).2
      go_wp2_with fail
      obtain ⟨z0, z1⟩ := two_of (two_set (u0 := .string ⟨#[]⟩) (u1 := .slice none 0 0) HZB.out)
      refine bodyPost_ret (v := .tuple #[.agg #[.string ⟨#[]⟩, .slice none 0 0], .int .i64 0, .int .i64 2]) (by simp [results, Tryd.results27, go_sem, z0, z1]) rfl ?_
      rw [HRR.out]
      exact ⟨Kp.extOf HX.out (Kp.set2 W w.heap.size 0 _ _) (by omega), rfl⟩
    case neg =>
    rw [decide_eq_false h65]
    have H65 := hid h65
    clear h65
    go_upto_region 14 with fail
    go_cut [12] from 48 to 65 (fun s12 wx => s12 = .bool (leafL X.data.toList) ∧ wx = W)
    case first =>
      cases t1 with
      | true =>
        go_wp2_with fail
        go_meet
        case rel => exact ⟨by rw [HLF.out, HG.out]; rfl, rfl⟩
      | false =>
        cases t2 with
        | true =>
          go_wp2_with fail
          go_meet
          case rel => exact ⟨by rw [HLF.out, HG.out]; rfl, rfl⟩
        | false =>
          cases t3 with
          | true =>
            go_wp2_with fail
            go_meet
            case rel => exact ⟨by rw [HLF.out, HG.out]; rfl, rfl⟩
          | false =>
            cases t4 with
            | true =>
              go_wp2_with fail
              go_meet
              case rel => exact ⟨by rw [HLF.out, HG.out]; rfl, rfl⟩
            | false =>
              go_wp2_with fail
              go_at_call 46
              refine (HVA.out W).mono ?_
              rintro e w9 ⟨rfl, hw9⟩
              rw [hw9]
              clear hw9 w9
              go_wp2_with fail
              go_meet
              case rel => exact ⟨by rw [HLF.out, HG.out]; simp, rfl⟩
    case rest =>
    obtain ⟨rfl, rfl⟩ := hcut
    obtain ⟨W, hW⟩ : ∃ V, V = wc := ⟨wc, rfl⟩
    subst hW
    clear l1 l2 l3 l4
    obtain ⟨lf, hlf⟩ : ∃ lf, leafL X.data.toList = lf := ⟨_, rfl⟩
    rw [hlf]
    have HLF := hid hlf
    clear hlf HG HVA
    have HAT := hid (show ∀ (z : Int), ((W.setCell ⟨w.heap.size, 0, none⟩ (.string ⟨#[]⟩)).setCell ⟨w.heap.size, 1, none⟩ (.slice none 0 0)).heap[w.heap.size]? = some (.cells #[.string ⟨#[]⟩, .slice none 0 0] 27) from fun _ => two_set HZB.out)
    by_cases hnm : nm.data.toList = []
    case neg =>
      have HRR := hid (rst_named HRS.out hnm)
      have q1 : (nm.toList == []) = false := by rw [lit_eq]; exact decide_eq_false hnm
      have q2 : (nm.toList != []) = true := by unfold bne; rw [q1]; rfl
      have q3 : nm.toList.isEmpty = false := by rw [ByteArray.toList_eq]; simpa using hnm
      have hag : ((0 : Int) ≤ (at0 : Int)) = True := by simp
      clear hnm
      go_wp2_with fail
      obtain ⟨z0, z1⟩ := two_of (two_set (u0 := .string ⟨#[]⟩) (u1 := .slice none 0 0) HZB.out)
      refine bodyPost_ret (v := .tuple #[.agg #[.string ⟨#[]⟩, .slice none 0 0], .int .i64 at0, .int .i64 5]) (by simp [results, Tryd.results27, go_sem, z0, z1]) rfl ?_
      rw [HRR.out]
      exact ⟨Kp.extOf HX.out (Kp.set2 W w.heap.size 0 _ _) (by omega), rfl⟩
    case pos =>
    have hnm0 : nm = ⟨#[]⟩ := of_list hnm
    subst hnm0
    clear hnm
    obtain ⟨hn64, hwdn, f, hf, hrd⟩ := rst_open HRS.out H65.out
    have hwdn := hwdn.symm
    subst hwdn
    have HN64 := hid hn64
    have HRW := hid (show RWd s.data.toList r at0 n i f from ⟨hf, hrd, HAI.out, by have := HSL.out; have := HIS.out; omega, HWD.out.1, HWD.out.2, hn64⟩)
    clear hf hrd hn64
    cases lf with
    | true =>
      have HLT := hid (show leafL ((s.data.toList.drop at0).take (i - at0)) = true by rw [← HXL.out]; exact HLF.out)
      have HNEXT := hid (show RAt s r (i + 1) (i + 1) n (n + 1) X by
        by_cases h : i = s.size
        · right
          refine ⟨by omega, ?_, HN64.out, leaf_size HLF.out⟩
          rw [HXL.out]
          exact rst_last HRW.out HLT.out (by have := HSL.out; omega)
        · left
          refine ⟨by have := HIS.out; omega, Nat.le_refl _, fun k h1 h2 => by omega, ?_⟩
          rw [HXL.out]
          exact rst_name HRW.out HLT.out (by have := HSL.out; have := HIS.out; omega))
      go_wp2_with fail
      go_roundg (s.size - i)
      case measure => have := HIG.out; omega
      case rel => exact ⟨n + 1, i + 1, i + 1, n, X, by go_num, by go_num, rfl, by go_num, by have := HIG.out; omega, hn65, by have := HN64.out; omega, HNEXT.out, (set_at HCB.out 1 _).trans rfl, HKP.out.trans (Kp.set W (w.heap.size + 1) 1 _ (fun h => h rfl))⟩
    | false =>
      have HLT := hid (show leafL ((s.data.toList.drop at0).take (i - at0)) = false by rw [← HXL.out]; exact HLF.out)
      cases t5 with
      | true =>
        have HWL := hid (show (s.data.toList.drop at0).take (i - at0) = wL by rw [← HXL.out]; exact of_decide_eq_true HL5.out.symm)
        by_cases hil : i = s.size
        · have HRR := hid (rst_end HRW.out HWL.out (by have := HSL.out; omega))
          rw [HSL.out] at HRR
          subst hil
          have hag : ((0 : Int) ≤ (s.size : Int)) = True := by simp
          go_wp2_with fail
          obtain ⟨z0, z1⟩ := two_of (two_set (u0 := .string ⟨#[]⟩) (u1 := .slice none 0 0) HZB.out)
          refine bodyPost_ret (v := .tuple #[.agg #[.string ⟨#[]⟩, .slice none 0 0], .int .i64 s.size, .int .i64 5]) (by simp [results, Tryd.results27, go_sem, z0, z1]) rfl ?_
          rw [HRR.out]
          exact ⟨Kp.extOf HX.out (Kp.set2 W w.heap.size 0 _ _) (by omega), rfl⟩
        · have hq : ((i : Int) == (s.size : Int)) = false := by rw [beq_eq_false_iff_ne]; omega
          have HNEXT := hid (show RAt s r (i + 1) (i + 1) (n + 1) (n + 1) ⟨#[]⟩ from .inl ⟨by have := HIS.out; omega, Nat.le_refl _, fun k h1 h2 => by omega, rst_list HRW.out HWL.out (by have := HSL.out; have := HIS.out; omega)⟩)
          clear hil
          go_wp2_with fail
          go_roundg (s.size - i)
          case measure => have := HIG.out; omega
          case rel => exact ⟨n + 1, i + 1, i + 1, n + 1, ⟨#[]⟩, by go_num, by go_num, rfl, by go_num, by have := HIG.out; omega, by have := HN64.out; omega, by have := HN64.out; omega, HNEXT.out, (set_at HCB.out 0 _).trans rfl, HKP.out.trans (Kp.set W (w.heap.size + 1) 0 _ (fun h => h rfl))⟩
      | false =>
        have HRR := hid (rst_bad HRW.out (show (s.data.toList.drop at0).take (i - at0) ≠ wL by rw [← HXL.out]; exact of_decide_eq_false HL5.out.symm) HLT.out)
        have hag : ((0 : Int) ≤ (at0 : Int)) = True := by simp
        go_wp2_with fail
        obtain ⟨z0, z1⟩ := two_of (two_set (u0 := .string ⟨#[]⟩) (u1 := .slice none 0 0) HZB.out)
        refine bodyPost_ret (v := .tuple #[.agg #[.string ⟨#[]⟩, .slice none 0 0], .int .i64 at0, .int .i64 5]) (by simp [results, Tryd.results27, go_sem, z0, z1]) rfl ?_
        rw [HRR.out]
        exact ⟨Kp.extOf HX.out (Kp.set2 W w.heap.size 0 _ _) (by omega), rfl⟩
end Go.Proofs.YtllbelglilkdpaaDoor
