/-
  Apply of package sort, by a contract.
-/
import Derived.Test.YtllbelglilkdpaaDoorSUniG
namespace Go.Proofs.YtllbelglilkdpaaDoor
open Go.RowKit
/-- What Apply answers. -/
def ApR (w : World) (r : Int × S) (e : Ending) (w' : World) : Prop := ∃ v1 d1, e = .returned (.tuple #[v1, .int .i64 r.1]) ∧ SRd (fun q => w.heap.size ≤ q) w' d1 v1 r.2 ∧ Ext w w'
/-- The error as far as the givens have been asked. -/
def eAt (t : S) (l : List (ByteArray × S)) : Int := if (shp t).isSome = true ∧ l.all (fun g => (shp g.2).isSome) = true then 0 else 14
theorem eAt_nil (t : S) : eAt t [] = mayS t := by unfold eAt mayS; simp
theorem eAt_zero {t : S} {l : List (ByteArray × S)} {g : ByteArray × S} (h : eAt t l = 0) : eAt t (l ++ [g]) = mayS g.2 := by
  unfold eAt at *
  split at h
  · next hh =>
    rw [List.all_append, hh.2]
    unfold mayS
    simp [hh.1]
  · cases h
theorem eAt_bad {t : S} {l : List (ByteArray × S)} {g : ByteArray × S} (h : ¬ eAt t l = 0) : eAt t (l ++ [g]) = eAt t l := by
  unfold eAt at *
  split at h
  · exact absurd rfl h
  · next hh =>
    rw [if_neg hh, if_neg]
    intro h2
    rw [List.all_append, Bool.and_eq_true] at h2
    exact hh ⟨h2.1, h2.2.1⟩
theorem take_snoc {α : Type} (l : List α) (j : Nat) (h : j < l.length) : l.take (j + 1) = l.take j ++ [l[j]] := by rw [List.take_add_one, List.getElem?_eq_getElem h]; rfl
theorem shpV_O (t : S) : shpV (shp t) = .tuple #[.agg #[.int .i64 (shO t).1, .string (shO t).2], .int .i64 (mayS t)] := by
  unfold mayS shO
  cases shp t with
  | none => rfl
  | some a => rfl
theorem agg_two {u0 u1 p q : Value} (h : Value.agg #[u0, u1] = .agg #[p, q]) : u0 = p ∧ u1 = q := by
  simpa using h
theorem Gv.open' {K : Nat → Prop} {w : World} {d g i : Nat} {x : ByteArray} {t : S} (h : Gv K w d g i x t) : ∃ a c, w.cell? ⟨g, i, none⟩ = some (.string x) ∧ x.size ≤ 140737488351232 ∧ w.cell? ⟨g, i + 1, none⟩ = some (.string t.name) ∧ w.cell? ⟨g, i + 2, none⟩ = some (.slice a t.kids.length c) ∧ SRd K w d (.agg #[.string t.name, .slice a t.kids.length c]) t := by
  obtain ⟨h1, h2, u0, u1, h3, h4⟩ := h
  obtain ⟨a, c, e⟩ := h4.shape
  obtain ⟨rfl, rfl⟩ := agg_two e
  exact ⟨a, c, h1, h2, h3.1, h3.2, h4⟩
theorem tauF_mem (l : List (ByteArray × S)) : ∀ (σ : ByteArray → Option Sh) (k : ByteArray) (s : Sh), tauF l σ k = some s → (∃ g ∈ l, s = shO g.2) ∨ σ k = some s := by
  induction l with
  | nil => intro σ k s h; exact .inr h
  | cons g r ih =>
    intro σ k s h
    rcases ih _ k s h with ⟨g', h1, h2⟩ | h2
    · exact .inl ⟨g', by simp [h1], h2⟩
    · by_cases hk : k = g.1
      · have h2 : (if k = g.1 then some (shO g.2) else σ k) = some s := h2
        rw [if_pos hk] at h2
        exact .inl ⟨g, by simp, (Option.some.inj h2).symm⟩
      · have h2 : (if k = g.1 then some (shO g.2) else σ k) = some s := h2
        rw [if_neg hk] at h2
        exact .inr h2
theorem tauG_mem {l : List (ByteArray × S)} {k : ByteArray} {s : Sh} (h : tauG l k = some s) : ∃ g ∈ l, s = shO g.2 := by
  rcases tauF_mem l _ k s h with h | h
  · exact h
  · cases h
theorem eAt_all {t : S} {l : List (ByteArray × S)} (h : eAt t l = 0) : (∃ nx x, shp t = some (nx, x)) ∧ ∀ g ∈ l, ∃ sn sx, shp g.2 = some (sn, sx) := by
  unfold eAt at h
  split at h
  · next hh =>
    refine ⟨?_, fun g hg => ?_⟩
    · obtain ⟨a, ha⟩ := Option.isSome_iff_exists.1 hh.1
      exact ⟨a.1, a.2, ha⟩
    · have := List.all_eq_true.1 hh.2 g hg
      obtain ⟨a, ha⟩ := Option.isSome_iff_exists.1 this
      exact ⟨a.1, a.2, ha⟩
  · cases h
theorem apS_bad {t : S} {l : List (ByteArray × S)} (h : ¬ eAt t l = 0) : apS t l = (14, .node ⟨#[]⟩ []) ∧ eAt t l = 14 := by
  unfold eAt at h ⊢
  split at h
  · exact absurd rfl h
  · next hh =>
    refine ⟨?_, if_neg hh⟩
    unfold apS
    cases hs : shp t with
    | none => rfl
    | some a =>
      rw [hs] at hh
      exact if_neg (fun h2 => hh ⟨rfl, h2⟩)
theorem apS_zero {t : S} {l : List (ByteArray × S)} {n : Nat} {x : ByteArray} (h : eAt t l = 0) (ht : shp t = some (n, x)) : apS t l = if goodG l then
        match tauG l x with
        | none => ((0 : Int), chain n x)
        | some s => if 64 < s.1 + n then (2, .node ⟨#[]⟩ []) else (0, chain (s.1 + n).toNat s.2)
      else ((1 : Int), .node ⟨#[]⟩ []) := by
  unfold eAt at h
  split at h
  · next hh =>
    unfold apS
    rw [ht]
    exact if_pos hh.2
  · cases h
theorem srd_nil {K : Nat → Prop} (w : World) : SRd K w 1 (.agg #[.string ⟨#[]⟩, .slice none 0 0]) (.node ⟨#[]⟩ []) := ⟨none, 0, rfl, by decide, by decide, .inl rfl⟩
theorem not_good {l : List (ByteArray × S)} {j : Nat} (h : j < l.length) (hn : ¬ (vrbL l[j].1.data.toList = true ∧ tauG (l.take j) l[j].1 = none)) : ¬ goodG l := by
  intro hg
  have e : l = l.take j ++ l[j] :: l.drop (j + 1) := by
    rw [← List.drop_eq_getElem_cons h, List.take_append_drop]
  rw [e] at hg
  exact hn (goodG_at hg)
set_option maxRecDepth 100000 in
set_option maxHeartbeats 4000000 in
theorem apply_any {K K' : Nat → Prop} {d d' : Nat} {v v' : Value} {t : S} {l : List (ByteArray × S)} (w : World) (h : SRd K w d v t) (h' : GsRd K' w d' v' l) : Calls Tryd.prog 16 #[v, v'] w (ApR w (apS t l)) := by
  obtain ⟨a, c, rfl⟩ := h.shape
  obtain ⟨a', c', rfl, hlen, hgs⟩ := h'
  have HGS := hid hgs
  have hlen' : (l.length : Int) ≤ 140737488351232 := by omega
  have C1 := hid (fun w1 (hx : Ext w w1) => shapeOf_any w1 (h.later hx))
  rw [shpV_O] at C1
  have HE0 := hid (eAt_nil t)
  clear h hgs hlen
  obtain ⟨n, hn⟩ : ∃ n, (shO t).1 = n := ⟨_, rfl⟩
  obtain ⟨x, hx⟩ : ∃ x, (shO t).2 = x := ⟨_, rfl⟩
  rw [hn, hx] at C1
  have HN := hid hn
  have HX := hid hx
  clear hn hx
  generalize t.name = nt at *
  generalize t.kids.length = kt at *
  generalize mayS t = e0 at *
  obtain ⟨M, hM⟩ : ∃ M, (w.alloc (.cells #[.string nt, .slice a kt c] 27)).alloc (.cells #[.string ⟨#[]⟩, .slice none 0 0] 27) = M := ⟨_, rfl⟩
  have XM := hid (show Ext w M from hM ▸ Ext.alloc2 _ _ _)
  have HR0 := hid (show M.heap[w.heap.size + 1]? = some (.cells #[.string ⟨#[]⟩, .slice none 0 0] 27) from hM ▸ blk1 _ _ _)
  obtain ⟨m0, m1⟩ := two_of (show M.heap[w.heap.size]? = some (.cells #[.string nt, .slice a kt c] 27) from hM ▸ blkOld _ (blk0 _ _))
  obtain ⟨ll, hll⟩ : ∃ ll, l.length = ll := ⟨_, rfl⟩
  rw [hll] at hlen' ⊢
  have HLL := hid hll
  clear hll
  go_enter Tryd.func16, Tryd.ntmps16
  go_wp2_with fail
  go_at_call 32
  refine (C1.out M XM.out).mono ?_
  rintro e w1 ⟨rfl, hx1⟩
  clear hM m0 m1
  obtain ⟨V1, hV1⟩ : ∃ V1, w1.alloc (.cells #[.int .i64 n, .string x] 58) = V1 := ⟨_, rfl⟩
  have X1 := hid (show Ext w V1 from hV1 ▸ (XM.out.trans (hx1.trans (Ext.alloc _ _))))
  have HV1 := hid (show V1.heap[w1.heap.size]? = some (.cells #[.int .i64 n, .string x] 58) from hV1 ▸ blk0 _ _)
  have HR1 := hid (show V1.heap[w.heap.size + 1]? = some (.cells #[.string ⟨#[]⟩, .slice none 0 0] 27) from (hV1 ▸ hx1.trans (Ext.alloc _ _) : Ext M V1).block HR0.out)
  have HSZ := hid (show w.heap.size + 2 ≤ w1.heap.size by
    have h1 := lt_of_block HR0.out
    have h2 := hx1.size
    omega)
  clear hx1
  go_wp2_with fail
  clear hV1
  go_loopw [7, 25] (fun e7 i wr => ∃ j : Nat, j ≤ ll ∧ i = .int .i64 j ∧ e7 = .int .i64 (eAt t (l.take j)) ∧ Ext V1 wr) (fun _ i _ => ll - (intOf i).toNat)
  case atStart => exact ⟨0, Nat.zero_le _, rfl, by rw [List.take_zero, HE0.out], Ext.refl _⟩
  case round =>
    obtain ⟨j, hj, rfl, rfl, hxr⟩ := hrel
    have XR := hid hxr
    have HJ := hid hj
    obtain ⟨E, hE⟩ : ∃ E, eAt t (l.take j) = E := ⟨_, rfl⟩
    rw [hE]
    have HE := hid hE
    clear hxr hE
    by_cases hlt : j < ll
    · have hlt' : (j : Int) < ll := by omega
      have hjl : j < l.length := by have := HLL.out; omega
      rcases HGS.out with h0 | ⟨g, off, rfl, hg, hc⟩
      · rw [h0] at hjl; exact absurd hjl (Nat.not_lt_zero _)
      obtain ⟨a2, c2, p0, hys, p1, p2, hr2⟩ := ((hc j hjl).keep ((X1.out.trans XR.out).kp K') hg).open'
      have HR2 := hid hr2
      have HT := hid (take_snoc l j hjl)
      obtain ⟨tj, htj⟩ : ∃ tj, l[j] = tj := ⟨_, rfl⟩
      rw [htj] at HT HR2 p0 p1 p2
      obtain ⟨yj, sj⟩ := tj
      obtain ⟨ny, hny⟩ : ∃ ny, S.name sj = ny := ⟨_, rfl⟩
      obtain ⟨kl, hkl⟩ : ∃ kl, (S.kids sj).length = kl := ⟨_, rfl⟩
      rw [show S.name (yj, sj).2 = ny from hny] at p1 HR2
      rw [show (S.kids (yj, sj).2).length = kl from hkl] at p2 HR2
      have p0' : wr.cell? ⟨g, off + j * 3, none⟩ = some (.string yj) := p0
      clear hc hg hr2 htj p0 hny hkl hys hjl
      obtain ⟨V2, hV2⟩ : ∃ V2, wr.alloc (.cells #[.string yj, .string ny, .slice a2 kl c2] 50) = V2 := ⟨_, rfl⟩
      have X2 := hid (show Ext wr V2 from hV2 ▸ Ext.alloc _ _)
      have HB2 := hid (show V2.heap[wr.heap.size]? = some (.cells #[.string yj, .string ny, .slice a2 kl c2] 50) from hV2 ▸ blk0 _ _)
      by_cases he : E = 0
      · have q0 := cell_of (i := 1) HB2.out rfl
        have q1 := cell_of (i := 2) HB2.out rfl
        simp only [List.getElem_toArray, List.getElem_cons_zero, List.getElem_cons_succ] at q0 q1
        subst he
        have HT2 := hid (show eAt t (l.take (j + 1)) = mayS sj by rw [HT.out]; exact eAt_zero HE.out)
        go_wp2_with fail
        go_at_call 10
        refine (mayS_any V2 (HR2.out.later X2.out)).mono ?_
        rintro e w3 ⟨rfl, hx3⟩
        clear hV2 q0 q1 p1 p2 p0'
        go_wp2_with fail
        go_roundw
        case rel => exact ⟨j + 1, by omega, by go_num, by rw [HT2.out], XR.out.trans (X2.out.trans hx3)⟩
        case measure => simp [intOf]; omega
      · have he' : (E == 0) = false := by rw [beq_eq_false_iff_ne]; exact he
        have HT2 := hid (show eAt t (l.take (j + 1)) = E by rw [HT.out, ← HE.out]; exact eAt_bad (by rw [HE.out]; exact he))
        clear he
        go_wp2_with fail
        go_roundw
        case rel => exact ⟨j + 1, by omega, by go_num, by rw [HT2.out], XR.out.trans X2.out⟩
        case measure => simp [intOf]; omega
    · have hlt' : ¬ (j : Int) < ll := by omega
      have HE1 := hid (show eAt t l = E by rw [← HE.out, List.take_of_length_le (by have := HLL.out; omega)])
      have HRr := hid (XR.out.block HR1.out)
      by_cases he : E = 0
      · subst he
        obtain ⟨Wr, hWr⟩ : ∃ V, V = wr := ⟨wr, rfl⟩
        subst hWr
        obtain ⟨⟨nx, xx, hsx⟩, hall⟩ := eAt_all HE1.out
        have hnx : n = nx ∧ x = xx := by
          have h1 := HN.out
          have h2 := HX.out
          unfold shO at h1 h2
          rw [hsx] at h1 h2
          exact ⟨h1.symm, h2.symm⟩
        obtain ⟨rfl, rfl⟩ := hnx
        have HLE := hid (shp_le hsx)
        have HAP := hid (apS_zero HE1.out hsx)
        have HALL := hid hall
        clear hall hsx HN HX
        go_wp2_with fail
        go_at_call 40
        refine (standing_any Wr).mono ?_
        rintro e w4 ⟨rfl, hx4, hs4⟩
        obtain ⟨mb, hmb⟩ : ∃ mb, Wr.heap.size = mb := ⟨_, rfl⟩
        rw [hmb] at hs4 ⊢
        have HMB := hid hmb
        have X4 := hid hx4
        have HS4 := hid hs4
        have HR4 := hid (hx4.block HRr.out)
        have HV4 := hid (hx4.block (XR.out.block HV1.out))
        have HLW := hid (show w1.heap.size < mb by
          have h1 := lt_of_block HV1.out
          have h2 := XR.out.size
          omega)
        clear hx4 hs4 hmb HRr
        unfold standF standsF
        go_wp2_with fail
        go_loopw [45] (fun i wr => ∃ j : Nat, j ≤ ll ∧ i = .int .i64 j ∧ goodG (l.take j) ∧ SolM wr (mb + 1) mb j (tauG (l.take j)) ∧ Kp (· ≠ mb) w4 wr) (fun i _ => ll - (intOf i).toNat)
        case atStart => exact ⟨0, Nat.zero_le _, rfl, ⟨by simp, by simp⟩, by rw [List.take_zero]; exact HS4.out, Kp.refl _ _⟩
        case round =>
          obtain ⟨i, hi, rfl, hgd, hso, hkq⟩ := hrel
          have HGD := hid hgd
          have HSO := hid hso
          have HKQ := hid hkq
          have HI := hid hi
          have HXQ := hid (show Ext w wr from Kp.extOf (X1.out.trans (XR.out.trans X4.out)) hkq (by have h1 := HLW.out; have h2 := HSZ.out; omega))
          have HRq := hid (hkq.block' HR4.out (by have h1 := HLW.out; have h2 := HSZ.out; omega))
          have HVq := hid (hkq.block' HV4.out (by have h1 := HLW.out; omega))
          clear hgd hso hkq
          by_cases hil : i < ll
          · have hil' : (i : Int) < ll := by omega
            have hjl : i < l.length := by have := HLL.out; omega
            rcases HGS.out with h0 | ⟨g, off, rfl, hg, hc⟩
            · rw [h0] at hjl; exact absurd hjl (Nat.not_lt_zero _)
            obtain ⟨a2, c2, p0, hys, p1, p2, hr2⟩ := ((hc i hjl).keep (HXQ.out.kp K') hg).open'
            have HR2 := hid hr2
            have HT := hid (take_snoc l i hjl)
            have HNG := hid (not_good hjl)
            obtain ⟨sn, sx, hsn⟩ := HALL.out l[i] (List.getElem_mem hjl)
            have HSN := hid (shp_le hsn)
            obtain ⟨tj, htj⟩ : ∃ tj, l[i] = tj := ⟨_, rfl⟩
            rw [htj] at HT HR2 p0 p1 p2 HNG hys hsn
            obtain ⟨yj, sj⟩ := tj
            obtain ⟨ny, hny⟩ : ∃ ny, S.name sj = ny := ⟨_, rfl⟩
            obtain ⟨kl, hkl⟩ : ∃ kl, (S.kids sj).length = kl := ⟨_, rfl⟩
            rw [show S.name (yj, sj).2 = ny from hny] at p1 HR2
            rw [show (S.kids (yj, sj).2).length = kl from hkl] at p2 HR2
            have p0' : wr.cell? ⟨g, off + i * 3, none⟩ = some (.string yj) := p0
            have HYS := hid (show yj.size ≤ 140737488351232 from hys)
            have C2 := hid (fun w1 (hx : Ext wr w1) => shapeOf_any w1 (HR2.out.later hx))
            rw [show shpV (shp (yj, sj).2) = .tuple #[.agg #[.int .i64 sn, .string sx], .int .i64 0] by rw [hsn]; rfl] at C2
            have HSO' := hid (show shO sj = ((sn : Int), sx) by unfold shO; rw [show shp sj = some (sn, sx) from hsn]; rfl)
            clear hc hg hr2 htj p0 hny hkl hys hjl hsn
            obtain ⟨V2, hV2⟩ : ∃ V2, wr.alloc (.cells #[.string yj, .string ny, .slice a2 kl c2] 50) = V2 := ⟨_, rfl⟩
            have X2 := hid (show Ext wr V2 from hV2 ▸ Ext.alloc _ _)
            have HB2 := hid (show V2.heap[wr.heap.size]? = some (.cells #[.string yj, .string ny, .slice a2 kl c2] 50) from hV2 ▸ blk0 _ _)
            have q0 := cell_of (i := 1) HB2.out rfl
            have q1 := cell_of (i := 2) HB2.out rfl
            simp only [List.getElem_toArray, List.getElem_cons_zero, List.getElem_cons_succ] at q0 q1
            go_wp2_with fail
            go_at_call 32
            refine (C2.out V2 X2.out).mono ?_
            rintro e w5 ⟨rfl, hx5⟩
            clear hV2 q0 q1 p1 p2 p0'
            obtain ⟨V5, hV5⟩ : ∃ V5, w5.alloc (.cells #[.int .i64 sn, .string sx] 58) = V5 := ⟨_, rfl⟩
            have X5 := hid (show Ext wr V5 from hV5 ▸ (X2.out.trans (hx5.trans (Ext.alloc _ _))))
            have HB5 := hid (show V5.heap[w5.heap.size]? = some (.cells #[.int .i64 sn, .string sx] 58) from hV5 ▸ blk0 _ _)
            have HB6 := hid (show V5.heap[wr.heap.size]? = some (.cells #[.string yj, .string ny, .slice a2 kl c2] 50) from (hV5 ▸ hx5.trans (Ext.alloc _ _) : Ext V2 V5).block HB2.out)
            have q0 : V5.cell? ⟨wr.heap.size, 0, none⟩ = some (.string yj) := cell_of HB6.out rfl
            obtain ⟨d0, d1⟩ := two_of HB5.out
            clear hx5
            go_wp2_with fail
            go_at_call 36
            refine (variable_any yj V5 HYS.out).mono ?_
            rintro e w6 ⟨rfl, hw6⟩
            rw [hw6]
            clear hw6 hV5
            have HR5 := hid (X5.out.block HRq.out)
            obtain ⟨f0, f1⟩ := two_free HR5.out
            obtain ⟨r0, r1⟩ := two_of HR5.out
            obtain ⟨bv, hbv⟩ : ∃ bv, vrbL yj.data.toList = bv := ⟨_, rfl⟩
            rw [hbv]
            cases bv with
            | false =>
              have HNG2 := hid (HNG.out (fun h => by rw [show vrbL (yj, sj).1.data.toList = false from hbv] at h; cases h.1))
              clear hbv
              go_wp2_with fail
              obtain ⟨z0, z1⟩ := two_of (two_set (u0 := .string ⟨#[]⟩) (u1 := .slice none 0 0) HR5.out)
              refine bodyPost_ret (v := .tuple #[.agg #[.string ⟨#[]⟩, .slice none 0 0], .int .i64 1]) (by simp [results, Tryd.results16, go_sem, z0, z1]) rfl ?_
              rw [HAP.out, if_neg HNG2.out]
              exact ⟨_, 1, rfl, srd_nil _, Kp.extOf (HXQ.out.trans X5.out) (Kp.set2 V5 (w.heap.size + 1) 0 _ _) (by omega)⟩
            | true =>
              have HBV := hid hbv
              clear hbv
              go_wp2_with fail
              go_at_call 64
              refine (stand_any yj ((sn : Int), sx) V5 (HSO.out.later X5.out) HYS.out (by have h1 := goodG_few HGD.out; rw [List.length_take] at h1; have h2 := HLL.out; have h3 := HI.out; omega)).mono ?_
              rintro e w7 (⟨hso, rfl, hx7⟩ | ⟨hso, rfl, hk7, hs7⟩)
              · have HNG2 := hid (HNG.out (fun h => by rw [show tauG (l.take i) yj = none from h.2] at hso; cases hso))
                have HR7 := hid (hx7.block HR5.out)
                have X7 := hid (X5.out.trans hx7)
                clear r0 r1 f0 f1 hx7 hso d0 d1 q0
                obtain ⟨f0, f1⟩ := two_free HR7.out
                obtain ⟨r0, r1⟩ := two_of HR7.out
                go_wp2_with fail
                obtain ⟨z0, z1⟩ := two_of (two_set (u0 := .string ⟨#[]⟩) (u1 := .slice none 0 0) HR7.out)
                refine bodyPost_ret (v := .tuple #[.agg #[.string ⟨#[]⟩, .slice none 0 0], .int .i64 1]) (by simp [results, Tryd.results16, go_sem, z0, z1]) rfl ?_
                rw [HAP.out, if_neg HNG2.out]
                exact ⟨_, 1, rfl, srd_nil _, Kp.extOf (HXQ.out.trans X7.out) (Kp.set2 w7 (w.heap.size + 1) 0 _ _) (by omega)⟩
              · have HG2 := hid (show goodG (l.take (i + 1)) by rw [HT.out]; exact goodG_snoc HGD.out HBV.out hso)
                have HS7 := hid (show SolM w7 (mb + 1) mb (i + 1) (tauG (l.take (i + 1))) by
                  rw [HT.out, tauG_snoc]
                  show SolM w7 (mb + 1) mb (i + 1) (fun k => if k = yj then some (shO sj) else tauG (l.take i) k)
                  rw [HSO'.out]
                  exact hs7)
                have HK7 := hid ((HKQ.out.trans (X5.out.kp _)).trans hk7)
                clear r0 r1 f0 f1 hk7 hs7 hso d0 d1 q0
                go_wp2_with fail
                go_roundw
                case rel => exact ⟨i + 1, by omega, by go_num, HG2.out, HS7.out, HK7.out⟩
                case measure => simp [intOf]; omega
          · have hil' : ¬ (i : Int) < ll := by omega
            have hie : i = ll := by omega
            subst hie
            have HTK := hid (show l.take i = l from List.take_of_length_le (by have := HLL.out; omega))
            rw [HTK.out] at HGD HSO
            rw [if_pos HGD.out] at HAP
            have HXS := hid (show x.size ≤ 140737488351232 from Nat.le_trans (leaf_size HLE.out.2) (by decide))
            obtain ⟨d0, d1⟩ := two_of HVq.out
            go_wp2_with fail
            go_at_call 63
            refine (stands_any x wr HSO.out HXS.out).mono ?_
            rintro e w5 ⟨rfl, hx5⟩
            clear d0 d1
            have HLW2 := hid (show w1.heap.size < wr.heap.size from lt_of_block HVq.out)
            cases hσ : tauG l x with
            | none =>
              rw [hσ] at HAP
              have hst : stV none = .tuple #[.agg #[.int .i64 0, .string ⟨#[]⟩], .bool false] := rfl
              rw [hst]
              clear hσ hst
              have Y5 := hid (show Ext wr (w5.alloc (.cells #[.int .i64 0, .string ⟨#[]⟩] 58)) from hx5.trans (Ext.alloc _ _))
              have X5 := hid (HXQ.out.trans Y5.out)
              have HR5 := hid (Y5.out.block HRq.out)
              have hq : ¬ ((64 : Int) < (nx : Int)) := by have := HLE.out.1; omega
              obtain ⟨d0, d1⟩ := two_of (hx5.block HVq.out)
              have hlw5 : w1.heap.size < w5.heap.size := lt_of_block (hx5.block HVq.out)
              clear hx5
              go_wp2_with fail
              go_at_call 37
              refine (sort_any nx x _ (by have := HLE.out.1; omega) HXS.out).mono ?_
              rintro e w6 ⟨v6, rfl, hr6, hx6, _⟩
              clear d0 d1 hlw5
              generalize w5.alloc (.cells #[.int .i64 0, .string ⟨#[]⟩] 58) = V5 at *
              obtain ⟨a9, c9, rfl⟩ := hr6.shape
              have R6 := hid hr6
              have X6 := hid hx6
              obtain ⟨nm, hnm⟩ : ∃ nm, (chain nx x).name = nm := ⟨_, rfl⟩
              obtain ⟨kl, hkl⟩ : ∃ kl, (chain nx x).kids.length = kl := ⟨_, rfl⟩
              rw [hnm, hkl] at R6 ⊢
              have HR6 := hid (hx6.block HR5.out)
              clear hr6 hx6 hnm hkl
              obtain ⟨f0, f1⟩ := two_free HR6.out
              obtain ⟨r0, r1⟩ := two_of HR6.out
              go_wp2_with fail
              obtain ⟨z0, z1⟩ := two_of (two_set (u0 := .string nm) (u1 := .slice a9 kl c9) HR6.out)
              refine bodyPost_ret (v := .tuple #[.agg #[.string nm, .slice a9 kl c9], .int .i64 0]) (by simp [results, Tryd.results16, go_sem, z0, z1]) rfl ?_
              rw [HAP.out]
              have hlt5 := lt_of_block HR5.out
              refine ⟨_, nx + 1, rfl, ?_, Kp.extOf (X5.out.trans X6.out) (Kp.set2 w6 (w.heap.size + 1) 0 _ _) (by omega)⟩
              exact (R6.out.keep ((Kp.set2 w6 (w.heap.size + 1) 0 (.string nm) (.slice a9 kl c9)).mono (fun k _ (hk : V5.heap.size ≤ k) => by show k ≠ _; omega))).mono (fun k _ (hk : V5.heap.size ≤ k) => Nat.le_trans X5.out.size hk)
            | some s =>
              obtain ⟨g0, hg0, hs⟩ := tauG_mem hσ
              obtain ⟨sn, sx, hsn⟩ := HALL.out g0 hg0
              have hs2 : s = ((sn : Int), sx) := by rw [hs]; unfold shO; rw [hsn]; rfl
              subst hs2
              have HSN := hid (shp_le hsn)
              rw [hσ] at HAP
              have hst : stV (some ((sn : Int), sx)) = .tuple #[.agg #[.int .i64 sn, .string sx], .bool true] := rfl
              rw [hst]
              obtain ⟨tot, htot⟩ : ∃ tot : Nat, (sn : Int) + (nx : Int) = tot := ⟨sn + nx, by omega⟩
              have HTL := hid (show tot ≤ 128 by have h1 := HSN.out.1; have h2 := HLE.out.1; omega)
              have HAP2 := hid (show apS t l = if (64 : Int) < tot then (2, .node ⟨#[]⟩ []) else (0, chain tot sx) by
                rw [HAP.out]
                show (if (64 : Int) < (sn : Int) + (nx : Int) then ((2 : Int), S.node ⟨#[]⟩ []) else (0, chain ((sn : Int) + (nx : Int)).toNat sx)) = _
                rw [htot]
                simp)
              have CW := hid (fun w1 => within_any sn nx sx w1 (by omega) (by have h1 := HSN.out.1; omega) (by omega) (by have h1 := HLE.out.1; omega))
              rw [htot] at CW
              clear hσ hst hg0 hs hsn htot
              obtain ⟨V5, hV5⟩ : ∃ V5, w5.alloc (.cells #[.int .i64 sn, .string sx] 58) = V5 := ⟨_, rfl⟩
              have Y5 := hid (show Ext wr V5 from hV5 ▸ hx5.trans (Ext.alloc _ _))
              have X5 := hid (HXQ.out.trans Y5.out)
              have HR5 := hid (Y5.out.block HRq.out)
              have HV5 := hid (Y5.out.block HVq.out)
              have HB5 := hid (show V5.heap[w5.heap.size]? = some (.cells #[.int .i64 sn, .string sx] 58) from hV5 ▸ blk0 _ _)
              obtain ⟨d0, d1⟩ := two_of HV5.out
              obtain ⟨d2, d3⟩ := two_of HB5.out
              clear hx5
              go_wp2_with fail
              go_at_call 41
              refine (CW.out V5).mono ?_
              rintro e w6 ⟨rfl, hx6⟩
              clear d0 d1 d2 d3 hV5
              have HR6 := hid (hx6.block HR5.out)
              have HV6 := hid (hx6.block HV5.out)
              have X6 := hid (X5.out.trans hx6)
              have HL6 := hid hx6.size
              clear hx6
              obtain ⟨d0, d1⟩ := two_of HV6.out
              obtain ⟨d2, d3⟩ := two_free HV6.out
              obtain ⟨U, hU⟩ : ∃ U, (w6.setCell ⟨w1.heap.size, 0, none⟩ (.int .i64 tot)).setCell ⟨w1.heap.size, 1, none⟩ (.string sx) = U := ⟨_, rfl⟩
              have HU := hid (show U.heap[w1.heap.size]? = some (.cells #[.int .i64 tot, .string sx] 58) from hU ▸ two_set HV6.out)
              have KU := hid (show Kp (· ≠ w1.heap.size) w6 U from hU ▸ Kp.set2 w6 w1.heap.size 0 (.int .i64 tot) (.string sx))
              have XU := hid (show Ext w U from Kp.extOf X6.out KU.out (by have := HSZ.out; omega))
              have HRU := hid (KU.out.block' HR6.out (by have := HSZ.out; omega))
              obtain ⟨e0, e1⟩ := two_of HU.out
              obtain ⟨f0, f1⟩ := two_free HRU.out
              obtain ⟨r0, r1⟩ := two_of HRU.out
              by_cases htl : (64 : Int) < tot
              · rw [if_pos htl] at HAP2
                go_wp2_with fail
                obtain ⟨z0, z1⟩ := two_of (two_set (u0 := .string ⟨#[]⟩) (u1 := .slice none 0 0) HRU.out)
                refine bodyPost_ret (v := .tuple #[.agg #[.string ⟨#[]⟩, .slice none 0 0], .int .i64 2]) (by simp [results, Tryd.results16, go_sem, z0, z1]) rfl ?_
                rw [HAP2.out]
                exact ⟨_, 1, rfl, srd_nil _, Kp.extOf XU.out (Kp.set2 U (w.heap.size + 1) 0 _ _) (by omega)⟩
              · rw [if_neg htl] at HAP2
                go_wp2_with fail
                go_at_call 37
                refine (sort_any tot sx U (by have := HTL.out; omega) (Nat.le_trans (leaf_size HSN.out.2) (by decide))).mono ?_
                rintro e w8 ⟨v8, rfl, hr8, hx8, _⟩
                obtain ⟨a9, c9, rfl⟩ := hr8.shape
                have R8 := hid hr8
                have X8 := hid hx8
                obtain ⟨nm, hnm⟩ : ∃ nm, (chain tot sx).name = nm := ⟨_, rfl⟩
                obtain ⟨kl, hkl⟩ : ∃ kl, (chain tot sx).kids.length = kl := ⟨_, rfl⟩
                rw [hnm, hkl] at R8 ⊢
                have HR8 := hid (hx8.block HRU.out)
                clear hr8 hx8 hnm hkl d0 d1 d2 d3 e0 e1 f0 f1 r0 r1 hU htl
                obtain ⟨f0, f1⟩ := two_free HR8.out
                obtain ⟨r0, r1⟩ := two_of HR8.out
                go_wp2_with fail
                obtain ⟨z0, z1⟩ := two_of (two_set (u0 := .string nm) (u1 := .slice a9 kl c9) HR8.out)
                refine bodyPost_ret (v := .tuple #[.agg #[.string nm, .slice a9 kl c9], .int .i64 0]) (by simp [results, Tryd.results16, go_sem, z0, z1]) rfl ?_
                rw [HAP2.out]
                have hlt5 := lt_of_block HRU.out
                refine ⟨_, tot + 1, rfl, ?_, Kp.extOf (XU.out.trans X8.out) (Kp.set2 w8 (w.heap.size + 1) 0 _ _) (by omega)⟩
                exact (R8.out.keep ((Kp.set2 w8 (w.heap.size + 1) 0 (.string nm) (.slice a9 kl c9)).mono (fun k _ (hk : U.heap.size ≤ k) => by show k ≠ _; omega))).mono (fun k _ (hk : U.heap.size ≤ k) => Nat.le_trans XU.out.size hk)
      · have he' : (E != 0) = true := by rw [bne_iff_ne]; exact he
        have he2 : (E == 0) = false := by rw [beq_eq_false_iff_ne]; exact he
        have HA := hid (apS_bad (t := t) (l := l) (by rw [HE1.out]; exact he))
        clear he
        obtain ⟨f0, f1⟩ := two_free HRr.out
        obtain ⟨r0, r1⟩ := two_of HRr.out
        go_wp2_with fail
        obtain ⟨z0, z1⟩ := two_of (two_set (u0 := .string ⟨#[]⟩) (u1 := .slice none 0 0) HRr.out)
        refine bodyPost_ret (v := .tuple #[.agg #[.string ⟨#[]⟩, .slice none 0 0], .int .i64 E]) (by simp [results, Tryd.results16, go_sem, z0, z1]) rfl ?_
        rw [HA.out.1]
        have e14 : E = 14 := by rw [← HE1.out]; exact HA.out.2
        rw [e14]
        exact ⟨_, 1, rfl, srd_nil _, Kp.extOf (X1.out.trans XR.out) (Kp.set2 wr (w.heap.size + 1) 0 _ _) (by omega)⟩
end Go.Proofs.YtllbelglilkdpaaDoor
