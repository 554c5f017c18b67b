/-
  The solver's of, in general, by a contract.
-/
import Derived.Test.YtllbelglilkdpaaDoorSStep
import Derived.Test.YtllbelglilkdpaaDoorSOfE
import Derived.Test.YtllbelglilkdpaaDoorHolds
namespace Go.Proofs.YtllbelglilkdpaaDoor
open Go.RowKit
def K2 (mb b5 : Nat) : Nat → Prop := fun k => k ≠ mb ∧ k ≠ b5
/-- What of leaves. -/
def OfR (w : World) (B kb mb N b1 b2 b3 b5 l : Nat) (σ : ByteArray → Option Sh) (t : T) (e : Ending) (w' : World) : Prop := Kp (K2 mb b5) w w' ∧
  ((srt t = none ∧ e = .returned (.tuple #[.agg #[.int .i64 0, .string ⟨#[]⟩], .bool false])) ∨
   (∃ a X l' N' σ', srt t = some a ∧ e = .returned (.tuple #[.agg #[.int .i64 ((X : Nat × ByteArray).1 : Int), .string X.2], .bool true]) ∧ l ≤ l' ∧ l' ≤ l + t.size ∧ N' + 2 ≤ N + 2 * t.size ∧ Solv w' B kb mb N' b1 b2 b3 b5 ((l' : Nat) : Int) σ' ∧ Inv σ' l' ∧ Agree σ σ' l l' ∧ FndN σ' 0 (shI X) (shI X) ∧ Rt l l' a X))
/-- As far as the loop has come. -/
def OfI (B kb mb N b1 b2 b3 b5 l : Nat) (σ : ByteArray → Option Sh) (f : ByteArray) (ks : List T) (j : Nat) (wr : World) : Prop := ∃ l1 N1 σ1 acc kA A, Solv wr B kb mb N1 b1 b2 b3 b5 ((l1 : Nat) : Int) σ1 ∧ Inv σ1 l1 ∧ Agree σ σ1 l l1 ∧ srtL (0, none) (ks.take j) = some acc ∧ FndN σ1 kA (0, f) (shI A) ∧ Rt l l1 acc A ∧ l + 1 ≤ l1 ∧ l1 ≤ l + 1 + T.sizeL (ks.take j) ∧ N1 ≤ N + 2 * T.sizeL (ks.take j)
theorem kp_set (K : Nat → Prop) {a b : World} {g : Nat} {v0 v1 : Value} (h : Kp K a b) (hg : a.heap.size ≤ g) : Kp K a ((b.setCell ⟨g, 0, none⟩ v0).setCell ⟨g, 1, none⟩ v1) := by
  refine h.trans' (n := a.heap.size) (L := fun _ => False) ((Kp.set2 b g 0 v0 v1).mono (fun q _ hq => ?_))
  rcases hq with hq | hq
  · show q ≠ g
    omega
  · exact hq.elim
theorem take_snoc' {α : Type} (l : List α) (j : Nat) (h : j < l.length) : l.take (j + 1) = l.take j ++ [l[j]] := by rw [List.take_add_one, List.getElem?_eq_getElem h]; rfl
theorem size_kid (ks : List T) (j : Nat) (h : j < ks.length) : T.sizeL (ks.take (j + 1)) = T.sizeL (ks.take j) + ks[j].size ∧ T.sizeL (ks.take (j + 1)) ≤ T.sizeL ks := by
  have e : ks.take (j + 1) = ks.take j ++ [ks[j]] := take_snoc' ks j h
  refine ⟨by rw [e, T.sizeL_append]; simp [T.sizeL], ?_⟩
  have := T.sizeL_append (ks.take (j + 1)) (ks.drop (j + 1))
  rw [List.take_append_drop] at this
  omega
theorem deep_kid (ks : List T) (j : Nat) (h : j < ks.length) : ks[j].deep ≤ T.deepL ks := by
  have e : ks = ks.take j ++ ks[j] :: ks.drop (j + 1) := by rw [← List.drop_eq_getElem_cons h, List.take_append_drop]
  have h1 := T.deepL_append (ks.take j) (ks[j] :: ks.drop (j + 1))
  rw [← e] at h1
  simp only [T.deepL] at h1
  omega
theorem deep_pre (ks : List T) (j : Nat) : T.deepL (ks.take j) ≤ T.deepL ks := by
  have h1 := T.deepL_append (ks.take j) (ks.drop j)
  rw [List.take_append_drop] at h1
  omega
theorem srt_bad {k n : Int} {x : ByteArray} {ks : List T} (hk : k = 5) {j : Nat} (h : srtL (0, none) (ks.take j) = none) : srt (.node k n x ks) = none := by
  rw [srt, if_pos hk]
  have := srtL_app (ks.take j) (ks.drop j) (0, none) h
  rw [List.take_append_drop] at this
  rw [this]
  rfl
theorem srtL_next {ks : List T} {j : Nat} {acc : Nat × Option ByteArray} (hj : j < ks.length) (h : srtL (0, none) (ks.take j) = some acc) : srtL (0, none) (ks.take (j + 1)) = match srt ks[j] with
    | none => none
    | some b => uniA acc b := by
  rw [take_snoc' ks j hj, srtL_snoc, h]
  rfl
theorem solv_bind {w w' : World} {B kb mb N b1 b2 b3 b5 : Nat} {l : Int} {σ τ : ByteArray → Option Sh} (h : Solv w B kb mb N b1 b2 b3 b5 l σ) (hk : Kp (· ≠ mb) w w') (hs : Sol w' kb mb (N + 1) b1 b2 b3 τ) : Solv w' B kb mb (N + 1) b1 b2 b3 b5 l τ := ⟨hs, hk.block' h.c5 h.n5.1, h.n5, h.ge⟩
set_option maxRecDepth 100000 in
set_option maxHeartbeats 4000000 in
theorem of_any : ∀ (d : Nat) (v : Value) (t : T) (K : Nat → Prop) (w : World) (B kb mb N b1 b2 b3 b5 l : Nat) (σ : ByteArray → Option Sh), Rd K w d v t → (∀ k, K k → K2 mb b5 k) → Solv w B kb mb N b1 b2 b3 b5 ((l : Nat) : Int) σ → Inv σ l → l + t.size ≤ 500000 → N + 2 * t.size ≤ 900000 → t.deep ≤ 64 → Laid w → 2 ≤ B →
    Calls Tryd.prog 43 #[.agg #[meetF b3 b1, foundF b2, freshF b5], v] w (OfR w B kb mb N b1 b2 b3 b5 l σ t) := by
  intro d
  induction d with
  | zero => intro v t K w B kb mb N b1 b2 b3 b5 l σ h; exact h.elim
  | succ d ih =>
    intro v t K w B kb mb N b1 b2 b3 b5 l σ hr hK hs hi hl hN hdp hG hB
    obtain ⟨k, n, x, ks⟩ := t
    obtain ⟨a, c, rfl, hx, hlen, hks⟩ := hr
    by_cases hk : k = 5
    case neg =>
      refine (of_leaf _ _ _ k n x a ks.length c w ⟨⟨_, _, _, rfl⟩, ⟨_, _, _, rfl⟩, ⟨_, _, _, rfl⟩⟩ hk).mono fun e w' hr => ?_
      have hg := name_grd k
      refine ⟨hr.2.kp _, .inr ⟨(0, some (nameB k)), (0, nameB k), l, N, σ, by rw [srt, if_neg hk], hr.1, Nat.le_refl _, by omega, by have := T.size_pos (.node k n x ks); omega, hs.later hr.2, hi, Agree.refl _ _ _, ?_, rfl, rfl, hg.1⟩⟩
      refine ⟨?_, hi.grd hg.1, rfl⟩
      have h2 := hg.2
      show Bd (((0 : Nat) : Int), nameB k)
      generalize nameB k = y at h2 ⊢
      exact ⟨by show (-70368744175616 : Int) ≤ 0; decide, by show (0 : Int) ≤ 70368744175616; decide, by show y.size ≤ _; omega⟩
    case pos =>
    subst hk
    have HKS := hid hks
    have HK := hid hK
    have HS := hid hs
    have HI := hid hi
    have HIH := hid ih
    have HG := hid hG
    have HB := hid hB
    have HSZ := hid (show (T.node 5 n x ks).size = 1 + x.size + T.sizeL ks by rw [T.size])
    have HL := hid hl
    have HN := hid hN
    have HD := hid (show 1 + T.deepL ks ≤ 64 by have h1 := hdp; rw [T.deep, if_pos rfl] at h1; exact h1)
    have hlen' : (ks.length : Int) ≤ 140737488351232 := by omega
    obtain ⟨f, hf⟩ : ∃ f, frB (l + 1) = f := ⟨_, rfl⟩
    have HF := hid hf
    have hl1 : l + 1 ≤ 1000000 := by have h1 := hl; rw [HSZ.out] at h1; omega
    have HFB := hid (show Bd (0, f) from hf ▸ bd_fr (l + 1) hl1)
    have HFR := hid (fun w1 (hx : Ext w w1) => fresh_gen l w1 (hs.later hx).c5 hl1 (hG.later hx) (by have := hs.ge.2.2.2.2.2; omega))
    rw [hf] at HFR
    obtain ⟨kl, hkl⟩ : ∃ kl, ks.length = kl := ⟨_, rfl⟩
    rw [hkl] at hlen' ⊢
    have HKL := hid hkl
    have hb5 := lt_of_block hs.c5
    have HB5 := hid hb5
    have HMB := hid (show mb < w.heap.size from hs.sol.map.lt.2)
    clear hs hi hl hN hdp hG hB hks hK ih hlen hx hf hl1 hkl
    obtain ⟨M, hM⟩ : ∃ M, ((w.alloc (.cells #[meetF b3 b1, foundF b2, freshF b5] 72)).alloc (.cells #[.int .i64 5, .int .i64 n, .string x, .slice a kl c] 31)).alloc (.cells #[.int .i64 0, .string ⟨#[]⟩] 58) = M := ⟨_, rfl⟩
    have HXM := hid (show Ext w M from hM ▸ (Ext.alloc2 _ _ _).trans (Ext.alloc _ _))
    have HM0 := hid (show M.heap[w.heap.size]? = some (.cells #[meetF b3 b1, foundF b2, freshF b5] 72) from hM ▸ blkOld _ (blkOld _ (blk0 _ _)))
    have HM1 := hid (show M.heap[w.heap.size + 1]? = some (.cells #[.int .i64 5, .int .i64 n, .string x, .slice a kl c] 31) from hM ▸ blkOld _ (blk1 _ _ _))
    have HM2 := hid (show M.heap[w.heap.size + 1 + 1]? = some (.cells #[.int .i64 0, .string ⟨#[]⟩] 58) from hM ▸ blk2 _ _ _ _)
    have m0 : M.cell? ⟨w.heap.size + 1, 0, none⟩ = some (.int .i64 5) := cell_of HM1.out rfl
    have m1 : M.cell? ⟨w.heap.size, 2, none⟩ = some (freshF b5) := cell_of HM0.out rfl
    go_enter Tryd.func43, Tryd.ntmps43
    go_wp2_with fail
    clear hM hb5 m0 m1
    refine (HFR.out M HXM.out).mono ?_
    rintro e w4 ⟨rfl, hk4, hc4⟩
    have K4 := hid hk4
    have C4 := hid hc4
    clear hk4 hc4
    have HW0 := hid (K4.out.block' HM0.out (by have := HB5.out; omega))
    have HW1 := hid (K4.out.block' HM1.out (by have := HB5.out; omega))
    have HW2 := hid (K4.out.block' HM2.out (by have := HB5.out; omega))
    obtain ⟨V, hV⟩ : ∃ V, w4.alloc (.cells #[.int .i64 0, .string f] 58) = V := ⟨_, rfl⟩
    have XV := hid (show Ext w4 V from hV ▸ Ext.alloc _ _)
    have HV3 := hid (show V.heap[w4.heap.size]? = some (.cells #[.int .i64 0, .string f] 58) from hV ▸ blk0 _ _)
    have HSV := hid (show Solv V B kb mb N b1 b2 b3 b5 ((l + 1 : Nat) : Int) σ from Solv.later ⟨(HS.out.later HXM.out).keep K4.out, C4.out, HS.out.n5, HS.out.ge⟩ XV.out)
    have HKV := hid (show Kp (K2 mb b5) w V from ((HXM.out.kp _).trans (K4.out.mono (fun q _ (h : K2 mb b5 q) => h.2))).trans (XV.out.kp _))
    have HVB := hid (show w.heap.size + 3 ≤ w4.heap.size by have h1 := lt_of_block HM2.out; have h2 := K4.out.size; omega)
    have g0 : V.cell? ⟨w.heap.size + 1, 3, none⟩ = some (.slice a kl c) := cell_of (XV.out.block HW1.out) rfl
    have HZ0 := hid (XV.out.block HW0.out)
    have HZ2 := hid (XV.out.block HW2.out)
    go_wp2_with fail
    clear hV g0
    go_loopw [24] (fun i wr => ∃ j : Nat, j ≤ kl ∧ i = .int .i64 j ∧ Kp (K2 mb b5) V wr ∧ OfI B kb mb N b1 b2 b3 b5 l σ f ks j wr) (fun i _ => kl - (intOf i).toNat)
    case atStart =>
      refine ⟨0, Nat.zero_le _, rfl, Kp.refl _ _, l + 1, N, σ, (0, none), 0, (0, f), HSV.out, HI.out.more (by omega), Agree.refl _ _ _, by rw [List.take_zero, srtL], ?_, ⟨rfl, l + 1, by omega, by omega, HF.out.symm⟩, Nat.le_refl _, by omega, by omega⟩
      exact ⟨HFB.out, by rw [← HF.out]; exact HI.out.new (by omega), rfl⟩
    case round =>
      obtain ⟨j, hj, rfl, hkr, l1, N1, σ1, acc, kA, A, hs1, hi1, hag, hsr, hfn, hrt, hl1, hl2, hn1⟩ := hrel
      have HKR := hid hkr
      have HS1 := hid hs1
      have HI1 := hid hi1
      have HAG := hid hag
      have HSR := hid hsr
      have HFN := hid hfn
      have HRT := hid hrt
      have HL1 := hid hl1
      have HL2 := hid hl2
      have HN1 := hid hn1
      have HKW := hid (HKV.out.trans hkr)
      have HB0 := hid (hkr.block' HZ0.out ⟨by have := HMB.out; omega, by have := HB5.out; omega⟩)
      have HB2 := hid (hkr.block' HZ2.out ⟨by have := HMB.out; omega, by have := HB5.out; omega⟩)
      have HBI := hid (hkr.block' HV3.out ⟨by have := HMB.out; have := HVB.out; omega, by have := HB5.out; have := HVB.out; omega⟩)
      have HLR := hid hkr.size
      clear hkr hs1 hi1 hag hsr hfn hrt hl1 hl2 hn1
      by_cases hlt : j < kl
      · have hlt' : (j : Int) < kl := by omega
        have hjl : j < ks.length := by have := HKL.out; omega
        rcases HKS.out with h0 | ⟨g, off, rfl, hg, hc⟩
        · rw [h0] at hjl; exact absurd hjl (Nat.not_lt_zero _)
        obtain ⟨u0, u1, u2, u3, h4, hrd⟩ := hc j hjl
        obtain ⟨k', n', x', a', c', rfl, rfl, rfl, rfl⟩ := hrd.shape
        have HR := hid hrd
        have HNX := hid (srtL_next hjl HSR.out)
        have HSK := hid (size_kid ks j hjl)
        have HDK := hid (deep_kid ks j hjl)
        have hK3 : K2 mb b5 g := HK.out g hg
        obtain ⟨p0, p1, p2, p3⟩ := h4.keep HKW.out hK3
        generalize ks[j] = tj at *
        generalize tj.kids.length = kj at *
        clear h4 hrd hc hg hK3 hjl
        obtain ⟨V2, hV2⟩ : ∃ V2, wr.alloc (.cells #[.int .i64 k', .int .i64 n', .string x', .slice a' kj c'] 31) = V2 := ⟨_, rfl⟩
        have X2 := hid (show Ext wr V2 from hV2 ▸ Ext.alloc _ _)
        have HBP := hid (show V2.heap[wr.heap.size]? = some (.cells #[.int .i64 k', .int .i64 n', .string x', .slice a' kj c'] 31) from hV2 ▸ blk0 _ _)
        have HKX := hid (HKW.out.trans (X2.out.kp _))
        have C2 := hid (HIH.out (.agg #[.int .i64 k', .int .i64 n', .string x', .slice a' kj c']) tj K V2 B kb mb N1 b1 b2 b3 b5 l1 σ1 (HR.out.keep (HKX.out.mono (fun q _ h => HK.out q h))) HK.out (HS1.out.later X2.out) HI1.out (by have h1 := HL.out; rw [HSZ.out] at h1; have h2 := HL2.out; have h3 := HSK.out; omega) (by have h1 := HN.out; rw [HSZ.out] at h1; have h2 := HN1.out; have h3 := HSK.out; omega) (by have h1 := HD.out; have h2 := HDK.out; omega) (HG.out.keep HKX.out ⟨by have h1 := HS.out.ge.2.1; have h2 := HB.out; omega, by have h1 := HS.out.ge.2.2.2.2.2; have h2 := HB.out; omega⟩) HB.out)
        have HC0 := hid (X2.out.block HB0.out)
        have s0 := cell_of (i := 0) HC0.out rfl
        have s1 := cell_of (i := 1) HC0.out rfl
        have s2 := cell_of (i := 2) HC0.out rfl
        have t0 := cell_of (i := 0) HBP.out rfl
        have t1 := cell_of (i := 1) HBP.out rfl
        have t2 := cell_of (i := 2) HBP.out rfl
        have t3 := cell_of (i := 3) HBP.out rfl
        simp only [List.getElem_toArray, List.getElem_cons_zero, List.getElem_cons_succ] at s0 s1 s2 t0 t1 t2 t3
        go_wp2_with fail
        clear hV2 p0 p1 p2 p3 s0 s1 s2 t0 t1 t2 t3
        go_at_call 43
        refine C2.out.mono ?_
        rintro e w5 ⟨hk5, ⟨hno, rfl⟩ | ⟨b, X, l2, N2, σ2, hsb, rfl, hl3, hl4, hn2, hs2, hi2, hag2, hfx, hrx⟩⟩
        · have HNO := hid (srt_bad (n := n) (x := x) rfl (show srtL (0, none) (ks.take (j + 1)) = none by rw [HNX.out, hno]))
          have HK5 := hid (HKX.out.trans hk5)
          have HB5' := hid (hk5.block' (X2.out.block HB2.out) ⟨by have := HMB.out; omega, by have := HB5.out; omega⟩)
          have hw5 := lt_of_block HB5'.out
          clear hk5 hno
          obtain ⟨r0, r1⟩ := two_of HB5'.out
          obtain ⟨f0, f1⟩ := two_free HB5'.out
          go_wp2_with fail
          obtain ⟨z0, z1⟩ := two_of (blkOld (.cells #[.int .i64 0, .string ⟨#[]⟩] 58) (two_set (u0 := .int .i64 0) (u1 := .string ⟨#[]⟩) HB5'.out))
          refine bodyPost_ret (v := .tuple #[.agg #[.int .i64 0, .string ⟨#[]⟩], .bool false]) (by simp [results, Tryd.results43, go_sem, z0, z1]) rfl ?_
          exact ⟨(kp_set _ HK5.out (by omega)).alloc _, .inl ⟨HNO.out, rfl⟩⟩
        · obtain ⟨Xn, Xz⟩ := X
          have HK5 := hid (HKX.out.trans hk5)
          have HKV5 := hid ((HKR.out.trans (X2.out.kp _)).trans hk5)
          have HSB := hid hsb
          have HL3 := hid hl3
          have HL4 := hid hl4
          have HN2 := hid hn2
          have HS2 := hid hs2
          have HI2 := hid hi2
          have HA2 := hid hag2
          have HFX := hid hfx
          have HRX := hid hrx
          have HE0 := hid (hk5.block' HC0.out ⟨by have := HMB.out; omega, by have := HB5.out; omega⟩)
          have HE2 := hid (hk5.block' (X2.out.block HB2.out) ⟨by have := HMB.out; omega, by have := HB5.out; omega⟩)
          have HEI := hid (hk5.block' (X2.out.block HBI.out) ⟨by have := HMB.out; have := HVB.out; omega, by have := HB5.out; have := HVB.out; omega⟩)
          clear hk5 hsb hl3 hl4 hn2 hs2 hi2 hag2 hfx hrx
          obtain ⟨V5, hV5⟩ : ∃ V5, w5.alloc (.cells #[.int .i64 Xn, .string Xz] 58) = V5 := ⟨_, rfl⟩
          have X5 := hid (show Ext w5 V5 from hV5 ▸ Ext.alloc _ _)
          have HBX := hid (show V5.heap[w5.heap.size]? = some (.cells #[.int .i64 Xn, .string Xz] 58) from hV5 ▸ blk0 _ _)
          have HG5 := hid (X5.out.block HE2.out)
          have HS5 := hid (HS2.out.later X5.out)
          have s0 : V5.cell? ⟨w.heap.size, 0, none⟩ = some (meetF b3 b1) := cell_of (X5.out.block HE0.out) rfl
          obtain ⟨i0, i1⟩ := two_of (X5.out.block HEI.out)
          obtain ⟨x0, x1⟩ := two_of HBX.out
          have HFA := hid (HFN.out.pres HI1.out HA2.out (by
            intro hfr
            have h1 := HF.out
            have hfr' : isFr l1 l2 f := hfr
            rw [← h1] at hfr'
            obtain ⟨i, q1, q2, q3⟩ := hfr'
            have := frB_inj q3
            have := HL1.out
            omega))
          have HST := hid (step_uni HI2.out HFA.out HFX.out HRT.out HRX.out (by have := HL1.out; omega) HL3.out)
          obtain ⟨An, Az⟩ := A
          have HMT := hid (meet_any kA 0 (0, f) ((Xn : Int), Xz) ((An : Int), Az) ((Xn : Int), Xz) V5 HS5.out.sol HFA.out HFX.out (bd_root HFA.out) (bd_root HFX.out) (by have h1 := HN.out; rw [HSZ.out] at h1; have h2 := HN1.out; have h3 := HSK.out; have h4 := HN2.out; omega))
          go_wp2_with fail
          clear hV5 s0 i0 i1 x0 x1
          refine HMT.out.mono ?_
          intro e w6 hmr
          have hmr' := meetR_uni (a := (An, Az)) (b := (Xn, Xz)) hmr
          clear hmr
          rcases hmr' with ⟨hu, rfl, hx6⟩ | ⟨hu, rfl, hx6⟩ | ⟨kk, qq, hu, rfl, hk6, hs6⟩
          · have HNO := hid (srt_bad (n := n) (x := x) rfl (show srtL (0, none) (ks.take (j + 1)) = none by rw [HNX.out, HSB.out]; exact HST.out.1 hu))
            have HK6 := hid (HK5.out.trans ((X5.out.trans hx6).kp _))
            have HB6 := hid (hx6.block HG5.out)
            clear hu hx6
            obtain ⟨r0, r1⟩ := two_of HB6.out
            obtain ⟨f0, f1⟩ := two_free HB6.out
            go_wp2_with fail
            obtain ⟨z0, z1⟩ := two_of (two_set (u0 := .int .i64 0) (u1 := .string ⟨#[]⟩) HB6.out)
            refine bodyPost_ret (v := .tuple #[.agg #[.int .i64 0, .string ⟨#[]⟩], .bool false]) (by simp [results, Tryd.results43, go_sem, z0, z1]) rfl ?_
            exact ⟨kp_set _ HK6.out (by omega), .inl ⟨HNO.out, rfl⟩⟩
          · obtain ⟨cc, hcc, hrc⟩ := HST.out.2.1 hu
            have HX6 := hid hx6
            have HCC := hid (show srtL (0, none) (ks.take (j + 1)) = some cc by rw [HNX.out, HSB.out]; exact hcc)
            have HRC := hid hrc
            clear hu hx6 hcc hrc
            go_wp2_with fail
            go_roundw
            case rel =>
              refine ⟨j + 1, by omega, by go_num, HKV5.out.trans ((X5.out.trans HX6.out).kp _), l2, N2, σ2, cc, kA, (An, Az), HS5.out.later HX6.out, HI2.out, ?_, HCC.out, HFA.out, HRC.out, ?_, ?_, ?_⟩
              · exact HAG.out.trans HA2.out (by have := HL1.out; omega) HL3.out
              · have h1 := HL1.out; have h2 := HL3.out; omega
              · have h1 := HL2.out; have h2 := HL4.out; have h3 := HSK.out.1; omega
              · have h1 := HN1.out; have h2 := HN2.out; have h3 := HSK.out.1; omega
            case measure => simp [intOf]; omega
          · obtain ⟨cc, hcc, hfk, hiv, k', A', hfn', hrc⟩ := HST.out.2.2 kk qq hu
            have HK6 := hid hk6
            have HS6 := hid (solv_bind HS5.out hk6 hs6)
            have HCC := hid (show srtL (0, none) (ks.take (j + 1)) = some cc by rw [HNX.out, HSB.out]; exact hcc)
            have HRC := hid hrc
            have HFK := hid hfk
            have HIV := hid hiv
            have HFN' := hid hfn'
            clear hu hk6 hs6 hcc hrc hfk hiv hfn'
            go_wp2_with fail
            go_roundw
            case rel =>
              refine ⟨j + 1, by omega, by go_num, (HKV5.out.trans (X5.out.kp _)).trans (HK6.out.mono (fun q _ (h : K2 mb b5 q) => h.1)), l2, N2 + 1, _, cc, k', A', HS6.out, HIV.out, ?_, HCC.out, HFN'.out, HRC.out, ?_, ?_, ?_⟩
              · intro z hz
                have h1 := HAG.out.trans HA2.out (by have := HL1.out; omega) HL3.out z hz
                rw [← h1]
                exact agree_bind HFK.out z hz
              · have h1 := HL1.out; have h2 := HL3.out; omega
              · have h1 := HL2.out; have h2 := HL4.out; have h3 := HSK.out.1; omega
              · have h1 := HN1.out; have h2 := HN2.out; have h3 := HSK.out.1; have h4 := T.size_pos tj; omega
            case measure => simp [intOf]; omega
      · have hlt' : ¬ (j : Int) < kl := by omega
        have hje : j = kl := by omega
        have HTK := hid (show ks.take j = ks from List.take_of_length_le (by have := HKL.out; omega))
        rw [HTK.out] at HSR HL2 HN1
        have HOK := hid (srtL_ok ks (0, none) acc (T.deepL ks) ⟨Nat.zero_le _, fun g hg => by cases hg⟩ (Nat.le_refl _) HSR.out)
        obtain ⟨An, Az⟩ := A
        have HAN := hid (show An ≤ 64 by have h1 : An = acc.1 := HRT.out.1; have h2 := HOK.out.1; have h3 := HD.out; omega)
        have s0 : wr.cell? ⟨w.heap.size, 1, none⟩ = some (foundF b2) := cell_of HB0.out rfl
        obtain ⟨i0, i1⟩ := two_of HBI.out
        have CW := hid (fun w1 => within_any (An : Int) 1 Az w1 (by omega) (by have := HAN.out; omega) (by omega) (by omega))
        clear hje
        go_wp2_with fail
        refine (found_any kA (0, f) ((An : Int), Az) wr HS1.out.sol.map HS1.out.sol.c2 HFN.out).mono ?_
        rintro e w6 ⟨rfl, hx6⟩
        have X6 := hid hx6
        clear hx6 s0 i0 i1
        go_wp2_with fail
        refine (CW.out w6).mono ?_
        rintro e w7 ⟨rfl, hx7⟩
        have X7 := hid (X6.out.trans hx7)
        clear hx7
        have HW7 := hid (X7.out.block HB2.out)
        obtain ⟨g4, g5⟩ := two_free HW7.out
        obtain ⟨g6, g7⟩ := two_of HW7.out
        obtain ⟨Z, hZ⟩ : ∃ Z, (w7.setCell ⟨w.heap.size + 1 + 1, 0, none⟩ (.int .i64 ((An : Int) + 1))).setCell ⟨w.heap.size + 1 + 1, 1, none⟩ (.string Az) = Z := ⟨_, rfl⟩
        have KZ := hid (show Kp (· ≠ w.heap.size + 1 + 1) w7 Z from hZ ▸ Kp.set2 w7 (w.heap.size + 1 + 1) 0 (.int .i64 ((An : Int) + 1)) (.string Az))
        have HZ := hid (show Z.heap[w.heap.size + 1 + 1]? = some (.cells #[.int .i64 ((An : Int) + 1), .string Az] 58) from hZ ▸ two_set HW7.out)
        have HKZ := hid (show Kp (K2 mb b5) w Z from hZ ▸ kp_set _ (HKW.out.trans (X7.out.kp _)) (by omega))
        obtain ⟨z0, z1⟩ := two_of HZ.out
        go_wp2_with fail
        refine bodyPost_ret (v := .tuple #[.agg #[.int .i64 ((An : Int) + 1), .string Az], .bool true]) (by simp [results, Tryd.results43, go_sem, z0, z1]) rfl ?_
        have hsv : Solv Z B kb mb N1 b1 b2 b3 b5 ((l1 : Nat) : Int) σ1 := by
          have h7 := HS1.out.later X7.out
          have e1 := HS.out.sol.map.lt.1
          have e2 := lt_of_block HS.out.sol.c1
          have e3 := lt_of_block HS.out.sol.c2
          have e4 := lt_of_block HS.out.sol.c3
          have e5 := HMB.out
          have e6 := HB5.out
          exact ⟨⟨h7.sol.map.keep KZ.out (by omega) (by omega), KZ.out.block' h7.sol.c1 (by omega), KZ.out.block' h7.sol.c2 (by omega), KZ.out.block' h7.sol.c3 (by omega), h7.sol.n1, h7.sol.n2, h7.sol.n3⟩, KZ.out.block' h7.c5 (by omega), h7.n5, h7.ge⟩
        have hb := bd_root HFN.out
        have hnone : σ1 Az = none := FndN.none HFN.out
        have hbz : Bd (shI (An + 1, Az)) := by
          have h1 := HAN.out
          have h3 : Az.size ≤ 140737488351232 := hb.2.2
          exact ⟨by show (-70368744175616 : Int) ≤ ((An + 1 : Nat) : Int); omega, by show ((An + 1 : Nat) : Int) ≤ 70368744175616; omega, h3⟩
        refine ⟨HKZ.out, .inr ⟨(acc.1 + 1, acc.2), (An + 1, Az), l1, N1, σ1, ?_, by simp, by have := HL1.out; omega, ?_, ?_, hsv, HI1.out, HAG.out, ⟨hbz, hnone, rfl⟩, ?_⟩⟩
        · rw [srt, if_pos rfl, HSR.out]; rfl
        · rw [HSZ.out]; have := HL2.out; omega
        · rw [HSZ.out]; have := HN1.out; omega
        · have h1 := HRT.out
          exact ⟨by show An + 1 = acc.1 + 1; rw [show An = acc.1 from h1.1], h1.2⟩
end Go.Proofs.YtllbelglilkdpaaDoor
