/-
  The walk of WorthFresh: it tells yes, and what lay there lies as it lay.
-/
import Derived.Test.YtbpbkihcfdnphaaDoorBegun
import Derived.Test.YtbpbkihcfdnphaaDoorIsF
import Derived.Test.YtbpbkihcfdnphaaDoorJoin
import Derived.Test.YtbpbkihcfdnphaaDoorPMarks
import Derived.Test.YtbpbkihcfdnphaaDoorQuiet
import Derived.Test.YtbpbkihcfdnphaaDoorFullF
import Derived.Test.YtbpbkihcfdnphaaDoorRLeft
namespace Go.Proofs.YtbpbkihcfdnphaaDoor
open Go.RowKit
/-- The rows' blocks behind a round. -/
def O1 (O : Nat → Prop) (a b : Nat) : Nat → Prop := fun q => (O q ∧ q < a) ∨ b ≤ q
/-- What is read behind a round. -/
def R1 (R : Nat → Prop) (a b : Nat) (X : List Nat) : Nat → Prop := fun q => (R q ∧ q < a) ∨ (a ≤ q ∧ q < b ∧ q ∉ X)
/-- What a round reads and nobody writes. -/
def Z1 (m a b : Nat) (X : List Nat) : Nat → Prop := fun q => q < m ∨ (a ≤ q ∧ q < b ∧ q ∉ X)
theorem OR1 {O R : Nat → Prop} {a b : Nat} {X : List Nat} (h : ∀ q, O q → ¬ R q) (hab : a ≤ b) (q : Nat) (hO : O1 O a b q) : ¬ R1 R a b X q := by
  rintro (⟨hR, _⟩ | ⟨h1, h2, _⟩)
  · rcases hO with ⟨hO, _⟩ | hO
    · exact h q hO hR
    · omega
  · rcases hO with ⟨_, hO⟩ | hO <;> omega
theorem O1_mid {O : Nat → Prop} {a b q : Nat} (h1 : a ≤ q) (h2 : q < b) : ¬ O1 O a b q := by
  rintro (⟨_, h⟩ | h) <;> omega
theorem Z1_O1 {O R : Nat → Prop} {m a b : Nat} {X : List Nat} (h : ∀ q, O q → ¬ R q) (hl : ∀ q, q < m → R q) (hma : m ≤ a) (hab : a ≤ b) (q : Nat) (hz : Z1 m a b X q) : ¬ O1 O a b q := by
  rcases hz with hz | ⟨h1, h2, _⟩
  · rintro (⟨hO, _⟩ | hO)
    · exact h q hO (hl q hz)
    · omega
  · exact O1_mid h1 h2
theorem Z1_R1 {R : Nat → Prop} {m a b : Nat} {X : List Nat} (hl : ∀ q, q < m → R q) (hma : m ≤ a) (q : Nat) (hz : Z1 m a b X q) : R1 R a b X q := by
  rcases hz with hz | hz
  · exact .inl ⟨hl q hz, by omega⟩
  · exact .inr hz
/-- Kept but for some of X: the rows and what is read. -/
theorem VQ.off {w w' : World} {base a b : Nat} {O R : Nat → Prop} {X bs : List Nat} {qv : Value} {acc : List T} (h : VQ w base (O1 O a b) (R1 R a b X) qv acc) (hk : KpOff bs w w') (hb : ∀ q ∈ bs, a ≤ q ∧ q < b) (hX : ∀ q ∈ bs, q ∈ X) : VQ w' base (O1 O a b) (R1 R a b X) qv acc :=
  h.keep' hk (fun q hq e => O1_mid (hb q e).1 (hb q e).2 (h.own hq).2.1) (fun q _ hR e => by
    rcases hR with ⟨_, hR⟩ | ⟨_, _, hR⟩
    · have := (hb q e).1; omega
    · exact hR (hX q e))
theorem PQ.off {w w' : World} {base a b : Nat} {O R : Nat → Prop} {X bs : List Nat} {qv : Value} {acc : List T} (h : PQ w base (O1 O a b) (R1 R a b X) qv acc) (hk : KpOff bs w w') (hb : ∀ q ∈ bs, a ≤ q ∧ q < b) (hX : ∀ q ∈ bs, q ∈ X) : PQ w' base (O1 O a b) (R1 R a b X) qv acc :=
  h.keep' hk (fun q hq e => O1_mid (hb q e).1 (hb q e).2 (h.own hq).2.1) (fun q _ hR e => by
    rcases hR with ⟨_, hR⟩ | ⟨_, _, hR⟩
    · have := (hb q e).1; omega
    · exact hR (hX q e))
theorem Kp.offZ {w w' : World} {m a b : Nat} {X bs : List Nat} (hk : KpOff bs w w') (hma : m ≤ a) (hb : ∀ q ∈ bs, a ≤ q ∧ q < b) (hX : ∀ q ∈ bs, q ∈ X) : Kp (Z1 m a b X) w w' :=
  Kp.mono hk (fun q _ hz e => by
    rcases hz with hz | ⟨_, _, hz⟩
    · have := (hb q e).1; omega
    · exact hz (hX q e))
theorem two_rd {K : Nat → Prop} {w : World} {g d : Nat} {k n : Int} {x : ByteArray} {a : Option Addr} {l c : Nat} {t : T} (hb : w.heap[g]? = some (.cells #[.int .i64 k, .int .i64 n, .string x, .slice a l c, .int .i64 k, .int .i64 n, .string x, .slice a l c] 24)) (hr : Rd K w d (.agg #[.int .i64 k, .int .i64 n, .string x, .slice a l c]) t) :
    RdL (fun q => K q ∨ q = g) w d (some ⟨g, 0, none⟩) [t, t] := by
  refine ⟨by show 2 * 56 ≤ 140737488351232; omega, .inr ⟨g, 0, rfl, .inr rfl, fun j hj => ?_⟩⟩
  match j, hj with
  | 0, _ => exact ⟨_, _, _, _, ⟨cell_of (i := 0) hb rfl, cell_of (i := 1) hb rfl, cell_of (i := 2) hb rfl, cell_of (i := 3) hb rfl⟩, hr.mono (fun _ _ h => .inl h)⟩
  | 1, _ => exact ⟨_, _, _, _, ⟨cell_of (i := 4) hb rfl, cell_of (i := 5) hb rfl, cell_of (i := 6) hb rfl, cell_of (i := 7) hb rfl⟩, hr.mono (fun _ _ h => .inl h)⟩
theorem join_two {K : Nat → Prop} {w : World} {d : Nat} {k n : Int} {x : ByteArray} {a : Option Addr} {l c : Nat} {t : T} (hr : Rd K w d (.agg #[.int .i64 k, .int .i64 n, .string x, .slice a l c]) t) :
    Calls Tryd.prog 17 #[.slice (some ⟨w.heap.size, 0, none⟩) 2 2] (w.alloc (.cells #[.int .i64 k, .int .i64 n, .string x, .slice a l c, .int .i64 k, .int .i64 n, .string x, .slice a l c] 24)) (JoinR (w.alloc (.cells #[.int .i64 k, .int .i64 n, .string x, .slice a l c, .int .i64 k, .int .i64 n, .string x, .slice a l c] 24)) (d + 1) [t, t]) :=
  join_any (c := 2) _ (two_rd (blk0 w _) (hr.later (Ext.alloc w _)))
theorem is_same {K K' : Nat → Prop} {d d' : Nat} {v v' : Value} {t : T} (w : World) (hr : VRd K w d v t) (hr' : Rd K' w d' v' t) (hm : t.may) : Calls Tryd.prog 11 #[v, v'] w fun e w' => e = .returned (.bool true) ∧ Ext w w' := by
  have e := is_any w hr hr' (Nat.le_trans (T.nodes_size _) (Nat.le_trans hm.2.1 (by decide))) (Nat.le_trans hm.2.2 (by decide))
  rw [(T.beq_eq _ _).2 rfl] at e
  exact e
/-- The loop's state. -/
def FI (w : World) (j : Nat) (N : Int) (qv wv : Value) (acc : List T) (wr : World) : Prop := ∃ O R : Nat → Prop, j ≤ 50 ∧ 0 ≤ N ∧ N ≤ 65536 * (j : Int) ∧ acc.length ≤ 2 * j ∧ (∀ t ∈ acc, t.may) ∧ Ext w wr ∧ VQ wr w.heap.size O R qv acc ∧ PQ wr w.heap.size O R wv acc ∧ (∀ q, O q → ¬ R q) ∧ (∀ q, q < w.heap.size → R q)
theorem FI.later {w wr w' : World} {j : Nat} {N M : Int} {qv wv : Value} {acc : List T} (h : FI w j N qv wv acc wr) (hx : Ext wr w') (h5 : j < 50) (h0 : N ≤ M) (h1 : M ≤ N + 65536) : FI w (j + 1) M qv wv acc w' := by
  obtain ⟨O, R, a1, a2, a3, a4, a5, a6, a7, a8, a9, a10⟩ := h
  exact ⟨O, R, by omega, by omega, by omega, by omega, a5, a6.trans hx, a7.later hx, a8.later hx, a9, a10⟩
set_option maxRecDepth 100000 in
set_option maxHeartbeats 16000000 in
theorem fresh_walk {K : Nat → Prop} {d : Nat} {a : Option Addr} {c : Nat} {ks : List T} (w : World) (h : RdL K w d a ks) :
    Calls Tryd.prog 7 #[.slice a ks.length c] w fun e w' => e = .returned (.bool true) ∧ Ext w w' := by
  have HA := hid h
  have hl : (ks.length : Int) ≤ 140737488355328 := by have := h.1; omega
  clear h
  go_enter Tryd.func7, Tryd.ntmps7
  go_wp2_with fail
  refine (begun_any _).mono ?_
  rintro e V ⟨rfl, hx⟩
  have HV := hid hx
  clear hx
  go_wp2_with fail
  go_loopw [3, 4, 5, 6] (fun qv wv s i wr => ∃ (j : Nat) (N : Int) (acc : List T), j ≤ ks.length ∧ i = .int .i64 j ∧ s = .int .i64 N ∧ FI w j N qv wv acc wr) (fun _ _ _ i _ => ks.length - (intOf i).toNat)
  case atStart => exact ⟨0, 0, [], Nat.zero_le _, rfl, rfl, fun q => w.heap.size ≤ q, fun q => q < w.heap.size, by omega, by omega, by omega, by simp, by simp, HV.out, VQ.nil _ _ _, PQ.nil _ _ _, fun q h1 h2 => by have h1' : w.heap.size ≤ q := h1; have h2' : q < w.heap.size := h2; omega, fun q hq => hq⟩
  case round =>
    obtain ⟨j, N, acc, hj, rfl, rfl, hfi⟩ := hrel
    have HFI := hid hfi
    obtain ⟨O, R, hj5, hN0, hN1, hacc, hmay, hx, hvq, hpq, hOR, hlow⟩ := hfi
    obtain ⟨qa, qc, rfl⟩ := hvq.shape
    obtain ⟨wa, wk, rfl⟩ := hpq.shape
    have HX := hid hx
    have HVQ := hid hvq
    have HPQ := hid hpq
    have HOR := hid hOR
    have HLOW := hid hlow
    have HMAY := hid hmay
    have hNb : N ≤ 3276800 := by omega
    have HAC := hid hacc
    have hal : acc.length ≤ 100 := by omega
    have hal' : (acc.length : Int) ≤ 100 := by omega
    clear hx hvq hpq hOR hlow hmay hacc
    by_cases hend : j < ks.length ∧ j < 50
    · obtain ⟨hlt, h5⟩ := hend
      have hlt' : (j : Int) < ks.length := by omega
      have h5' : (j : Int) < 50 := by omega
      obtain ⟨gl, off, k, n, x, al, ll, cl, rfl, hg, h4, hrd⟩ := HA.out.kid hlt
      have hgl : gl < w.heap.size := lt_of_cell h4.1
      have HGL := hid hgl
      have H4 := hid h4
      have HRD := hid hrd.low
      obtain ⟨m0, m1, m2, m3⟩ := h4.keep (HX.out.kp K) hg
      have hgr : gl < wr.heap.size := Nat.lt_of_lt_of_le hgl HX.out.size
      clear h4 hrd hg hgl
      obtain ⟨t, ht⟩ : ∃ t, ks[j] = t := ⟨_, rfl⟩
      rw [ht] at HRD
      clear ht
      by_cases hm : t.may
      · have HM := hid hm
        have hz := t.size_pos
        have hz1 := hm.2.1
        obtain ⟨S, hS⟩ : ∃ S : Int, (t.size : Int) = S := ⟨_, rfl⟩
        have hS1 : 1 ≤ S := by omega
        have hS2 : S ≤ 65536 := by omega
        have HZ := hid (show Calls Tryd.prog 19 #[.agg #[.int .i64 k, .int .i64 n, .string x, .slice al ll cl]] wr fun r w' => r = .returned (.int .i64 S) ∧ Ext wr w' from by
          have e := rsize_any wr (HRD.out.later HX.out)
          rw [show sizeN t = S by rw [sizeN, if_pos hm, hS]] at e
          exact e)
        have HMY := hid (show ∀ W', Ext wr W' → Calls Tryd.prog 20 #[.agg #[.int .i64 k, .int .i64 n, .string x, .slice al ll cl]] W' fun r w' => r = .returned (.bool true) ∧ Ext W' w' from fun W' hx => by
          have e := rmay_any W' (HRD.out.later (HX.out.trans hx))
          rw [decide_eq_true hm] at e
          exact e)
        clear hm hz hz1 hS
        go_wp2_with fail
        refine HZ.out.mono ?_
        rintro e w1 ⟨rfl, hx1⟩
        have HX1 := hid hx1
        obtain ⟨o0, o1, o2, o3⟩ := H4.out.keep ((HX.out.trans hx1).kp (· < w.heap.size)) HGL.out
        clear hx1 m0 m1 m2 m3 HZ
        by_cases hbig : 200000 < N + S
        · have hbig' : decide (200000 < N + S) = true := decide_eq_true hbig
          go_wp2_with fail
          go_roundw
          case rel => exact ⟨j + 1, N + S, acc, hlt, by go_num, rfl, HFI.out.later HX1.out h5 (by omega) (by omega)⟩
          case measure => simp [intOf]; omega
        · have hbig' : decide (200000 < N + S) = false := decide_eq_false hbig
          go_wp2_with fail
          refine (HMY.out _ HX1.out).mono ?_
          rintro e w2 ⟨rfl, hx2⟩
          have HX2 := hid (HX1.out.trans hx2)
          clear hx2 o0 o1 o2 o3 HX1 HMY
          obtain ⟨o0, o1, o2, o3⟩ := H4.out.keep ((HX.out.trans HX2.out).kp (· < w.heap.size)) HGL.out
          go_wp2_with fail
          refine (twin_any d _ t _ w2 (HRD.out.later (HX.out.trans HX2.out))).mono ?_
          rintro e w3 ⟨v', rfl, hmr, hx3⟩
          obtain ⟨u0, u1, u2, u3, rfl⟩ := hmr.rd.agg
          obtain ⟨k2, n2, x2, a2, c2, rfl, rfl, rfl, rfl⟩ := hmr.rd.shape
          generalize (T.kids t).length = l2 at hmr
          have HMR := hid (hmr.mono (L := fun q => wr.heap.size ≤ q ∧ q < w3.heap.size) (fun q hq h => ⟨Nat.le_trans HX2.out.size h, hq⟩))
          have HX3 := hid (HX2.out.trans hx3)
          clear hmr hx3 o0 o1 o2 o3 HX2
          go_wp2_with fail
          refine (of_any (w3.alloc (.cells #[.int .i64 k2, .int .i64 n2, .string x2, .slice a2 l2 c2] 24)) (HMR.out.rd.later (Ext.alloc w3 _))).mono ?_
          rintro e w4 ⟨hx4, hcase⟩
          rcases hcase with ⟨_, ua, bsa, rfl, hoa, hga, hna⟩ | ⟨hno, _⟩
          rotate_left
          · exact absurd HM.out hno
          obtain ⟨τa, pa, rfl⟩ := hoa.rd.iface
          have HOA := hid hoa
          have HGA := hid (show ∀ q ∈ bsa, w3.heap.size + 1 ≤ q ∧ q < w4.heap.size from fun q hq => ⟨by have := hga q hq; rw [blkS] at this; exact this, hoa.lt q hq⟩)
          have HNA := hid hna
          have HB4 := hid (hx4.block (blk0 w3 _))
          have HX4 := hid ((Ext.alloc w3 _).trans hx4)
          obtain ⟨p0, p1, p2, p3⟩ := four_of HB4.out
          have hs4 := HX4.out.size
          have hs34 := lt_of_block HB4.out
          clear hoa hga hna hx4
          go_wp2_with fail
          refine (of_any w4 (HMR.out.rd.later HX4.out)).mono ?_
          rintro e w5 ⟨hx5, hcase⟩
          rcases hcase with ⟨_, ub, bsb, rfl, hob, hgb, hnb⟩ | ⟨hno, _⟩
          rotate_left
          · exact absurd HM.out hno
          obtain ⟨τb, pb, rfl⟩ := hob.rd.iface
          have HOB := hid hob
          have HGB := hid (show ∀ q ∈ bsb, w4.heap.size ≤ q ∧ q < w5.heap.size from fun q hq => ⟨hgb q hq, hob.lt q hq⟩)
          have HB5 := hid (hx5.block HB4.out)
          have HX5 := hid (HX4.out.trans hx5)
          have HX45 := hid hx5
          clear p0 p1 p2 p3
          obtain ⟨p0, p1, p2, p3⟩ := four_of HB5.out
          have hs5 := hx5.size
          have HSZ := hid hs5
          clear hob hgb hnb hx5
          by_cases hp : (T.node 5 0 ⟨#[]⟩ [t, t]).may
          · have HP := hid hp
            clear hp
            go_wp2_with fail
            refine (join_two (HMR.out.rd.later HX5.out)).mono ?_
            rintro e w6 ⟨hx6, hcase⟩
            rcases hcase with ⟨⟨s, hs, hno⟩, _⟩ | ⟨_, hno, _⟩ | ⟨_, _, uc, bsc, rfl, hoc, hgc, hnc⟩
            · exact absurd HM.out (by simp at hs; subst hs; exact hno)
            · exact absurd HP.out hno
            obtain ⟨τc, pc, rfl⟩ := hoc.rd.iface
            have HOC := hid hoc
            have HGC := hid (show ∀ q ∈ bsc, w5.heap.size ≤ q ∧ q < w6.heap.size from fun q hq => ⟨by have := hgc q hq; rw [blkS] at this; omega, hoc.lt q hq⟩)
            have HNC := hid hnc
            clear hoc hgc hnc
            have HX56 := hid ((Ext.alloc w5 _).trans hx6)
            have HB6 := hid (HX56.out.block HB5.out)
            have hs6 := HX56.out.size
            clear hx6 p0 p1 p2 p3
            obtain ⟨p0, p1, p2, p3⟩ := four_of HB6.out
            go_wp2_with fail
            refine (join_two (HMR.out.rd.later (HX5.out.trans HX56.out))).mono ?_
            rintro e w7 ⟨hx7, hcase⟩
            rcases hcase with ⟨⟨s, hs, hno⟩, _⟩ | ⟨_, hno, _⟩ | ⟨_, _, ud, bsd, rfl, hod, hgd, hnd⟩
            · exact absurd HM.out (by simp at hs; subst hs; exact hno)
            · exact absurd HP.out hno
            obtain ⟨τd, pd, rfl⟩ := hod.rd.iface
            have HOD := hid hod
            have HGD := hid (show ∀ q ∈ bsd, w6.heap.size ≤ q ∧ q < w7.heap.size from fun q hq => ⟨by have := hgd q hq; rw [blkS] at this; omega, hod.lt q hq⟩)
            clear hod hgd hnd
            have HX67 := hid ((Ext.alloc w6 _).trans hx7)
            have HB7 := hid (HX67.out.block HB6.out)
            have hs7 := HX67.out.size
            have HX57 := hid (HX56.out.trans HX67.out)
            have HXW7 := hid (HX.out.trans (HX3.out.trans (HX5.out.trans HX57.out)))
            clear hx7 p0 p1 p2 p3
            obtain ⟨o0, o1, o2, o3⟩ := H4.out.keep (HXW7.out.kp (· < w.heap.size)) HGL.out
            have hgr7 : gl < w7.heap.size := lt_of_cell o0
            go_wp2_with fail
            refine (is_same w7 (HOA.out.later (HX45.out.trans HX57.out)).rd (HRD.out.later HXW7.out) HM.out).mono ?_
            rintro e w8 ⟨rfl, hx8⟩
            have HX78 := hid hx8
            have hs8 := hx8.size
            clear o0 o1 o2 o3 hx8
            obtain ⟨o0, o1, o2, o3⟩ := H4.out.keep ((HXW7.out.trans HX78.out).kp (· < w.heap.size)) HGL.out
            go_wp2_with fail
            refine (is_same w8 (HOB.out.later (HX57.out.trans HX78.out)).rd (HRD.out.later (HXW7.out.trans HX78.out)) HM.out).mono ?_
            rintro e w9 ⟨rfl, hx9⟩
            have HX79 := hid (HX78.out.trans hx9)
            have hs9 := hx9.size
            have HXW9 := hid (HXW7.out.trans HX79.out)
            clear o0 o1 o2 o3 hx9 HX78
            obtain ⟨o0, o1, o2, o3⟩ := H4.out.keep (HXW9.out.kp (· < w.heap.size)) HGL.out
            have hgr9 : gl < w9.heap.size := lt_of_cell o0
            have HSK := hid (show ∀ W', Ext w9 W' → W'.cell? ⟨gl, off + j * 4, none⟩ = some (.int .i64 k) ∧ W'.cell? ⟨gl, off + j * 4 + 1, none⟩ = some (.int .i64 n) ∧ W'.cell? ⟨gl, off + j * 4 + 2, none⟩ = some (.string x) ∧ W'.cell? ⟨gl, off + j * 4 + 3, none⟩ = some (.slice al ll cl) from fun W' Y => H4.out.keep ((HXW9.out.trans Y).kp (· < w.heap.size)) HGL.out)
            have HST := hid (show ∀ (W' : World) (z : Nat) (v0 v1 v2 v3 : Value), Ext w9 W' → w9.heap.size ≤ z → ((((W'.setCell ⟨z, 0, none⟩ v0).setCell ⟨z, 1, none⟩ v1).setCell ⟨z, 2, none⟩ v2).setCell ⟨z, 3, none⟩ v3).cell? ⟨gl, off + j * 4, none⟩ = some (.int .i64 k) ∧ ((((W'.setCell ⟨z, 0, none⟩ v0).setCell ⟨z, 1, none⟩ v1).setCell ⟨z, 2, none⟩ v2).setCell ⟨z, 3, none⟩ v3).cell? ⟨gl, off + j * 4 + 1, none⟩ = some (.int .i64 n) ∧ ((((W'.setCell ⟨z, 0, none⟩ v0).setCell ⟨z, 1, none⟩ v1).setCell ⟨z, 2, none⟩ v2).setCell ⟨z, 3, none⟩ v3).cell? ⟨gl, off + j * 4 + 2, none⟩ = some (.string x) ∧ ((((W'.setCell ⟨z, 0, none⟩ v0).setCell ⟨z, 1, none⟩ v1).setCell ⟨z, 2, none⟩ v2).setCell ⟨z, 3, none⟩ v3).cell? ⟨gl, off + j * 4 + 3, none⟩ = some (.slice al ll cl) from fun W' z v0 v1 v2 v3 Y hz => H4.out.keep ((HXW9.out.trans Y).kp (· < w.heap.size) |>.trans ((Kp.set4 W' z 0 v0 v1 v2 v3).mono (fun q _ hq e => by have h1 : q < w.heap.size := hq; have h2 : q = z := e; have := HXW9.out.size; omega))) HGL.out)
            go_upto_region 18 with fail
            go_cut [16] from 92 to 101 (fun s16 wx => ∃ pb' g', s16 = .pointer (some ⟨pb', 0, none⟩) ∧ wx.heap[pb']? = some (.cells #[.int .i64 5, .int .i64 0, .string ⟨#[]⟩, .slice (some ⟨g', 0, none⟩) 2 2] 24) ∧ wx.heap[g']? = some (.cells #[.int .i64 k, .int .i64 n, .string x, .slice al ll cl, .int .i64 k, .int .i64 n, .string x, .slice al ll cl] 24) ∧ Ext w9 wx ∧ w9.heap.size ≤ pb' ∧ w9.heap.size ≤ g')
            case first =>
              go_region_held3 (fun W' => W'.cell? ⟨gl, off + j * 4, none⟩ = some (.int .i64 k) ∧ W'.cell? ⟨gl, off + j * 4 + 1, none⟩ = some (.int .i64 n) ∧ W'.cell? ⟨gl, off + j * 4 + 2, none⟩ = some (.string x) ∧ W'.cell? ⟨gl, off + j * 4 + 3, none⟩ = some (.slice al ll cl)) (first | exact SK | exact ⟨o0, o1, o2, o3⟩ | (with_reducible exact HST.out _ _ _ _ _ _ Y (Nat.le_refl _)) | (with_reducible exact HST.out _ _ _ _ _ _ Y (Nat.le_succ _)) | go_keep) (first | (go_at_call 18; refine (lst_any _ _ _ _).mono ?_; rintro r v3 ⟨rfl, hy⟩; have Y : Ext w9 v3 := Ext.trans (by repeat (first | exact (Ext.refl w9).drew | exact Ext.refl _ | refine Ext.trans ?_ (Ext.alloc _ _) | refine Ext.drew ?_)) hy; have SK := HSK.out v3 Y; (try (have ZB : v3.heap[w9.heap.size]? = some (.cells #[.int .i64 0, .int .i64 0, .string ⟨#[]⟩, .slice none 0 0] 24) := hy.block (blkOld _ (blk0 _ _)); obtain ⟨f0, f1, f2, f3⟩ := four_free ZB; obtain ⟨z0, z1, z2, z3⟩ := four_of ZB)); (try (have ZC : v3.heap[w9.heap.size + 1]? = some (.cells #[.int .i64 0, .int .i64 0, .string ⟨#[]⟩, .slice none 0 0] 24) := hy.block (blk1 _ _ _); obtain ⟨f0, f1, f2, f3⟩ := four_free ZC; obtain ⟨z0, z1, z2, z3⟩ := four_of ZC))))
              all_goals go_wp2_with fail
              · go_meet
                case rel => exact ⟨v3.heap.size, w9.heap.size, rfl, blk0 v3 _, blkOld _ (hy.block (blk0 w9 _)), Y.trans (Ext.alloc _ _), Y.size, Nat.le_refl _⟩
              · go_meet
                case rel => exact ⟨w9.heap.size + 1, w9.heap.size, rfl, four_set ZC, (Kp.set4 v3 (w9.heap.size + 1) 0 _ _ _ _).block' (hy.block (blkOld _ (blk0 w9 _))) (show w9.heap.size ≠ w9.heap.size + 1 by omega), Kp.extOf Y (Kp.set4 v3 (w9.heap.size + 1) 0 _ _ _ _) (Nat.le_succ _), Nat.le_succ _, Nat.le_refl _⟩
              · go_meet
                case rel => exact ⟨w9.heap.size, w9.heap.size + 1, rfl, four_set ZB, (Kp.set4 v3 w9.heap.size 0 _ _ _ _).block' (hy.block (blk1 w9 _ _)) (show w9.heap.size + 1 ≠ w9.heap.size by omega), Kp.extOf Y (Kp.set4 v3 w9.heap.size 0 _ _ _ _) (Nat.le_refl _), Nat.le_refl _, Nat.le_succ _⟩
            case rest =>
              obtain ⟨pb', g', rfl, hpb, hgb', hx10, hpb0, hg0⟩ := hcut
              have HPB := hid hpb
              have HGB' := hid hgb'
              have HX910 := hid hx10
              have hs10 := hx10.size
              have hpl := lt_of_block hpb
              have hgl' := lt_of_block hgb'
              obtain ⟨p0, p1, p2, p3⟩ := four_of hpb
              have HPR := hid (show Rd (fun q => q < w.heap.size ∨ q = g') wc (d + 1) (.agg #[.int .i64 5, .int .i64 0, .string ⟨#[]⟩, .slice (some ⟨g', 0, none⟩) 2 2]) (.node 5 0 ⟨#[]⟩ [t, t]) from RdL.node 2 (two_rd hgb' (HRD.out.later (HXW9.out.trans hx10))))
              clear hpb hgb' hx10 o0 o1 o2 o3 HSK HST
              go_wp2_with fail
              refine (rmay_any wc HPR.out).mono ?_
              rintro e w11 ⟨rfl, hx11⟩
              rw [decide_eq_true HP.out]
              have HX11 := hid hx11
              have hs11 := hx11.size
              have HX9 := hid (HX910.out.trans hx11)
              have hsr := HX3.out.size
              have hsw := HX.out.size
              have hsx5 := HX5.out.size
              obtain ⟨A, hA⟩ : ∃ A, A = wr.heap.size := ⟨_, rfl⟩
              obtain ⟨B, hB⟩ : ∃ B, B = w11.heap.size := ⟨_, rfl⟩
              have HXR := hid (HX3.out.trans (HX5.out.trans (HX57.out.trans (HX79.out.trans HX9.out))))
              have hAB : A ≤ B := by rw [hA, hB]; exact HXR.out.size
              have hmA : w.heap.size ≤ A := by rw [hA]; exact hsw
              have HQA := hid (show ∀ q ∈ bsa, A ≤ q ∧ q < B from fun q hq => by have := HGA.out q hq; omega)
              have HQC := hid (show ∀ q ∈ bsc, A ≤ q ∧ q < B from fun q hq => by have := HGC.out q hq; omega)
              have HNX := hid (show ∀ q, (q ≤ w3.heap.size ∨ (w4.heap.size ≤ q ∧ q < w5.heap.size) ∨ w6.heap.size ≤ q) → q ∉ bsa ++ bsc from fun q hq hX => by
                rcases List.mem_append.1 hX with hX | hX
                · have := HGA.out q hX; omega
                · have := HGC.out q hX; omega)
              have HV1 := hid (show VQ w11 w.heap.size (O1 O A B) (R1 R A B (bsa ++ bsc)) (.slice qa acc.length qc) acc from (HVQ.out.mono (fun q hq h => .inl ⟨h, by omega⟩) (fun q hq h => .inl ⟨h, by omega⟩)).later HXR.out)
              have HP1 := hid (show PQ w11 w.heap.size (O1 O A B) (R1 R A B (bsa ++ bsc)) (.slice wa acc.length wk) acc from (HPQ.out.mono (fun q hq h => .inl ⟨h, by omega⟩) (fun q hq h => .inl ⟨h, by omega⟩)).later HXR.out)
              have HOR1 := hid (fun q => OR1 (X := bsa ++ bsc) (a := A) (b := B) HOR.out hAB q)
              have HZO := hid (fun q => Z1_O1 (X := bsa ++ bsc) (a := A) (b := B) (m := w.heap.size) HOR.out HLOW.out hmA hAB q)
              have HZR := hid (fun q => Z1_R1 (X := bsa ++ bsc) (a := A) (b := B) (m := w.heap.size) HLOW.out hmA q)
              have HLZ := hid (show Rd (Z1 w.heap.size A B (bsa ++ bsc)) w11 d (.agg #[.int .i64 k, .int .i64 n, .string x, .slice al ll cl]) t from (HRD.out.later (HXW9.out.trans HX9.out)).mono (fun q _ h => .inl h))
              have HBZ := hid (show VRd (Z1 w.heap.size A B (bsa ++ bsc)) w11 d (.iface τb pb) t from ((HOB.out.later (HX57.out.trans (HX79.out.trans HX9.out))).rd).mono (fun q _ h => .inr (by have := HGB.out q h; exact ⟨by omega, by omega, HNX.out q (by omega)⟩)))
              have HMZ := hid (show MRd (Z1 w.heap.size A B (bsa ++ bsc)) w11 d (.agg #[.int .i64 k2, .int .i64 n2, .string x2, .slice a2 l2 c2]) t from (HMR.out.later (HX5.out.trans (HX57.out.trans (HX79.out.trans HX9.out)))).mono (fun q _ h => .inr ⟨by omega, by omega, HNX.out q (by omega)⟩))
              have HHZ := hid (show Z1 w.heap.size A B (bsa ++ bsc) w3.heap.size from .inr ⟨by omega, by omega, HNX.out _ (by omega)⟩)
              have HHB := hid ((HX79.out.trans HX9.out).block HB7.out)
              have HOA1 := hid (HOA.out.later (HX45.out.trans (HX57.out.trans (HX79.out.trans HX9.out))))
              have HXW := hid (HXW9.out.trans HX9.out)
              have HDZ := hid (show VRd (R1 R A B (bsa ++ bsc)) w11 (d + 1) (.iface τd pd) (.node 5 0 ⟨#[]⟩ [t, t]) from ((HOD.out.later (HX79.out.trans HX9.out)).rd).mono (fun q _ h => .inr (by have := HGD.out q h; exact ⟨by omega, by omega, HNX.out q (by omega)⟩)))
              have HPZ := hid (show Rd (Z1 w.heap.size A B (bsa ++ bsc)) w11 (d + 1) (.agg #[.int .i64 5, .int .i64 0, .string ⟨#[]⟩, .slice (some ⟨g', 0, none⟩) 2 2]) (.node 5 0 ⟨#[]⟩ [t, t]) from (HPR.out.later hx11).mono (fun q _ h => by
                rcases h with h | h
                · exact .inl h
                · exact .inr ⟨by omega, by omega, HNX.out q (by omega)⟩))
              have HPBZ := hid (show Z1 w.heap.size A B (bsa ++ bsc) pb' from .inr ⟨by omega, by omega, HNX.out _ (by omega)⟩)
              have HPB1 := hid (hx11.block HPB.out)
              have HOC1 := hid (HOC.out.later (HX67.out.trans (HX79.out.trans HX9.out)))
              clear hx11 p0 p1 p2 p3 HX9 HXR HGB HNX HPR HPB HGB' HX910 HX11 hs4 hs34 hs5 hs6 hs7 hs8 hs9 hs10 hs11 hsx5 hpl hgl' hpb0 hg0 hgr7 hgr9 HB7 HB6 HB5 HB4 HMR HRD HOA HOB HX45 HX3 HX5 HX56 HX57 HX67 HX79 HXW9 HXW7 HVQ HPQ
              have HSB := hid (show w.heap.size ≤ w11.heap.size by omega)
              have HAB := hid (show A = wr.heap.size ∧ B = w11.heap.size from ⟨hA, hB⟩)
              have HNEW := hid (show ∀ W' : World, w11.heap.size ≤ W'.heap.size → ∀ q, W'.heap.size ≤ q → O1 O A B q from fun W' h q hq => .inr (by omega))
              clear hsr hsw hA hB
              go_upto_region 20 with fail
              go_upto_region 21 with (at_builtin; refine app_vq rfl _ _ rfl rfl w.heap.size (O1 O A B) (R1 R A B (bsa ++ bsc)) (.slice qa acc.length qc) (.slice wa acc.length wk) acc acc τd pd (.node 5 0 ⟨#[]⟩ [t, t]) (d + 1) rfl rfl HSB.out HV1.out HP1.out HDZ.out HOR1.out (HNEW.out _ (Nat.le_refl _)) (by omega) ?_; intro q12 c12 w12 hv12 hp12 hk12)
              have HV12 := hid hv12
              have HP12 := hid hp12
              have HK12 := hid (show Kp (Z1 w.heap.size A B (bsa ++ bsc)) w11 w12 from hk12.mono (fun q _ hz => HZO.out q hz))
              have HC12 := hid hk12
              have hs12 := hk12.size
              obtain ⟨p0, p1, p2, p3⟩ := four_of (HK12.out.block' HPB1.out HPBZ.out)
              clear hv12 hp12 hk12
              go_upto_region 22 with (at_builtin; refine app_pq rfl _ _ rfl rfl w.heap.size (O1 O A B) (R1 R A B (bsa ++ bsc)) (.slice q12 (acc.length + 1) c12) (.slice wa acc.length wk) (acc ++ [.node 5 0 ⟨#[]⟩ [t, t]]) acc 5 0 ⟨#[]⟩ (some ⟨g', 0, none⟩) 2 2 (.node 5 0 ⟨#[]⟩ [t, t]) (d + 1) rfl rfl (by have := HSB.out; omega) HV12.out HP12.out ((HPZ.out.keep HK12.out).mono (fun q _ hz => HZR.out q hz)) HOR1.out (HNEW.out _ hs12) (by omega) ?_; intro q13 c13 w13 hp13 hv13 hk13)
              have HV13 := hid hv13
              have HP13 := hid hp13
              have HK13 := hid (HK12.out.trans (show Kp (Z1 w.heap.size A B (bsa ++ bsc)) w12 w13 from hk13.mono (fun q _ hz => HZO.out q hz)))
              have HC13 := hid (HC12.out.trans hk13)
              have hs13 := Nat.le_trans hs12 hk13.size
              clear hv13 hp13 hk13 p0 p1 p2 p3 hs12
              go_wp2_with fail
              refine (full_any (d + 1) _ _ bsc w13 (-5) (HOC1.out.keep (HC13.out.mono (fun q _ hq => O1_mid (HQC.out q hq).1 (HQC.out q hq).2))) HNC.out HP.out.2.1).mono ?_
              rintro e w14 ⟨⟨u14, rfl⟩, hk14⟩
              have HV14 := hid (HV13.out.off hk14 HQC.out (fun q hq => List.mem_append.2 (.inr hq)))
              have HP14 := hid (HP13.out.off hk14 HQC.out (fun q hq => List.mem_append.2 (.inr hq)))
              have HK14 := hid (HK13.out.trans (Kp.offZ (b := B) (X := bsa ++ bsc) hk14 hmA HQC.out (fun q hq => List.mem_append.2 (.inr hq))))
              have HOA2 := hid ((HOA1.out.keep (HC13.out.mono (fun q _ hq => O1_mid (HQA.out q hq).1 (HQA.out q hq).2))).keep (Kp.mono hk14 (fun q _ hq e => by have h1 := HGA.out q hq; have h2 := HGC.out q e; have := HSZ.out; omega)))
              have hs14 := Nat.le_trans hs13 (show w13.heap.size ≤ w14.heap.size from Kp.size hk14)
              clear hk14 hs13
              obtain ⟨acc2, hac2⟩ : ∃ acc2, acc2 = acc ++ [T.node 5 0 ⟨#[]⟩ [t, t]] := ⟨_, rfl⟩
              rw [← hac2] at HV14 HP14
              have hal2 : acc2.length ≤ 101 := by rw [hac2]; simp; omega
              have HA2 := hid (show acc2.length ≤ acc.length + 1 by rw [hac2]; simp)
              have HM2 := hid (show ∀ u ∈ acc2, u.may from fun u hu => by
                rw [hac2] at hu
                rcases List.mem_append.1 hu with hu | hu
                · exact HMAY.out u hu
                · rw [List.mem_singleton.1 hu]; exact HP.out)
              clear hac2
              go_wp2_with fail
              refine (full_any d _ _ bsa w14 (-6) HOA2.out HNA.out HM.out.2.1).mono ?_
              rintro e w15 ⟨⟨u15, rfl⟩, hk15⟩
              have HV15 := hid (HV14.out.off hk15 HQA.out (fun q hq => List.mem_append.2 (.inl hq)))
              have HP15 := hid (HP14.out.off hk15 HQA.out (fun q hq => List.mem_append.2 (.inl hq)))
              have HK15 := hid (HK14.out.trans (Kp.offZ (b := B) (X := bsa ++ bsc) hk15 hmA HQA.out (fun q hq => List.mem_append.2 (.inl hq))))
              have hs15 := Nat.le_trans hs14 (show w14.heap.size ≤ w15.heap.size from Kp.size hk15)
              clear hk15 hs14
              obtain ⟨p0, p1, p2, p3⟩ := four_of (HK15.out.block' HHB.out HHZ.out)
              have HKW := hid (show Kp (· < w.heap.size) w w15 from (HXW.out.kp _).trans (HK15.out.mono (fun q _ h => .inl h)))
              obtain ⟨o0, o1, o2, o3⟩ := H4.out.keep HKW.out HGL.out
              have hg15 : gl < w15.heap.size := lt_of_cell o0
              have HKE := hid (show ∀ W', Ext w15 W' → Calls Tryd.prog 27 #[.agg #[.int .i64 k2, .int .i64 n2, .string x2, .slice a2 l2 c2], .agg #[.int .i64 k, .int .i64 n, .string x, .slice al ll cl]] W' fun r w' => r = .returned (.bool true) ∧ Ext W' w' from fun W' Y => kept_any W' ((HMZ.out.keep HK15.out).later Y) ((HLZ.out.keep HK15.out).later Y))
              have HS24 := hid (show ∀ W', Ext w15 W' → W'.cell? ⟨w3.heap.size, 0, none⟩ = some (.int .i64 k2) ∧ W'.cell? ⟨w3.heap.size, 1, none⟩ = some (.int .i64 n2) ∧ W'.cell? ⟨w3.heap.size, 2, none⟩ = some (.string x2) ∧ W'.cell? ⟨w3.heap.size, 3, none⟩ = some (.slice a2 l2 c2) ∧ W'.cell? ⟨gl, off + j * 4, none⟩ = some (.int .i64 k) ∧ W'.cell? ⟨gl, off + j * 4 + 1, none⟩ = some (.int .i64 n) ∧ W'.cell? ⟨gl, off + j * 4 + 2, none⟩ = some (.string x) ∧ W'.cell? ⟨gl, off + j * 4 + 3, none⟩ = some (.slice al ll cl) from fun W' Y => by
                obtain ⟨a0, a1, a2, a3⟩ := four_of (Y.block (HK15.out.block' HHB.out HHZ.out))
                exact ⟨a0, a1, a2, a3, (H4.out.keep HKW.out HGL.out).keep (Y.kp (fun _ => True)) trivial⟩)
              go_upto_region 24 with fail
              go_cut [122] from 116 to 122 (fun s wx => s = .bool false ∧ Ext w15 wx)
              case first =>
                go_region_held3 (fun W' => W'.cell? ⟨w3.heap.size, 0, none⟩ = some (.int .i64 k2) ∧ W'.cell? ⟨w3.heap.size, 1, none⟩ = some (.int .i64 n2) ∧ W'.cell? ⟨w3.heap.size, 2, none⟩ = some (.string x2) ∧ W'.cell? ⟨w3.heap.size, 3, none⟩ = some (.slice a2 l2 c2) ∧ W'.cell? ⟨gl, off + j * 4, none⟩ = some (.int .i64 k) ∧ W'.cell? ⟨gl, off + j * 4 + 1, none⟩ = some (.int .i64 n) ∧ W'.cell? ⟨gl, off + j * 4 + 2, none⟩ = some (.string x) ∧ W'.cell? ⟨gl, off + j * 4 + 3, none⟩ = some (.slice al ll cl)) (first | exact SK | exact ⟨p0, p1, p2, p3, o0, o1, o2, o3⟩ | go_keep) (first | (go_at_call 27; refine (HKE.out _ ((Ext.refl w15).drew)).mono ?_; rintro r v3 ⟨rfl, hy⟩; have Y : Ext w15 v3 := Ext.trans ((Ext.refl w15).drew) hy; have SK := HS24.out v3 Y))
                all_goals
                  go_wp2_with fail
                  go_meet
                  case rel => exact ⟨rfl, Y⟩
              case rest =>
                obtain ⟨rfl, hx16⟩ := hcut
                have HX16 := hid hx16
                have hs16 := Nat.le_trans hs15 hx16.size
                have HV16 := hid (HV15.out.later hx16)
                have HP16 := hid (HP15.out.later hx16)
                have HK16 := hid (HK15.out.trans (hx16.kp _))
                have HKW16 := hid (HKW.out.trans (hx16.kp _))
                clear hx16 p0 p1 p2 p3 o0 o1 o2 o3 HKE HS24 hs15
                go_upto_region 27 with (at_builtin; refine app_vq rfl _ _ rfl rfl w.heap.size (O1 O A B) (R1 R A B (bsa ++ bsc)) (.slice q12 (acc.length + 1) c12) (.slice q13 (acc.length + 1) c13) acc2 acc2 τb pb t d rfl rfl (by have := HSB.out; omega) HV16.out HP16.out ((HBZ.out.keep HK16.out).mono (fun q _ hz => HZR.out q hz)) HOR1.out (HNEW.out _ hs16) (by omega) ?_; intro q17 c17 w17 hv17 hp17 hk17)
                have HV17 := hid hv17
                have HP17 := hid hp17
                have HK17 := hid (HK16.out.trans (show Kp (Z1 w.heap.size A B (bsa ++ bsc)) wc w17 from hk17.mono (fun q _ hz => HZO.out q hz)))
                have HKW17 := hid (HKW16.out.trans (show Kp (· < w.heap.size) wc w17 from hk17.mono (fun q _ hz => HZO.out q (.inl hz))))
                have hs17 := Nat.le_trans hs16 hk17.size
                obtain ⟨o0, o1, o2, o3⟩ := H4.out.keep HKW17.out HGL.out
                have hg17 : gl < w17.heap.size := lt_of_cell o0
                clear hv17 hp17 hk17 hs16
                go_wp2_with (at_builtin; refine app_pq rfl _ _ rfl rfl w.heap.size (O1 O A B) (R1 R A B (bsa ++ bsc)) (.slice q17 (acc2.length + 1) c17) (.slice q13 (acc.length + 1) c13) (acc2 ++ [t]) acc2 k n x al ll cl t d rfl rfl (by have := HSB.out; omega) HV17.out HP17.out ((HLZ.out.keep HK17.out).mono (fun q _ hz => HZR.out q hz)) HOR1.out (HNEW.out _ hs17) (by omega) ?_; intro q18 c18 w18 hp18 hv18 hk18)
                go_roundw
                case rel =>
                  refine ⟨j + 1, N + S, acc2 ++ [t], hlt, by go_num, rfl, O1 O A B, R1 R A B (bsa ++ bsc), by omega, by omega, by omega, ?_, fun u hu => ?_, ?_, hv18, hp18, HOR1.out, fun q hq => HZR.out q (.inl hq)⟩
                  · have := HA2.out
                    have := HAC.out
                    simp
                    omega
                  · rcases List.mem_append.1 hu with hu | hu
                    · exact HM2.out u hu
                    · rw [List.mem_singleton.1 hu]; exact HM.out
                  · exact Kp.ext (HKW17.out.trans (show Kp (· < w.heap.size) w17 w18 from hk18.mono (fun q _ hz => HZO.out q (.inl hz)))) (fun q hq => hq)
                case measure => simp [intOf]; omega
          · have HP := hid hp
            clear hp
            go_wp2_with fail
            refine (join_two (HMR.out.rd.later HX5.out)).mono ?_
            rintro e w6 ⟨hx6, hcase⟩
            rcases hcase with ⟨⟨s, hs, hno⟩, _⟩ | ⟨_, _, rfl⟩ | ⟨_, hno, _⟩
            · exact absurd HM.out (by simp at hs; subst hs; exact hno)
            rotate_left
            · exact absurd hno HP.out
            have HX56 := hid ((Ext.alloc w5 _).trans hx6)
            have HB6 := hid (HX56.out.block HB5.out)
            have hs6 := HX56.out.size
            clear hx6 p0 p1 p2 p3
            obtain ⟨p0, p1, p2, p3⟩ := four_of HB6.out
            go_wp2_with fail
            refine (join_two (HMR.out.rd.later (HX5.out.trans HX56.out))).mono ?_
            rintro e w7 ⟨hx7, hcase⟩
            rcases hcase with ⟨⟨s, hs, hno⟩, _⟩ | ⟨_, _, rfl⟩ | ⟨_, hno, _⟩
            · exact absurd HM.out (by simp at hs; subst hs; exact hno)
            rotate_left
            · exact absurd hno HP.out
            have HX67 := hid ((Ext.alloc w6 _).trans hx7)
            have HB7 := hid (HX67.out.block HB6.out)
            have hs7 := HX67.out.size
            have HX57 := hid (HX56.out.trans HX67.out)
            have HXW7 := hid (HX.out.trans (HX3.out.trans (HX5.out.trans HX57.out)))
            clear hx7 p0 p1 p2 p3
            obtain ⟨o0, o1, o2, o3⟩ := H4.out.keep (HXW7.out.kp (· < w.heap.size)) HGL.out
            have hgr7 : gl < w7.heap.size := lt_of_cell o0
            go_wp2_with fail
            refine (is_same w7 (HOA.out.later (HX45.out.trans HX57.out)).rd (HRD.out.later HXW7.out) HM.out).mono ?_
            rintro e w8 ⟨rfl, hx8⟩
            have HX78 := hid hx8
            have hs8 := hx8.size
            clear o0 o1 o2 o3 hx8
            obtain ⟨o0, o1, o2, o3⟩ := H4.out.keep ((HXW7.out.trans HX78.out).kp (· < w.heap.size)) HGL.out
            go_wp2_with fail
            refine (is_same w8 (HOB.out.later (HX57.out.trans HX78.out)).rd (HRD.out.later (HXW7.out.trans HX78.out)) HM.out).mono ?_
            rintro e w9 ⟨rfl, hx9⟩
            have HX79 := hid (HX78.out.trans hx9)
            have hs9 := hx9.size
            have HXW9 := hid (HXW7.out.trans HX79.out)
            clear o0 o1 o2 o3 hx9 HX78
            obtain ⟨o0, o1, o2, o3⟩ := H4.out.keep (HXW9.out.kp (· < w.heap.size)) HGL.out
            have hgr9 : gl < w9.heap.size := lt_of_cell o0
            have HSK := hid (show ∀ W', Ext w9 W' → W'.cell? ⟨gl, off + j * 4, none⟩ = some (.int .i64 k) ∧ W'.cell? ⟨gl, off + j * 4 + 1, none⟩ = some (.int .i64 n) ∧ W'.cell? ⟨gl, off + j * 4 + 2, none⟩ = some (.string x) ∧ W'.cell? ⟨gl, off + j * 4 + 3, none⟩ = some (.slice al ll cl) from fun W' Y => H4.out.keep ((HXW9.out.trans Y).kp (· < w.heap.size)) HGL.out)
            have HST := hid (show ∀ (W' : World) (z : Nat) (v0 v1 v2 v3 : Value), Ext w9 W' → w9.heap.size ≤ z → ((((W'.setCell ⟨z, 0, none⟩ v0).setCell ⟨z, 1, none⟩ v1).setCell ⟨z, 2, none⟩ v2).setCell ⟨z, 3, none⟩ v3).cell? ⟨gl, off + j * 4, none⟩ = some (.int .i64 k) ∧ ((((W'.setCell ⟨z, 0, none⟩ v0).setCell ⟨z, 1, none⟩ v1).setCell ⟨z, 2, none⟩ v2).setCell ⟨z, 3, none⟩ v3).cell? ⟨gl, off + j * 4 + 1, none⟩ = some (.int .i64 n) ∧ ((((W'.setCell ⟨z, 0, none⟩ v0).setCell ⟨z, 1, none⟩ v1).setCell ⟨z, 2, none⟩ v2).setCell ⟨z, 3, none⟩ v3).cell? ⟨gl, off + j * 4 + 2, none⟩ = some (.string x) ∧ ((((W'.setCell ⟨z, 0, none⟩ v0).setCell ⟨z, 1, none⟩ v1).setCell ⟨z, 2, none⟩ v2).setCell ⟨z, 3, none⟩ v3).cell? ⟨gl, off + j * 4 + 3, none⟩ = some (.slice al ll cl) from fun W' z v0 v1 v2 v3 Y hz => H4.out.keep ((HXW9.out.trans Y).kp (· < w.heap.size) |>.trans ((Kp.set4 W' z 0 v0 v1 v2 v3).mono (fun q _ hq e => by have h1 : q < w.heap.size := hq; have h2 : q = z := e; have := HXW9.out.size; omega))) HGL.out)
            go_upto_region 18 with fail
            go_cut [16] from 92 to 101 (fun s16 wx => ∃ pb' g', s16 = .pointer (some ⟨pb', 0, none⟩) ∧ wx.heap[pb']? = some (.cells #[.int .i64 5, .int .i64 0, .string ⟨#[]⟩, .slice (some ⟨g', 0, none⟩) 2 2] 24) ∧ wx.heap[g']? = some (.cells #[.int .i64 k, .int .i64 n, .string x, .slice al ll cl, .int .i64 k, .int .i64 n, .string x, .slice al ll cl] 24) ∧ Ext w9 wx ∧ w9.heap.size ≤ pb' ∧ w9.heap.size ≤ g')
            case first =>
              go_region_held3 (fun W' => W'.cell? ⟨gl, off + j * 4, none⟩ = some (.int .i64 k) ∧ W'.cell? ⟨gl, off + j * 4 + 1, none⟩ = some (.int .i64 n) ∧ W'.cell? ⟨gl, off + j * 4 + 2, none⟩ = some (.string x) ∧ W'.cell? ⟨gl, off + j * 4 + 3, none⟩ = some (.slice al ll cl)) (first | exact SK | exact ⟨o0, o1, o2, o3⟩ | (with_reducible exact HST.out _ _ _ _ _ _ Y (Nat.le_refl _)) | (with_reducible exact HST.out _ _ _ _ _ _ Y (Nat.le_succ _)) | go_keep) (first | (go_at_call 18; refine (lst_any _ _ _ _).mono ?_; rintro r v3 ⟨rfl, hy⟩; have Y : Ext w9 v3 := Ext.trans (by repeat (first | exact (Ext.refl w9).drew | exact Ext.refl _ | refine Ext.trans ?_ (Ext.alloc _ _) | refine Ext.drew ?_)) hy; have SK := HSK.out v3 Y; (try (have ZB : v3.heap[w9.heap.size]? = some (.cells #[.int .i64 0, .int .i64 0, .string ⟨#[]⟩, .slice none 0 0] 24) := hy.block (blkOld _ (blk0 _ _)); obtain ⟨f0, f1, f2, f3⟩ := four_free ZB; obtain ⟨z0, z1, z2, z3⟩ := four_of ZB)); (try (have ZC : v3.heap[w9.heap.size + 1]? = some (.cells #[.int .i64 0, .int .i64 0, .string ⟨#[]⟩, .slice none 0 0] 24) := hy.block (blk1 _ _ _); obtain ⟨f0, f1, f2, f3⟩ := four_free ZC; obtain ⟨z0, z1, z2, z3⟩ := four_of ZC))))
              all_goals go_wp2_with fail
              · go_meet
                case rel => exact ⟨v3.heap.size, w9.heap.size, rfl, blk0 v3 _, blkOld _ (hy.block (blk0 w9 _)), Y.trans (Ext.alloc _ _), Y.size, Nat.le_refl _⟩
              · go_meet
                case rel => exact ⟨w9.heap.size + 1, w9.heap.size, rfl, four_set ZC, (Kp.set4 v3 (w9.heap.size + 1) 0 _ _ _ _).block' (hy.block (blkOld _ (blk0 w9 _))) (show w9.heap.size ≠ w9.heap.size + 1 by omega), Kp.extOf Y (Kp.set4 v3 (w9.heap.size + 1) 0 _ _ _ _) (Nat.le_succ _), Nat.le_succ _, Nat.le_refl _⟩
              · go_meet
                case rel => exact ⟨w9.heap.size, w9.heap.size + 1, rfl, four_set ZB, (Kp.set4 v3 w9.heap.size 0 _ _ _ _).block' (hy.block (blk1 w9 _ _)) (show w9.heap.size + 1 ≠ w9.heap.size by omega), Kp.extOf Y (Kp.set4 v3 w9.heap.size 0 _ _ _ _) (Nat.le_refl _), Nat.le_refl _, Nat.le_succ _⟩
            case rest =>
              obtain ⟨pb', g', rfl, hpb, hgb', hx10, hpb0, hg0⟩ := hcut
              have HPB := hid hpb
              have HGB' := hid hgb'
              have HX910 := hid hx10
              have hs10 := hx10.size
              have hpl := lt_of_block hpb
              have hgl' := lt_of_block hgb'
              obtain ⟨p0, p1, p2, p3⟩ := four_of hpb
              have HPR := hid (show Rd (fun q => q < w.heap.size ∨ q = g') wc (d + 1) (.agg #[.int .i64 5, .int .i64 0, .string ⟨#[]⟩, .slice (some ⟨g', 0, none⟩) 2 2]) (.node 5 0 ⟨#[]⟩ [t, t]) from RdL.node 2 (two_rd hgb' (HRD.out.later (HXW9.out.trans hx10))))
              clear hpb hgb' hx10 o0 o1 o2 o3 HSK HST
              go_wp2_with fail
              refine (rmay_any wc HPR.out).mono ?_
              rintro e w11 ⟨rfl, hx11⟩
              rw [decide_eq_false HP.out]
              have HX11 := hid hx11
              have hs11 := hx11.size
              have HX9 := hid (HX910.out.trans hx11)
              have hsr := HX3.out.size
              have hsw := HX.out.size
              have hsx5 := HX5.out.size
              obtain ⟨A, hA⟩ : ∃ A, A = wr.heap.size := ⟨_, rfl⟩
              obtain ⟨B, hB⟩ : ∃ B, B = w11.heap.size := ⟨_, rfl⟩
              have HXR := hid (HX3.out.trans (HX5.out.trans (HX57.out.trans (HX79.out.trans HX9.out))))
              have hAB : A ≤ B := by rw [hA, hB]; exact HXR.out.size
              have hmA : w.heap.size ≤ A := by rw [hA]; exact hsw
              have HQA := hid (show ∀ q ∈ bsa, A ≤ q ∧ q < B from fun q hq => by have := HGA.out q hq; omega)
              have HNX := hid (show ∀ q, (q ≤ w3.heap.size ∨ (w4.heap.size ≤ q ∧ q < w5.heap.size) ∨ w6.heap.size ≤ q) → q ∉ bsa from fun q hq hX => by
                have := HGA.out q hX; omega)
              have HV1 := hid (show VQ w11 w.heap.size (O1 O A B) (R1 R A B (bsa)) (.slice qa acc.length qc) acc from (HVQ.out.mono (fun q hq h => .inl ⟨h, by omega⟩) (fun q hq h => .inl ⟨h, by omega⟩)).later HXR.out)
              have HP1 := hid (show PQ w11 w.heap.size (O1 O A B) (R1 R A B (bsa)) (.slice wa acc.length wk) acc from (HPQ.out.mono (fun q hq h => .inl ⟨h, by omega⟩) (fun q hq h => .inl ⟨h, by omega⟩)).later HXR.out)
              have HOR1 := hid (fun q => OR1 (X := bsa) (a := A) (b := B) HOR.out hAB q)
              have HZO := hid (fun q => Z1_O1 (X := bsa) (a := A) (b := B) (m := w.heap.size) HOR.out HLOW.out hmA hAB q)
              have HZR := hid (fun q => Z1_R1 (X := bsa) (a := A) (b := B) (m := w.heap.size) HLOW.out hmA q)
              have HLZ := hid (show Rd (Z1 w.heap.size A B (bsa)) w11 d (.agg #[.int .i64 k, .int .i64 n, .string x, .slice al ll cl]) t from (HRD.out.later (HXW9.out.trans HX9.out)).mono (fun q _ h => .inl h))
              have HBZ := hid (show VRd (Z1 w.heap.size A B (bsa)) w11 d (.iface τb pb) t from ((HOB.out.later (HX57.out.trans (HX79.out.trans HX9.out))).rd).mono (fun q _ h => .inr (by have := HGB.out q h; exact ⟨by omega, by omega, HNX.out q (by omega)⟩)))
              have HMZ := hid (show MRd (Z1 w.heap.size A B (bsa)) w11 d (.agg #[.int .i64 k2, .int .i64 n2, .string x2, .slice a2 l2 c2]) t from (HMR.out.later (HX5.out.trans (HX57.out.trans (HX79.out.trans HX9.out)))).mono (fun q _ h => .inr ⟨by omega, by omega, HNX.out q (by omega)⟩))
              have HHZ := hid (show Z1 w.heap.size A B (bsa) w3.heap.size from .inr ⟨by omega, by omega, HNX.out _ (by omega)⟩)
              have HHB := hid ((HX79.out.trans HX9.out).block HB7.out)
              have HOA1 := hid (HOA.out.later (HX45.out.trans (HX57.out.trans (HX79.out.trans HX9.out))))
              have HXW := hid (HXW9.out.trans HX9.out)
              clear hx11 p0 p1 p2 p3 HX9 HXR HGB HNX HPR HPB HGB' HX910 HX11 hs4 hs34 hs5 hs6 hs7 hs8 hs9 hs10 hs11 hsx5 hpl hgl' hpb0 hg0 hgr7 hgr9 HB7 HB6 HB5 HB4 HMR HRD HOA HOB HX45 HX3 HX5 HX56 HX57 HX67 HX79 HXW9 HXW7 HVQ HPQ
              have HSB := hid (show w.heap.size ≤ w11.heap.size by omega)
              have HAB := hid (show A = wr.heap.size ∧ B = w11.heap.size from ⟨hA, hB⟩)
              have HNEW := hid (show ∀ W' : World, w11.heap.size ≤ W'.heap.size → ∀ q, W'.heap.size ≤ q → O1 O A B q from fun W' h q hq => .inr (by omega))
              clear hsr hsw hA hB
              have HK11 := hid (Kp.refl (Z1 w.heap.size A B (bsa)) w11)
              have hs11b : w11.heap.size ≤ w11.heap.size := Nat.le_refl _
              have HA2 := hid (show acc.length ≤ acc.length + 1 by omega)
              have HM2 := hid (show ∀ u ∈ acc, u.may from HMAY.out)
              go_wp2_with fail
              refine (full_any d _ _ bsa w11 (-6) HOA1.out HNA.out HM.out.2.1).mono ?_
              rintro e w15 ⟨⟨u15, rfl⟩, hk15⟩
              have HV15 := hid (HV1.out.off hk15 HQA.out (fun q hq => hq))
              have HP15 := hid (HP1.out.off hk15 HQA.out (fun q hq => hq))
              have HK15 := hid (HK11.out.trans (Kp.offZ (b := B) (X := bsa) hk15 hmA HQA.out (fun q hq => hq)))
              have hs15 := Nat.le_trans hs11b (show w11.heap.size ≤ w15.heap.size from Kp.size hk15)
              clear hk15 hs11b
              obtain ⟨p0, p1, p2, p3⟩ := four_of (HK15.out.block' HHB.out HHZ.out)
              have HKW := hid (show Kp (· < w.heap.size) w w15 from (HXW.out.kp _).trans (HK15.out.mono (fun q _ h => .inl h)))
              obtain ⟨o0, o1, o2, o3⟩ := H4.out.keep HKW.out HGL.out
              have hg15 : gl < w15.heap.size := lt_of_cell o0
              have HKE := hid (show ∀ W', Ext w15 W' → Calls Tryd.prog 27 #[.agg #[.int .i64 k2, .int .i64 n2, .string x2, .slice a2 l2 c2], .agg #[.int .i64 k, .int .i64 n, .string x, .slice al ll cl]] W' fun r w' => r = .returned (.bool true) ∧ Ext W' w' from fun W' Y => kept_any W' ((HMZ.out.keep HK15.out).later Y) ((HLZ.out.keep HK15.out).later Y))
              have HS24 := hid (show ∀ W', Ext w15 W' → W'.cell? ⟨w3.heap.size, 0, none⟩ = some (.int .i64 k2) ∧ W'.cell? ⟨w3.heap.size, 1, none⟩ = some (.int .i64 n2) ∧ W'.cell? ⟨w3.heap.size, 2, none⟩ = some (.string x2) ∧ W'.cell? ⟨w3.heap.size, 3, none⟩ = some (.slice a2 l2 c2) ∧ W'.cell? ⟨gl, off + j * 4, none⟩ = some (.int .i64 k) ∧ W'.cell? ⟨gl, off + j * 4 + 1, none⟩ = some (.int .i64 n) ∧ W'.cell? ⟨gl, off + j * 4 + 2, none⟩ = some (.string x) ∧ W'.cell? ⟨gl, off + j * 4 + 3, none⟩ = some (.slice al ll cl) from fun W' Y => by
                obtain ⟨a0, a1, a2, a3⟩ := four_of (Y.block (HK15.out.block' HHB.out HHZ.out))
                exact ⟨a0, a1, a2, a3, (H4.out.keep HKW.out HGL.out).keep (Y.kp (fun _ => True)) trivial⟩)
              go_upto_region 24 with fail
              go_cut [122] from 116 to 122 (fun s wx => s = .bool false ∧ Ext w15 wx)
              case first =>
                go_region_held3 (fun W' => W'.cell? ⟨w3.heap.size, 0, none⟩ = some (.int .i64 k2) ∧ W'.cell? ⟨w3.heap.size, 1, none⟩ = some (.int .i64 n2) ∧ W'.cell? ⟨w3.heap.size, 2, none⟩ = some (.string x2) ∧ W'.cell? ⟨w3.heap.size, 3, none⟩ = some (.slice a2 l2 c2) ∧ W'.cell? ⟨gl, off + j * 4, none⟩ = some (.int .i64 k) ∧ W'.cell? ⟨gl, off + j * 4 + 1, none⟩ = some (.int .i64 n) ∧ W'.cell? ⟨gl, off + j * 4 + 2, none⟩ = some (.string x) ∧ W'.cell? ⟨gl, off + j * 4 + 3, none⟩ = some (.slice al ll cl)) (first | exact SK | exact ⟨p0, p1, p2, p3, o0, o1, o2, o3⟩ | go_keep) (first | (go_at_call 27; refine (HKE.out _ ((Ext.refl w15).drew)).mono ?_; rintro r v3 ⟨rfl, hy⟩; have Y : Ext w15 v3 := Ext.trans ((Ext.refl w15).drew) hy; have SK := HS24.out v3 Y))
                all_goals
                  go_wp2_with fail
                  go_meet
                  case rel => exact ⟨rfl, Y⟩
              case rest =>
                obtain ⟨rfl, hx16⟩ := hcut
                have HX16 := hid hx16
                have hs16 := Nat.le_trans hs15 hx16.size
                have HV16 := hid (HV15.out.later hx16)
                have HP16 := hid (HP15.out.later hx16)
                have HK16 := hid (HK15.out.trans (hx16.kp _))
                have HKW16 := hid (HKW.out.trans (hx16.kp _))
                clear hx16 p0 p1 p2 p3 o0 o1 o2 o3 HKE HS24 hs15
                go_upto_region 27 with (at_builtin; refine app_vq rfl _ _ rfl rfl w.heap.size (O1 O A B) (R1 R A B (bsa)) (.slice qa acc.length qc) (.slice wa acc.length wk) acc acc τb pb t d rfl rfl (by have := HSB.out; omega) HV16.out HP16.out ((HBZ.out.keep HK16.out).mono (fun q _ hz => HZR.out q hz)) HOR1.out (HNEW.out _ hs16) (by omega) ?_; intro q17 c17 w17 hv17 hp17 hk17)
                have HV17 := hid hv17
                have HP17 := hid hp17
                have HK17 := hid (HK16.out.trans (show Kp (Z1 w.heap.size A B (bsa)) wc w17 from hk17.mono (fun q _ hz => HZO.out q hz)))
                have HKW17 := hid (HKW16.out.trans (show Kp (· < w.heap.size) wc w17 from hk17.mono (fun q _ hz => HZO.out q (.inl hz))))
                have hs17 := Nat.le_trans hs16 hk17.size
                obtain ⟨o0, o1, o2, o3⟩ := H4.out.keep HKW17.out HGL.out
                have hg17 : gl < w17.heap.size := lt_of_cell o0
                clear hv17 hp17 hk17 hs16
                go_wp2_with (at_builtin; refine app_pq rfl _ _ rfl rfl w.heap.size (O1 O A B) (R1 R A B (bsa)) (.slice q17 (acc.length + 1) c17) (.slice wa acc.length wk) (acc ++ [t]) acc k n x al ll cl t d rfl rfl (by have := HSB.out; omega) HV17.out HP17.out ((HLZ.out.keep HK17.out).mono (fun q _ hz => HZR.out q hz)) HOR1.out (HNEW.out _ hs17) (by omega) ?_; intro q18 c18 w18 hp18 hv18 hk18)
                go_roundw
                case rel =>
                  refine ⟨j + 1, N + S, acc ++ [t], hlt, by go_num, rfl, O1 O A B, R1 R A B (bsa), by omega, by omega, by omega, ?_, fun u hu => ?_, ?_, hv18, hp18, HOR1.out, fun q hq => HZR.out q (.inl hq)⟩
                  · have := HA2.out
                    have := HAC.out
                    simp
                    omega
                  · rcases List.mem_append.1 hu with hu | hu
                    · exact HM2.out u hu
                    · rw [List.mem_singleton.1 hu]; exact HM.out
                  · exact Kp.ext (HKW17.out.trans (show Kp (· < w.heap.size) w17 w18 from hk18.mono (fun q _ hz => HZO.out q (.inl hz)))) (fun q hq => hq)
                case measure => simp [intOf]; omega
      · have HM := hid hm
        have HZ := hid (show Calls Tryd.prog 19 #[.agg #[.int .i64 k, .int .i64 n, .string x, .slice al ll cl]] wr fun r w' => r = .returned (.int .i64 0) ∧ Ext wr w' from by
          have e := rsize_any wr (HRD.out.later HX.out)
          rw [show sizeN t = 0 by rw [sizeN, if_neg hm]] at e
          exact e)
        have HMY := hid (show ∀ W', Ext wr W' → Calls Tryd.prog 20 #[.agg #[.int .i64 k, .int .i64 n, .string x, .slice al ll cl]] W' fun r w' => r = .returned (.bool false) ∧ Ext W' w' from fun W' hx => by
          have e := rmay_any W' (HRD.out.later (HX.out.trans hx))
          rw [decide_eq_false hm] at e
          exact e)
        clear hm
        go_wp2_with fail
        refine HZ.out.mono ?_
        rintro e w1 ⟨rfl, hx1⟩
        have HX1 := hid hx1
        obtain ⟨o0, o1, o2, o3⟩ := H4.out.keep ((HX.out.trans hx1).kp (· < w.heap.size)) HGL.out
        clear hx1 m0 m1 m2 m3 HZ
        by_cases hbig : 200000 < N
        · have hbig' : decide (200000 < N) = true := decide_eq_true hbig
          go_wp2_with fail
          go_roundw
          case rel => exact ⟨j + 1, N, acc, hlt, by go_num, rfl, HFI.out.later HX1.out h5 (by omega) (by omega)⟩
          case measure => simp [intOf]; omega
        · have hbig' : decide (200000 < N) = false := decide_eq_false hbig
          go_wp2_with fail
          refine (HMY.out _ HX1.out).mono ?_
          rintro e w2 ⟨rfl, hx2⟩
          have HX2 := hid (HX1.out.trans hx2)
          clear hx2 o0 o1 o2 o3 HX1 HMY
          go_wp2_with fail
          go_roundw
          case rel => exact ⟨j + 1, N, acc, hlt, by go_num, rfl, HFI.out.later HX2.out h5 (by omega) (by omega)⟩
          case measure => simp [intOf]; omega
    · by_cases hlt : j < ks.length
      · have hlt' : (j : Int) < ks.length := by omega
        have h5 : decide ((j : Int) < 50) = false := decide_eq_false (by omega)
        clear hend
        go_wp2_with fail
        go_loopw [17] (fun i wq => ∃ m : Nat, m ≤ acc.length ∧ i = .int .i64 m ∧ Ext wr wq) (fun i _ => acc.length - (intOf i).toNat)
        case atStart => exact ⟨0, Nat.zero_le _, rfl, Ext.refl _⟩
        case round =>
          obtain ⟨m, hm, rfl, hy⟩ := hrel
          have HY := hid hy
          clear hy
          by_cases hltm : m < acc.length
          · have hltm' : (m : Int) < acc.length := by omega
            obtain ⟨gq, τ, p, dq, rfl, hcq, hvr⟩ := (HVQ.out.later HY.out).at hltm
            obtain ⟨gw, k, n, x, al, ll, cl, dw, rfl, h4, hrd⟩ := (HPQ.out.later HY.out).at hltm
            have HC := hid (fun W' (Y : Ext wr W') => is_same W' (hvr.later Y) (hrd.later Y) (HMAY.out _ (List.getElem_mem hltm)))
            have HSK := hid (show ∀ W', Ext wr W' → W'.cell? ⟨gq, m, none⟩ = some (.iface τ p) ∧ W'.cell? ⟨gw, m * 4, none⟩ = some (.int .i64 k) ∧ W'.cell? ⟨gw, m * 4 + 1, none⟩ = some (.int .i64 n) ∧ W'.cell? ⟨gw, m * 4 + 2, none⟩ = some (.string x) ∧ W'.cell? ⟨gw, m * 4 + 3, none⟩ = some (.slice al ll cl) from fun W' Y => ⟨(Y.kp (fun _ => True)).cell hcq trivial, h4.keep (Y.kp (fun _ => True)) trivial⟩)
            obtain ⟨o0, o1, o2, o3⟩ := h4
            have hgq := lt_of_cell hcq
            have hgw := lt_of_cell o0
            clear hvr hrd
            go_upto_region 31 with fail
            go_cut [149] from 140 to 149 (fun s wx => s = .bool false ∧ Ext wr wx)
            case first =>
              go_region_held3 (fun W' => W'.cell? ⟨gq, m, none⟩ = some (.iface τ p) ∧ W'.cell? ⟨gw, m * 4, none⟩ = some (.int .i64 k) ∧ W'.cell? ⟨gw, m * 4 + 1, none⟩ = some (.int .i64 n) ∧ W'.cell? ⟨gw, m * 4 + 2, none⟩ = some (.string x) ∧ W'.cell? ⟨gw, m * 4 + 3, none⟩ = some (.slice al ll cl)) (first | exact SK | exact ⟨hcq, o0, o1, o2, o3⟩ | go_keep) (first | (go_at_call 11; refine (HC.out _ ((Ext.refl wr).drew)).mono ?_; rintro r v3 ⟨rfl, hv3⟩; have Y : Ext wr v3 := Ext.trans ((Ext.refl wr).drew) hv3; have SK := HSK.out v3 Y))
              all_goals
                go_wp2_with fail
                go_meet
                case rel => exact ⟨rfl, Y⟩
            case rest =>
              obtain ⟨rfl, hz⟩ := hcut
              have HZ := hid (HY.out.trans hz)
              clear hz hcq o0 o1 o2 o3
              go_wp2_with fail
              go_roundw
              case rel => exact ⟨m + 1, hltm, by go_num, HZ.out⟩
              case measure => simp [intOf]; omega
          · go_wp2_with fail
            go_ret
            exact ⟨rfl, HX.out.trans HY.out⟩
      · have hlt' : decide ((j : Int) < ks.length) = false := decide_eq_false (by omega)
        clear hend
        go_wp2_with fail
        go_loopw [17] (fun i wq => ∃ m : Nat, m ≤ acc.length ∧ i = .int .i64 m ∧ Ext wr wq) (fun i _ => acc.length - (intOf i).toNat)
        case atStart => exact ⟨0, Nat.zero_le _, rfl, Ext.refl _⟩
        case round =>
          obtain ⟨m, hm, rfl, hy⟩ := hrel
          have HY := hid hy
          clear hy
          by_cases hltm : m < acc.length
          · have hltm' : (m : Int) < acc.length := by omega
            obtain ⟨gq, τ, p, dq, rfl, hcq, hvr⟩ := (HVQ.out.later HY.out).at hltm
            obtain ⟨gw, k, n, x, al, ll, cl, dw, rfl, h4, hrd⟩ := (HPQ.out.later HY.out).at hltm
            have HC := hid (fun W' (Y : Ext wr W') => is_same W' (hvr.later Y) (hrd.later Y) (HMAY.out _ (List.getElem_mem hltm)))
            have HSK := hid (show ∀ W', Ext wr W' → W'.cell? ⟨gq, m, none⟩ = some (.iface τ p) ∧ W'.cell? ⟨gw, m * 4, none⟩ = some (.int .i64 k) ∧ W'.cell? ⟨gw, m * 4 + 1, none⟩ = some (.int .i64 n) ∧ W'.cell? ⟨gw, m * 4 + 2, none⟩ = some (.string x) ∧ W'.cell? ⟨gw, m * 4 + 3, none⟩ = some (.slice al ll cl) from fun W' Y => ⟨(Y.kp (fun _ => True)).cell hcq trivial, h4.keep (Y.kp (fun _ => True)) trivial⟩)
            obtain ⟨o0, o1, o2, o3⟩ := h4
            have hgq := lt_of_cell hcq
            have hgw := lt_of_cell o0
            clear hvr hrd
            go_upto_region 31 with fail
            go_cut [149] from 140 to 149 (fun s wx => s = .bool false ∧ Ext wr wx)
            case first =>
              go_region_held3 (fun W' => W'.cell? ⟨gq, m, none⟩ = some (.iface τ p) ∧ W'.cell? ⟨gw, m * 4, none⟩ = some (.int .i64 k) ∧ W'.cell? ⟨gw, m * 4 + 1, none⟩ = some (.int .i64 n) ∧ W'.cell? ⟨gw, m * 4 + 2, none⟩ = some (.string x) ∧ W'.cell? ⟨gw, m * 4 + 3, none⟩ = some (.slice al ll cl)) (first | exact SK | exact ⟨hcq, o0, o1, o2, o3⟩ | go_keep) (first | (go_at_call 11; refine (HC.out _ ((Ext.refl wr).drew)).mono ?_; rintro r v3 ⟨rfl, hv3⟩; have Y : Ext wr v3 := Ext.trans ((Ext.refl wr).drew) hv3; have SK := HSK.out v3 Y))
              all_goals
                go_wp2_with fail
                go_meet
                case rel => exact ⟨rfl, Y⟩
            case rest =>
              obtain ⟨rfl, hz⟩ := hcut
              have HZ := hid (HY.out.trans hz)
              clear hz hcq o0 o1 o2 o3
              go_wp2_with fail
              go_roundw
              case rel => exact ⟨m + 1, hltm, by go_num, HZ.out⟩
              case measure => simp [intOf]; omega
          · go_wp2_with fail
            go_ret
            exact ⟨rfl, HX.out.trans HY.out⟩
end Go.Proofs.YtbpbkihcfdnphaaDoor
