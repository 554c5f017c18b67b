/-
  ListFresh tells true, whatever the operations.
-/
import Derived.Test.YtaafcmmmkalgjaaGreatDoorLFHead
import Derived.Test.YtaafcmmmkalgjaaGreatDoorLWorks
namespace Go.Proofs.YtaafcmmmkalgjaaGreatDoor.Nd
open Go.RowKit
theorem callAt_on {W W' : World} {g o : Nat} {op : ByteArray} {la : Option Addr} {lc m : Nat} {ks : List T} (h : CallAt W g o op la lc m ks) (hx : Ext W W') : CallAt W' g o op la lc m ks :=
  ⟨(hx.kp (fun _ => True)).cell h.1 trivial, (hx.kp (fun _ => True)).cell h.2.1 trivial, h.2.2.1.keep (hx.kp _), h.2.2.2.1, h.2.2.2.2.1, h.2.2.2.2.2.later hx⟩
theorem rdl_prow {K : Nat → Prop} {w : World} {d : Nat} {a : Option Addr} {ks : List T} (h : RdL K w d a ks) : PRow w a ks := h.2.imp id fun ⟨g, off, ha, _, hc⟩ => ⟨g, off, ha, fun j hj => by
  obtain ⟨u0, u1, u2, u3, h4, hr⟩ := hc j hj
  exact ⟨K, d, u0, u1, u2, u3, h4, hr⟩⟩
theorem ownE_iface {w : World} {d : Nat} {v : Value} {t : T} {bs : List Nat} (h : VOwnE w d v t bs) : ∃ τ p, v = .iface τ p := by
  obtain ⟨_, hr⟩ := h.rd
  exact hr.iface
/-- What the document answered, as the walk holds it. -/
def LfP (b : Nat) (w1 : World) (ra : Ans) (s6 s7 s8 : Value) (wx : World) : Prop := ∃ B k n x a l c ec ex, s6 = .pointer (some ⟨B, 0, none⟩) ∧ s7 = .int .i64 ec ∧ s8 = .string ex ∧ wx.heap[B]? = some (.cells #[.int .i64 k, .int .i64 n, .string x, .slice a l c] 30) ∧ AnsK (KB b w1.heap.size) ra wx (.tuple #[.agg #[.int .i64 k, .int .i64 n, .string x, .slice a l c], .int .i64 ec, .string ex]) ∧ w1.heap.size ≤ B ∧ Ext w1 wx
/-- What the program answered. -/
def LfA (w1 : World) (t : T) (s9 s10 s11 : Value) (wx : World) : Prop := ∃ d τ p bs, s9 = .iface τ p ∧ s10 = .int .i64 0 ∧ s11 = .string ⟨#[]⟩ ∧ VOwnE wx d (.iface τ p) t bs ∧ bs.Nodup ∧ (∀ q ∈ bs, w1.heap.size ≤ q) ∧ Ext w1 wx
set_option maxRecDepth 100000 in
set_option maxHeartbeats 16000000 in
theorem listFresh_true (a : Option Addr) (n c : Nat) (w : World) (hS : CallsIn w a n) (hn : n * 40 ≤ 140737488351232) (hm : MaxAt w) (hbe : Calls Tryz.prog 5 #[] w fun e w' => e = .returned (.bool true) ∧ Ext w w') : Calls Tryz.prog 3 #[.slice a n c] w fun e w' => e = .returned (.bool true) ∧ Ext w w' := by
  have HS := hid hS
  have HB := hid hbe
  have HMX := hid hm
  have hn' : (n : Int) ≤ 140737488351232 := by omega
  clear hS hm hn hbe
  go_enter Tryz.func3, Tryz.ntmps3
  go_wp2_with fail
  refine HB.out.mono ?_
  rintro e V0 ⟨rfl, hx0⟩
  have HX0 := hid hx0
  clear hx0
  go_wp2_with fail
  go_loopw [3, 4, 5] (fun qv wv i wr => ∃ (j : Nat) (acc : List T), j ≤ n ∧ i = .int .i64 j ∧ FI w j qv wv acc wr) (fun _ _ i _ => n - (intOf i).toNat)
  case atStart => exact ⟨0, [], Nat.zero_le _, rfl, fun q => w.heap.size ≤ q, fun q => q < w.heap.size, Nat.zero_le _, Nat.le_refl _, by simp, HX0.out, VQ.nil _ _ _, PQ.nil _ _ _, fun q h1 h2 => by have h1' : w.heap.size ≤ q := h1; have h2' : q < w.heap.size := h2; omega, fun q hq => hq⟩
  case round =>
    obtain ⟨j, acc, hj, rfl, hfi⟩ := hrel
    have HFI := hid hfi
    obtain ⟨O, R, hj5, hacc, hmay, hx, hvq, hpq, hOR, hlow⟩ := hfi
    obtain ⟨qa, qc, rfl⟩ := hvq.shape
    obtain ⟨wa, wk, rfl⟩ := hpq.shape
    have HX := hid hx
    have HVQ := hid hvq
    have HPQ := hid hpq
    have HOR := hid hOR
    have HLOW := hid hlow
    have HMAY := hid hmay
    have HAC := hid hacc
    have hal : acc.length ≤ 30 := by omega
    have hal' : (acc.length : Int) ≤ 30 := by omega
    clear hx hvq hpq hOR hlow hmay hacc
    by_cases hend : j < n ∧ j < 30
    · obtain ⟨hlt, h5⟩ := hend
      have hlt' : (j : Int) < n := by omega
      have h5' : (j : Int) < 30 := by omega
      obtain ⟨g, off, op, la, lc, md, ks, rfl, hcall0⟩ := HS.out j hlt
      have HC := hid hcall0
      have hgw : g < w.heap.size := lt_of_cell hcall0.1
      have hcall := callAt_on hcall0 HX.out
      have HLI := hid (lights_any (c := lc) wr hcall.2.2.1)
      have e0 := hcall.1
      have e1 := hcall.2.1
      have hgl := lt_of_cell e0
      clear hcall0 hcall
      obtain ⟨kn, hkn⟩ : ∃ kn, ks.length = kn := ⟨_, rfl⟩
      have HKN := hid hkn
      rw [hkn] at HLI e1
      clear hkn
      go_wp2_with fail
      refine HLI.out.mono ?_
      rintro e w1 ⟨b, rfl, hli, hx1⟩
      have HX1 := hid hx1
      have HLL := hid hli
      clear hx1 hli e0 e1 hgl HLI
      cases b with
      | false =>
        go_wp2_with fail
        go_roundw
        case rel => exact ⟨j + 1, acc, hlt, by go_num, HFI.out.later HX1.out h5⟩
        case measure => simp [intOf]; omega
      | true =>
        obtain ⟨ra, hfine, hp0, hq0⟩ := bothF op ks (by have := (HLL.out rfl).1; omega)
        have HXW := hid (HX.out.trans HX1.out)
        have HFN := hid hfine
        have HPW := hid (show ∀ W', Ext w W' → Calls Tryz.prog 8 #[.string op, .slice la kn lc] W' fun e w' => ∃ V, e = .returned V ∧ AnsF W'.heap.size ra w' V ∧ Ext W' w' from fun W' Y => by
          have h := hp0 W' la lc (HMX.out.later Y) (rdl_prow (callAt_on HC.out Y).2.2.1)
          rwa [HKN.out] at h)
        have HCR := hid (show ∀ W', Ext w1 W' → Calls Tryz.prog 7 #[.string op, .slice la kn lc] W' fun e w' => ∃ R, e = .returned R ∧ AnsK (KB w.heap.size w1.heap.size) ra w' R ∧ Ext W' w' from fun W' Y => by
          have Z := HXW.out.trans Y
          have h := hq0 md W' la lc w.heap.size Z.size ((rdl_low HC.out.2.2.1).keep (Z.kp _)) (callAt_on HC.out Z).2.2.2.2.2
          rw [HKN.out] at h
          exact h.mono fun e w' ⟨R, he, hr, hx⟩ => ⟨R, he, hr.mono (fun k _ hk => by
            have hk2 : k < w.heap.size ∨ W'.heap.size < k := hk
            show k < w.heap.size ∨ w1.heap.size < k
            have := Y.size
            omega), hx⟩)
        have HE := hid (show ∀ W', Ext w W' → W'.cell? ⟨g, off + j * 2, none⟩ = some (.string op) ∧ W'.cell? ⟨g, off + j * 2 + 1, none⟩ = some (.slice la kn lc) ∧ g < W'.heap.size from fun W' Y => by
          have h := callAt_on HC.out Y
          have h1 := h.2.1
          rw [HKN.out] at h1
          exact ⟨h.1, h1, lt_of_cell h.1⟩)
        have HWO := hid (fun W' (Y : Ext w W') => worksC_any op la lc ks W' (HMX.out.later Y) (fun h => bothL op ks (by omega)) (callAt_on HC.out Y).2.2.2.2.2 (callAt_on HC.out Y).2.2.1)
        rw [HKN.out] at HWO
        clear hfine hp0 hq0 HLL HKN
        obtain ⟨e0, e1, hgl⟩ := HE.out w1 HXW.out
        have HSK := hid (show ∀ W', Ext w1 W' → W'.cell? ⟨g, off + j * 2, none⟩ = some (.string op) ∧ W'.cell? ⟨g, off + j * 2 + 1, none⟩ = some (.slice la kn lc) from fun W' Y => ⟨(HE.out W' (HXW.out.trans Y)).1, (HE.out W' (HXW.out.trans Y)).2.1⟩)
        have HST := hid (show ∀ (W' : World) (z : Nat) (v0 v1 v2 v3 : Value), Ext w1 W' → w1.heap.size ≤ z → ((((W'.setCell ⟨z, 0, none⟩ v0).setCell ⟨z, 1, none⟩ v1).setCell ⟨z, 2, none⟩ v2).setCell ⟨z, 3, none⟩ v3).cell? ⟨g, off + j * 2, none⟩ = some (.string op) ∧ ((((W'.setCell ⟨z, 0, none⟩ v0).setCell ⟨z, 1, none⟩ v1).setCell ⟨z, 2, none⟩ v2).setCell ⟨z, 3, none⟩ v3).cell? ⟨g, off + j * 2 + 1, none⟩ = some (.slice la kn lc) from fun W' z v0 v1 v2 v3 Y hz => by
          have Z := Kp.extOf (HXW.out.trans Y) (Kp.set4 W' z 0 v0 v1 v2 v3) (Nat.le_trans HXW.out.size hz)
          exact ⟨(HE.out _ Z).1, (HE.out _ Z).2.1⟩)
        go_upto_region 9 with fail
        go_cut [6, 7, 8] from 36 to 50 (fun s6 s7 s8 wx => LfP w.heap.size w1 ra s6 s7 s8 wx)
        case first =>
          go_region_held3 (fun W' => W'.cell? ⟨g, off + j * 2, none⟩ = some (.string op) ∧ W'.cell? ⟨g, off + j * 2 + 1, none⟩ = some (.slice la kn lc)) (first | exact SK | exact ⟨e0, e1⟩ | (with_reducible exact HST.out _ _ _ _ _ _ Y (Nat.le_refl _)) | (with_reducible exact HST.out _ _ _ _ _ _ Y (Nat.le_succ _)) | go_keep) (first | (go_at_call 7; refine (HCR.out _ (by repeat (first | with_reducible exact Ext.refl _ | with_reducible refine Ext.trans ?_ (Ext.alloc _ _) | with_reducible refine Ext.drew ?_))).mono ?_; rintro r3 v3 ⟨R3, rfl, href, hy⟩; obtain ⟨k3, n3, x3, a3, l3, c3, ec3, ex3, rfl⟩ := href.shape; have Y : Ext w1 v3 := Ext.trans (by repeat (first | with_reducible exact Ext.refl _ | with_reducible refine Ext.trans ?_ (Ext.alloc _ _) | with_reducible refine Ext.drew ?_)) hy; have HRF := hid href; clear href; have SK := HSK.out v3 Y; (try (have ZB : v3.heap[w1.heap.size]? = some (.cells #[.int .i64 0, .int .i64 0, .string ⟨#[]⟩, .slice none 0 0] 30) := hy.block (blk0 _ _); obtain ⟨q0, q1, q2, q3⟩ := four_free ZB; obtain ⟨z0, z1, z2, z3⟩ := four_of ZB))))
          all_goals go_wp2_with fail
          · go_meet
            case rel => exact ⟨v3.heap.size, k3, n3, x3, a3, l3, c3, ec3, ex3, rfl, rfl, rfl, blk0 v3 _, HRF.out.keep ((Ext.alloc v3 _).kp _), Y.size, Y.trans (Ext.alloc _ _)⟩
          · go_meet
            case rel => exact ⟨w1.heap.size, k3, n3, x3, a3, l3, c3, ec3, ex3, rfl, rfl, rfl, four_set ZB, HRF.out.keep (kb_keep HXW.out.size (Kp.set4 v3 w1.heap.size 0 _ _ _ _)), Nat.le_refl _, Kp.extOf Y (Kp.set4 v3 w1.heap.size 0 _ _ _ _) (Nat.le_refl _)⟩
        case rest =>
          obtain ⟨W2, rfl⟩ : ∃ W2, W2 = wc := ⟨_, rfl⟩
          obtain ⟨pb, pk, pn, px, pa, pl', pc, ec, ex, rfl, rfl, rfl, hpb, hak, hpb0, hx2⟩ := hcut
          have HX2 := hid hx2
          have HX12 := hid (HX1.out.trans hx2)
          have HPB := hid hpb
          have hpbl := lt_of_block hpb
          have HXW2 := hid (HXW.out.trans hx2)
          clear hpb hx2 e0 e1 hgl HSK HST HCR
          cases ra with
          | bad c0 x0 =>
            have hc0 := HFN.out c0 x0 rfl
            have hak' : (Value.tuple #[.agg #[.int .i64 pk, .int .i64 pn, .string px, .slice pa pl' pc], .int .i64 ec, .string ex]) = .tuple #[.agg #[.int .i64 0, .int .i64 0, .string ⟨#[]⟩, .slice none 0 0], .int .i64 c0, .string x0] := hak
            simp only [Value.tuple.injEq, Array.mk.injEq, List.cons.injEq, Value.int.injEq, true_and, and_true] at hak'
            obtain ⟨_, rfl, _⟩ := hak'
            have hc1 : (ec != 0) = true := by unfold bne; rw [hc0]; rfl
            clear hak
            go_wp2_with fail
            go_roundw
            case rel => exact ⟨j + 1, acc, hlt, by go_num, HFI.out.later HX12.out h5⟩
            case measure => simp [intOf]; omega
          | good t =>
            obtain ⟨d, p, he, hrd⟩ := hak
            simp only [Value.tuple.injEq, Array.mk.injEq, List.cons.injEq, Value.int.injEq, true_and, and_true] at he
            obtain ⟨hpe, rfl, _⟩ := he
            subst hpe
            have HRD := hid hrd
            clear hrd
            have HPA := hid (show ∀ (W0 : World), Ext w W0 → ∀ W', Ext W0 W' → Calls Tryz.prog 8 #[.string op, .slice la kn lc] W' fun e w' => ∃ d τ p bs, e = .returned (.tuple #[.iface τ p, .int .i64 0, .string ⟨#[]⟩]) ∧ t.may ∧ VOwnE w' d (.iface τ p) t bs ∧ bs.Nodup ∧ (∀ q ∈ bs, W0.heap.size ≤ q) ∧ Ext W' w' from fun W0 Y0 W' Y => (HPW.out W' (Y0.trans Y)).mono fun e w' ⟨V, he, hv, hx⟩ => by
              obtain ⟨hm, d, v, bs, rfl, h1, h2, h3⟩ := hv
              obtain ⟨τ, p, rfl⟩ := ownE_iface h1
              exact ⟨d, τ, p, bs, he, hm, h1, h2, fun q hq => Nat.le_trans Y.size (h3 q hq), hx⟩)
            have HTM := hid (show ∀ W', Ext w W' → Calls Tryz.prog 8 #[.string op, .slice la kn lc] W' fun e w' => ∃ d τ p bs, e = .returned (.tuple #[.iface τ p, .int .i64 0, .string ⟨#[]⟩]) ∧ t.may ∧ VOwnE w' d (.iface τ p) t bs ∧ bs.Nodup ∧ (∀ q ∈ bs, W'.heap.size ≤ q) ∧ Ext W' w' from fun W' Y => HPA.out W' Y W' (Ext.refl _))
            clear HPW HTM HFN
            obtain ⟨e0, e1, hgl⟩ := HE.out W2 HXW2.out
            have HSK := hid (show ∀ W', Ext W2 W' → W'.cell? ⟨g, off + j * 2, none⟩ = some (.string op) ∧ W'.cell? ⟨g, off + j * 2 + 1, none⟩ = some (.slice la kn lc) from fun W' Y => ⟨(HE.out W' (HXW2.out.trans Y)).1, (HE.out W' (HXW2.out.trans Y)).2.1⟩)
            have HP2 := hid (HPA.out W2 HXW2.out)
            go_upto_region 11 with fail
            go_cut [9, 10, 11] from 53 to 67 (fun s9 s10 s11 wx => t.may ∧ LfA W2 t s9 s10 s11 wx)
            case first =>
              go_region_held3 (fun W' => W'.cell? ⟨g, off + j * 2, none⟩ = some (.string op) ∧ W'.cell? ⟨g, off + j * 2 + 1, none⟩ = some (.slice la kn lc)) (first | exact SK | exact ⟨e0, e1⟩ | go_keep) (first | (go_at_call 8; refine (HP2.out _ (by repeat (first | with_reducible exact Ext.refl _ | with_reducible refine Ext.drew ?_))).mono ?_; rintro r3 v3 ⟨d3, τ3, p3, bs3, rfl, hm3, ho3, hn3, hl3, hy⟩; have Y : Ext W2 v3 := Ext.trans (by repeat (first | with_reducible exact Ext.refl _ | with_reducible refine Ext.drew ?_)) hy; have SK := HSK.out v3 Y))
              all_goals
                go_wp2_with fail
                go_meet
                case rel => exact ⟨hm3, d3, τ3, p3, bs3, rfl, rfl, rfl, ho3, hn3, hl3, Y⟩
            case rest =>
              obtain ⟨W3, rfl⟩ : ∃ W3, W3 = wc := ⟨_, rfl⟩
              obtain ⟨htm, da, τa, ia, bsa, rfl, rfl, rfl, hoa, hna, hla, hx3⟩ := hcut
              have HTM := hid htm
              have HOA := hid hoa
              have HNA := hid hna
              have HLA := hid (show ∀ q ∈ bsa, W2.heap.size ≤ q ∧ q < W3.heap.size from fun q hq => ⟨hla q hq, hoa.lt q hq⟩)
              have HX3 := hid hx3
              have HXW3 := hid (HXW2.out.trans hx3)
              clear htm hoa hna hla hx3 e0 e1 hgl HSK HP2
              obtain ⟨e0, e1, hgl⟩ := HE.out W3 HXW3.out
              have HSK := hid (show ∀ W', Ext W3 W' → W'.cell? ⟨g, off + j * 2, none⟩ = some (.string op) ∧ W'.cell? ⟨g, off + j * 2 + 1, none⟩ = some (.slice la kn lc) from fun W' Y => ⟨(HE.out W' (HXW3.out.trans Y)).1, (HE.out W' (HXW3.out.trans Y)).2.1⟩)
              have HP3 := hid (HPA.out W3 HXW3.out)
              go_upto_region 12 with fail
              go_cut [12, 13, 14] from 68 to 82 (fun s9 s10 s11 wx => t.may ∧ LfA W3 t s9 s10 s11 wx)
              case first =>
                go_region_held3 (fun W' => W'.cell? ⟨g, off + j * 2, none⟩ = some (.string op) ∧ W'.cell? ⟨g, off + j * 2 + 1, none⟩ = some (.slice la kn lc)) (first | exact SK | exact ⟨e0, e1⟩ | go_keep) (first | (go_at_call 8; refine (HP3.out _ (by repeat (first | with_reducible exact Ext.refl _ | with_reducible refine Ext.drew ?_))).mono ?_; rintro r3 v3 ⟨d3, τ3, p3, bs3, rfl, hm3, ho3, hn3, hl3, hy⟩; have Y : Ext W3 v3 := Ext.trans (by repeat (first | with_reducible exact Ext.refl _ | with_reducible refine Ext.drew ?_)) hy; have SK := HSK.out v3 Y))
                all_goals
                  go_wp2_with fail
                  go_meet
                  case rel => exact ⟨hm3, d3, τ3, p3, bs3, rfl, rfl, rfl, ho3, hn3, hl3, Y⟩
              case rest =>
                obtain ⟨W4, rfl⟩ : ∃ W4, W4 = wc := ⟨_, rfl⟩
                obtain ⟨_, db, τb, ib, bsb, rfl, rfl, rfl, hob, _, hlb, hx4⟩ := hcut
                obtain ⟨A, hA⟩ : ∃ A, A = wr.heap.size := ⟨_, rfl⟩
                obtain ⟨B, hB⟩ : ∃ B, B = W4.heap.size := ⟨_, rfl⟩
                have hs12 := HX12.out.size
                have hs2 := HX2.out.size
                have hs3 := HX3.out.size
                have hs4 := hx4.size
                have hsw := HX.out.size
                have hs1 := HX1.out.size
                have HXR := hid (HX12.out.trans (HX3.out.trans hx4))
                have hAB : A ≤ B := by rw [hA, hB]; exact HXR.out.size
                have HQA := hid (show ∀ q ∈ bsa, A ≤ q ∧ q < B from fun q hq => by have := HLA.out q hq; omega)
                have HV1 := hid (show VQ W4 w.heap.size (O1 O A B) (R1 R A B bsa) (.slice qa acc.length qc) acc from (HVQ.out.mono (fun q hq h => .inl ⟨h, by omega⟩) (fun q hq h => .inl ⟨h, by omega⟩)).later HXR.out)
                have HP1 := hid (show PQ W4 w.heap.size (O1 O A B) (R1 R A B bsa) (.slice wa acc.length wk) acc from (HPQ.out.mono (fun q hq h => .inl ⟨h, by omega⟩) (fun q hq h => .inl ⟨h, by omega⟩)).later HXR.out)
                have HOR1 := hid (fun q => OR1 (X := bsa) (a := A) (b := B) HOR.out hAB q)
                have HOL := hid (fun q (hq : q < w.heap.size) => O1_low (a := A) (b := B) HOR.out HLOW.out (by omega) hq)
                have HRL := hid (show ∀ q, q < w.heap.size → R1 R A B bsa q from fun q hq => .inl ⟨HLOW.out q hq, by omega⟩)
                have HRP := hid (show Rd (R1 R A B bsa) W4 d (.agg #[.int .i64 pk, .int .i64 pn, .string px, .slice pa pl' pc]) t from ((HRD.out.mono (L := R1 R A B bsa) (fun q hq h => by
                  have h' : q < w.heap.size ∨ w1.heap.size < q := h
                  rcases h' with h' | h'
                  · exact HRL.out q h'
                  · exact .inr ⟨by omega, by omega, fun e => by have := HLA.out q e; omega⟩)).later (HX3.out.trans hx4)))
                have HRB := hid (show ∃ d, VRd (R1 R A B bsa) W4 d (.iface τb ib) t from by
                  obtain ⟨d', hr⟩ := hob.rd
                  exact ⟨d', hr.mono (fun q hq h => .inr ⟨by have := hlb q h; omega, by have := hob.lt q h; omega, fun e => by have h1 := HLA.out q e; have h2 := hlb q h; omega⟩)⟩)
                have HOA4 := hid (HOA.out.later hx4)
                have HPB4 := hid ((HX3.out.trans hx4).block HPB.out)
                have HPBR := hid (show R1 R A B bsa pb from .inr ⟨by omega, by omega, fun e => by have := HLA.out pb e; omega⟩)
                have HXW4 := hid (HXW3.out.trans hx4)
                have HSB := hid (show w.heap.size ≤ B by omega)
                have HBW := hid hB
                have HGW := hid hgw
                clear hob hlb hx4 e0 e1 hgl HSK HP3 HPA HRD HOA HX12 HX2 HX3 HXR hs12 hs2 hs3 hs4 hsw hs1 hpb0 hpbl hA hB hAB HVQ HPQ HPB HX1 hgw
                go_wp2_with fail
                refine (fullE_any W4 (-3) HOA4.out HNA.out HTM.out.2.1).mono ?_
                rintro e w5 ⟨⟨u5, rfl⟩, hk5⟩
                have HV5 := hid (HV1.out.offR hk5 HQA.out)
                have HP5 := hid (HP1.out.offR hk5 HQA.out)
                have HRP5 := hid (HRP.out.keep (Kp.mono hk5 fun q _ h => R1_off HQA.out q h))
                have HRB5 := hid (show ∃ d, VRd (R1 R A B bsa) w5 d (.iface τb ib) t from by
                  obtain ⟨d', hr⟩ := HRB.out
                  exact ⟨d', hr.keep (Kp.mono hk5 fun q _ h => R1_off HQA.out q h)⟩)
                have HPB5 := hid (Kp.block' hk5 HPB4.out (R1_off HQA.out pb HPBR.out))
                have HXW5 := hid (HXW4.out.more' hk5 fun q hq e => R1_off HQA.out q (HRL.out q hq) e)
                have hs5 : B ≤ w5.heap.size := by rw [HBW.out]; exact Kp.size hk5
                have HNEW := hid (show ∀ W' : World, w5.heap.size ≤ W'.heap.size → ∀ q, W'.heap.size ≤ q → O1 O A B q from fun W' h q hq => .inr (by omega))
                have HSB5 := hid (show w.heap.size ≤ w5.heap.size by have := HSB.out; omega)
                obtain ⟨dB, hrb⟩ := HRB5.out
                have HRBB := hid hrb
                clear hk5 hs5 hrb HRB5 HRB HRP HPB4 HV1 HP1 HOA4 HXW4
                go_upto_region 14 with fail
                go_upto_region 15 with (at_builtin; refine app_vq rfl _ _ rfl rfl w.heap.size (O1 O A B) (R1 R A B bsa) (.slice qa acc.length qc) (.slice wa acc.length wk) acc acc τb ib t dB rfl rfl HSB5.out HV5.out HP5.out HRBB.out HOR1.out (HNEW.out _ (Nat.le_refl _)) (by omega) ?_; intro q6 c6 w6 hv6 hp6 hk6)
                have HV6 := hid hv6
                have HP6 := hid hp6
                have HRP6 := hid (HRP5.out.keep (Kp.mono hk6 fun q _ h e => HOR1.out q e h))
                have HPB6 := hid (Kp.block' hk6 HPB5.out (fun e => HOR1.out pb e HPBR.out))
                have HXW6 := hid (HXW5.out.more' hk6 fun q hq e => HOL.out q hq e)
                have HS6 := hid hk6.size
                clear hv6 hp6 hk6
                obtain ⟨p0, p1, p2, p3⟩ := four_of HPB6.out
                have hpbl := lt_of_block HPB6.out
                go_upto_region 16 with (at_builtin; refine app_pq rfl _ _ rfl rfl w.heap.size (O1 O A B) (R1 R A B bsa) (.slice q6 (acc.length + 1) c6) (.slice wa acc.length wk) (acc ++ [t]) acc pk pn px pa pl' pc t d rfl rfl (Nat.le_trans HSB5.out HS6.out) HV6.out HP6.out HRP6.out HOR1.out (HNEW.out _ HS6.out) (by omega) ?_; intro q7 c7 w7 hp7 hv7 hk7)
                have HV7 := hid hv7
                have HP7 := hid hp7
                have HXW7 := hid (HXW6.out.more' hk7 fun q hq e => HOL.out q hq e)
                clear hv7 hp7 hk7 p0 p1 p2 p3 hpbl
                obtain ⟨e0, e1, hgl⟩ := HE.out w7 HXW7.out
                have HW7 := hid (HWO.out w7 HXW7.out)
                go_wp2_with fail
                refine HW7.out.mono ?_
                rintro e w8 ⟨rfl, hx8⟩
                have HX8 := hid hx8
                clear hx8 e0 e1 hgl
                go_wp2_with fail
                go_roundw
                case rel =>
                  refine ⟨j + 1, acc ++ [t], hlt, by go_num, O1 O A B, R1 R A B bsa, by omega, by have := HAC.out; simp; omega, fun u hu => ?_, HXW7.out.trans HX8.out, HV7.out.later HX8.out, HP7.out.later HX8.out, HOR1.out, HRL.out⟩
                  rcases List.mem_append.1 hu with hu | hu
                  · exact HMAY.out u hu
                  · rw [List.mem_singleton.1 hu]; exact HTM.out
                case measure => simp [intOf]; omega
    · by_cases hlt : j < n
      · have hlt' : (j : Int) < n := by omega
        have h5 : decide ((j : Int) < 30) = false := decide_eq_false (by omega)
        clear hend
        go_wp2_with fail
        go_loopw [16] (fun i wq => ∃ m : Nat, m ≤ acc.length ∧ i = .int .i64 m ∧ Ext wr wq) (fun i _ => acc.length - (intOf i).toNat)
        case atStart => exact ⟨0, Nat.zero_le _, rfl, Ext.refl _⟩
        case round =>
          obtain ⟨m, hm, rfl, hy⟩ := hrel
          have HY := hid hy
          clear hy
          by_cases hltm : m < acc.length
          · have hltm' : (m : Int) < acc.length := by omega
            obtain ⟨gq, τ, p, dq, rfl, hcq, hvr⟩ := (HVQ.out.later HY.out).at hltm
            obtain ⟨gw, k, n, x, al, ll, cl, dw, rfl, h4, hrd⟩ := (HPQ.out.later HY.out).at hltm
            have HC := hid (fun W' (Y : Ext wr W') => sameV W' (hvr.later Y) (hrd.later Y) (HMAY.out _ (List.getElem_mem hltm)))
            have HSK := hid (show ∀ W', Ext wr W' → W'.cell? ⟨gq, m, none⟩ = some (.iface τ p) ∧ W'.cell? ⟨gw, m * 4, none⟩ = some (.int .i64 k) ∧ W'.cell? ⟨gw, m * 4 + 1, none⟩ = some (.int .i64 n) ∧ W'.cell? ⟨gw, m * 4 + 2, none⟩ = some (.string x) ∧ W'.cell? ⟨gw, m * 4 + 3, none⟩ = some (.slice al ll cl) from fun W' Y => ⟨(Y.kp (fun _ => True)).cell hcq trivial, h4.keep (Y.kp (fun _ => True)) trivial⟩)
            obtain ⟨o0, o1, o2, o3⟩ := h4
            have hgq := lt_of_cell hcq
            have hgw := lt_of_cell o0
            clear hvr hrd
            go_upto_region 22 with fail
            go_cut [115] from 106 to 115 (fun s wx => s = .bool false ∧ Ext wr wx)
            case first =>
              go_region_held3 (fun W' => W'.cell? ⟨gq, m, none⟩ = some (.iface τ p) ∧ W'.cell? ⟨gw, m * 4, none⟩ = some (.int .i64 k) ∧ W'.cell? ⟨gw, m * 4 + 1, none⟩ = some (.int .i64 n) ∧ W'.cell? ⟨gw, m * 4 + 2, none⟩ = some (.string x) ∧ W'.cell? ⟨gw, m * 4 + 3, none⟩ = some (.slice al ll cl)) (first | exact SK | exact ⟨hcq, o0, o1, o2, o3⟩ | go_keep) (first | (go_at_call 11; refine (HC.out _ ((Ext.refl wr).drew)).mono ?_; rintro r v3 ⟨rfl, hv3⟩; have Y : Ext wr v3 := Ext.trans ((Ext.refl wr).drew) hv3; have SK := HSK.out v3 Y))
              all_goals
                go_wp2_with fail
                go_meet
                case rel => exact ⟨rfl, Y⟩
            case rest =>
              obtain ⟨rfl, hz⟩ := hcut
              have HZ := hid (HY.out.trans hz)
              clear hz hcq o0 o1 o2 o3
              go_wp2_with fail
              go_roundw
              case rel => exact ⟨m + 1, hltm, by go_num, HZ.out⟩
              case measure => simp [intOf]; omega
          · go_wp2_with fail
            go_ret
            exact ⟨rfl, HX.out.trans HY.out⟩
      · have hlt' : decide ((j : Int) < n) = false := decide_eq_false (by omega)
        clear hend
        go_wp2_with fail
        go_loopw [16] (fun i wq => ∃ m : Nat, m ≤ acc.length ∧ i = .int .i64 m ∧ Ext wr wq) (fun i _ => acc.length - (intOf i).toNat)
        case atStart => exact ⟨0, Nat.zero_le _, rfl, Ext.refl _⟩
        case round =>
          obtain ⟨m, hm, rfl, hy⟩ := hrel
          have HY := hid hy
          clear hy
          by_cases hltm : m < acc.length
          · have hltm' : (m : Int) < acc.length := by omega
            obtain ⟨gq, τ, p, dq, rfl, hcq, hvr⟩ := (HVQ.out.later HY.out).at hltm
            obtain ⟨gw, k, n, x, al, ll, cl, dw, rfl, h4, hrd⟩ := (HPQ.out.later HY.out).at hltm
            have HC := hid (fun W' (Y : Ext wr W') => sameV W' (hvr.later Y) (hrd.later Y) (HMAY.out _ (List.getElem_mem hltm)))
            have HSK := hid (show ∀ W', Ext wr W' → W'.cell? ⟨gq, m, none⟩ = some (.iface τ p) ∧ W'.cell? ⟨gw, m * 4, none⟩ = some (.int .i64 k) ∧ W'.cell? ⟨gw, m * 4 + 1, none⟩ = some (.int .i64 n) ∧ W'.cell? ⟨gw, m * 4 + 2, none⟩ = some (.string x) ∧ W'.cell? ⟨gw, m * 4 + 3, none⟩ = some (.slice al ll cl) from fun W' Y => ⟨(Y.kp (fun _ => True)).cell hcq trivial, h4.keep (Y.kp (fun _ => True)) trivial⟩)
            obtain ⟨o0, o1, o2, o3⟩ := h4
            have hgq := lt_of_cell hcq
            have hgw := lt_of_cell o0
            clear hvr hrd
            go_upto_region 22 with fail
            go_cut [115] from 106 to 115 (fun s wx => s = .bool false ∧ Ext wr wx)
            case first =>
              go_region_held3 (fun W' => W'.cell? ⟨gq, m, none⟩ = some (.iface τ p) ∧ W'.cell? ⟨gw, m * 4, none⟩ = some (.int .i64 k) ∧ W'.cell? ⟨gw, m * 4 + 1, none⟩ = some (.int .i64 n) ∧ W'.cell? ⟨gw, m * 4 + 2, none⟩ = some (.string x) ∧ W'.cell? ⟨gw, m * 4 + 3, none⟩ = some (.slice al ll cl)) (first | exact SK | exact ⟨hcq, o0, o1, o2, o3⟩ | go_keep) (first | (go_at_call 11; refine (HC.out _ ((Ext.refl wr).drew)).mono ?_; rintro r v3 ⟨rfl, hv3⟩; have Y : Ext wr v3 := Ext.trans ((Ext.refl wr).drew) hv3; have SK := HSK.out v3 Y))
              all_goals
                go_wp2_with fail
                go_meet
                case rel => exact ⟨rfl, Y⟩
            case rest =>
              obtain ⟨rfl, hz⟩ := hcut
              have HZ := hid (HY.out.trans hz)
              clear hz hcq o0 o1 o2 o3
              go_wp2_with fail
              go_roundw
              case rel => exact ⟨m + 1, hltm, by go_num, HZ.out⟩
              case measure => simp [intOf]; omega
          · go_wp2_with fail
            go_ret
            exact ⟨rfl, HX.out.trans HY.out⟩
end Go.Proofs.YtaafcmmmkalgjaaGreatDoor.Nd
