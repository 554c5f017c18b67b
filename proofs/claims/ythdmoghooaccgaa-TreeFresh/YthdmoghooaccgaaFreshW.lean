/-
  The walk of espalierlaw4.TreeFresh: it returns true, whatever the calls.
-/
import Derived.Test.YthdmoghooaccgaaFreshLoop
import Derived.Maps.OwnIn
import Derived.Test.YthdmoghooaccgaaRegIn
import Derived.Test.YthdmoghooaccgaaNestHead
import Derived.Test.YthdmoghooaccgaaRefAllF
import Derived.Test.YthdmoghooaccgaaEachNone
import Derived.Test.YthdmoghooaccgaaRef
import Derived.Test.YthdmoghooaccgaaRefEq
import Derived.Test.YthdmoghooaccgaaMarks
import Derived.Test.YthdmoghooaccgaaLight
import Derived.Test.YthdmoghooaccgaaBegun
import Derived.Deep.Cut
import Derived.Deep.CutRange
import Derived.Deep.Light
import Derived.WalkMore
namespace Go.Proofs.Ythdmoghooaccgaa
open Go.RowKit Go.Shelf
attribute [local go_sem] Oper.semAt_some
/-- What the walk holds at the head of a round. -/
def FrW (w : World) (b j : Nat) (ds : List Nat) (M : Nat → Prop) (W : World) : Prop :=
  Ext w W ∧ W.heap[w.heap.size]? = some (.cells #[.bool false] 4) ∧ W.heap[b + 1]? = some (.cells #[.pointer (some ⟨b, 0, none⟩)] 60) ∧ FS b (b + 2) (b + 3) (50 * j) (4 * j) M W ∧ (∀ q, M q → q = b ∨ q = b + 2 ∨ b + 3 ≤ q) ∧ ds.Nodup ∧ (∀ D ∈ ds, W.heap[D]? = some (.deferred (some [])) ∧ ¬ M D ∧ b + 3 ≤ D) ∧ w.heap.size < b ∧ b + 3 ≤ W.heap.size
/-- The frame, too. -/
def FrI (w : World) (a : Option Addr) (n c b : Nat) (A : Act) (W : World) : Prop :=
  ∃ (j : Nat) (ds : List Nat) (M : Nat → Prop), A.defers = ds.map col ∧ A.tmps.size = 240 ∧ A.tmps[0]? = some (.slice a n c) ∧ A.tmps[2]? = some (.pointer (some ⟨w.heap.size, 0, none⟩)) ∧ A.tmps[3]? = some (.pointer (some ⟨b + 1, 0, none⟩)) ∧ A.tmps[4]? = some (.pointer (some ⟨b + 2, 0, none⟩)) ∧ A.tmps[5]? = some (.int .i64 j) ∧ j ≤ n ∧ j ≤ 20 ∧ FrW w b j ds M W
set_option maxRecDepth 100000 in
set_option maxHeartbeats 40000000 in
theorem fresh_true (a : Option Addr) (n c : Nat) (w : World) (hS : Ops w a n) : CallsIn Fence.wide 0 Try.prog 7 #[.slice a n c] w fun e w' => e = .returned (.bool true) ∧ Ext w w' := by
  have HS := hid hS
  clear hS
  obtain ⟨U, hU⟩ : ∃ U, w.alloc (.cells #[.bool false] 4) = U := ⟨_, rfl⟩
  have XU := hid (show Ext w U from hU ▸ Ext.alloc _ _)
  have HR0 := hid (show U.heap[w.heap.size]? = some (.cells #[.bool false] 4) from hU ▸ blk0 _ _)
  refine callsIn_of_wp_marks Try.func7 rfl trivial ?_ rfl
  show Code.wpIn _ _ _ _ _ _ _
  simp only [Try.ntmps7, List.size_toArray, List.length_cons, List.length_nil, Nat.reduceAdd, Nat.reduceSub, Array.replicate_succ, Array.replicate_zero, List.push_toArray, List.append_toArray, List.nil_append, List.cons_append]
  refine wpIn_wide.2 ?_
  go_wp2_with fail
  refine (callsIn_wide.1 (begun_true _)).mono ?_
  rintro e V ⟨rfl, hxV⟩
  have XV := hid hxV
  clear hxV hU
  go_wp2_with fail
  refine wp_loop_k (FrI w a n c V.heap.size) (fun A _ => 21 - (intOf (A.tmps.getD 5 (.bool false))).toNat) ?start ?round
  case start =>
    have hxw := XU.out.trans XV.out
    have hRl := lt_of_block (XV.out.block HR0.out)
    refine ⟨0, [], _, rfl, rfl, rfl, rfl, rfl, rfl, rfl, Nat.zero_le _, Nat.zero_le _, hxw.trans (Ext.alloc3 _ _ _ _), (Ext.alloc3 V _ _ _).block (XV.out.block HR0.out), blkOld _ (blk1 _ _ _), FS.start (blkOld _ (blkOld _ (blk0 _ _))) (blk2 _ _ _ _), fun q hq => hq.imp id .inl, List.nodup_nil, fun D hD => absurd hD (by simp), hRl, by simp⟩
  case round =>
  rintro ⟨tm, df⟩ W ⟨j, ds, M, hdf, hsz, h0, h2, h3, h4, h5, hjn, hj20, hW⟩ K hK
  simp only at hdf hsz h0 h2 h3 h4 h5
  obtain ⟨u, rfl⟩ := frame_at hsz h0 h2 h3 h4 h5
  subst hdf
  obtain ⟨b, hb⟩ : ∃ b, V.heap.size = b := ⟨_, rfl⟩
  rw [hb] at hW hK
  simp only [hb]
  have HK := hid hK
  obtain ⟨hX, hR, hP, hF, hMb, hdn, hds, hwb, hbW⟩ := hW
  have X := hid hX
  have HR := hid hR
  have HP := hid hP
  have HF := hid hF
  have HMb := hid hMb
  have HDN := hid hdn
  have HDS := hid hds
  clear hK hX hR hP hF hMb hdn hds h0 h2 h3 h4 h5 hsz hb XV XU HR0
  by_cases hlt : j < n ∧ j < 20
  case neg =>
    have p0 := cell_of (i := 0) HP.out rfl
    simp only [List.getElem_toArray, List.getElem_cons_zero] at p0
    by_cases hjn' : j < n
    · have hlt' : (j : Int) < n := by omega
      have h20 : decide ((j : Int) < 20) = false := decide_eq_false (by omega)
      go_wp2_with fail
      refine (HF.out.whole hbW (by omega) (by omega)).mono ?_
      rintro e W1 ⟨rfl, hk1, hap⟩
      have hnR : ¬ M w.heap.size := fun e => by rcases HMb.out _ e with h | h | h <;> omega
      have HK1 := hid hk1
      have HAP := hid hap
      clear hk1 hap p0
      go_wp2_with fail
      refine HAP.out.mono ?_
      rintro e W2 ⟨rfl, hk2⟩
      have hkR := HK1.out.trans hk2
      have hbr := hkR.block' HR.out hnR
      have HKR := hid hkR
      have HBR := hid hbr
      have c0 := cell_of (i := 0) hbr rfl
      have f0 := frozen_of (i := 0) hbr
      simp only [List.getElem_toArray, List.getElem_cons_zero] at c0
      clear hkR hbr hk2 HAP
      go_wp2_with fail
      have kF := Kp.set (K := (· ≠ w.heap.size)) W2 w.heap.size 0 (.bool true) (fun h => h rfl)
      have hbF := set_one (u := .bool true) HBR.out
      refine leaves_marks ds _ (fun D hD => kF.block' (HKR.out.block' (HDS.out D hD).1 (HDS.out D hD).2.1) (by have := (HDS.out D hD).2.2; omega)) HDN.out (fun w' hw' => ?_)
      have hbE := hw'.block' hbF (fun e => by have := (HDS.out _ e).2.2; omega)
      have z0 := cell_of (i := 0) hbE rfl
      simp only [List.getElem_toArray, List.getElem_cons_zero] at z0
      refine ⟨.bool true, by simp [results, Try.results7, go_sem, z0], rfl, Kp.ext (K := fun q => q < w.heap.size) ((((X.out.kp _).chain HKR.out (fun q hq _ e => by rcases HMb.out _ e with h | h | h <;> omega)).chain kF (fun q hq _ e => by have e' : q = w.heap.size := e; omega)).chain hw' (fun q hq _ e => by have := (HDS.out _ e).2.2; omega)) (fun q hq => hq)⟩
    · have hlt' : decide ((j : Int) < n) = false := decide_eq_false (by omega)
      go_wp2_with fail
      refine (HF.out.whole hbW (by omega) (by omega)).mono ?_
      rintro e W1 ⟨rfl, hk1, hap⟩
      have hnR : ¬ M w.heap.size := fun e => by rcases HMb.out _ e with h | h | h <;> omega
      have HK1 := hid hk1
      have HAP := hid hap
      clear hk1 hap p0
      go_wp2_with fail
      refine HAP.out.mono ?_
      rintro e W2 ⟨rfl, hk2⟩
      have hkR := HK1.out.trans hk2
      have hbr := hkR.block' HR.out hnR
      have HKR := hid hkR
      have HBR := hid hbr
      have c0 := cell_of (i := 0) hbr rfl
      have f0 := frozen_of (i := 0) hbr
      simp only [List.getElem_toArray, List.getElem_cons_zero] at c0
      clear hkR hbr hk2 HAP
      go_wp2_with fail
      have kF := Kp.set (K := (· ≠ w.heap.size)) W2 w.heap.size 0 (.bool true) (fun h => h rfl)
      have hbF := set_one (u := .bool true) HBR.out
      refine leaves_marks ds _ (fun D hD => kF.block' (HKR.out.block' (HDS.out D hD).1 (HDS.out D hD).2.1) (by have := (HDS.out D hD).2.2; omega)) HDN.out (fun w' hw' => ?_)
      have hbE := hw'.block' hbF (fun e => by have := (HDS.out _ e).2.2; omega)
      have z0 := cell_of (i := 0) hbE rfl
      simp only [List.getElem_toArray, List.getElem_cons_zero] at z0
      refine ⟨.bool true, by simp [results, Try.results7, go_sem, z0], rfl, Kp.ext (K := fun q => q < w.heap.size) ((((X.out.kp _).chain HKR.out (fun q hq _ e => by rcases HMb.out _ e with h | h | h <;> omega)).chain kF (fun q hq _ e => by have e' : q = w.heap.size := e; omega)).chain hw' (fun q hq _ e => by have := (HDS.out _ e).2.2; omega)) (fun q hq => hq)⟩
  case pos =>
  obtain ⟨hjn1, hj1⟩ := hlt
  have hlt' : (j : Int) < n := by omega
  have h20 : decide ((j : Int) < 20) = true := decide_eq_true (by omega)
  obtain ⟨g, off, rfl, kd, k, nn, x, aa, kl, cc, k', n', x', a', kl', c', pa, pc, st, m, m', t, v, p, ⟨d0, d1, d2, d3, d4, d5, d6, d7, d8, d9, d10⟩, hrt, hru, hI, hpl⟩ := HS.out j hjn1
  have HRT := hid hrt
  have HRU := hid hru
  have HI := hid hI
  have HE := hid (And.intro d1 (And.intro d2 (And.intro d3 d4)))
  have e0 := (X.out.kp (fun _ => True)).cell d0 trivial
  have e1 := (X.out.kp (fun _ => True)).cell d1 trivial
  have e2 := (X.out.kp (fun _ => True)).cell d2 trivial
  have e3 := (X.out.kp (fun _ => True)).cell d3 trivial
  have e4 := (X.out.kp (fun _ => True)).cell d4 trivial
  have e5 := (X.out.kp (fun _ => True)).cell d5 trivial
  have e6 := (X.out.kp (fun _ => True)).cell d6 trivial
  have e7 := (X.out.kp (fun _ => True)).cell d7 trivial
  have e8 := (X.out.kp (fun _ => True)).cell d8 trivial
  have e9 := (X.out.kp (fun _ => True)).cell d9 trivial
  have e10 := (X.out.kp (fun _ => True)).cell d10 trivial
  have hgl := lt_of_cell d0
  clear d0 d1 d2 d3 d4 d5 d6 d7 d8 d9 d10 hrt hru hI
  obtain ⟨A, hA⟩ : ∃ A, decide (0 ≤ lightN t 3000) = A := ⟨_, rfl⟩
  obtain ⟨B, hB⟩ : ∃ B, decide (0 ≤ lightN v 3000) = B := ⟨_, rfl⟩
  have CT := hid (fun W' (Y : Ext w W') => light_ok W' (HRT.out.later Y))
  have CU := hid (fun W' (Y : Ext w W') => light_ok W' (HRU.out.later Y))
  rw [hA] at CT
  rw [hB] at CU
  clear hA hB
  obtain ⟨b1, b2, b3, b4, b5, b6, b7, b8, b9⟩ := eleven_of (blk0 W (.cells (opW kd k nn x aa kl cc k' n' x' a' kl' c' (.slice pa p.length pc) st) 29))
  go_wp2_with fail
  refine (CT.out _ (X.out.trans (Ext.alloc _ _))).mono ?_
  rintro e W1 ⟨rfl, hx1⟩
  have HX1 := hid ((Ext.alloc W (.cells (opW kd k nn x aa kl cc k' n' x' a' kl' c' (.slice pa p.length pc) st) 29)).trans hx1)
  have HO1 := hid (hx1.block (blk0 W (.cells (opW kd k nn x aa kl cc k' n' x' a' kl' c' (.slice pa p.length pc) st) 29)))
  have ENDR := hid (show ∀ W', Ext W W' → FrW w b (j + 1) ds M W' from fun W' Y => ⟨X.out.trans Y, Y.block HR.out, Y.block HP.out, (HF.out.keep (Y.kp (fun _ => True)) (fun _ _ => trivial)).up (by omega) (by omega), HMb.out, HDN.out, fun D hD => ⟨Y.block (HDS.out D hD).1, (HDS.out D hD).2⟩, hwb, Nat.le_trans hbW Y.size⟩)
  clear b1 b2 b3 b4 b5 b6 b7 b8 b9 e0 e1 e2 e3 e4 e5 e6 e7 e8 e9 e10 hx1 CT
  obtain ⟨b1, b2, b3, b4, b5, b6, b7, b8, b9⟩ := eleven_of HO1.out
  cases A with
  | false =>
    go_wp2_with fail
    refine HK.out _ _ ⟨j + 1, ds, M, rfl, rfl, rfl, rfl, rfl, rfl, by show some (Value.int .i64 ((j : Int) + 1)) = _; push_cast; rfl, by omega, by omega, ENDR.out _ HX1.out⟩ (by show 21 - ((j : Int) + 1).toNat < 21 - (j : Int).toNat; omega)
  | true =>
  go_wp2_with fail
  refine (CU.out _ (X.out.trans HX1.out)).mono ?_
  rintro e V2 ⟨rfl, hx2⟩
  have XV := hid (HX1.out.trans hx2)
  have HO := hid (hx2.block HO1.out)
  clear b1 b2 b3 b4 b5 b6 b7 b8 b9 hx2 CU HX1 HO1
  cases B with
  | false =>
    go_wp2_with fail
    refine HK.out _ _ ⟨j + 1, ds, M, rfl, rfl, rfl, rfl, rfl, rfl, by show some (Value.int .i64 ((j : Int) + 1)) = _; push_cast; rfl, by omega, by omega, ENDR.out _ XV.out⟩ (by show 21 - ((j : Int) + 1).toNat < 21 - (j : Int).toNat; omega)
  | true =>
  clear ENDR
  have HSK := hid (show ∀ W', Ext V2 W' → W'.cell? ⟨W.heap.size, 1, none⟩ = some (.string k) ∧ W'.cell? ⟨W.heap.size, 2, none⟩ = some (.int .i64 nn) ∧ W'.cell? ⟨W.heap.size, 3, none⟩ = some (.string x) ∧ W'.cell? ⟨W.heap.size, 4, none⟩ = some (.slice aa kl cc) ∧ W'.cell? ⟨W.heap.size, 5, none⟩ = some (.string k') ∧ W'.cell? ⟨W.heap.size, 6, none⟩ = some (.int .i64 n') ∧ W'.cell? ⟨W.heap.size, 7, none⟩ = some (.string x') ∧ W'.cell? ⟨W.heap.size, 8, none⟩ = some (.slice a' kl' c') from fun W' Y => by
    obtain ⟨s1, s2, s3, s4, s5, s6, s7, s8, _⟩ := eleven_of (Y.block HO.out)
    exact ⟨s1, s2, s3, s4, s5, s6, s7, s8⟩)
  have CT1 := hid (fun W' (Y : Ext V2 W') => twin_any m _ t _ W' (HRT.out.later (X.out.trans (XV.out.trans Y))))
  have CT2 := hid (fun W' (Y : Ext V2 W') => twin_any m' _ v _ W' (HRU.out.later (X.out.trans (XV.out.trans Y))))
  obtain ⟨s1, s2, s3, s4, s5, s6, s7, s8⟩ := HSK.out V2 (Ext.refl _)
  go_wp2_with fail
  go_cut [7, 8] from 40 to 233 (fun q7 q8 wx => ∃ T7 T8 k1 n1 x1 a1 l1 c1 k2 n2 x2 a2 l2 c2, q7 = .pointer (some ⟨T7, 0, none⟩) ∧ q8 = .pointer (some ⟨T8, 0, none⟩) ∧ TwJ V2 m m' t v T7 T8 k1 n1 x1 a1 l1 c1 k2 n2 x2 a2 l2 c2 wx)
  case first =>
    refine wp_calm ?_
    refine wp_region_held_drew (S := fun W' => W'.cell? ⟨W.heap.size, 1, none⟩ = some (.string k) ∧ W'.cell? ⟨W.heap.size, 2, none⟩ = some (.int .i64 nn) ∧ W'.cell? ⟨W.heap.size, 3, none⟩ = some (.string x) ∧ W'.cell? ⟨W.heap.size, 4, none⟩ = some (.slice aa kl cc) ∧ W'.cell? ⟨W.heap.size, 5, none⟩ = some (.string k') ∧ W'.cell? ⟨W.heap.size, 6, none⟩ = some (.int .i64 n') ∧ W'.cell? ⟨W.heap.size, 7, none⟩ = some (.string x') ∧ W'.cell? ⟨W.heap.size, 8, none⟩ = some (.slice a' kl' c')) (by kernel_rfl) (HSK.out _ (Ext.refl V2).drew) (fun hHeld => ?_)
    have hE0 : Ext V2 V2.drew := (Ext.refl V2).drew
    generalize V2.drew = Y0 at hHeld hE0 ⊢
    have hs0 := hE0.size
    refine wpAnyH_take (i := 0) (v := ?vr10x1) rfl (by kernel_rfl) (by kernel_rfl) (by kernel_rfl) (fun _ _ _ h => h) (Or.inl ⟨by kernel_rfl, ?hr10x1⟩) (by assumption) ?rr10x1
    case hr10x1 => (intro w hSw; (try dsimp only at hSw); go_simp; try with_reducible rfl)
    try simp only [Act.put, List.getElem_toArray, List.getElem_cons_zero, List.setIfInBounds_toArray, List.set_cons_zero, List.set_cons_succ]
    refine wpAnyH_take (i := 1) (v := ?vr10x2) rfl (by kernel_rfl) (by kernel_rfl) (by kernel_rfl) (fun _ _ _ h => h) (Or.inl ⟨by kernel_rfl, ?hr10x2⟩) (by assumption) ?rr10x2
    case hr10x2 => (intro w hSw; (try dsimp only at hSw); go_simp; try with_reducible rfl)
    try simp only [Act.put, List.getElem_toArray, List.getElem_cons_zero, List.getElem_cons_succ, List.setIfInBounds_toArray, List.set_cons_zero, List.set_cons_succ]
    refine wpAnyH_take (i := 3) (v := ?vr10x3) rfl (by kernel_rfl) (by kernel_rfl) (by kernel_rfl) (fun _ _ _ h => h) (Or.inl ⟨by kernel_rfl, ?hr10x3⟩) (by assumption) ?rr10x3
    case hr10x3 => (intro w hSw; (try dsimp only at hSw); go_simp; try with_reducible rfl)
    try simp only [Act.put, List.getElem_toArray, List.getElem_cons_zero, List.getElem_cons_succ, List.setIfInBounds_toArray, List.set_cons_zero, List.set_cons_succ]
    refine wpAnyH_take (i := 4) (v := ?vr10x4) rfl (by kernel_rfl) (by kernel_rfl) (by kernel_rfl) (fun _ _ _ h => h) (Or.inl ⟨by kernel_rfl, ?hr10x4⟩) (by assumption) ?rr10x4
    case hr10x4 => (intro w hSw; (try dsimp only at hSw); go_simp; try with_reducible rfl)
    try simp only [Act.put, List.getElem_toArray, List.getElem_cons_zero, List.getElem_cons_succ, List.setIfInBounds_toArray, List.set_cons_zero, List.set_cons_succ]
    refine wpAnyH_ready (rs := [2, 6, 7]) (by kernel_rfl) (by simp) ?_
    refine AllReadyH.cons rfl (fun K hK => ?_) (AllReadyH.cons rfl (fun K hK => ?_) (AllReadyH.cons rfl (fun K hK => ?_) AllReadyH.nil))
    · skip
      go_simp
      refine (CT1.out _ hE0).mono ?_
      rintro e w1 ⟨v1, rfl, hm1, hx1⟩
      obtain ⟨y0, y1, y2, y3, rfl⟩ := hm1.rd.agg
      obtain ⟨k1, n1, x1, a1, c1, rfl, rfl, rfl, rfl⟩ := hm1.rd.shape
      generalize (T.kids t).length = l1 at hm1
      show K _ _
      have hEc1 := Ext.trans hE0 hx1
      have hsc1 := hx1.size
      refine hK.out _ _ (HSK.out _ hEc1) (fun hHeld => ?_)
      clear hK K
      try simp only [Act.put, List.getElem_toArray, List.getElem_cons_zero, List.getElem_cons_succ, List.setIfInBounds_toArray, List.set_cons_zero, List.set_cons_succ]
      refine wpAnyH_ready (rs := [5, 6, 7]) (by kernel_rfl) (by simp) ?_
      refine AllReadyH.cons rfl (fun K hK => ?_) (AllReadyH.cons rfl (fun K hK => ?_) (AllReadyH.cons rfl (fun K hK => ?_) AllReadyH.nil))
      · skip
        go_simp
        refine (CT2.out _ hEc1).mono ?_
        rintro e w2 ⟨v2, rfl, hm2, hx2⟩
        obtain ⟨y0, y1, y2, y3, rfl⟩ := hm2.rd.agg
        obtain ⟨k2, n2, x2, a2, c2, rfl, rfl, rfl, rfl⟩ := hm2.rd.shape
        generalize (T.kids v).length = l2 at hm2
        show K _ _
        have hEc2 := Ext.trans hEc1 hx2
        have hsc2 := hx2.size
        refine hK.out _ _ (HSK.out _ hEc2) (fun hHeld => ?_)
        clear hK K
        try simp only [Act.put, List.getElem_toArray, List.getElem_cons_zero, List.getElem_cons_succ, List.setIfInBounds_toArray, List.set_cons_zero, List.set_cons_succ]
        refine wpAnyH_ready (rs := [6, 7]) (by kernel_rfl) (by simp) ?_
        refine AllReadyH.cons rfl (fun K hK => ?_) (AllReadyH.cons rfl (fun K hK => ?_) AllReadyH.nil)
        · skip
          go_simp
          refine hK.out _ _ (HSK.out _ (hEc2.more _)) (fun hHeld => ?_)
          clear hK K
          try simp only [Act.put, List.getElem_toArray, List.getElem_cons_zero, List.getElem_cons_succ, List.setIfInBounds_toArray, List.set_cons_zero, List.set_cons_succ]
          have hEa1 : Ext V2 (w2.alloc (.cells #[.string ⟨#[]⟩, .int .i64 0, .string ⟨#[]⟩, .slice none 0 0] 26)) := hEc2.more _
          have hXa1 : Ext w2 (w2.alloc (.cells #[.string ⟨#[]⟩, .int .i64 0, .string ⟨#[]⟩, .slice none 0 0] 26)) := Ext.alloc _ _
          have hBa1 : (w2.alloc (.cells #[.string ⟨#[]⟩, .int .i64 0, .string ⟨#[]⟩, .slice none 0 0] 26)).heap[w2.heap.size]? = some (.cells #[.string ⟨#[]⟩, .int .i64 0, .string ⟨#[]⟩, .slice none 0 0] 26) := blk0 _ _
          have hSa1 : (w2.alloc (.cells #[.string ⟨#[]⟩, .int .i64 0, .string ⟨#[]⟩, .slice none 0 0] 26)).heap.size = w2.heap.size + 1 := blkS _ _
          generalize w2.alloc (.cells #[.string ⟨#[]⟩, .int .i64 0, .string ⟨#[]⟩, .slice none 0 0] 26) = Y1 at hHeld hEa1 hXa1 hBa1 hSa1 ⊢
          generalize hTe1 : w2.heap.size = T1 at hBa1 hSa1 ⊢
          have HSa1 := hid (And.intro hSa1 hTe1)
          clear hSa1 hTe1
          refine wpAnyH_ready (rs := [7]) (by kernel_rfl) (by simp) ?_
          refine AllReadyH.cons rfl (fun K hK => ?_) AllReadyH.nil
          go_simp
          refine hK.out _ _ (HSK.out _ (hEa1.more _)) (fun hHeld => ?_)
          clear hK K
          try simp only [Act.put, List.getElem_toArray, List.getElem_cons_zero, List.getElem_cons_succ, List.setIfInBounds_toArray, List.set_cons_zero, List.set_cons_succ]
          have hEa2 : Ext V2 (Y1.alloc (.cells #[.string ⟨#[]⟩, .int .i64 0, .string ⟨#[]⟩, .slice none 0 0] 26)) := hEa1.more _
          have hXa2 : Ext Y1 (Y1.alloc (.cells #[.string ⟨#[]⟩, .int .i64 0, .string ⟨#[]⟩, .slice none 0 0] 26)) := Ext.alloc _ _
          have hBa2 : (Y1.alloc (.cells #[.string ⟨#[]⟩, .int .i64 0, .string ⟨#[]⟩, .slice none 0 0] 26)).heap[Y1.heap.size]? = some (.cells #[.string ⟨#[]⟩, .int .i64 0, .string ⟨#[]⟩, .slice none 0 0] 26) := blk0 _ _
          have hSa2 : (Y1.alloc (.cells #[.string ⟨#[]⟩, .int .i64 0, .string ⟨#[]⟩, .slice none 0 0] 26)).heap.size = Y1.heap.size + 1 := blkS _ _
          generalize Y1.alloc (.cells #[.string ⟨#[]⟩, .int .i64 0, .string ⟨#[]⟩, .slice none 0 0] 26) = Y2 at hHeld hEa2 hXa2 hBa2 hSa2 ⊢
          generalize hTe2 : Y1.heap.size = T2 at hBa2 hSa2 ⊢
          have HSa2 := hid (And.intro hSa2 hTe2)
          clear hSa2 hTe2
          have hM1 : MRd (fun q => Y0.heap.size ≤ q ∧ q < w1.heap.size) Y2 m (.agg #[.string k1, .int .i64 n1, .string x1, .slice a1 l1 c1]) t := (hm1.mono (fun q hq h => ⟨h, hq⟩)).later ((((Ext.refl _).trans hx2).trans hXa1).trans hXa2)
          have hM2 : MRd (fun q => w1.heap.size ≤ q ∧ q < w2.heap.size) Y2 m' (.agg #[.string k2, .int .i64 n2, .string x2, .slice a2 l2 c2]) v := (hm2.mono (fun q hq h => ⟨h, hq⟩)).later (((Ext.refl _).trans hXa1).trans hXa2)
          have hT1 : Y2.heap[T1]? = some (.cells #[.string ⟨#[]⟩, .int .i64 0, .string ⟨#[]⟩, .slice none 0 0] 26) := ((Ext.refl _).trans hXa2).block hBa1
          have hT2 : Y2.heap[T2]? = some (.cells #[.string ⟨#[]⟩, .int .i64 0, .string ⟨#[]⟩, .slice none 0 0] 26) := (Ext.refl _).block hBa2
          obtain ⟨hSa1, hTe1⟩ := HSa1.out
          obtain ⟨hSa2, hTe2⟩ := HSa2.out
          have hne : T1 ≠ T2 := by omega
          have HFIN := hid (twin_fin hEa2 hT1 hT2 hM1 hM2 ⟨by omega, by omega, hne, by omega, by omega⟩ ⟨by omega, by omega, by omega, by omega⟩)
          have q1 := Kp.set4 Y2 T1 0 (.string k1) (.int .i64 n1) (.string x1) (.slice a1 l1 c1)
          have hE1 := Kp.extOf hEa2 q1 (by omega)
          have hT2' := q1.block' hT2 (fun e => hne e.symm)
          have hE2 := Kp.extOf hE1 (Kp.set4 _ T2 0 (.string k2) (.int .i64 n2) (.string x2) (.slice a2 l2 c2)) (by omega)
          have HE1 := hid (HSK.out _ hE1)
          have HE2 := hid (HSK.out _ hE2)
          obtain ⟨z10, z11, z12, z13⟩ := four_of hT1
          have f10 := frozen_of (i := 0) hT1
          have f11 := frozen_of (i := 1) hT1
          have f12 := frozen_of (i := 2) hT1
          have f13 := frozen_of (i := 3) hT1
          clear hm1 hx1 hM1 hEa1 hXa1 hBa1 hSa1 hTe1 hsc1 hm2 hx2 hM2 hEa2 hXa2 hBa2 hSa2 hTe2 hsc2 hT1 hT2 hne q1 hs0 hE1 hE2
          refine wpAnyH_ready (rs := [8]) (by kernel_rfl) (by simp) ?_
          refine AllReadyH.cons rfl (fun K hK => ?_) AllReadyH.nil
          go_simp
          refine hK.out _ _ HE1.out (fun hHeld => ?_)
          clear hK K z10 z11 z12 z13 f10 f11 f12 f13 HE1
          try simp only [Act.put, List.getElem_toArray, List.getElem_cons_zero, List.getElem_cons_succ, List.setIfInBounds_toArray, List.set_cons_zero, List.set_cons_succ]
          obtain ⟨z20, z21, z22, z23⟩ := four_of hT2'
          have f20 := frozen_of (i := 0) hT2'
          have f21 := frozen_of (i := 1) hT2'
          have f22 := frozen_of (i := 2) hT2'
          have f23 := frozen_of (i := 3) hT2'
          clear hT2'
          refine wpAnyH_ready (rs := [9]) (by kernel_rfl) (by simp) ?_
          refine AllReadyH.cons rfl (fun K hK => ?_) AllReadyH.nil
          go_simp
          refine hK.out _ _ HE2.out (fun hHeld => ?_)
          clear hK K z20 z21 z22 z23 f20 f21 f22 f23 HE2
          try simp only [Act.put, List.getElem_toArray, List.getElem_cons_zero, List.getElem_cons_succ, List.setIfInBounds_toArray, List.set_cons_zero, List.set_cons_succ]
          refine wpAnyH_done (by kernel_rfl) ?_ _
          go_wp2_with fail
          go_meet
          case rel => exact ⟨T1, T2, k1, n1, x1, a1, l1, c1, k2, n2, x2, a2, l2, c2, rfl, rfl, HFIN.out⟩
        · skip
          go_simp
          refine hK.out _ _ (HSK.out _ (hEc2.more _)) (fun hHeld => ?_)
          clear hK K
          try simp only [Act.put, List.getElem_toArray, List.getElem_cons_zero, List.getElem_cons_succ, List.setIfInBounds_toArray, List.set_cons_zero, List.set_cons_succ]
          have hEa2 : Ext V2 (w2.alloc (.cells #[.string ⟨#[]⟩, .int .i64 0, .string ⟨#[]⟩, .slice none 0 0] 26)) := hEc2.more _
          have hXa2 : Ext w2 (w2.alloc (.cells #[.string ⟨#[]⟩, .int .i64 0, .string ⟨#[]⟩, .slice none 0 0] 26)) := Ext.alloc _ _
          have hBa2 : (w2.alloc (.cells #[.string ⟨#[]⟩, .int .i64 0, .string ⟨#[]⟩, .slice none 0 0] 26)).heap[w2.heap.size]? = some (.cells #[.string ⟨#[]⟩, .int .i64 0, .string ⟨#[]⟩, .slice none 0 0] 26) := blk0 _ _
          have hSa2 : (w2.alloc (.cells #[.string ⟨#[]⟩, .int .i64 0, .string ⟨#[]⟩, .slice none 0 0] 26)).heap.size = w2.heap.size + 1 := blkS _ _
          generalize w2.alloc (.cells #[.string ⟨#[]⟩, .int .i64 0, .string ⟨#[]⟩, .slice none 0 0] 26) = Y2 at hHeld hEa2 hXa2 hBa2 hSa2 ⊢
          generalize hTe2 : w2.heap.size = T2 at hBa2 hSa2 ⊢
          have HSa2 := hid (And.intro hSa2 hTe2)
          clear hSa2 hTe2
          refine wpAnyH_ready (rs := [6]) (by kernel_rfl) (by simp) ?_
          refine AllReadyH.cons rfl (fun K hK => ?_) AllReadyH.nil
          go_simp
          refine hK.out _ _ (HSK.out _ (hEa2.more _)) (fun hHeld => ?_)
          clear hK K
          try simp only [Act.put, List.getElem_toArray, List.getElem_cons_zero, List.getElem_cons_succ, List.setIfInBounds_toArray, List.set_cons_zero, List.set_cons_succ]
          have hEa1 : Ext V2 (Y2.alloc (.cells #[.string ⟨#[]⟩, .int .i64 0, .string ⟨#[]⟩, .slice none 0 0] 26)) := hEa2.more _
          have hXa1 : Ext Y2 (Y2.alloc (.cells #[.string ⟨#[]⟩, .int .i64 0, .string ⟨#[]⟩, .slice none 0 0] 26)) := Ext.alloc _ _
          have hBa1 : (Y2.alloc (.cells #[.string ⟨#[]⟩, .int .i64 0, .string ⟨#[]⟩, .slice none 0 0] 26)).heap[Y2.heap.size]? = some (.cells #[.string ⟨#[]⟩, .int .i64 0, .string ⟨#[]⟩, .slice none 0 0] 26) := blk0 _ _
          have hSa1 : (Y2.alloc (.cells #[.string ⟨#[]⟩, .int .i64 0, .string ⟨#[]⟩, .slice none 0 0] 26)).heap.size = Y2.heap.size + 1 := blkS _ _
          generalize Y2.alloc (.cells #[.string ⟨#[]⟩, .int .i64 0, .string ⟨#[]⟩, .slice none 0 0] 26) = Y1 at hHeld hEa1 hXa1 hBa1 hSa1 ⊢
          generalize hTe1 : Y2.heap.size = T1 at hBa1 hSa1 ⊢
          have HSa1 := hid (And.intro hSa1 hTe1)
          clear hSa1 hTe1
          have hM1 : MRd (fun q => Y0.heap.size ≤ q ∧ q < w1.heap.size) Y1 m (.agg #[.string k1, .int .i64 n1, .string x1, .slice a1 l1 c1]) t := (hm1.mono (fun q hq h => ⟨h, hq⟩)).later ((((Ext.refl _).trans hx2).trans hXa2).trans hXa1)
          have hM2 : MRd (fun q => w1.heap.size ≤ q ∧ q < w2.heap.size) Y1 m' (.agg #[.string k2, .int .i64 n2, .string x2, .slice a2 l2 c2]) v := (hm2.mono (fun q hq h => ⟨h, hq⟩)).later (((Ext.refl _).trans hXa2).trans hXa1)
          have hT2 : Y1.heap[T2]? = some (.cells #[.string ⟨#[]⟩, .int .i64 0, .string ⟨#[]⟩, .slice none 0 0] 26) := ((Ext.refl _).trans hXa1).block hBa2
          have hT1 : Y1.heap[T1]? = some (.cells #[.string ⟨#[]⟩, .int .i64 0, .string ⟨#[]⟩, .slice none 0 0] 26) := (Ext.refl _).block hBa1
          obtain ⟨hSa1, hTe1⟩ := HSa1.out
          obtain ⟨hSa2, hTe2⟩ := HSa2.out
          have hne : T1 ≠ T2 := by omega
          have HFIN := hid (twin_fin hEa1 hT1 hT2 hM1 hM2 ⟨by omega, by omega, hne, by omega, by omega⟩ ⟨by omega, by omega, by omega, by omega⟩)
          have q1 := Kp.set4 Y1 T1 0 (.string k1) (.int .i64 n1) (.string x1) (.slice a1 l1 c1)
          have hE1 := Kp.extOf hEa1 q1 (by omega)
          have hT2' := q1.block' hT2 (fun e => hne e.symm)
          have hE2 := Kp.extOf hE1 (Kp.set4 _ T2 0 (.string k2) (.int .i64 n2) (.string x2) (.slice a2 l2 c2)) (by omega)
          have HE1 := hid (HSK.out _ hE1)
          have HE2 := hid (HSK.out _ hE2)
          obtain ⟨z10, z11, z12, z13⟩ := four_of hT1
          have f10 := frozen_of (i := 0) hT1
          have f11 := frozen_of (i := 1) hT1
          have f12 := frozen_of (i := 2) hT1
          have f13 := frozen_of (i := 3) hT1
          clear hm1 hx1 hM1 hEa1 hXa1 hBa1 hSa1 hTe1 hsc1 hm2 hx2 hM2 hEa2 hXa2 hBa2 hSa2 hTe2 hsc2 hT1 hT2 hne q1 hs0 hE1 hE2
          refine wpAnyH_ready (rs := [8]) (by kernel_rfl) (by simp) ?_
          refine AllReadyH.cons rfl (fun K hK => ?_) AllReadyH.nil
          go_simp
          refine hK.out _ _ HE1.out (fun hHeld => ?_)
          clear hK K z10 z11 z12 z13 f10 f11 f12 f13 HE1
          try simp only [Act.put, List.getElem_toArray, List.getElem_cons_zero, List.getElem_cons_succ, List.setIfInBounds_toArray, List.set_cons_zero, List.set_cons_succ]
          obtain ⟨z20, z21, z22, z23⟩ := four_of hT2'
          have f20 := frozen_of (i := 0) hT2'
          have f21 := frozen_of (i := 1) hT2'
          have f22 := frozen_of (i := 2) hT2'
          have f23 := frozen_of (i := 3) hT2'
          clear hT2'
          refine wpAnyH_ready (rs := [9]) (by kernel_rfl) (by simp) ?_
          refine AllReadyH.cons rfl (fun K hK => ?_) AllReadyH.nil
          go_simp
          refine hK.out _ _ HE2.out (fun hHeld => ?_)
          clear hK K z20 z21 z22 z23 f20 f21 f22 f23 HE2
          try simp only [Act.put, List.getElem_toArray, List.getElem_cons_zero, List.getElem_cons_succ, List.setIfInBounds_toArray, List.set_cons_zero, List.set_cons_succ]
          refine wpAnyH_done (by kernel_rfl) ?_ _
          go_wp2_with fail
          go_meet
          case rel => exact ⟨T1, T2, k1, n1, x1, a1, l1, c1, k2, n2, x2, a2, l2, c2, rfl, rfl, HFIN.out⟩
      · skip
        go_simp
        refine hK.out _ _ (HSK.out _ (hEc1.more _)) (fun hHeld => ?_)
        clear hK K
        try simp only [Act.put, List.getElem_toArray, List.getElem_cons_zero, List.getElem_cons_succ, List.setIfInBounds_toArray, List.set_cons_zero, List.set_cons_succ]
        have hEa1 : Ext V2 (w1.alloc (.cells #[.string ⟨#[]⟩, .int .i64 0, .string ⟨#[]⟩, .slice none 0 0] 26)) := hEc1.more _
        have hXa1 : Ext w1 (w1.alloc (.cells #[.string ⟨#[]⟩, .int .i64 0, .string ⟨#[]⟩, .slice none 0 0] 26)) := Ext.alloc _ _
        have hBa1 : (w1.alloc (.cells #[.string ⟨#[]⟩, .int .i64 0, .string ⟨#[]⟩, .slice none 0 0] 26)).heap[w1.heap.size]? = some (.cells #[.string ⟨#[]⟩, .int .i64 0, .string ⟨#[]⟩, .slice none 0 0] 26) := blk0 _ _
        have hSa1 : (w1.alloc (.cells #[.string ⟨#[]⟩, .int .i64 0, .string ⟨#[]⟩, .slice none 0 0] 26)).heap.size = w1.heap.size + 1 := blkS _ _
        generalize w1.alloc (.cells #[.string ⟨#[]⟩, .int .i64 0, .string ⟨#[]⟩, .slice none 0 0] 26) = Y1 at hHeld hEa1 hXa1 hBa1 hSa1 ⊢
        generalize hTe1 : w1.heap.size = T1 at hBa1 hSa1 ⊢
        have HSa1 := hid (And.intro hSa1 hTe1)
        clear hSa1 hTe1
        refine wpAnyH_ready (rs := [5, 7]) (by kernel_rfl) (by simp) ?_
        refine AllReadyH.cons rfl (fun K hK => ?_) (AllReadyH.cons rfl (fun K hK => ?_) AllReadyH.nil)
        · skip
          go_simp
          refine (CT2.out _ hEa1).mono ?_
          rintro e w2 ⟨v2, rfl, hm2, hx2⟩
          obtain ⟨y0, y1, y2, y3, rfl⟩ := hm2.rd.agg
          obtain ⟨k2, n2, x2, a2, c2, rfl, rfl, rfl, rfl⟩ := hm2.rd.shape
          generalize (T.kids v).length = l2 at hm2
          show K _ _
          have hEc2 := Ext.trans hEa1 hx2
          have hsc2 := hx2.size
          refine hK.out _ _ (HSK.out _ hEc2) (fun hHeld => ?_)
          clear hK K
          try simp only [Act.put, List.getElem_toArray, List.getElem_cons_zero, List.getElem_cons_succ, List.setIfInBounds_toArray, List.set_cons_zero, List.set_cons_succ]
          refine wpAnyH_ready (rs := [7]) (by kernel_rfl) (by simp) ?_
          refine AllReadyH.cons rfl (fun K hK => ?_) AllReadyH.nil
          go_simp
          refine hK.out _ _ (HSK.out _ (hEc2.more _)) (fun hHeld => ?_)
          clear hK K
          try simp only [Act.put, List.getElem_toArray, List.getElem_cons_zero, List.getElem_cons_succ, List.setIfInBounds_toArray, List.set_cons_zero, List.set_cons_succ]
          have hEa2 : Ext V2 (w2.alloc (.cells #[.string ⟨#[]⟩, .int .i64 0, .string ⟨#[]⟩, .slice none 0 0] 26)) := hEc2.more _
          have hXa2 : Ext w2 (w2.alloc (.cells #[.string ⟨#[]⟩, .int .i64 0, .string ⟨#[]⟩, .slice none 0 0] 26)) := Ext.alloc _ _
          have hBa2 : (w2.alloc (.cells #[.string ⟨#[]⟩, .int .i64 0, .string ⟨#[]⟩, .slice none 0 0] 26)).heap[w2.heap.size]? = some (.cells #[.string ⟨#[]⟩, .int .i64 0, .string ⟨#[]⟩, .slice none 0 0] 26) := blk0 _ _
          have hSa2 : (w2.alloc (.cells #[.string ⟨#[]⟩, .int .i64 0, .string ⟨#[]⟩, .slice none 0 0] 26)).heap.size = w2.heap.size + 1 := blkS _ _
          generalize w2.alloc (.cells #[.string ⟨#[]⟩, .int .i64 0, .string ⟨#[]⟩, .slice none 0 0] 26) = Y2 at hHeld hEa2 hXa2 hBa2 hSa2 ⊢
          generalize hTe2 : w2.heap.size = T2 at hBa2 hSa2 ⊢
          have HSa2 := hid (And.intro hSa2 hTe2)
          clear hSa2 hTe2
          have hM1 : MRd (fun q => Y0.heap.size ≤ q ∧ q < w1.heap.size) Y2 m (.agg #[.string k1, .int .i64 n1, .string x1, .slice a1 l1 c1]) t := (hm1.mono (fun q hq h => ⟨h, hq⟩)).later ((((Ext.refl _).trans hXa1).trans hx2).trans hXa2)
          have hT1 : Y2.heap[T1]? = some (.cells #[.string ⟨#[]⟩, .int .i64 0, .string ⟨#[]⟩, .slice none 0 0] 26) := (((Ext.refl _).trans hx2).trans hXa2).block hBa1
          have hM2 : MRd (fun q => Y1.heap.size ≤ q ∧ q < w2.heap.size) Y2 m' (.agg #[.string k2, .int .i64 n2, .string x2, .slice a2 l2 c2]) v := (hm2.mono (fun q hq h => ⟨h, hq⟩)).later ((Ext.refl _).trans hXa2)
          have hT2 : Y2.heap[T2]? = some (.cells #[.string ⟨#[]⟩, .int .i64 0, .string ⟨#[]⟩, .slice none 0 0] 26) := (Ext.refl _).block hBa2
          obtain ⟨hSa1, hTe1⟩ := HSa1.out
          obtain ⟨hSa2, hTe2⟩ := HSa2.out
          have hne : T1 ≠ T2 := by omega
          have HFIN := hid (twin_fin hEa2 hT1 hT2 hM1 hM2 ⟨by omega, by omega, hne, by omega, by omega⟩ ⟨by omega, by omega, by omega, by omega⟩)
          have q1 := Kp.set4 Y2 T1 0 (.string k1) (.int .i64 n1) (.string x1) (.slice a1 l1 c1)
          have hE1 := Kp.extOf hEa2 q1 (by omega)
          have hT2' := q1.block' hT2 (fun e => hne e.symm)
          have hE2 := Kp.extOf hE1 (Kp.set4 _ T2 0 (.string k2) (.int .i64 n2) (.string x2) (.slice a2 l2 c2)) (by omega)
          have HE1 := hid (HSK.out _ hE1)
          have HE2 := hid (HSK.out _ hE2)
          obtain ⟨z10, z11, z12, z13⟩ := four_of hT1
          have f10 := frozen_of (i := 0) hT1
          have f11 := frozen_of (i := 1) hT1
          have f12 := frozen_of (i := 2) hT1
          have f13 := frozen_of (i := 3) hT1
          clear hm1 hx1 hM1 hEa1 hXa1 hBa1 hSa1 hTe1 hsc1 hm2 hx2 hM2 hEa2 hXa2 hBa2 hSa2 hTe2 hsc2 hT1 hT2 hne q1 hs0 hE1 hE2
          refine wpAnyH_ready (rs := [8]) (by kernel_rfl) (by simp) ?_
          refine AllReadyH.cons rfl (fun K hK => ?_) AllReadyH.nil
          go_simp
          refine hK.out _ _ HE1.out (fun hHeld => ?_)
          clear hK K z10 z11 z12 z13 f10 f11 f12 f13 HE1
          try simp only [Act.put, List.getElem_toArray, List.getElem_cons_zero, List.getElem_cons_succ, List.setIfInBounds_toArray, List.set_cons_zero, List.set_cons_succ]
          obtain ⟨z20, z21, z22, z23⟩ := four_of hT2'
          have f20 := frozen_of (i := 0) hT2'
          have f21 := frozen_of (i := 1) hT2'
          have f22 := frozen_of (i := 2) hT2'
          have f23 := frozen_of (i := 3) hT2'
          clear hT2'
          refine wpAnyH_ready (rs := [9]) (by kernel_rfl) (by simp) ?_
          refine AllReadyH.cons rfl (fun K hK => ?_) AllReadyH.nil
          go_simp
          refine hK.out _ _ HE2.out (fun hHeld => ?_)
          clear hK K z20 z21 z22 z23 f20 f21 f22 f23 HE2
          try simp only [Act.put, List.getElem_toArray, List.getElem_cons_zero, List.getElem_cons_succ, List.setIfInBounds_toArray, List.set_cons_zero, List.set_cons_succ]
          refine wpAnyH_done (by kernel_rfl) ?_ _
          go_wp2_with fail
          go_meet
          case rel => exact ⟨T1, T2, k1, n1, x1, a1, l1, c1, k2, n2, x2, a2, l2, c2, rfl, rfl, HFIN.out⟩
        · skip
          go_simp
          refine hK.out _ _ (HSK.out _ (hEa1.more _)) (fun hHeld => ?_)
          clear hK K
          try simp only [Act.put, List.getElem_toArray, List.getElem_cons_zero, List.getElem_cons_succ, List.setIfInBounds_toArray, List.set_cons_zero, List.set_cons_succ]
          have hEa2 : Ext V2 (Y1.alloc (.cells #[.string ⟨#[]⟩, .int .i64 0, .string ⟨#[]⟩, .slice none 0 0] 26)) := hEa1.more _
          have hXa2 : Ext Y1 (Y1.alloc (.cells #[.string ⟨#[]⟩, .int .i64 0, .string ⟨#[]⟩, .slice none 0 0] 26)) := Ext.alloc _ _
          have hBa2 : (Y1.alloc (.cells #[.string ⟨#[]⟩, .int .i64 0, .string ⟨#[]⟩, .slice none 0 0] 26)).heap[Y1.heap.size]? = some (.cells #[.string ⟨#[]⟩, .int .i64 0, .string ⟨#[]⟩, .slice none 0 0] 26) := blk0 _ _
          have hSa2 : (Y1.alloc (.cells #[.string ⟨#[]⟩, .int .i64 0, .string ⟨#[]⟩, .slice none 0 0] 26)).heap.size = Y1.heap.size + 1 := blkS _ _
          generalize Y1.alloc (.cells #[.string ⟨#[]⟩, .int .i64 0, .string ⟨#[]⟩, .slice none 0 0] 26) = Y2 at hHeld hEa2 hXa2 hBa2 hSa2 ⊢
          generalize hTe2 : Y1.heap.size = T2 at hBa2 hSa2 ⊢
          have HSa2 := hid (And.intro hSa2 hTe2)
          clear hSa2 hTe2
          refine wpAnyH_ready (rs := [5]) (by kernel_rfl) (by simp) ?_
          refine AllReadyH.cons rfl (fun K hK => ?_) AllReadyH.nil
          go_simp
          refine (CT2.out _ hEa2).mono ?_
          rintro e w2 ⟨v2, rfl, hm2, hx2⟩
          obtain ⟨y0, y1, y2, y3, rfl⟩ := hm2.rd.agg
          obtain ⟨k2, n2, x2, a2, c2, rfl, rfl, rfl, rfl⟩ := hm2.rd.shape
          generalize (T.kids v).length = l2 at hm2
          show K _ _
          have hEc2 := Ext.trans hEa2 hx2
          have hsc2 := hx2.size
          refine hK.out _ _ (HSK.out _ hEc2) (fun hHeld => ?_)
          clear hK K
          try simp only [Act.put, List.getElem_toArray, List.getElem_cons_zero, List.getElem_cons_succ, List.setIfInBounds_toArray, List.set_cons_zero, List.set_cons_succ]
          have hM1 : MRd (fun q => Y0.heap.size ≤ q ∧ q < w1.heap.size) w2 m (.agg #[.string k1, .int .i64 n1, .string x1, .slice a1 l1 c1]) t := (hm1.mono (fun q hq h => ⟨h, hq⟩)).later ((((Ext.refl _).trans hXa1).trans hXa2).trans hx2)
          have hT1 : w2.heap[T1]? = some (.cells #[.string ⟨#[]⟩, .int .i64 0, .string ⟨#[]⟩, .slice none 0 0] 26) := (((Ext.refl _).trans hXa2).trans hx2).block hBa1
          have hT2 : w2.heap[T2]? = some (.cells #[.string ⟨#[]⟩, .int .i64 0, .string ⟨#[]⟩, .slice none 0 0] 26) := ((Ext.refl _).trans hx2).block hBa2
          have hM2 : MRd (fun q => Y2.heap.size ≤ q ∧ q < w2.heap.size) w2 m' (.agg #[.string k2, .int .i64 n2, .string x2, .slice a2 l2 c2]) v := (hm2.mono (fun q hq h => ⟨h, hq⟩)).later (Ext.refl _)
          obtain ⟨hSa1, hTe1⟩ := HSa1.out
          obtain ⟨hSa2, hTe2⟩ := HSa2.out
          have hne : T1 ≠ T2 := by omega
          have HFIN := hid (twin_fin hEc2 hT1 hT2 hM1 hM2 ⟨by omega, by omega, hne, by omega, by omega⟩ ⟨by omega, by omega, by omega, by omega⟩)
          have q1 := Kp.set4 w2 T1 0 (.string k1) (.int .i64 n1) (.string x1) (.slice a1 l1 c1)
          have hE1 := Kp.extOf hEc2 q1 (by omega)
          have hT2' := q1.block' hT2 (fun e => hne e.symm)
          have hE2 := Kp.extOf hE1 (Kp.set4 _ T2 0 (.string k2) (.int .i64 n2) (.string x2) (.slice a2 l2 c2)) (by omega)
          have HE1 := hid (HSK.out _ hE1)
          have HE2 := hid (HSK.out _ hE2)
          obtain ⟨z10, z11, z12, z13⟩ := four_of hT1
          have f10 := frozen_of (i := 0) hT1
          have f11 := frozen_of (i := 1) hT1
          have f12 := frozen_of (i := 2) hT1
          have f13 := frozen_of (i := 3) hT1
          clear hm1 hx1 hM1 hEa1 hXa1 hBa1 hSa1 hTe1 hsc1 hm2 hx2 hM2 hEa2 hXa2 hBa2 hSa2 hTe2 hsc2 hT1 hT2 hne q1 hs0 hE1 hE2
          refine wpAnyH_ready (rs := [8]) (by kernel_rfl) (by simp) ?_
          refine AllReadyH.cons rfl (fun K hK => ?_) AllReadyH.nil
          go_simp
          refine hK.out _ _ HE1.out (fun hHeld => ?_)
          clear hK K z10 z11 z12 z13 f10 f11 f12 f13 HE1
          try simp only [Act.put, List.getElem_toArray, List.getElem_cons_zero, List.getElem_cons_succ, List.setIfInBounds_toArray, List.set_cons_zero, List.set_cons_succ]
          obtain ⟨z20, z21, z22, z23⟩ := four_of hT2'
          have f20 := frozen_of (i := 0) hT2'
          have f21 := frozen_of (i := 1) hT2'
          have f22 := frozen_of (i := 2) hT2'
          have f23 := frozen_of (i := 3) hT2'
          clear hT2'
          refine wpAnyH_ready (rs := [9]) (by kernel_rfl) (by simp) ?_
          refine AllReadyH.cons rfl (fun K hK => ?_) AllReadyH.nil
          go_simp
          refine hK.out _ _ HE2.out (fun hHeld => ?_)
          clear hK K z20 z21 z22 z23 f20 f21 f22 f23 HE2
          try simp only [Act.put, List.getElem_toArray, List.getElem_cons_zero, List.getElem_cons_succ, List.setIfInBounds_toArray, List.set_cons_zero, List.set_cons_succ]
          refine wpAnyH_done (by kernel_rfl) ?_ _
          go_wp2_with fail
          go_meet
          case rel => exact ⟨T1, T2, k1, n1, x1, a1, l1, c1, k2, n2, x2, a2, l2, c2, rfl, rfl, HFIN.out⟩
      · skip
        go_simp
        refine hK.out _ _ (HSK.out _ (hEc1.more _)) (fun hHeld => ?_)
        clear hK K
        try simp only [Act.put, List.getElem_toArray, List.getElem_cons_zero, List.getElem_cons_succ, List.setIfInBounds_toArray, List.set_cons_zero, List.set_cons_succ]
        have hEa2 : Ext V2 (w1.alloc (.cells #[.string ⟨#[]⟩, .int .i64 0, .string ⟨#[]⟩, .slice none 0 0] 26)) := hEc1.more _
        have hXa2 : Ext w1 (w1.alloc (.cells #[.string ⟨#[]⟩, .int .i64 0, .string ⟨#[]⟩, .slice none 0 0] 26)) := Ext.alloc _ _
        have hBa2 : (w1.alloc (.cells #[.string ⟨#[]⟩, .int .i64 0, .string ⟨#[]⟩, .slice none 0 0] 26)).heap[w1.heap.size]? = some (.cells #[.string ⟨#[]⟩, .int .i64 0, .string ⟨#[]⟩, .slice none 0 0] 26) := blk0 _ _
        have hSa2 : (w1.alloc (.cells #[.string ⟨#[]⟩, .int .i64 0, .string ⟨#[]⟩, .slice none 0 0] 26)).heap.size = w1.heap.size + 1 := blkS _ _
        generalize w1.alloc (.cells #[.string ⟨#[]⟩, .int .i64 0, .string ⟨#[]⟩, .slice none 0 0] 26) = Y2 at hHeld hEa2 hXa2 hBa2 hSa2 ⊢
        generalize hTe2 : w1.heap.size = T2 at hBa2 hSa2 ⊢
        have HSa2 := hid (And.intro hSa2 hTe2)
        clear hSa2 hTe2
        refine wpAnyH_ready (rs := [5, 6]) (by kernel_rfl) (by simp) ?_
        refine AllReadyH.cons rfl (fun K hK => ?_) (AllReadyH.cons rfl (fun K hK => ?_) AllReadyH.nil)
        · skip
          go_simp
          refine (CT2.out _ hEa2).mono ?_
          rintro e w2 ⟨v2, rfl, hm2, hx2⟩
          obtain ⟨y0, y1, y2, y3, rfl⟩ := hm2.rd.agg
          obtain ⟨k2, n2, x2, a2, c2, rfl, rfl, rfl, rfl⟩ := hm2.rd.shape
          generalize (T.kids v).length = l2 at hm2
          show K _ _
          have hEc2 := Ext.trans hEa2 hx2
          have hsc2 := hx2.size
          refine hK.out _ _ (HSK.out _ hEc2) (fun hHeld => ?_)
          clear hK K
          try simp only [Act.put, List.getElem_toArray, List.getElem_cons_zero, List.getElem_cons_succ, List.setIfInBounds_toArray, List.set_cons_zero, List.set_cons_succ]
          refine wpAnyH_ready (rs := [6]) (by kernel_rfl) (by simp) ?_
          refine AllReadyH.cons rfl (fun K hK => ?_) AllReadyH.nil
          go_simp
          refine hK.out _ _ (HSK.out _ (hEc2.more _)) (fun hHeld => ?_)
          clear hK K
          try simp only [Act.put, List.getElem_toArray, List.getElem_cons_zero, List.getElem_cons_succ, List.setIfInBounds_toArray, List.set_cons_zero, List.set_cons_succ]
          have hEa1 : Ext V2 (w2.alloc (.cells #[.string ⟨#[]⟩, .int .i64 0, .string ⟨#[]⟩, .slice none 0 0] 26)) := hEc2.more _
          have hXa1 : Ext w2 (w2.alloc (.cells #[.string ⟨#[]⟩, .int .i64 0, .string ⟨#[]⟩, .slice none 0 0] 26)) := Ext.alloc _ _
          have hBa1 : (w2.alloc (.cells #[.string ⟨#[]⟩, .int .i64 0, .string ⟨#[]⟩, .slice none 0 0] 26)).heap[w2.heap.size]? = some (.cells #[.string ⟨#[]⟩, .int .i64 0, .string ⟨#[]⟩, .slice none 0 0] 26) := blk0 _ _
          have hSa1 : (w2.alloc (.cells #[.string ⟨#[]⟩, .int .i64 0, .string ⟨#[]⟩, .slice none 0 0] 26)).heap.size = w2.heap.size + 1 := blkS _ _
          generalize w2.alloc (.cells #[.string ⟨#[]⟩, .int .i64 0, .string ⟨#[]⟩, .slice none 0 0] 26) = Y1 at hHeld hEa1 hXa1 hBa1 hSa1 ⊢
          generalize hTe1 : w2.heap.size = T1 at hBa1 hSa1 ⊢
          have HSa1 := hid (And.intro hSa1 hTe1)
          clear hSa1 hTe1
          have hM1 : MRd (fun q => Y0.heap.size ≤ q ∧ q < w1.heap.size) Y1 m (.agg #[.string k1, .int .i64 n1, .string x1, .slice a1 l1 c1]) t := (hm1.mono (fun q hq h => ⟨h, hq⟩)).later ((((Ext.refl _).trans hXa2).trans hx2).trans hXa1)
          have hT2 : Y1.heap[T2]? = some (.cells #[.string ⟨#[]⟩, .int .i64 0, .string ⟨#[]⟩, .slice none 0 0] 26) := (((Ext.refl _).trans hx2).trans hXa1).block hBa2
          have hM2 : MRd (fun q => Y2.heap.size ≤ q ∧ q < w2.heap.size) Y1 m' (.agg #[.string k2, .int .i64 n2, .string x2, .slice a2 l2 c2]) v := (hm2.mono (fun q hq h => ⟨h, hq⟩)).later ((Ext.refl _).trans hXa1)
          have hT1 : Y1.heap[T1]? = some (.cells #[.string ⟨#[]⟩, .int .i64 0, .string ⟨#[]⟩, .slice none 0 0] 26) := (Ext.refl _).block hBa1
          obtain ⟨hSa1, hTe1⟩ := HSa1.out
          obtain ⟨hSa2, hTe2⟩ := HSa2.out
          have hne : T1 ≠ T2 := by omega
          have HFIN := hid (twin_fin hEa1 hT1 hT2 hM1 hM2 ⟨by omega, by omega, hne, by omega, by omega⟩ ⟨by omega, by omega, by omega, by omega⟩)
          have q1 := Kp.set4 Y1 T1 0 (.string k1) (.int .i64 n1) (.string x1) (.slice a1 l1 c1)
          have hE1 := Kp.extOf hEa1 q1 (by omega)
          have hT2' := q1.block' hT2 (fun e => hne e.symm)
          have hE2 := Kp.extOf hE1 (Kp.set4 _ T2 0 (.string k2) (.int .i64 n2) (.string x2) (.slice a2 l2 c2)) (by omega)
          have HE1 := hid (HSK.out _ hE1)
          have HE2 := hid (HSK.out _ hE2)
          obtain ⟨z10, z11, z12, z13⟩ := four_of hT1
          have f10 := frozen_of (i := 0) hT1
          have f11 := frozen_of (i := 1) hT1
          have f12 := frozen_of (i := 2) hT1
          have f13 := frozen_of (i := 3) hT1
          clear hm1 hx1 hM1 hEa1 hXa1 hBa1 hSa1 hTe1 hsc1 hm2 hx2 hM2 hEa2 hXa2 hBa2 hSa2 hTe2 hsc2 hT1 hT2 hne q1 hs0 hE1 hE2
          refine wpAnyH_ready (rs := [8]) (by kernel_rfl) (by simp) ?_
          refine AllReadyH.cons rfl (fun K hK => ?_) AllReadyH.nil
          go_simp
          refine hK.out _ _ HE1.out (fun hHeld => ?_)
          clear hK K z10 z11 z12 z13 f10 f11 f12 f13 HE1
          try simp only [Act.put, List.getElem_toArray, List.getElem_cons_zero, List.getElem_cons_succ, List.setIfInBounds_toArray, List.set_cons_zero, List.set_cons_succ]
          obtain ⟨z20, z21, z22, z23⟩ := four_of hT2'
          have f20 := frozen_of (i := 0) hT2'
          have f21 := frozen_of (i := 1) hT2'
          have f22 := frozen_of (i := 2) hT2'
          have f23 := frozen_of (i := 3) hT2'
          clear hT2'
          refine wpAnyH_ready (rs := [9]) (by kernel_rfl) (by simp) ?_
          refine AllReadyH.cons rfl (fun K hK => ?_) AllReadyH.nil
          go_simp
          refine hK.out _ _ HE2.out (fun hHeld => ?_)
          clear hK K z20 z21 z22 z23 f20 f21 f22 f23 HE2
          try simp only [Act.put, List.getElem_toArray, List.getElem_cons_zero, List.getElem_cons_succ, List.setIfInBounds_toArray, List.set_cons_zero, List.set_cons_succ]
          refine wpAnyH_done (by kernel_rfl) ?_ _
          go_wp2_with fail
          go_meet
          case rel => exact ⟨T1, T2, k1, n1, x1, a1, l1, c1, k2, n2, x2, a2, l2, c2, rfl, rfl, HFIN.out⟩
        · skip
          go_simp
          refine hK.out _ _ (HSK.out _ (hEa2.more _)) (fun hHeld => ?_)
          clear hK K
          try simp only [Act.put, List.getElem_toArray, List.getElem_cons_zero, List.getElem_cons_succ, List.setIfInBounds_toArray, List.set_cons_zero, List.set_cons_succ]
          have hEa1 : Ext V2 (Y2.alloc (.cells #[.string ⟨#[]⟩, .int .i64 0, .string ⟨#[]⟩, .slice none 0 0] 26)) := hEa2.more _
          have hXa1 : Ext Y2 (Y2.alloc (.cells #[.string ⟨#[]⟩, .int .i64 0, .string ⟨#[]⟩, .slice none 0 0] 26)) := Ext.alloc _ _
          have hBa1 : (Y2.alloc (.cells #[.string ⟨#[]⟩, .int .i64 0, .string ⟨#[]⟩, .slice none 0 0] 26)).heap[Y2.heap.size]? = some (.cells #[.string ⟨#[]⟩, .int .i64 0, .string ⟨#[]⟩, .slice none 0 0] 26) := blk0 _ _
          have hSa1 : (Y2.alloc (.cells #[.string ⟨#[]⟩, .int .i64 0, .string ⟨#[]⟩, .slice none 0 0] 26)).heap.size = Y2.heap.size + 1 := blkS _ _
          generalize Y2.alloc (.cells #[.string ⟨#[]⟩, .int .i64 0, .string ⟨#[]⟩, .slice none 0 0] 26) = Y1 at hHeld hEa1 hXa1 hBa1 hSa1 ⊢
          generalize hTe1 : Y2.heap.size = T1 at hBa1 hSa1 ⊢
          have HSa1 := hid (And.intro hSa1 hTe1)
          clear hSa1 hTe1
          refine wpAnyH_ready (rs := [5]) (by kernel_rfl) (by simp) ?_
          refine AllReadyH.cons rfl (fun K hK => ?_) AllReadyH.nil
          go_simp
          refine (CT2.out _ hEa1).mono ?_
          rintro e w2 ⟨v2, rfl, hm2, hx2⟩
          obtain ⟨y0, y1, y2, y3, rfl⟩ := hm2.rd.agg
          obtain ⟨k2, n2, x2, a2, c2, rfl, rfl, rfl, rfl⟩ := hm2.rd.shape
          generalize (T.kids v).length = l2 at hm2
          show K _ _
          have hEc2 := Ext.trans hEa1 hx2
          have hsc2 := hx2.size
          refine hK.out _ _ (HSK.out _ hEc2) (fun hHeld => ?_)
          clear hK K
          try simp only [Act.put, List.getElem_toArray, List.getElem_cons_zero, List.getElem_cons_succ, List.setIfInBounds_toArray, List.set_cons_zero, List.set_cons_succ]
          have hM1 : MRd (fun q => Y0.heap.size ≤ q ∧ q < w1.heap.size) w2 m (.agg #[.string k1, .int .i64 n1, .string x1, .slice a1 l1 c1]) t := (hm1.mono (fun q hq h => ⟨h, hq⟩)).later ((((Ext.refl _).trans hXa2).trans hXa1).trans hx2)
          have hT2 : w2.heap[T2]? = some (.cells #[.string ⟨#[]⟩, .int .i64 0, .string ⟨#[]⟩, .slice none 0 0] 26) := (((Ext.refl _).trans hXa1).trans hx2).block hBa2
          have hT1 : w2.heap[T1]? = some (.cells #[.string ⟨#[]⟩, .int .i64 0, .string ⟨#[]⟩, .slice none 0 0] 26) := ((Ext.refl _).trans hx2).block hBa1
          have hM2 : MRd (fun q => Y1.heap.size ≤ q ∧ q < w2.heap.size) w2 m' (.agg #[.string k2, .int .i64 n2, .string x2, .slice a2 l2 c2]) v := (hm2.mono (fun q hq h => ⟨h, hq⟩)).later (Ext.refl _)
          obtain ⟨hSa1, hTe1⟩ := HSa1.out
          obtain ⟨hSa2, hTe2⟩ := HSa2.out
          have hne : T1 ≠ T2 := by omega
          have HFIN := hid (twin_fin hEc2 hT1 hT2 hM1 hM2 ⟨by omega, by omega, hne, by omega, by omega⟩ ⟨by omega, by omega, by omega, by omega⟩)
          have q1 := Kp.set4 w2 T1 0 (.string k1) (.int .i64 n1) (.string x1) (.slice a1 l1 c1)
          have hE1 := Kp.extOf hEc2 q1 (by omega)
          have hT2' := q1.block' hT2 (fun e => hne e.symm)
          have hE2 := Kp.extOf hE1 (Kp.set4 _ T2 0 (.string k2) (.int .i64 n2) (.string x2) (.slice a2 l2 c2)) (by omega)
          have HE1 := hid (HSK.out _ hE1)
          have HE2 := hid (HSK.out _ hE2)
          obtain ⟨z10, z11, z12, z13⟩ := four_of hT1
          have f10 := frozen_of (i := 0) hT1
          have f11 := frozen_of (i := 1) hT1
          have f12 := frozen_of (i := 2) hT1
          have f13 := frozen_of (i := 3) hT1
          clear hm1 hx1 hM1 hEa1 hXa1 hBa1 hSa1 hTe1 hsc1 hm2 hx2 hM2 hEa2 hXa2 hBa2 hSa2 hTe2 hsc2 hT1 hT2 hne q1 hs0 hE1 hE2
          refine wpAnyH_ready (rs := [8]) (by kernel_rfl) (by simp) ?_
          refine AllReadyH.cons rfl (fun K hK => ?_) AllReadyH.nil
          go_simp
          refine hK.out _ _ HE1.out (fun hHeld => ?_)
          clear hK K z10 z11 z12 z13 f10 f11 f12 f13 HE1
          try simp only [Act.put, List.getElem_toArray, List.getElem_cons_zero, List.getElem_cons_succ, List.setIfInBounds_toArray, List.set_cons_zero, List.set_cons_succ]
          obtain ⟨z20, z21, z22, z23⟩ := four_of hT2'
          have f20 := frozen_of (i := 0) hT2'
          have f21 := frozen_of (i := 1) hT2'
          have f22 := frozen_of (i := 2) hT2'
          have f23 := frozen_of (i := 3) hT2'
          clear hT2'
          refine wpAnyH_ready (rs := [9]) (by kernel_rfl) (by simp) ?_
          refine AllReadyH.cons rfl (fun K hK => ?_) AllReadyH.nil
          go_simp
          refine hK.out _ _ HE2.out (fun hHeld => ?_)
          clear hK K z20 z21 z22 z23 f20 f21 f22 f23 HE2
          try simp only [Act.put, List.getElem_toArray, List.getElem_cons_zero, List.getElem_cons_succ, List.setIfInBounds_toArray, List.set_cons_zero, List.set_cons_succ]
          refine wpAnyH_done (by kernel_rfl) ?_ _
          go_wp2_with fail
          go_meet
          case rel => exact ⟨T1, T2, k1, n1, x1, a1, l1, c1, k2, n2, x2, a2, l2, c2, rfl, rfl, HFIN.out⟩
    · skip
      go_simp
      refine hK.out _ _ (HSK.out _ (hE0.more _)) (fun hHeld => ?_)
      clear hK K
      try simp only [Act.put, List.getElem_toArray, List.getElem_cons_zero, List.getElem_cons_succ, List.setIfInBounds_toArray, List.set_cons_zero, List.set_cons_succ]
      have hEa1 : Ext V2 (Y0.alloc (.cells #[.string ⟨#[]⟩, .int .i64 0, .string ⟨#[]⟩, .slice none 0 0] 26)) := hE0.more _
      have hXa1 : Ext Y0 (Y0.alloc (.cells #[.string ⟨#[]⟩, .int .i64 0, .string ⟨#[]⟩, .slice none 0 0] 26)) := Ext.alloc _ _
      have hBa1 : (Y0.alloc (.cells #[.string ⟨#[]⟩, .int .i64 0, .string ⟨#[]⟩, .slice none 0 0] 26)).heap[Y0.heap.size]? = some (.cells #[.string ⟨#[]⟩, .int .i64 0, .string ⟨#[]⟩, .slice none 0 0] 26) := blk0 _ _
      have hSa1 : (Y0.alloc (.cells #[.string ⟨#[]⟩, .int .i64 0, .string ⟨#[]⟩, .slice none 0 0] 26)).heap.size = Y0.heap.size + 1 := blkS _ _
      generalize Y0.alloc (.cells #[.string ⟨#[]⟩, .int .i64 0, .string ⟨#[]⟩, .slice none 0 0] 26) = Y1 at hHeld hEa1 hXa1 hBa1 hSa1 ⊢
      generalize hTe1 : Y0.heap.size = T1 at hBa1 hSa1 ⊢
      have HSa1 := hid (And.intro hSa1 hTe1)
      clear hSa1 hTe1
      refine wpAnyH_ready (rs := [2, 7]) (by kernel_rfl) (by simp) ?_
      refine AllReadyH.cons rfl (fun K hK => ?_) (AllReadyH.cons rfl (fun K hK => ?_) AllReadyH.nil)
      · skip
        go_simp
        refine (CT1.out _ hEa1).mono ?_
        rintro e w1 ⟨v1, rfl, hm1, hx1⟩
        obtain ⟨y0, y1, y2, y3, rfl⟩ := hm1.rd.agg
        obtain ⟨k1, n1, x1, a1, c1, rfl, rfl, rfl, rfl⟩ := hm1.rd.shape
        generalize (T.kids t).length = l1 at hm1
        show K _ _
        have hEc1 := Ext.trans hEa1 hx1
        have hsc1 := hx1.size
        refine hK.out _ _ (HSK.out _ hEc1) (fun hHeld => ?_)
        clear hK K
        try simp only [Act.put, List.getElem_toArray, List.getElem_cons_zero, List.getElem_cons_succ, List.setIfInBounds_toArray, List.set_cons_zero, List.set_cons_succ]
        refine wpAnyH_ready (rs := [5, 7]) (by kernel_rfl) (by simp) ?_
        refine AllReadyH.cons rfl (fun K hK => ?_) (AllReadyH.cons rfl (fun K hK => ?_) AllReadyH.nil)
        · skip
          go_simp
          refine (CT2.out _ hEc1).mono ?_
          rintro e w2 ⟨v2, rfl, hm2, hx2⟩
          obtain ⟨y0, y1, y2, y3, rfl⟩ := hm2.rd.agg
          obtain ⟨k2, n2, x2, a2, c2, rfl, rfl, rfl, rfl⟩ := hm2.rd.shape
          generalize (T.kids v).length = l2 at hm2
          show K _ _
          have hEc2 := Ext.trans hEc1 hx2
          have hsc2 := hx2.size
          refine hK.out _ _ (HSK.out _ hEc2) (fun hHeld => ?_)
          clear hK K
          try simp only [Act.put, List.getElem_toArray, List.getElem_cons_zero, List.getElem_cons_succ, List.setIfInBounds_toArray, List.set_cons_zero, List.set_cons_succ]
          refine wpAnyH_ready (rs := [7]) (by kernel_rfl) (by simp) ?_
          refine AllReadyH.cons rfl (fun K hK => ?_) AllReadyH.nil
          go_simp
          refine hK.out _ _ (HSK.out _ (hEc2.more _)) (fun hHeld => ?_)
          clear hK K
          try simp only [Act.put, List.getElem_toArray, List.getElem_cons_zero, List.getElem_cons_succ, List.setIfInBounds_toArray, List.set_cons_zero, List.set_cons_succ]
          have hEa2 : Ext V2 (w2.alloc (.cells #[.string ⟨#[]⟩, .int .i64 0, .string ⟨#[]⟩, .slice none 0 0] 26)) := hEc2.more _
          have hXa2 : Ext w2 (w2.alloc (.cells #[.string ⟨#[]⟩, .int .i64 0, .string ⟨#[]⟩, .slice none 0 0] 26)) := Ext.alloc _ _
          have hBa2 : (w2.alloc (.cells #[.string ⟨#[]⟩, .int .i64 0, .string ⟨#[]⟩, .slice none 0 0] 26)).heap[w2.heap.size]? = some (.cells #[.string ⟨#[]⟩, .int .i64 0, .string ⟨#[]⟩, .slice none 0 0] 26) := blk0 _ _
          have hSa2 : (w2.alloc (.cells #[.string ⟨#[]⟩, .int .i64 0, .string ⟨#[]⟩, .slice none 0 0] 26)).heap.size = w2.heap.size + 1 := blkS _ _
          generalize w2.alloc (.cells #[.string ⟨#[]⟩, .int .i64 0, .string ⟨#[]⟩, .slice none 0 0] 26) = Y2 at hHeld hEa2 hXa2 hBa2 hSa2 ⊢
          generalize hTe2 : w2.heap.size = T2 at hBa2 hSa2 ⊢
          have HSa2 := hid (And.intro hSa2 hTe2)
          clear hSa2 hTe2
          have hT1 : Y2.heap[T1]? = some (.cells #[.string ⟨#[]⟩, .int .i64 0, .string ⟨#[]⟩, .slice none 0 0] 26) := ((((Ext.refl _).trans hx1).trans hx2).trans hXa2).block hBa1
          have hM1 : MRd (fun q => Y1.heap.size ≤ q ∧ q < w1.heap.size) Y2 m (.agg #[.string k1, .int .i64 n1, .string x1, .slice a1 l1 c1]) t := (hm1.mono (fun q hq h => ⟨h, hq⟩)).later (((Ext.refl _).trans hx2).trans hXa2)
          have hM2 : MRd (fun q => w1.heap.size ≤ q ∧ q < w2.heap.size) Y2 m' (.agg #[.string k2, .int .i64 n2, .string x2, .slice a2 l2 c2]) v := (hm2.mono (fun q hq h => ⟨h, hq⟩)).later ((Ext.refl _).trans hXa2)
          have hT2 : Y2.heap[T2]? = some (.cells #[.string ⟨#[]⟩, .int .i64 0, .string ⟨#[]⟩, .slice none 0 0] 26) := (Ext.refl _).block hBa2
          obtain ⟨hSa1, hTe1⟩ := HSa1.out
          obtain ⟨hSa2, hTe2⟩ := HSa2.out
          have hne : T1 ≠ T2 := by omega
          have HFIN := hid (twin_fin hEa2 hT1 hT2 hM1 hM2 ⟨by omega, by omega, hne, by omega, by omega⟩ ⟨by omega, by omega, by omega, by omega⟩)
          have q1 := Kp.set4 Y2 T1 0 (.string k1) (.int .i64 n1) (.string x1) (.slice a1 l1 c1)
          have hE1 := Kp.extOf hEa2 q1 (by omega)
          have hT2' := q1.block' hT2 (fun e => hne e.symm)
          have hE2 := Kp.extOf hE1 (Kp.set4 _ T2 0 (.string k2) (.int .i64 n2) (.string x2) (.slice a2 l2 c2)) (by omega)
          have HE1 := hid (HSK.out _ hE1)
          have HE2 := hid (HSK.out _ hE2)
          obtain ⟨z10, z11, z12, z13⟩ := four_of hT1
          have f10 := frozen_of (i := 0) hT1
          have f11 := frozen_of (i := 1) hT1
          have f12 := frozen_of (i := 2) hT1
          have f13 := frozen_of (i := 3) hT1
          clear hm1 hx1 hM1 hEa1 hXa1 hBa1 hSa1 hTe1 hsc1 hm2 hx2 hM2 hEa2 hXa2 hBa2 hSa2 hTe2 hsc2 hT1 hT2 hne q1 hs0 hE1 hE2
          refine wpAnyH_ready (rs := [8]) (by kernel_rfl) (by simp) ?_
          refine AllReadyH.cons rfl (fun K hK => ?_) AllReadyH.nil
          go_simp
          refine hK.out _ _ HE1.out (fun hHeld => ?_)
          clear hK K z10 z11 z12 z13 f10 f11 f12 f13 HE1
          try simp only [Act.put, List.getElem_toArray, List.getElem_cons_zero, List.getElem_cons_succ, List.setIfInBounds_toArray, List.set_cons_zero, List.set_cons_succ]
          obtain ⟨z20, z21, z22, z23⟩ := four_of hT2'
          have f20 := frozen_of (i := 0) hT2'
          have f21 := frozen_of (i := 1) hT2'
          have f22 := frozen_of (i := 2) hT2'
          have f23 := frozen_of (i := 3) hT2'
          clear hT2'
          refine wpAnyH_ready (rs := [9]) (by kernel_rfl) (by simp) ?_
          refine AllReadyH.cons rfl (fun K hK => ?_) AllReadyH.nil
          go_simp
          refine hK.out _ _ HE2.out (fun hHeld => ?_)
          clear hK K z20 z21 z22 z23 f20 f21 f22 f23 HE2
          try simp only [Act.put, List.getElem_toArray, List.getElem_cons_zero, List.getElem_cons_succ, List.setIfInBounds_toArray, List.set_cons_zero, List.set_cons_succ]
          refine wpAnyH_done (by kernel_rfl) ?_ _
          go_wp2_with fail
          go_meet
          case rel => exact ⟨T1, T2, k1, n1, x1, a1, l1, c1, k2, n2, x2, a2, l2, c2, rfl, rfl, HFIN.out⟩
        · skip
          go_simp
          refine hK.out _ _ (HSK.out _ (hEc1.more _)) (fun hHeld => ?_)
          clear hK K
          try simp only [Act.put, List.getElem_toArray, List.getElem_cons_zero, List.getElem_cons_succ, List.setIfInBounds_toArray, List.set_cons_zero, List.set_cons_succ]
          have hEa2 : Ext V2 (w1.alloc (.cells #[.string ⟨#[]⟩, .int .i64 0, .string ⟨#[]⟩, .slice none 0 0] 26)) := hEc1.more _
          have hXa2 : Ext w1 (w1.alloc (.cells #[.string ⟨#[]⟩, .int .i64 0, .string ⟨#[]⟩, .slice none 0 0] 26)) := Ext.alloc _ _
          have hBa2 : (w1.alloc (.cells #[.string ⟨#[]⟩, .int .i64 0, .string ⟨#[]⟩, .slice none 0 0] 26)).heap[w1.heap.size]? = some (.cells #[.string ⟨#[]⟩, .int .i64 0, .string ⟨#[]⟩, .slice none 0 0] 26) := blk0 _ _
          have hSa2 : (w1.alloc (.cells #[.string ⟨#[]⟩, .int .i64 0, .string ⟨#[]⟩, .slice none 0 0] 26)).heap.size = w1.heap.size + 1 := blkS _ _
          generalize w1.alloc (.cells #[.string ⟨#[]⟩, .int .i64 0, .string ⟨#[]⟩, .slice none 0 0] 26) = Y2 at hHeld hEa2 hXa2 hBa2 hSa2 ⊢
          generalize hTe2 : w1.heap.size = T2 at hBa2 hSa2 ⊢
          have HSa2 := hid (And.intro hSa2 hTe2)
          clear hSa2 hTe2
          refine wpAnyH_ready (rs := [5]) (by kernel_rfl) (by simp) ?_
          refine AllReadyH.cons rfl (fun K hK => ?_) AllReadyH.nil
          go_simp
          refine (CT2.out _ hEa2).mono ?_
          rintro e w2 ⟨v2, rfl, hm2, hx2⟩
          obtain ⟨y0, y1, y2, y3, rfl⟩ := hm2.rd.agg
          obtain ⟨k2, n2, x2, a2, c2, rfl, rfl, rfl, rfl⟩ := hm2.rd.shape
          generalize (T.kids v).length = l2 at hm2
          show K _ _
          have hEc2 := Ext.trans hEa2 hx2
          have hsc2 := hx2.size
          refine hK.out _ _ (HSK.out _ hEc2) (fun hHeld => ?_)
          clear hK K
          try simp only [Act.put, List.getElem_toArray, List.getElem_cons_zero, List.getElem_cons_succ, List.setIfInBounds_toArray, List.set_cons_zero, List.set_cons_succ]
          have hT1 : w2.heap[T1]? = some (.cells #[.string ⟨#[]⟩, .int .i64 0, .string ⟨#[]⟩, .slice none 0 0] 26) := ((((Ext.refl _).trans hx1).trans hXa2).trans hx2).block hBa1
          have hM1 : MRd (fun q => Y1.heap.size ≤ q ∧ q < w1.heap.size) w2 m (.agg #[.string k1, .int .i64 n1, .string x1, .slice a1 l1 c1]) t := (hm1.mono (fun q hq h => ⟨h, hq⟩)).later (((Ext.refl _).trans hXa2).trans hx2)
          have hT2 : w2.heap[T2]? = some (.cells #[.string ⟨#[]⟩, .int .i64 0, .string ⟨#[]⟩, .slice none 0 0] 26) := ((Ext.refl _).trans hx2).block hBa2
          have hM2 : MRd (fun q => Y2.heap.size ≤ q ∧ q < w2.heap.size) w2 m' (.agg #[.string k2, .int .i64 n2, .string x2, .slice a2 l2 c2]) v := (hm2.mono (fun q hq h => ⟨h, hq⟩)).later (Ext.refl _)
          obtain ⟨hSa1, hTe1⟩ := HSa1.out
          obtain ⟨hSa2, hTe2⟩ := HSa2.out
          have hne : T1 ≠ T2 := by omega
          have HFIN := hid (twin_fin hEc2 hT1 hT2 hM1 hM2 ⟨by omega, by omega, hne, by omega, by omega⟩ ⟨by omega, by omega, by omega, by omega⟩)
          have q1 := Kp.set4 w2 T1 0 (.string k1) (.int .i64 n1) (.string x1) (.slice a1 l1 c1)
          have hE1 := Kp.extOf hEc2 q1 (by omega)
          have hT2' := q1.block' hT2 (fun e => hne e.symm)
          have hE2 := Kp.extOf hE1 (Kp.set4 _ T2 0 (.string k2) (.int .i64 n2) (.string x2) (.slice a2 l2 c2)) (by omega)
          have HE1 := hid (HSK.out _ hE1)
          have HE2 := hid (HSK.out _ hE2)
          obtain ⟨z10, z11, z12, z13⟩ := four_of hT1
          have f10 := frozen_of (i := 0) hT1
          have f11 := frozen_of (i := 1) hT1
          have f12 := frozen_of (i := 2) hT1
          have f13 := frozen_of (i := 3) hT1
          clear hm1 hx1 hM1 hEa1 hXa1 hBa1 hSa1 hTe1 hsc1 hm2 hx2 hM2 hEa2 hXa2 hBa2 hSa2 hTe2 hsc2 hT1 hT2 hne q1 hs0 hE1 hE2
          refine wpAnyH_ready (rs := [8]) (by kernel_rfl) (by simp) ?_
          refine AllReadyH.cons rfl (fun K hK => ?_) AllReadyH.nil
          go_simp
          refine hK.out _ _ HE1.out (fun hHeld => ?_)
          clear hK K z10 z11 z12 z13 f10 f11 f12 f13 HE1
          try simp only [Act.put, List.getElem_toArray, List.getElem_cons_zero, List.getElem_cons_succ, List.setIfInBounds_toArray, List.set_cons_zero, List.set_cons_succ]
          obtain ⟨z20, z21, z22, z23⟩ := four_of hT2'
          have f20 := frozen_of (i := 0) hT2'
          have f21 := frozen_of (i := 1) hT2'
          have f22 := frozen_of (i := 2) hT2'
          have f23 := frozen_of (i := 3) hT2'
          clear hT2'
          refine wpAnyH_ready (rs := [9]) (by kernel_rfl) (by simp) ?_
          refine AllReadyH.cons rfl (fun K hK => ?_) AllReadyH.nil
          go_simp
          refine hK.out _ _ HE2.out (fun hHeld => ?_)
          clear hK K z20 z21 z22 z23 f20 f21 f22 f23 HE2
          try simp only [Act.put, List.getElem_toArray, List.getElem_cons_zero, List.getElem_cons_succ, List.setIfInBounds_toArray, List.set_cons_zero, List.set_cons_succ]
          refine wpAnyH_done (by kernel_rfl) ?_ _
          go_wp2_with fail
          go_meet
          case rel => exact ⟨T1, T2, k1, n1, x1, a1, l1, c1, k2, n2, x2, a2, l2, c2, rfl, rfl, HFIN.out⟩
      · skip
        go_simp
        refine hK.out _ _ (HSK.out _ (hEa1.more _)) (fun hHeld => ?_)
        clear hK K
        try simp only [Act.put, List.getElem_toArray, List.getElem_cons_zero, List.getElem_cons_succ, List.setIfInBounds_toArray, List.set_cons_zero, List.set_cons_succ]
        have hEa2 : Ext V2 (Y1.alloc (.cells #[.string ⟨#[]⟩, .int .i64 0, .string ⟨#[]⟩, .slice none 0 0] 26)) := hEa1.more _
        have hXa2 : Ext Y1 (Y1.alloc (.cells #[.string ⟨#[]⟩, .int .i64 0, .string ⟨#[]⟩, .slice none 0 0] 26)) := Ext.alloc _ _
        have hBa2 : (Y1.alloc (.cells #[.string ⟨#[]⟩, .int .i64 0, .string ⟨#[]⟩, .slice none 0 0] 26)).heap[Y1.heap.size]? = some (.cells #[.string ⟨#[]⟩, .int .i64 0, .string ⟨#[]⟩, .slice none 0 0] 26) := blk0 _ _
        have hSa2 : (Y1.alloc (.cells #[.string ⟨#[]⟩, .int .i64 0, .string ⟨#[]⟩, .slice none 0 0] 26)).heap.size = Y1.heap.size + 1 := blkS _ _
        generalize Y1.alloc (.cells #[.string ⟨#[]⟩, .int .i64 0, .string ⟨#[]⟩, .slice none 0 0] 26) = Y2 at hHeld hEa2 hXa2 hBa2 hSa2 ⊢
        generalize hTe2 : Y1.heap.size = T2 at hBa2 hSa2 ⊢
        have HSa2 := hid (And.intro hSa2 hTe2)
        clear hSa2 hTe2
        refine wpAnyH_ready (rs := [2]) (by kernel_rfl) (by simp) ?_
        refine AllReadyH.cons rfl (fun K hK => ?_) AllReadyH.nil
        go_simp
        refine (CT1.out _ hEa2).mono ?_
        rintro e w1 ⟨v1, rfl, hm1, hx1⟩
        obtain ⟨y0, y1, y2, y3, rfl⟩ := hm1.rd.agg
        obtain ⟨k1, n1, x1, a1, c1, rfl, rfl, rfl, rfl⟩ := hm1.rd.shape
        generalize (T.kids t).length = l1 at hm1
        show K _ _
        have hEc1 := Ext.trans hEa2 hx1
        have hsc1 := hx1.size
        refine hK.out _ _ (HSK.out _ hEc1) (fun hHeld => ?_)
        clear hK K
        try simp only [Act.put, List.getElem_toArray, List.getElem_cons_zero, List.getElem_cons_succ, List.setIfInBounds_toArray, List.set_cons_zero, List.set_cons_succ]
        refine wpAnyH_ready (rs := [5]) (by kernel_rfl) (by simp) ?_
        refine AllReadyH.cons rfl (fun K hK => ?_) AllReadyH.nil
        go_simp
        refine (CT2.out _ hEc1).mono ?_
        rintro e w2 ⟨v2, rfl, hm2, hx2⟩
        obtain ⟨y0, y1, y2, y3, rfl⟩ := hm2.rd.agg
        obtain ⟨k2, n2, x2, a2, c2, rfl, rfl, rfl, rfl⟩ := hm2.rd.shape
        generalize (T.kids v).length = l2 at hm2
        show K _ _
        have hEc2 := Ext.trans hEc1 hx2
        have hsc2 := hx2.size
        refine hK.out _ _ (HSK.out _ hEc2) (fun hHeld => ?_)
        clear hK K
        try simp only [Act.put, List.getElem_toArray, List.getElem_cons_zero, List.getElem_cons_succ, List.setIfInBounds_toArray, List.set_cons_zero, List.set_cons_succ]
        have hT1 : w2.heap[T1]? = some (.cells #[.string ⟨#[]⟩, .int .i64 0, .string ⟨#[]⟩, .slice none 0 0] 26) := ((((Ext.refl _).trans hXa2).trans hx1).trans hx2).block hBa1
        have hT2 : w2.heap[T2]? = some (.cells #[.string ⟨#[]⟩, .int .i64 0, .string ⟨#[]⟩, .slice none 0 0] 26) := (((Ext.refl _).trans hx1).trans hx2).block hBa2
        have hM1 : MRd (fun q => Y2.heap.size ≤ q ∧ q < w1.heap.size) w2 m (.agg #[.string k1, .int .i64 n1, .string x1, .slice a1 l1 c1]) t := (hm1.mono (fun q hq h => ⟨h, hq⟩)).later ((Ext.refl _).trans hx2)
        have hM2 : MRd (fun q => w1.heap.size ≤ q ∧ q < w2.heap.size) w2 m' (.agg #[.string k2, .int .i64 n2, .string x2, .slice a2 l2 c2]) v := (hm2.mono (fun q hq h => ⟨h, hq⟩)).later (Ext.refl _)
        obtain ⟨hSa1, hTe1⟩ := HSa1.out
        obtain ⟨hSa2, hTe2⟩ := HSa2.out
        have hne : T1 ≠ T2 := by omega
        have HFIN := hid (twin_fin hEc2 hT1 hT2 hM1 hM2 ⟨by omega, by omega, hne, by omega, by omega⟩ ⟨by omega, by omega, by omega, by omega⟩)
        have q1 := Kp.set4 w2 T1 0 (.string k1) (.int .i64 n1) (.string x1) (.slice a1 l1 c1)
        have hE1 := Kp.extOf hEc2 q1 (by omega)
        have hT2' := q1.block' hT2 (fun e => hne e.symm)
        have hE2 := Kp.extOf hE1 (Kp.set4 _ T2 0 (.string k2) (.int .i64 n2) (.string x2) (.slice a2 l2 c2)) (by omega)
        have HE1 := hid (HSK.out _ hE1)
        have HE2 := hid (HSK.out _ hE2)
        obtain ⟨z10, z11, z12, z13⟩ := four_of hT1
        have f10 := frozen_of (i := 0) hT1
        have f11 := frozen_of (i := 1) hT1
        have f12 := frozen_of (i := 2) hT1
        have f13 := frozen_of (i := 3) hT1
        clear hm1 hx1 hM1 hEa1 hXa1 hBa1 hSa1 hTe1 hsc1 hm2 hx2 hM2 hEa2 hXa2 hBa2 hSa2 hTe2 hsc2 hT1 hT2 hne q1 hs0 hE1 hE2
        refine wpAnyH_ready (rs := [8]) (by kernel_rfl) (by simp) ?_
        refine AllReadyH.cons rfl (fun K hK => ?_) AllReadyH.nil
        go_simp
        refine hK.out _ _ HE1.out (fun hHeld => ?_)
        clear hK K z10 z11 z12 z13 f10 f11 f12 f13 HE1
        try simp only [Act.put, List.getElem_toArray, List.getElem_cons_zero, List.getElem_cons_succ, List.setIfInBounds_toArray, List.set_cons_zero, List.set_cons_succ]
        obtain ⟨z20, z21, z22, z23⟩ := four_of hT2'
        have f20 := frozen_of (i := 0) hT2'
        have f21 := frozen_of (i := 1) hT2'
        have f22 := frozen_of (i := 2) hT2'
        have f23 := frozen_of (i := 3) hT2'
        clear hT2'
        refine wpAnyH_ready (rs := [9]) (by kernel_rfl) (by simp) ?_
        refine AllReadyH.cons rfl (fun K hK => ?_) AllReadyH.nil
        go_simp
        refine hK.out _ _ HE2.out (fun hHeld => ?_)
        clear hK K z20 z21 z22 z23 f20 f21 f22 f23 HE2
        try simp only [Act.put, List.getElem_toArray, List.getElem_cons_zero, List.getElem_cons_succ, List.setIfInBounds_toArray, List.set_cons_zero, List.set_cons_succ]
        refine wpAnyH_done (by kernel_rfl) ?_ _
        go_wp2_with fail
        go_meet
        case rel => exact ⟨T1, T2, k1, n1, x1, a1, l1, c1, k2, n2, x2, a2, l2, c2, rfl, rfl, HFIN.out⟩
    · skip
      go_simp
      refine hK.out _ _ (HSK.out _ (hE0.more _)) (fun hHeld => ?_)
      clear hK K
      try simp only [Act.put, List.getElem_toArray, List.getElem_cons_zero, List.getElem_cons_succ, List.setIfInBounds_toArray, List.set_cons_zero, List.set_cons_succ]
      have hEa2 : Ext V2 (Y0.alloc (.cells #[.string ⟨#[]⟩, .int .i64 0, .string ⟨#[]⟩, .slice none 0 0] 26)) := hE0.more _
      have hXa2 : Ext Y0 (Y0.alloc (.cells #[.string ⟨#[]⟩, .int .i64 0, .string ⟨#[]⟩, .slice none 0 0] 26)) := Ext.alloc _ _
      have hBa2 : (Y0.alloc (.cells #[.string ⟨#[]⟩, .int .i64 0, .string ⟨#[]⟩, .slice none 0 0] 26)).heap[Y0.heap.size]? = some (.cells #[.string ⟨#[]⟩, .int .i64 0, .string ⟨#[]⟩, .slice none 0 0] 26) := blk0 _ _
      have hSa2 : (Y0.alloc (.cells #[.string ⟨#[]⟩, .int .i64 0, .string ⟨#[]⟩, .slice none 0 0] 26)).heap.size = Y0.heap.size + 1 := blkS _ _
      generalize Y0.alloc (.cells #[.string ⟨#[]⟩, .int .i64 0, .string ⟨#[]⟩, .slice none 0 0] 26) = Y2 at hHeld hEa2 hXa2 hBa2 hSa2 ⊢
      generalize hTe2 : Y0.heap.size = T2 at hBa2 hSa2 ⊢
      have HSa2 := hid (And.intro hSa2 hTe2)
      clear hSa2 hTe2
      refine wpAnyH_ready (rs := [2, 6]) (by kernel_rfl) (by simp) ?_
      refine AllReadyH.cons rfl (fun K hK => ?_) (AllReadyH.cons rfl (fun K hK => ?_) AllReadyH.nil)
      · skip
        go_simp
        refine (CT1.out _ hEa2).mono ?_
        rintro e w1 ⟨v1, rfl, hm1, hx1⟩
        obtain ⟨y0, y1, y2, y3, rfl⟩ := hm1.rd.agg
        obtain ⟨k1, n1, x1, a1, c1, rfl, rfl, rfl, rfl⟩ := hm1.rd.shape
        generalize (T.kids t).length = l1 at hm1
        show K _ _
        have hEc1 := Ext.trans hEa2 hx1
        have hsc1 := hx1.size
        refine hK.out _ _ (HSK.out _ hEc1) (fun hHeld => ?_)
        clear hK K
        try simp only [Act.put, List.getElem_toArray, List.getElem_cons_zero, List.getElem_cons_succ, List.setIfInBounds_toArray, List.set_cons_zero, List.set_cons_succ]
        refine wpAnyH_ready (rs := [5, 6]) (by kernel_rfl) (by simp) ?_
        refine AllReadyH.cons rfl (fun K hK => ?_) (AllReadyH.cons rfl (fun K hK => ?_) AllReadyH.nil)
        · skip
          go_simp
          refine (CT2.out _ hEc1).mono ?_
          rintro e w2 ⟨v2, rfl, hm2, hx2⟩
          obtain ⟨y0, y1, y2, y3, rfl⟩ := hm2.rd.agg
          obtain ⟨k2, n2, x2, a2, c2, rfl, rfl, rfl, rfl⟩ := hm2.rd.shape
          generalize (T.kids v).length = l2 at hm2
          show K _ _
          have hEc2 := Ext.trans hEc1 hx2
          have hsc2 := hx2.size
          refine hK.out _ _ (HSK.out _ hEc2) (fun hHeld => ?_)
          clear hK K
          try simp only [Act.put, List.getElem_toArray, List.getElem_cons_zero, List.getElem_cons_succ, List.setIfInBounds_toArray, List.set_cons_zero, List.set_cons_succ]
          refine wpAnyH_ready (rs := [6]) (by kernel_rfl) (by simp) ?_
          refine AllReadyH.cons rfl (fun K hK => ?_) AllReadyH.nil
          go_simp
          refine hK.out _ _ (HSK.out _ (hEc2.more _)) (fun hHeld => ?_)
          clear hK K
          try simp only [Act.put, List.getElem_toArray, List.getElem_cons_zero, List.getElem_cons_succ, List.setIfInBounds_toArray, List.set_cons_zero, List.set_cons_succ]
          have hEa1 : Ext V2 (w2.alloc (.cells #[.string ⟨#[]⟩, .int .i64 0, .string ⟨#[]⟩, .slice none 0 0] 26)) := hEc2.more _
          have hXa1 : Ext w2 (w2.alloc (.cells #[.string ⟨#[]⟩, .int .i64 0, .string ⟨#[]⟩, .slice none 0 0] 26)) := Ext.alloc _ _
          have hBa1 : (w2.alloc (.cells #[.string ⟨#[]⟩, .int .i64 0, .string ⟨#[]⟩, .slice none 0 0] 26)).heap[w2.heap.size]? = some (.cells #[.string ⟨#[]⟩, .int .i64 0, .string ⟨#[]⟩, .slice none 0 0] 26) := blk0 _ _
          have hSa1 : (w2.alloc (.cells #[.string ⟨#[]⟩, .int .i64 0, .string ⟨#[]⟩, .slice none 0 0] 26)).heap.size = w2.heap.size + 1 := blkS _ _
          generalize w2.alloc (.cells #[.string ⟨#[]⟩, .int .i64 0, .string ⟨#[]⟩, .slice none 0 0] 26) = Y1 at hHeld hEa1 hXa1 hBa1 hSa1 ⊢
          generalize hTe1 : w2.heap.size = T1 at hBa1 hSa1 ⊢
          have HSa1 := hid (And.intro hSa1 hTe1)
          clear hSa1 hTe1
          have hT2 : Y1.heap[T2]? = some (.cells #[.string ⟨#[]⟩, .int .i64 0, .string ⟨#[]⟩, .slice none 0 0] 26) := ((((Ext.refl _).trans hx1).trans hx2).trans hXa1).block hBa2
          have hM1 : MRd (fun q => Y2.heap.size ≤ q ∧ q < w1.heap.size) Y1 m (.agg #[.string k1, .int .i64 n1, .string x1, .slice a1 l1 c1]) t := (hm1.mono (fun q hq h => ⟨h, hq⟩)).later (((Ext.refl _).trans hx2).trans hXa1)
          have hM2 : MRd (fun q => w1.heap.size ≤ q ∧ q < w2.heap.size) Y1 m' (.agg #[.string k2, .int .i64 n2, .string x2, .slice a2 l2 c2]) v := (hm2.mono (fun q hq h => ⟨h, hq⟩)).later ((Ext.refl _).trans hXa1)
          have hT1 : Y1.heap[T1]? = some (.cells #[.string ⟨#[]⟩, .int .i64 0, .string ⟨#[]⟩, .slice none 0 0] 26) := (Ext.refl _).block hBa1
          obtain ⟨hSa1, hTe1⟩ := HSa1.out
          obtain ⟨hSa2, hTe2⟩ := HSa2.out
          have hne : T1 ≠ T2 := by omega
          have HFIN := hid (twin_fin hEa1 hT1 hT2 hM1 hM2 ⟨by omega, by omega, hne, by omega, by omega⟩ ⟨by omega, by omega, by omega, by omega⟩)
          have q1 := Kp.set4 Y1 T1 0 (.string k1) (.int .i64 n1) (.string x1) (.slice a1 l1 c1)
          have hE1 := Kp.extOf hEa1 q1 (by omega)
          have hT2' := q1.block' hT2 (fun e => hne e.symm)
          have hE2 := Kp.extOf hE1 (Kp.set4 _ T2 0 (.string k2) (.int .i64 n2) (.string x2) (.slice a2 l2 c2)) (by omega)
          have HE1 := hid (HSK.out _ hE1)
          have HE2 := hid (HSK.out _ hE2)
          obtain ⟨z10, z11, z12, z13⟩ := four_of hT1
          have f10 := frozen_of (i := 0) hT1
          have f11 := frozen_of (i := 1) hT1
          have f12 := frozen_of (i := 2) hT1
          have f13 := frozen_of (i := 3) hT1
          clear hm1 hx1 hM1 hEa1 hXa1 hBa1 hSa1 hTe1 hsc1 hm2 hx2 hM2 hEa2 hXa2 hBa2 hSa2 hTe2 hsc2 hT1 hT2 hne q1 hs0 hE1 hE2
          refine wpAnyH_ready (rs := [8]) (by kernel_rfl) (by simp) ?_
          refine AllReadyH.cons rfl (fun K hK => ?_) AllReadyH.nil
          go_simp
          refine hK.out _ _ HE1.out (fun hHeld => ?_)
          clear hK K z10 z11 z12 z13 f10 f11 f12 f13 HE1
          try simp only [Act.put, List.getElem_toArray, List.getElem_cons_zero, List.getElem_cons_succ, List.setIfInBounds_toArray, List.set_cons_zero, List.set_cons_succ]
          obtain ⟨z20, z21, z22, z23⟩ := four_of hT2'
          have f20 := frozen_of (i := 0) hT2'
          have f21 := frozen_of (i := 1) hT2'
          have f22 := frozen_of (i := 2) hT2'
          have f23 := frozen_of (i := 3) hT2'
          clear hT2'
          refine wpAnyH_ready (rs := [9]) (by kernel_rfl) (by simp) ?_
          refine AllReadyH.cons rfl (fun K hK => ?_) AllReadyH.nil
          go_simp
          refine hK.out _ _ HE2.out (fun hHeld => ?_)
          clear hK K z20 z21 z22 z23 f20 f21 f22 f23 HE2
          try simp only [Act.put, List.getElem_toArray, List.getElem_cons_zero, List.getElem_cons_succ, List.setIfInBounds_toArray, List.set_cons_zero, List.set_cons_succ]
          refine wpAnyH_done (by kernel_rfl) ?_ _
          go_wp2_with fail
          go_meet
          case rel => exact ⟨T1, T2, k1, n1, x1, a1, l1, c1, k2, n2, x2, a2, l2, c2, rfl, rfl, HFIN.out⟩
        · skip
          go_simp
          refine hK.out _ _ (HSK.out _ (hEc1.more _)) (fun hHeld => ?_)
          clear hK K
          try simp only [Act.put, List.getElem_toArray, List.getElem_cons_zero, List.getElem_cons_succ, List.setIfInBounds_toArray, List.set_cons_zero, List.set_cons_succ]
          have hEa1 : Ext V2 (w1.alloc (.cells #[.string ⟨#[]⟩, .int .i64 0, .string ⟨#[]⟩, .slice none 0 0] 26)) := hEc1.more _
          have hXa1 : Ext w1 (w1.alloc (.cells #[.string ⟨#[]⟩, .int .i64 0, .string ⟨#[]⟩, .slice none 0 0] 26)) := Ext.alloc _ _
          have hBa1 : (w1.alloc (.cells #[.string ⟨#[]⟩, .int .i64 0, .string ⟨#[]⟩, .slice none 0 0] 26)).heap[w1.heap.size]? = some (.cells #[.string ⟨#[]⟩, .int .i64 0, .string ⟨#[]⟩, .slice none 0 0] 26) := blk0 _ _
          have hSa1 : (w1.alloc (.cells #[.string ⟨#[]⟩, .int .i64 0, .string ⟨#[]⟩, .slice none 0 0] 26)).heap.size = w1.heap.size + 1 := blkS _ _
          generalize w1.alloc (.cells #[.string ⟨#[]⟩, .int .i64 0, .string ⟨#[]⟩, .slice none 0 0] 26) = Y1 at hHeld hEa1 hXa1 hBa1 hSa1 ⊢
          generalize hTe1 : w1.heap.size = T1 at hBa1 hSa1 ⊢
          have HSa1 := hid (And.intro hSa1 hTe1)
          clear hSa1 hTe1
          refine wpAnyH_ready (rs := [5]) (by kernel_rfl) (by simp) ?_
          refine AllReadyH.cons rfl (fun K hK => ?_) AllReadyH.nil
          go_simp
          refine (CT2.out _ hEa1).mono ?_
          rintro e w2 ⟨v2, rfl, hm2, hx2⟩
          obtain ⟨y0, y1, y2, y3, rfl⟩ := hm2.rd.agg
          obtain ⟨k2, n2, x2, a2, c2, rfl, rfl, rfl, rfl⟩ := hm2.rd.shape
          generalize (T.kids v).length = l2 at hm2
          show K _ _
          have hEc2 := Ext.trans hEa1 hx2
          have hsc2 := hx2.size
          refine hK.out _ _ (HSK.out _ hEc2) (fun hHeld => ?_)
          clear hK K
          try simp only [Act.put, List.getElem_toArray, List.getElem_cons_zero, List.getElem_cons_succ, List.setIfInBounds_toArray, List.set_cons_zero, List.set_cons_succ]
          have hT2 : w2.heap[T2]? = some (.cells #[.string ⟨#[]⟩, .int .i64 0, .string ⟨#[]⟩, .slice none 0 0] 26) := ((((Ext.refl _).trans hx1).trans hXa1).trans hx2).block hBa2
          have hM1 : MRd (fun q => Y2.heap.size ≤ q ∧ q < w1.heap.size) w2 m (.agg #[.string k1, .int .i64 n1, .string x1, .slice a1 l1 c1]) t := (hm1.mono (fun q hq h => ⟨h, hq⟩)).later (((Ext.refl _).trans hXa1).trans hx2)
          have hT1 : w2.heap[T1]? = some (.cells #[.string ⟨#[]⟩, .int .i64 0, .string ⟨#[]⟩, .slice none 0 0] 26) := ((Ext.refl _).trans hx2).block hBa1
          have hM2 : MRd (fun q => Y1.heap.size ≤ q ∧ q < w2.heap.size) w2 m' (.agg #[.string k2, .int .i64 n2, .string x2, .slice a2 l2 c2]) v := (hm2.mono (fun q hq h => ⟨h, hq⟩)).later (Ext.refl _)
          obtain ⟨hSa1, hTe1⟩ := HSa1.out
          obtain ⟨hSa2, hTe2⟩ := HSa2.out
          have hne : T1 ≠ T2 := by omega
          have HFIN := hid (twin_fin hEc2 hT1 hT2 hM1 hM2 ⟨by omega, by omega, hne, by omega, by omega⟩ ⟨by omega, by omega, by omega, by omega⟩)
          have q1 := Kp.set4 w2 T1 0 (.string k1) (.int .i64 n1) (.string x1) (.slice a1 l1 c1)
          have hE1 := Kp.extOf hEc2 q1 (by omega)
          have hT2' := q1.block' hT2 (fun e => hne e.symm)
          have hE2 := Kp.extOf hE1 (Kp.set4 _ T2 0 (.string k2) (.int .i64 n2) (.string x2) (.slice a2 l2 c2)) (by omega)
          have HE1 := hid (HSK.out _ hE1)
          have HE2 := hid (HSK.out _ hE2)
          obtain ⟨z10, z11, z12, z13⟩ := four_of hT1
          have f10 := frozen_of (i := 0) hT1
          have f11 := frozen_of (i := 1) hT1
          have f12 := frozen_of (i := 2) hT1
          have f13 := frozen_of (i := 3) hT1
          clear hm1 hx1 hM1 hEa1 hXa1 hBa1 hSa1 hTe1 hsc1 hm2 hx2 hM2 hEa2 hXa2 hBa2 hSa2 hTe2 hsc2 hT1 hT2 hne q1 hs0 hE1 hE2
          refine wpAnyH_ready (rs := [8]) (by kernel_rfl) (by simp) ?_
          refine AllReadyH.cons rfl (fun K hK => ?_) AllReadyH.nil
          go_simp
          refine hK.out _ _ HE1.out (fun hHeld => ?_)
          clear hK K z10 z11 z12 z13 f10 f11 f12 f13 HE1
          try simp only [Act.put, List.getElem_toArray, List.getElem_cons_zero, List.getElem_cons_succ, List.setIfInBounds_toArray, List.set_cons_zero, List.set_cons_succ]
          obtain ⟨z20, z21, z22, z23⟩ := four_of hT2'
          have f20 := frozen_of (i := 0) hT2'
          have f21 := frozen_of (i := 1) hT2'
          have f22 := frozen_of (i := 2) hT2'
          have f23 := frozen_of (i := 3) hT2'
          clear hT2'
          refine wpAnyH_ready (rs := [9]) (by kernel_rfl) (by simp) ?_
          refine AllReadyH.cons rfl (fun K hK => ?_) AllReadyH.nil
          go_simp
          refine hK.out _ _ HE2.out (fun hHeld => ?_)
          clear hK K z20 z21 z22 z23 f20 f21 f22 f23 HE2
          try simp only [Act.put, List.getElem_toArray, List.getElem_cons_zero, List.getElem_cons_succ, List.setIfInBounds_toArray, List.set_cons_zero, List.set_cons_succ]
          refine wpAnyH_done (by kernel_rfl) ?_ _
          go_wp2_with fail
          go_meet
          case rel => exact ⟨T1, T2, k1, n1, x1, a1, l1, c1, k2, n2, x2, a2, l2, c2, rfl, rfl, HFIN.out⟩
      · skip
        go_simp
        refine hK.out _ _ (HSK.out _ (hEa2.more _)) (fun hHeld => ?_)
        clear hK K
        try simp only [Act.put, List.getElem_toArray, List.getElem_cons_zero, List.getElem_cons_succ, List.setIfInBounds_toArray, List.set_cons_zero, List.set_cons_succ]
        have hEa1 : Ext V2 (Y2.alloc (.cells #[.string ⟨#[]⟩, .int .i64 0, .string ⟨#[]⟩, .slice none 0 0] 26)) := hEa2.more _
        have hXa1 : Ext Y2 (Y2.alloc (.cells #[.string ⟨#[]⟩, .int .i64 0, .string ⟨#[]⟩, .slice none 0 0] 26)) := Ext.alloc _ _
        have hBa1 : (Y2.alloc (.cells #[.string ⟨#[]⟩, .int .i64 0, .string ⟨#[]⟩, .slice none 0 0] 26)).heap[Y2.heap.size]? = some (.cells #[.string ⟨#[]⟩, .int .i64 0, .string ⟨#[]⟩, .slice none 0 0] 26) := blk0 _ _
        have hSa1 : (Y2.alloc (.cells #[.string ⟨#[]⟩, .int .i64 0, .string ⟨#[]⟩, .slice none 0 0] 26)).heap.size = Y2.heap.size + 1 := blkS _ _
        generalize Y2.alloc (.cells #[.string ⟨#[]⟩, .int .i64 0, .string ⟨#[]⟩, .slice none 0 0] 26) = Y1 at hHeld hEa1 hXa1 hBa1 hSa1 ⊢
        generalize hTe1 : Y2.heap.size = T1 at hBa1 hSa1 ⊢
        have HSa1 := hid (And.intro hSa1 hTe1)
        clear hSa1 hTe1
        refine wpAnyH_ready (rs := [2]) (by kernel_rfl) (by simp) ?_
        refine AllReadyH.cons rfl (fun K hK => ?_) AllReadyH.nil
        go_simp
        refine (CT1.out _ hEa1).mono ?_
        rintro e w1 ⟨v1, rfl, hm1, hx1⟩
        obtain ⟨y0, y1, y2, y3, rfl⟩ := hm1.rd.agg
        obtain ⟨k1, n1, x1, a1, c1, rfl, rfl, rfl, rfl⟩ := hm1.rd.shape
        generalize (T.kids t).length = l1 at hm1
        show K _ _
        have hEc1 := Ext.trans hEa1 hx1
        have hsc1 := hx1.size
        refine hK.out _ _ (HSK.out _ hEc1) (fun hHeld => ?_)
        clear hK K
        try simp only [Act.put, List.getElem_toArray, List.getElem_cons_zero, List.getElem_cons_succ, List.setIfInBounds_toArray, List.set_cons_zero, List.set_cons_succ]
        refine wpAnyH_ready (rs := [5]) (by kernel_rfl) (by simp) ?_
        refine AllReadyH.cons rfl (fun K hK => ?_) AllReadyH.nil
        go_simp
        refine (CT2.out _ hEc1).mono ?_
        rintro e w2 ⟨v2, rfl, hm2, hx2⟩
        obtain ⟨y0, y1, y2, y3, rfl⟩ := hm2.rd.agg
        obtain ⟨k2, n2, x2, a2, c2, rfl, rfl, rfl, rfl⟩ := hm2.rd.shape
        generalize (T.kids v).length = l2 at hm2
        show K _ _
        have hEc2 := Ext.trans hEc1 hx2
        have hsc2 := hx2.size
        refine hK.out _ _ (HSK.out _ hEc2) (fun hHeld => ?_)
        clear hK K
        try simp only [Act.put, List.getElem_toArray, List.getElem_cons_zero, List.getElem_cons_succ, List.setIfInBounds_toArray, List.set_cons_zero, List.set_cons_succ]
        have hT2 : w2.heap[T2]? = some (.cells #[.string ⟨#[]⟩, .int .i64 0, .string ⟨#[]⟩, .slice none 0 0] 26) := ((((Ext.refl _).trans hXa1).trans hx1).trans hx2).block hBa2
        have hT1 : w2.heap[T1]? = some (.cells #[.string ⟨#[]⟩, .int .i64 0, .string ⟨#[]⟩, .slice none 0 0] 26) := (((Ext.refl _).trans hx1).trans hx2).block hBa1
        have hM1 : MRd (fun q => Y1.heap.size ≤ q ∧ q < w1.heap.size) w2 m (.agg #[.string k1, .int .i64 n1, .string x1, .slice a1 l1 c1]) t := (hm1.mono (fun q hq h => ⟨h, hq⟩)).later ((Ext.refl _).trans hx2)
        have hM2 : MRd (fun q => w1.heap.size ≤ q ∧ q < w2.heap.size) w2 m' (.agg #[.string k2, .int .i64 n2, .string x2, .slice a2 l2 c2]) v := (hm2.mono (fun q hq h => ⟨h, hq⟩)).later (Ext.refl _)
        obtain ⟨hSa1, hTe1⟩ := HSa1.out
        obtain ⟨hSa2, hTe2⟩ := HSa2.out
        have hne : T1 ≠ T2 := by omega
        have HFIN := hid (twin_fin hEc2 hT1 hT2 hM1 hM2 ⟨by omega, by omega, hne, by omega, by omega⟩ ⟨by omega, by omega, by omega, by omega⟩)
        have q1 := Kp.set4 w2 T1 0 (.string k1) (.int .i64 n1) (.string x1) (.slice a1 l1 c1)
        have hE1 := Kp.extOf hEc2 q1 (by omega)
        have hT2' := q1.block' hT2 (fun e => hne e.symm)
        have hE2 := Kp.extOf hE1 (Kp.set4 _ T2 0 (.string k2) (.int .i64 n2) (.string x2) (.slice a2 l2 c2)) (by omega)
        have HE1 := hid (HSK.out _ hE1)
        have HE2 := hid (HSK.out _ hE2)
        obtain ⟨z10, z11, z12, z13⟩ := four_of hT1
        have f10 := frozen_of (i := 0) hT1
        have f11 := frozen_of (i := 1) hT1
        have f12 := frozen_of (i := 2) hT1
        have f13 := frozen_of (i := 3) hT1
        clear hm1 hx1 hM1 hEa1 hXa1 hBa1 hSa1 hTe1 hsc1 hm2 hx2 hM2 hEa2 hXa2 hBa2 hSa2 hTe2 hsc2 hT1 hT2 hne q1 hs0 hE1 hE2
        refine wpAnyH_ready (rs := [8]) (by kernel_rfl) (by simp) ?_
        refine AllReadyH.cons rfl (fun K hK => ?_) AllReadyH.nil
        go_simp
        refine hK.out _ _ HE1.out (fun hHeld => ?_)
        clear hK K z10 z11 z12 z13 f10 f11 f12 f13 HE1
        try simp only [Act.put, List.getElem_toArray, List.getElem_cons_zero, List.getElem_cons_succ, List.setIfInBounds_toArray, List.set_cons_zero, List.set_cons_succ]
        obtain ⟨z20, z21, z22, z23⟩ := four_of hT2'
        have f20 := frozen_of (i := 0) hT2'
        have f21 := frozen_of (i := 1) hT2'
        have f22 := frozen_of (i := 2) hT2'
        have f23 := frozen_of (i := 3) hT2'
        clear hT2'
        refine wpAnyH_ready (rs := [9]) (by kernel_rfl) (by simp) ?_
        refine AllReadyH.cons rfl (fun K hK => ?_) AllReadyH.nil
        go_simp
        refine hK.out _ _ HE2.out (fun hHeld => ?_)
        clear hK K z20 z21 z22 z23 f20 f21 f22 f23 HE2
        try simp only [Act.put, List.getElem_toArray, List.getElem_cons_zero, List.getElem_cons_succ, List.setIfInBounds_toArray, List.set_cons_zero, List.set_cons_succ]
        refine wpAnyH_done (by kernel_rfl) ?_ _
        go_wp2_with fail
        go_meet
        case rel => exact ⟨T1, T2, k1, n1, x1, a1, l1, c1, k2, n2, x2, a2, l2, c2, rfl, rfl, HFIN.out⟩
  case rest =>
  obtain ⟨T7, T8, k1, n1, x1, a1, l1, c1, k2, n2, x2, a2, l2, c2, rfl, rfl, hTw⟩ := hcut
  obtain ⟨V3, rfl⟩ : ∃ V3, V3 = wc := ⟨wc, rfl⟩
  obtain ⟨hx3, h7, h8, h78, hb7, hb8, hm1, hm2⟩ := hTw
  have X3 := hid (XV.out.trans hx3)
  have hOl := lt_of_block HO.out
  have hs3 := X3.out.size
  have HNM := hid (show ∀ q, W.heap.size ≤ q → ¬ M q from fun q hq e => by have := HF.out.lt q e; omega)
  have HB7 := hid hb7
  have HB8 := hid hb8
  have HO3 := hid (hx3.block HO.out)
  have HM1 := hid hm1
  have HM2 := hid hm2
  have HROOT := hid hm1.root
  have HF3 := hid (FA.refl (HF.out.keep (X3.out.kp (fun _ => True)) (fun _ _ => trivial)))
  have hl7 := lt_of_block hb7
  have hl8 := lt_of_block hb8
  have STD := hid (show ∀ cX mX M' W', FA b (b + 2) (b + 3) V3 M cX mX M' W' → W'.heap[T7]? = some (.cells #[.string k1, .int .i64 n1, .string x1, .slice a1 l1 c1] 26) ∧ W'.heap[T8]? = some (.cells #[.string k2, .int .i64 n2, .string x2, .slice a2 l2 c2] 26) ∧ W'.heap[W.heap.size]? = some (.cells (opW kd k nn x aa kl cc k' n' x' a' kl' c' (.slice pa p.length pc) st) 29) ∧ W'.heap[b + 1]? = some (.cells #[.pointer (some ⟨b, 0, none⟩)] 60) ∧ MRd (fun q => V2.heap.size ≤ q ∧ q ≠ T7 ∧ q ≠ T8) W' m (.agg #[.string k1, .int .i64 n1, .string x1, .slice a1 l1 c1]) t ∧ MRd (fun q => V2.heap.size ≤ q ∧ q ≠ T7 ∧ q ≠ T8) W' m' (.agg #[.string k2, .int .i64 n2, .string x2, .slice a2 l2 c2]) v ∧ Ext w W' ∧ (∀ q, M' q → q = b ∨ q = b + 2 ∨ b + 3 ≤ q) from fun cX mX M' W' hfa => by
    have hk := hfa.2.1
    have hk2 : Kp (fun q => V2.heap.size ≤ q ∧ q ≠ T7 ∧ q ≠ T8) V3 W' := hk.mono (fun q _ hq => HNM.out q (by have hq' : V2.heap.size ≤ q ∧ q ≠ T7 ∧ q ≠ T8 := hq; omega))
    refine ⟨hk.block' HB7.out (HNM.out _ (by omega)), hk.block' HB8.out (HNM.out _ (by omega)), hk.block' HO3.out (HNM.out _ (Nat.le_refl _)), hk.block' (X3.out.block HP.out) (fun e => by rcases HMb.out _ e with h | h | h <;> omega), HM1.out.keep hk2, HM2.out.keep hk2, Kp.ext (K := fun q => q < w.heap.size) (((X.out.trans X3.out).kp _).chain hk (fun q hq _ e => by rcases HMb.out _ e with h | h | h <;> omega)) (fun q hq => hq), fun q hq => (hfa.2.2 q hq).elim (HMb.out q) (fun e => .inr (.inr (by omega)))⟩)
  clear hx3 hb7 hb8 hm1 hm2 HB7 HB8 HO3 HM1 HM2 HSK CT1 CT2 s1 s2 s3 s4 s5 s6 s7 s8 XV HO
  go_wp2_with fail
  go_loopw [9] (fun i9 wx => ∃ (i : Nat) (M2 : Nat → Prop), i ≤ 2 ∧ i9 = .int .i64 i ∧ FA b (b + 2) (b + 3) V3 M (50 * j) (4 * j + 2 * i) M2 wx) (fun i9 _ => 2 - (intOf i9).toNat)
  case atStart => exact ⟨0, M, Nat.zero_le _, rfl, HF3.out⟩
  case round =>
    obtain ⟨i9, M2, hi9, rfl, hfa⟩ := hrel
    have HFA := hid hfa
    obtain ⟨hb7, hb8, hO, hP, hm1, hm2, hXw, hM2⟩ := STD.out _ _ _ _ hfa
    have hM2lt := hfa.1.lt
    have hVr := hfa.2.1.size
    clear hfa
    by_cases hi2 : i9 < 2
    · have hi2' : (i9 : Int) < 2 := by omega
      have HB7 := hid hb7
      have HB8 := hid hb8
      have HOb := hid hO
      have HPb := hid hP
      have CA := hid (fun X (Y : Ext wr X) => copyG X (hm1.rd.later Y))
      have CB := hid (fun X (Y : Ext wr X) => atG X pa pc p (hm1.rd.later Y) (HI.out.later (hXw.trans Y)) (by omega))
      have CC := hid (fun X (Y : Ext wr X) => putG X pa pc p (hm1.rd.later Y) (hm2.rd.later Y) (HI.out.later (hXw.trans Y)) (by omega))
      have HM1 := hid hm1
      have HXw := hid hXw
      have HM2b := hid hM2
      obtain ⟨t0, t1, t2, t3⟩ := four_of hb7
      clear hb7 hb8 hO hP hm1 hm2 hXw hM2
      go_wp2_with fail
      refine (CA.out _ (Ext.refl _)).mono ?_
      rintro e WA ⟨hxA, vA, eA, rfl, hgA⟩
      obtain ⟨tA, sA, kA, nA, xA, aA, lA, rfl, hoA, hzA, hbA, hnA⟩ := hgA
      have XPA := hid (show Ext wr (WA.alloc (.cells #[.string kA, .int .i64 nA, .string xA, .slice aA lA lA] 26)) from hxA.trans (Ext.alloc _ _))
      have HEA := hid (show Ext wr (WA.alloc (.cells #[.string kA, .int .i64 nA, .string xA, .slice aA lA lA] 26)) from Ext.trans (Ext.refl _) XPA.out)
      have HBXA := hid (show (WA.alloc (.cells #[.string kA, .int .i64 nA, .string xA, .slice aA lA lA] 26)).heap[WA.heap.size]? = some (.cells #[.string kA, .int .i64 nA, .string xA, .slice aA lA lA] 26) from blk0 _ _)
      have hSzA : wr.heap.size ≤ WA.heap.size := by have := hxA.size; (try simp only [World.size_alloc] at this); exact this
      have HGA := hid (show Own (WA.alloc (.cells #[.string kA, .int .i64 nA, .string xA, .slice aA lA lA] 26)) 64 (.agg #[.string kA, .int .i64 nA, .string xA, .slice aA lA lA]) tA sA ∧ tA.size ≤ 1024 ∧ (∀ q ∈ sA, wr.heap.size ≤ q ∧ q < WA.heap.size) ∧ sA.Nodup from ⟨hoA.keep ((Ext.alloc _ _).kp _), hzA, fun q hq => ⟨by have := hbA q hq; (try simp only [World.size_alloc] at this); exact this, hoA.lt q hq⟩, hnA⟩)
      clear hxA hoA hzA hbA hnA t0 t1 t2 t3
      obtain ⟨t0, t1, t2, t3⟩ := four_of (HEA.out.block HB7.out)
      obtain ⟨_, _, _, _, _, _, _, _, s9⟩ := eleven_of (HEA.out.block HOb.out)
      go_wp2_with fail
      refine (CB.out _ HEA.out).mono ?_
      rintro e WB ⟨hxB, vB, eB, rfl, hgB⟩
      obtain ⟨tB, sB, kB, nB, xB, aB, lB, rfl, hoB, hzB, hbB, hnB⟩ := hgB
      have XPB := hid (show Ext (WA.alloc (.cells #[.string kA, .int .i64 nA, .string xA, .slice aA lA lA] 26)) (WB.alloc (.cells #[.string kB, .int .i64 nB, .string xB, .slice aB lB lB] 26)) from hxB.trans (Ext.alloc _ _))
      have HEB := hid (show Ext wr (WB.alloc (.cells #[.string kB, .int .i64 nB, .string xB, .slice aB lB lB] 26)) from Ext.trans HEA.out XPB.out)
      have HBXB := hid (show (WB.alloc (.cells #[.string kB, .int .i64 nB, .string xB, .slice aB lB lB] 26)).heap[WB.heap.size]? = some (.cells #[.string kB, .int .i64 nB, .string xB, .slice aB lB lB] 26) from blk0 _ _)
      have hSzB : WA.heap.size + 1 ≤ WB.heap.size := by have := hxB.size; (try simp only [World.size_alloc] at this); exact this
      have HGB := hid (show Own (WB.alloc (.cells #[.string kB, .int .i64 nB, .string xB, .slice aB lB lB] 26)) 64 (.agg #[.string kB, .int .i64 nB, .string xB, .slice aB lB lB]) tB sB ∧ tB.size ≤ 1024 ∧ (∀ q ∈ sB, WA.heap.size + 1 ≤ q ∧ q < WB.heap.size) ∧ sB.Nodup from ⟨hoB.keep ((Ext.alloc _ _).kp _), hzB, fun q hq => ⟨by have := hbB q hq; (try simp only [World.size_alloc] at this); exact this, hoB.lt q hq⟩, hnB⟩)
      clear hxB hoB hzB hbB hnB t0 t1 t2 t3 s9
      obtain ⟨t0, t1, t2, t3⟩ := four_of (HEB.out.block HB7.out)
      obtain ⟨_, _, _, _, _, _, _, _, s9⟩ := eleven_of (HEB.out.block HOb.out)
      obtain ⟨s0, s1, s2, s3⟩ := four_of (HEB.out.block HB8.out)
      go_wp2_with fail
      refine (CC.out _ HEB.out).mono ?_
      rintro e WC ⟨hxC, vC, eC, rfl, hgC⟩
      obtain ⟨tC, sC, kC, nC, xC, aC, lC, rfl, hoC, hzC, hbC, hnC⟩ := hgC
      have XPC := hid (show Ext (WB.alloc (.cells #[.string kB, .int .i64 nB, .string xB, .slice aB lB lB] 26)) (WC.alloc (.cells #[.string kC, .int .i64 nC, .string xC, .slice aC lC lC] 26)) from hxC.trans (Ext.alloc _ _))
      have HEC := hid (show Ext wr (WC.alloc (.cells #[.string kC, .int .i64 nC, .string xC, .slice aC lC lC] 26)) from Ext.trans HEB.out XPC.out)
      have HBXC := hid (show (WC.alloc (.cells #[.string kC, .int .i64 nC, .string xC, .slice aC lC lC] 26)).heap[WC.heap.size]? = some (.cells #[.string kC, .int .i64 nC, .string xC, .slice aC lC lC] 26) from blk0 _ _)
      have hSzC : WB.heap.size + 1 ≤ WC.heap.size := by have := hxC.size; (try simp only [World.size_alloc] at this); exact this
      have HGC := hid (show Own (WC.alloc (.cells #[.string kC, .int .i64 nC, .string xC, .slice aC lC lC] 26)) 64 (.agg #[.string kC, .int .i64 nC, .string xC, .slice aC lC lC]) tC sC ∧ tC.size ≤ 1024 ∧ (∀ q ∈ sC, WB.heap.size + 1 ≤ q ∧ q < WC.heap.size) ∧ sC.Nodup from ⟨hoC.keep ((Ext.alloc _ _).kp _), hzC, fun q hq => ⟨by have := hbC q hq; (try simp only [World.size_alloc] at this); exact this, hoC.lt q hq⟩, hnC⟩)
      clear hxC hoC hzC hbC hnC t0 t1 t2 t3 s9 s0 s1 s2 s3
      clear CA CB CC
      have p0 := cell_of (i := 0) (HEC.out.block HPb.out) rfl
      simp only [List.getElem_toArray, List.getElem_cons_zero] at p0
      obtain ⟨xa0, xa1, xa2, xa3⟩ := four_of ((XPB.out.trans XPC.out).block HBXA.out)
      obtain ⟨xb0, xb1, xb2, xb3⟩ := four_of (XPC.out.block HBXB.out)
      obtain ⟨xc0, xc1, xc2, xc3⟩ := four_of HBXC.out
      have hEP : Ext wr ((WC.alloc (.cells #[.string kC, .int .i64 nC, .string xC, .slice aC lC lC] 26)).alloc (.cells (twelve kA nA xA aA lA kB nB xB aB lB kC nC xC aC lC) 26)) := HEC.out.more _
      have HCK := hid ((HFA.out.ext hEP).keep3 (pb := WC.heap.size + 1) (by omega) (blkN (blkS _ _)) (HGA.out.1.keep (((XPB.out.trans XPC.out).more _).kp _)) (HGB.out.1.keep ((XPC.out.more _).kp _)) (HGC.out.1.keep ((Ext.alloc _ _).kp _)) HGA.out.2.1 HGB.out.2.1 HGC.out.2.1 HGA.out.2.2.2 HGB.out.2.2.2 HGC.out.2.2.2 (c1 := WA.heap.size) (c2 := WB.heap.size) (fun q hq => ⟨by have := HGA.out.2.2.1 q hq; omega, fun e => by have := HGA.out.2.2.1 q hq; have := hM2lt q e; omega, (HGA.out.2.2.1 q hq).2⟩) (fun q hq => ⟨by have := HGB.out.2.2.1 q hq; omega, fun e => by have := HGB.out.2.2.1 q hq; have := hM2lt q e; omega, by have := HGB.out.2.2.1 q hq; omega, (HGB.out.2.2.1 q hq).2⟩) (fun q hq => ⟨by have := HGC.out.2.2.1 q hq; omega, fun e => by have := HGC.out.2.2.1 q hq; have := hM2lt q e; omega, by have := HGC.out.2.2.1 q hq; omega⟩) (by omega) (by omega))
      go_wp2_with fail
      refine HCK.out.mono ?_
      rintro e WD ⟨⟨vD, rfl⟩, M3, hfa3⟩
      have HFA3 := hid hfa3
      obtain ⟨hb7, hb8, hO, hP, hm1, hm2, hXw, hM3⟩ := STD.out _ _ _ _ hfa3
      have CK := hid (fun X (Y : Ext WD X) => kinds_face X (hm1.rd.later Y))
      have hM3lt := hfa3.1.lt
      have hVD := hfa3.2.1.size
      clear p0 xa0 xa1 xa2 xa3 xb0 xb1 xb2 xb3 xc0 xc1 xc2 xc3 HCK hEP hfa3 hb8 hO hP hm1 hm2 hXw hM3 hM2lt
      obtain ⟨t0, t1, t2, t3⟩ := four_of hb7
      clear hb7
      go_wp2_with fail
      refine (CK.out _ (Ext.refl _)).mono ?_
      rintro e WE ⟨aE, cE, ns, rfl, hns, hrow, hxE⟩
      have hnl : ns.length ≤ 1000000 := by
        rw [hns]
        split
        · rename_i hsm; have := kindsOf_len (T.all [] t); rw [T.all_length] at this; have := hsm.1; omega
        · simp
      have HROW := hid hrow
      have HXE := hid hxE
      have HCL := hid (((HFA3.out.ext hxE).ext (Ext.alloc WE (.cells #[.slice aE ns.length cE] 49))).lkeep (pb := WE.heap.size) (w0 := WE) (by omega) (rowBase_mono hrow hVD) (Ext.alloc _ _) (blk0 _ _) hnl (fun q hq e => by have := (ownsRow_block hrow hq).1; have := hM3lt q e; omega) (fun e => by have := hM3lt _ e; have := hxE.size; omega) (by omega))
      clear t0 t1 t2 t3 CK hrow hxE hns
      go_wp2_with fail
      refine HCL.out.mono ?_
      rintro e WF ⟨⟨vF, rfl⟩, M4, hfa4⟩
      have HFA4 := hid hfa4
      clear hfa4 HCL
      go_wp2_with fail
      go_roundw
      case rel => exact ⟨i9 + 1, M4, by omega, by go_num, by rw [show 4 * j + 2 * (i9 + 1) = 4 * j + 2 * i9 + 1 + 1 by omega]; exact HFA4.out⟩
      case measure => simp [intOf]; omega
    · have hi2' : decide ((i9 : Int) < 2) = false := decide_eq_false (by omega)
      have hi3 : i9 = 2 := by omega
      subst hi3
      have HB7 := hid hb7
      have HB8 := hid hb8
      have HOb := hid hO
      have HPb := hid hP
      have CA := hid (fun X (Y : Ext wr X) => copyG X (hm1.rd.later Y))
      have CB := hid (fun X (Y : Ext wr X) => atG X pa pc p (hm1.rd.later Y) (HI.out.later (hXw.trans Y)) (by omega))
      have CC := hid (fun X (Y : Ext wr X) => putG X pa pc p (hm1.rd.later Y) (hm2.rd.later Y) (HI.out.later (hXw.trans Y)) (by omega))
      have HM1 := hid hm1
      have HXw := hid hXw
      have HM2b := hid hM2
      obtain ⟨t0, t1, t2, t3⟩ := four_of hb7
      clear hb7 hb8 hO hP hm1 hm2 hXw hM2
      go_wp2_with fail
      refine (CA.out _ (Ext.refl _)).mono ?_
      rintro e WA ⟨hxA, vA, eA, rfl, hgA⟩
      obtain ⟨tA, sA, kA, nA, xA, aA, lA, rfl, hoA, hzA, hbA, hnA⟩ := hgA
      have XPA := hid (show Ext wr (WA.alloc (.cells #[.string kA, .int .i64 nA, .string xA, .slice aA lA lA] 26)) from hxA.trans (Ext.alloc _ _))
      have HEA := hid (show Ext wr (WA.alloc (.cells #[.string kA, .int .i64 nA, .string xA, .slice aA lA lA] 26)) from Ext.trans (Ext.refl _) XPA.out)
      have HBXA := hid (show (WA.alloc (.cells #[.string kA, .int .i64 nA, .string xA, .slice aA lA lA] 26)).heap[WA.heap.size]? = some (.cells #[.string kA, .int .i64 nA, .string xA, .slice aA lA lA] 26) from blk0 _ _)
      have hSzA : wr.heap.size ≤ WA.heap.size := by have := hxA.size; (try simp only [World.size_alloc] at this); exact this
      have HGA := hid (show Own (WA.alloc (.cells #[.string kA, .int .i64 nA, .string xA, .slice aA lA lA] 26)) 64 (.agg #[.string kA, .int .i64 nA, .string xA, .slice aA lA lA]) tA sA ∧ tA.size ≤ 1024 ∧ (∀ q ∈ sA, wr.heap.size ≤ q ∧ q < WA.heap.size) ∧ sA.Nodup from ⟨hoA.keep ((Ext.alloc _ _).kp _), hzA, fun q hq => ⟨by have := hbA q hq; (try simp only [World.size_alloc] at this); exact this, hoA.lt q hq⟩, hnA⟩)
      clear hxA hoA hzA hbA hnA t0 t1 t2 t3
      obtain ⟨t0, t1, t2, t3⟩ := four_of (HEA.out.block HB7.out)
      obtain ⟨_, _, _, _, _, _, _, _, s9⟩ := eleven_of (HEA.out.block HOb.out)
      go_wp2_with fail
      refine (CB.out _ HEA.out).mono ?_
      rintro e WB ⟨hxB, vB, eB, rfl, hgB⟩
      obtain ⟨tB, sB, kB, nB, xB, aB, lB, rfl, hoB, hzB, hbB, hnB⟩ := hgB
      have XPB := hid (show Ext (WA.alloc (.cells #[.string kA, .int .i64 nA, .string xA, .slice aA lA lA] 26)) (WB.alloc (.cells #[.string kB, .int .i64 nB, .string xB, .slice aB lB lB] 26)) from hxB.trans (Ext.alloc _ _))
      have HEB := hid (show Ext wr (WB.alloc (.cells #[.string kB, .int .i64 nB, .string xB, .slice aB lB lB] 26)) from Ext.trans HEA.out XPB.out)
      have HBXB := hid (show (WB.alloc (.cells #[.string kB, .int .i64 nB, .string xB, .slice aB lB lB] 26)).heap[WB.heap.size]? = some (.cells #[.string kB, .int .i64 nB, .string xB, .slice aB lB lB] 26) from blk0 _ _)
      have hSzB : WA.heap.size + 1 ≤ WB.heap.size := by have := hxB.size; (try simp only [World.size_alloc] at this); exact this
      have HGB := hid (show Own (WB.alloc (.cells #[.string kB, .int .i64 nB, .string xB, .slice aB lB lB] 26)) 64 (.agg #[.string kB, .int .i64 nB, .string xB, .slice aB lB lB]) tB sB ∧ tB.size ≤ 1024 ∧ (∀ q ∈ sB, WA.heap.size + 1 ≤ q ∧ q < WB.heap.size) ∧ sB.Nodup from ⟨hoB.keep ((Ext.alloc _ _).kp _), hzB, fun q hq => ⟨by have := hbB q hq; (try simp only [World.size_alloc] at this); exact this, hoB.lt q hq⟩, hnB⟩)
      clear hxB hoB hzB hbB hnB t0 t1 t2 t3 s9
      obtain ⟨t0, t1, t2, t3⟩ := four_of (HEB.out.block HB7.out)
      obtain ⟨_, _, _, _, _, _, _, _, s9⟩ := eleven_of (HEB.out.block HOb.out)
      obtain ⟨s0, s1, s2, s3⟩ := four_of (HEB.out.block HB8.out)
      go_wp2_with fail
      refine (CC.out _ HEB.out).mono ?_
      rintro e WC ⟨hxC, vC, eC, rfl, hgC⟩
      obtain ⟨tC, sC, kC, nC, xC, aC, lC, rfl, hoC, hzC, hbC, hnC⟩ := hgC
      have XPC := hid (show Ext (WB.alloc (.cells #[.string kB, .int .i64 nB, .string xB, .slice aB lB lB] 26)) (WC.alloc (.cells #[.string kC, .int .i64 nC, .string xC, .slice aC lC lC] 26)) from hxC.trans (Ext.alloc _ _))
      have HEC := hid (show Ext wr (WC.alloc (.cells #[.string kC, .int .i64 nC, .string xC, .slice aC lC lC] 26)) from Ext.trans HEB.out XPC.out)
      have HBXC := hid (show (WC.alloc (.cells #[.string kC, .int .i64 nC, .string xC, .slice aC lC lC] 26)).heap[WC.heap.size]? = some (.cells #[.string kC, .int .i64 nC, .string xC, .slice aC lC lC] 26) from blk0 _ _)
      have hSzC : WB.heap.size + 1 ≤ WC.heap.size := by have := hxC.size; (try simp only [World.size_alloc] at this); exact this
      have HGC := hid (show Own (WC.alloc (.cells #[.string kC, .int .i64 nC, .string xC, .slice aC lC lC] 26)) 64 (.agg #[.string kC, .int .i64 nC, .string xC, .slice aC lC lC]) tC sC ∧ tC.size ≤ 1024 ∧ (∀ q ∈ sC, WB.heap.size + 1 ≤ q ∧ q < WC.heap.size) ∧ sC.Nodup from ⟨hoC.keep ((Ext.alloc _ _).kp _), hzC, fun q hq => ⟨by have := hbC q hq; (try simp only [World.size_alloc] at this); exact this, hoC.lt q hq⟩, hnC⟩)
      clear hxC hoC hzC hbC hnC t0 t1 t2 t3 s9 s0 s1 s2 s3
      clear CA CB CC
      have p0 := cell_of (i := 0) (HEC.out.block HPb.out) rfl
      simp only [List.getElem_toArray, List.getElem_cons_zero] at p0
      obtain ⟨xa0, xa1, xa2, xa3⟩ := four_of ((XPB.out.trans XPC.out).block HBXA.out)
      obtain ⟨xb0, xb1, xb2, xb3⟩ := four_of (XPC.out.block HBXB.out)
      obtain ⟨xc0, xc1, xc2, xc3⟩ := four_of HBXC.out
      have hEP : Ext wr ((WC.alloc (.cells #[.string kC, .int .i64 nC, .string xC, .slice aC lC lC] 26)).alloc (.cells (twelve kA nA xA aA lA kB nB xB aB lB kC nC xC aC lC) 26)) := HEC.out.more _
      have HCK := hid ((HFA.out.ext hEP).take3 (pb := WC.heap.size + 1) (by omega) (blkN (blkS _ _)) (HGA.out.1.keep (((XPB.out.trans XPC.out).more _).kp _)) (HGB.out.1.keep ((XPC.out.more _).kp _)) (HGC.out.1.keep ((Ext.alloc _ _).kp _)) HGA.out.2.1 HGB.out.2.1 HGC.out.2.1 HGA.out.2.2.2 HGB.out.2.2.2 HGC.out.2.2.2 (c1 := WA.heap.size) (c2 := WB.heap.size) (fun q hq => ⟨by have := HGA.out.2.2.1 q hq; omega, fun e => by have := HGA.out.2.2.1 q hq; have := hM2lt q e; omega, (HGA.out.2.2.1 q hq).2⟩) (fun q hq => ⟨by have := HGB.out.2.2.1 q hq; omega, fun e => by have := HGB.out.2.2.1 q hq; have := hM2lt q e; omega, by have := HGB.out.2.2.1 q hq; omega, (HGB.out.2.2.1 q hq).2⟩) (fun q hq => ⟨by have := HGC.out.2.2.1 q hq; omega, fun e => by have := HGC.out.2.2.1 q hq; have := hM2lt q e; omega, by have := HGC.out.2.2.1 q hq; omega, by have := HGC.out.2.2.1 q hq; omega⟩) (by omega) (by omega))
      go_wp2_with fail
      refine HCK.out.mono ?_
      rintro e WD ⟨⟨vD, rfl⟩, M3, hfa3⟩
      have HFA3 := hid hfa3
      have hM3lt := hfa3.1.lt
      have hVD := hfa3.2.1.size
      clear p0 xa0 xa1 xa2 xa3 xb0 xb1 xb2 xb3 xc0 xc1 xc2 xc3 HCK hEP hfa3 hM2lt HBXA HBXB HBXC HEA HEB HEC XPA XPB XPC HGA HGB HGC hSzA hSzB hSzC HB7 HB8 HOb HPb HFA HM1 HXw HM2b
      obtain ⟨hb7, hb8, hO, hP, hm1, hm2, hXw, hM3⟩ := STD.out _ _ _ _ HFA3.out
      have HB7 := hid hb7
      have CE := hid (fun X (Y : Ext WD X) => each_face X (hm1.rd.later Y))
      have HM1 := hid hm1
      have HM2 := hid hm2
      have HXD := hid hXw
      have HM3 := hid hM3
      have HPD := hid hP
      have HOD := hid hO
      have HB8 := hid hb8
      obtain ⟨t0, t1, t2, t3⟩ := four_of ((Ext.alloc WD (.cells #[.int .i64 0] 3)).block hb7)
      clear hb7 hb8 hO hP hm1 hm2 hXw hM3
      go_wp2_with fail
      refine (CE.out _ (Ext.alloc _ _)).mono ?_
      rintro e WE ⟨hxE, eb, ob, kE, nE, xE, aE, lE, cE, rfl, heb, hob, hbo, hcase⟩
      obtain ⟨bsE, hbsE, hit⟩ := nest_iter hbo hcase
      have HIT := hid hit
      have XE := hid ((Ext.alloc WD (.cells #[.int .i64 0] 3)).trans hxE)
      have HKB := hid (hxE.block (blk0 WD (.cells #[.int .i64 0] 3)))
      have hsE := lt_of_block HKB.out
      obtain ⟨ys, hys⟩ : ∃ ys, (if t.small then T.all [] t else []) = ys := ⟨_, rfl⟩
      have HYS := hid hys
      have hN1 : ys.length ≤ 1024 := by
        rw [← hys]
        split
        · rename_i h; rw [T.all_length]; exact h.1
        · exact Nat.zero_le _
      rw [hys] at HIT
      have h0 : fkI b (b + 2) (b + 3) (50 * j + 1) (4 * j + 2 * 2) WD.heap.size (fun q => q = WD.heap.size ∨ M3 q) 0 WE := ⟨M3, (HFA3.out.ext XE.out).1, rfl, fun e => by have := hM3lt _ e; omega, HKB.out, by omega⟩
      have H0 := hid h0
      have HBSE := hid hbsE
      have hebl : eb < WE.heap.size := by rcases hcase with ⟨_, h, _⟩ | ⟨_, h⟩ <;> exact lt_of_block h
      have hobl := lt_of_block hbo
      clear t0 t1 t2 t3 hit hbsE hbo hcase hxE CE hys h0
      go_wp2_with fail
      refine (wpIn_wide (n := 0)).1 ?_
      refine range_cut (fun D Z => ∃ M1, FA b (b + 2) (b + 3) V3 M (50 * j + 41) (4 * j + 4) M1 Z ∧ Z.heap[D]? = some (.deferred (some [])) ∧ ¬ M1 D ∧ WE.heap.size ≤ D) ?cont1 ?loop1
      case loop1 =>
        intro hC
        have HC := hid hC
        clear hC
        refine rangeM rfl (enters_of Try.func45 (by kernel_rfl) rfl) ys.length (fun q => q = WD.heap.size ∨ M3 q) (eachX t WE.heap.size)
          (HIT.out WE _ (Kp.refl _ _) (fun q hq hb => hq.elim (fun e => by have := (HBSE.out q hb).1; have hs1 : (WD.alloc (.cells #[.int .i64 0] 3)).heap.size = WD.heap.size + 1 := blkS _ _; omega) (fun e => by have := (HBSE.out q hb).1; have hs1 : (WD.alloc (.cells #[.int .i64 0] 3)).heap.size = WD.heap.size + 1 := blkS _ _; have := hM3lt q e; omega))) eachX_size eachX_mono eachX_new
          (fkI b (b + 2) (b + 3) (50 * j + 1) (4 * j + 2 * 2) WD.heap.size) (fkX b (b + 2) (b + 3) (50 * j + 1) (4 * j + 2 * 2) WD.heap.size 4)
          (fun M' i Z h => h.lt) (fun M' i Z Z' h hk => h.keep hk (fun q hq => .inr hq)) (fun c M' Z h => h.lt) (fun c M' Z Z' h hk => h.keep hk (fun q hq => .inr hq)) H0.out ?round1 ?done1 ?stop1
        case round1 =>
          go_light
          as_aux_lemma =>
            rintro l2 M' i Z args E hl2 ⟨r2, hr2⟩ hml hel hi hI ⟨pv, tv, p1, u1, d1, bs1, rfl, hL, hpw, hown, hnd, hpb, rfl, hE⟩ hk5 h4
            obtain ⟨u0', u1', u2', u3', rfl⟩ := hown.rd.agg
            obtain ⟨kS, nS, xS, aS, cS, rfl, rfl, rfl, rfl⟩ := hown.rd.shape
            obtain ⟨paS, pcS, rfl⟩ := hpw.shape
            generalize (T.kids u1).length = lS at hown
            have hsm : t.small := by
              by_cases hs : t.small
              · exact hs
              · have h := HYS.out; rw [if_neg hs] at h; rw [← h] at hi; exact absurd hi (Nat.not_lt_zero _)
            have hus := T.at_small hsm (path_at hL)
            have hplS : p1.length ≤ 64 := path_len hsm hL
            have hiN : i < 1024 := by
              have h := HYS.out
              rw [if_pos hsm] at h
              have := T.all_length t []
              rw [h] at this
              have := hsm.1
              omega
            have HOWN := hid hown
            have HPW := hid hpw
            have HIR := hid hI
            have HE := hid hE
            have HK5 := hid hk5
            have H4 := hid h4
            have HR2 := hid hr2
            have HND := hid hnd
            have HPB := hid hpb
            clear hown hpw hI hE hk5 h4 hr2 hnd hpb hL
            gi_wp2_with fail
            refine ⟨Ext.alloc _ _, fun W₂ hk2 r3 hr3 => ?_⟩
            have hzl : Z.heap.size ≠ l2 := by have := lt_of_block HR2.out; omega
            have hbx := hk2.block' (blk0 Z _) hzl
            have hkz : Kp (· ≠ l2) Z W₂ := ((Ext.alloc Z _).kp _).trans hk2
            have HBX := hid hbx
            have HKZ := hid hkz
            have HI2 := hid (HIR.out.keep hkz (fun q hq (e : q = l2) => hml (e ▸ hq)))
            have HO2 := hid (HOWN.out.keep (hkz.mono (fun q _ hq (e : q = l2) => hel (.inr (e ▸ hq)))))
            have hpw2 : PathW W₂ WE.heap.size (.slice paS p1.length pcS) p1 := HPW.out.keep hkz (fun q hq (e : q = l2) => hel (.inl (e ▸ hq)))
            have HPW2 := hid hpw2
            have hnb1 : ¬ (b + 1 = WD.heap.size ∨ M3 (b + 1)) := fun e => by
              rcases e with e | e
              · omega
              · rcases HM3.out _ e with h | h | h <;> omega
            have HP2 := hid (hkz.block' (HK5.out.block' (XE.out.block HPD.out) hnb1) (show b + 1 ≠ l2 by omega))
            have hsz2 : Z.heap.size < W₂.heap.size := lt_of_block hbx
            have wf : ∀ f, Fence.wide.fn f := fun _ => trivial
            have wd : Fence.wide.depth = none := rfl
            clear hk2 hkz hbx hpw2 hr3
            gi_wp2_with fail
            gi_loopw [25] (fun k wq => ∃ (kk : Nat) (xs : List Value), kk ≤ p1.length ∧ k = .int .i64 kk ∧ wq.ownsRow WE.heap.size 3 1 (.slice paS p1.length pcS) p1.length xs ∧ Kp (fun q => (Value.slice paS p1.length pcS).ownBlock ≠ some q) W₂ wq) (fun k _ => p1.length - (intOf k).toNat)
            case atStart => exact ⟨0, _, Nat.zero_le _, rfl, HPW2.out, Kp.refl _ _⟩
            case round =>
              obtain ⟨kk, xs, hkk, rfl, hrow, hkq⟩ := hrel
              have HROW := hid hrow
              have HKQ := hid hkq
              by_cases hkl : kk < p1.length
              · have hkl' : (kk : Int) < p1.length := by omega
                rcases hrow.2 with ⟨_, h0⟩ | ⟨g, cap, cur, hv, _, hc, h1, _, h3, _⟩
                · omega
                simp only [Value.slice.injEq] at hv
                obtain ⟨rfl, _, rfl⟩ := hv
                have c0 := cell_of (i := kk) hc (Array.getElem?_eq_getElem (by omega))
                have f0 := frozen_of (i := kk) hc
                clear hrow hkq hc
                gi_wp2_with fail
                go_roundw
                case rel => exact ⟨kk + 1, _, hkl, by go_num, row_setAt HROW.out _, HKQ.out.trans (Kp.set _ _ _ _ (fun h => h rfl))⟩
                case measure => simp [intOf]; omega
              · have hke : kk = p1.length := by omega
                obtain ⟨i1, hi1, hu0, hu1, hu2⟩ := info_parts intInfo
                have xr2 := ownsRow_keep HROW.out ((Ext.alloc wr (.cells #[.int .i64 (-2)] 3)).kp (fun _ => True)) (fun _ _ => trivial)
                have hs5 := HK5.out.size
                have hsq := HKQ.out.size
                have HNP := hid (show ∀ q, (Value.slice paS p1.length pcS).ownBlock = some q → WE.heap.size ≤ q ∧ ¬ M' q ∧ q ∉ bs1 ∧ q < Z.heap.size from fun q hq => ⟨(HE.out q (.inl hq)).2.2, (HE.out q (.inl hq)).1, fun e => HPB.out q e hq, (HE.out q (.inl hq)).2.1⟩)
                have HKA := hid (show ∀ w9, (wr.alloc (.cells #[.int .i64 (-2)] 3)).grownBy w9 (Value.slice paS p1.length pcS).ownBlock → Kp (fun q => (Value.slice paS p1.length pcS).ownBlock ≠ some q) W₂ w9 from fun w9 hg => (HKQ.out.trans ((Ext.alloc wr _).kp _)).trans ⟨hg.os, hg.tape, hg.output, hg.size, fun q hq hne => hg.block q hq (fun e => hne e.symm)⟩)
                have hne0 : (((p1.length : Int) + 1) == 0) = false := by rw [beq_eq_false_iff_ne]; omega
                have hplI : (p1.length : Int) ≤ 64 := by omega
                clear hrow hkq
                have hb1E : b + 1 < WE.heap.size := by omega
                have HC0 := hid (show ∀ w9, Kp (fun q => (Value.slice paS p1.length pcS).ownBlock ≠ some q) W₂ w9 → w9.cell? ⟨b + 1, 0, none⟩ = some (.pointer (some ⟨b, 0, none⟩)) ∧ w9.heap[Z.heap.size]? = some (.cells #[.string kS, .int .i64 nS, .string xS, .slice aS lS cS] 26) from fun w9 kA => ⟨cell_of (kA.block' HP2.out (fun e => by have := (HNP.out _ e).1; omega)) rfl, kA.block' HBX.out (fun e => by have := (HNP.out _ e).2.2.2; omega)⟩)
                gi_wp2_with (gi_at_builtin; refine wpListIn_append_own_at _ rfl _ _ 27 rfl WE.heap.size 3 i1 (.int .i64 0) 1 8 Try.underlying27 hi1 hu0 hu1 hu2 rfl (by decide) _ _ _ rfl xr2 ⟨wr.heap.size, 0, none⟩ 1 1 [.int .i64 (-2)] rfl rfl (cell_one_new _ _ _) (by simp [Value.oneCell']) (by unfold maxLen; omega) (by omega) (by rw [blkS]; omega) ?_; intro v9 w9 hown9 hgrow9 _ hat9; obtain ⟨a9, c9, rfl⟩ := ownsRow_slice hown9; have kA := HKA.out w9 hgrow9; obtain ⟨p0, hbx9⟩ := HC0.out w9 kA; obtain ⟨q0, q1, q2, q3⟩ := four_of hbx9)
                have HA := hid kA
                have hs9 := kA.size
                have HTK := hid ((HI2.out.keep (kA.alloc (.cells #[.string kS, .int .i64 nS, .string xS, .slice aS lS cS] 26)) (fun q hq e => (HNP.out q e).2.1 hq)).take (pb := w9.heap.size) (by rw [blkS]; omega) (by omega) (blk0 _ _) (HO2.out.keep ((kA.alloc _).mono (fun q _ hq e => (HNP.out q e).2.2.1 hq))) ⟨hus.1, hus.2.1⟩ HND.out (fun q hq => ⟨by have := (HE.out q (.inr hq)).2.2; omega, (HE.out q (.inr hq)).1⟩) (fun e => by have := (HE.out _ (.inr e)).2.1; omega))
                clear kA p0 hbx9 q0 q1 q2 q3 hown9 hgrow9 hat9
                refine (CallsIn.inRound l2 (callsIn_wide.2 HTK.out)).mono ?_
                rintro e W5 ⟨⟨v5, rfl⟩, M1, M2, hF2, hMe, hkb, hnk, hi40, hk6, hq6⟩
                have KF := hid (show Kp (fun q => ¬ (M' q ∨ ((Value.slice paS p1.length pcS).ownBlock = some q ∨ q ∈ bs1))) W₂ W5 from ((HA.out.mono (fun q _ hq e => hq (.inr (.inl e)))).alloc _).trans (hk6.mono (fun q _ hq => ⟨fun e => hq (.inl (by rw [hMe]; exact .inr e)), fun e => hq (.inr (.inr e))⟩)))
                have HQ := hid (show ∀ q, (q = WD.heap.size ∨ M2 q) → M' q ∨ ((Value.slice paS p1.length pcS).ownBlock = some q ∨ q ∈ bs1) ∨ Z.heap.size ≤ q from fun q hq => by
                  rcases hq with e | e
                  · exact .inl (by rw [hMe]; exact .inl e)
                  · rcases hq6 q e with e | e | e
                    · exact .inl (by rw [hMe]; exact .inr e)
                    · exact .inr (.inl (.inr e))
                    · exact .inr (.inr (by rw [blkS] at e; omega)))
                have hMk : M' WD.heap.size := by rw [hMe]; exact .inl rfl
                have HFN := hid (fun (mI : Int) (e : mI = ((i + 1 : Nat) : Int)) (h40 : i + 1 < 40) => (show bodyR (fkI b (b + 2) (b + 3) (50 * j + 1) (4 * j + 2 * 2) WD.heap.size) (fkX b (b + 2) (b + 3) (50 * j + 1) (4 * j + 2 * 2) WD.heap.size 4) M' (fun k => (Value.slice paS p1.length pcS).ownBlock = some k ∨ k ∈ bs1) i Z W₂ .normal { tmps := #[], defers := [] } (W5.setCell ⟨WD.heap.size, 0, none⟩ (.int .i64 mI)) from
                  ⟨KF.out.trans (Kp.set _ _ _ _ (fun h => h (.inl hMk))), _, ⟨M2, hF2.keep (Kp.set (K := (· ≠ WD.heap.size)) _ _ _ _ (fun h => h rfl)) (fun q hq (e : q = WD.heap.size) => hnk (e ▸ hq)), rfl, hnk, by rw [e]; exact set_one hkb, h40⟩, HQ.out⟩))
                have HFX := hid (fun (mI : Int) (h40 : i + 1 = 40) => (show bodyR (fkI b (b + 2) (b + 3) (50 * j + 1) (4 * j + 2 * 2) WD.heap.size) (fkX b (b + 2) (b + 3) (50 * j + 1) (4 * j + 2 * 2) WD.heap.size 4) M' (fun k => (Value.slice paS p1.length pcS).ownBlock = some k ∨ k ∈ bs1) i Z W₂ (.exit 4) { tmps := #[], defers := [] } (W5.setCell ⟨WD.heap.size, 0, none⟩ (.int .i64 mI)) from
                  ⟨KF.out.trans (Kp.set _ _ _ _ (fun h => h (.inl hMk))), _, ⟨rfl, M2, by rw [← h40]; exact hF2.keep (Kp.set (K := (· ≠ WD.heap.size)) _ _ _ _ (fun h => h rfl)) (fun q hq (e : q = WD.heap.size) => hnk (e ▸ hq)), rfl, hnk, _, set_one hkb⟩, HQ.out⟩))
                have c0 := cell_of (i := 0) hkb rfl
                have fz := frozen_of (i := 0) hkb
                simp only [List.getElem_toArray, List.getElem_cons_zero] at c0
                clear hF2 hMe hkb hk6 hq6 hnk HTK
                by_cases h39 : i + 1 = 40
                · have h39' : (((i : Int) + 1) == 40) = true := by rw [beq_iff_eq]; omega
                  gi_wp2_with fail
                  exact HFX.out _ h39
                · have h39' : (((i : Int) + 1) == 40) = false := by rw [beq_eq_false_iff_ne]; omega
                  gi_wp2_with fail
                  exact HFN.out _ (by push_cast; rfl) (by omega)
        case stop1 =>
          rintro D Z c' M' hD ⟨rfl, M1, hF1, rfl, hn1, vk, hkb1⟩ hd hmd hsub hk
          have hA := HC.out D Z ⟨M1, (HFA3.out.ext XE.out).step (hF1.up (by omega) (by omega)) (hk.mono (fun q _ hq e => e.elim (fun e => by have := hq.2; omega) (fun e => hq.1 e))) (fun q e => (hsub q (.inr e)).elim (fun e => e.elim (fun e => .inr (by omega)) .inl) (fun e => .inr (by omega))), hd, fun e => hmd (.inr e), hD⟩
          refine wpIn_exit ?_
          simpa only [Exit.inBlock, if_true] using hA
        case done1 =>
          rintro D Z M' hD ⟨M1, hF1, rfl, hn1, hkb1, _⟩ hd hmd hsub hk
          exact HC.out D Z ⟨M1, (HFA3.out.ext XE.out).step (hF1.up (by omega) (by omega)) (hk.mono (fun q _ hq e => e.elim (fun e => by have := hq.2; omega) (fun e => hq.1 e))) (fun q e => (hsub q (.inr e)).elim (fun e => e.elim (fun e => .inr (by omega)) .inl) (fun e => .inr (by omega))), hd, fun e => hmd (.inr e), hD⟩
      case cont1 =>
        rintro D1 Z1 ⟨M4, hfa4, hd1, hmd1, hD1⟩
        obtain ⟨hb7, hb8, hO, hP, hm1, hm2, hXw, hM4⟩ := STD.out _ _ _ _ hfa4
        have HFA4 := hid hfa4
        have HB7 := hid hb7
        have HB8 := hid hb8
        have HO4 := hid hO
        have HM1 := hid hm1
        have HM2 := hid hm2
        have HXw := hid hXw
        have HM4 := hid hM4
        have HD1 := hid hd1
        have HMD1 := hid hmd1
        have CK := hid (fun X (Y : Ext Z1 X) => kinds_face X (hm1.rd.later Y))
        obtain ⟨t0, t1, t2, t3⟩ := four_of hb7
        have hM4lt := hfa4.1.lt
        have hV4 := hfa4.2.1.size
        have hD1l := lt_of_block hd1
        clear hb7 hb8 hO hP hm1 hm2 hXw hM4 hfa4 hd1 hmd1
        go_wp2_with fail
        refine (CK.out _ (Ext.refl _)).mono ?_
        rintro e WE2 ⟨aN, cN, ns, rfl, hns, hrow, hxN⟩
        have hnl : ns.length ≤ 1024 := by
          rw [hns]
          split
          · rename_i hsm; have := kindsOf_len (T.all [] t); rw [T.all_length] at this; have := hsm.1; omega
          · simp
        have HROW := hid hrow
        have HXN := hid hxN
        clear t0 t1 t2 t3 CK hrow hxN hns
        go_wp2_with fail
        go_loopw [27] (fun k wq => ∃ (kk : Nat) (xs : List Value), kk ≤ ns.length ∧ k = .int .i64 kk ∧ wq.ownsRow Z1.heap.size 9 1 (.slice aN ns.length cN) ns.length xs ∧ Ext Z1 wq) (fun k _ => ns.length - (intOf k).toNat)
        case atStart => exact ⟨0, _, Nat.zero_le _, rfl, HROW.out, HXN.out⟩
        case round =>
          obtain ⟨kk, xs, hkk, rfl, hrow, hxq⟩ := hrel
          have HROWq := hid hrow
          have HXQ := hid hxq
          by_cases hkl : kk < ns.length
          · have hkl' : (kk : Int) < ns.length := by omega
            rcases hrow.2 with ⟨_, h0⟩ | ⟨gN, cap, cur, hv, hgN, hc, h1, _, h3, _⟩
            · omega
            simp only [Value.slice.injEq] at hv
            obtain ⟨rfl, _, rfl⟩ := hv
            have c0 := cell_of (i := kk) hc (Array.getElem?_eq_getElem (by omega))
            have f0 := frozen_of (i := kk) hc
            clear hrow hxq hc
            go_wp2_with fail
            go_roundw
            case rel => exact ⟨kk + 1, _, hkl, by go_num, row_setAt HROWq.out _, Kp.extOf HXQ.out (Kp.set _ _ _ _ (fun h => h rfl)) hgN⟩
            case measure => simp [intOf]; omega
          · have CKT := hid (fun X (Y : Ext wr X) => kept_any X (HM1.out.later (hxq.trans Y)) (HRT.out.later (HXw.out.trans (hxq.trans Y))))
            have CKU := hid (fun X (Y : Ext wr X) => kept_any X (HM2.out.later (hxq.trans Y)) (HRU.out.later (HXw.out.trans (hxq.trans Y))))
            obtain ⟨t0, t1, t2, t3⟩ := four_of (hxq.block HB7.out)
            obtain ⟨o1, o2, o3, o4, o5, o6, o7, o8, _⟩ := eleven_of (hxq.block HO4.out)
            clear hrow hxq
            go_wp2_with fail
            refine (CKT.out _ (Ext.refl _)).mono ?_
            rintro e WG ⟨rfl, hxG⟩
            have HXG := hid hxG
            clear t0 t1 t2 t3 o1 o2 o3 o4 o5 o6 o7 o8 CKT
            obtain ⟨t0, t1, t2, t3⟩ := four_of ((HXQ.out.trans hxG).block HB8.out)
            obtain ⟨o1, o2, o3, o4, o5, o6, o7, o8, _⟩ := eleven_of ((HXQ.out.trans hxG).block HO4.out)
            clear hxG
            go_wp2_with fail
            refine (CKU.out _ HXG.out).mono ?_
            rintro e WH ⟨rfl, hxH⟩
            have XH := hid ((HXQ.out.trans HXG.out).trans hxH)
            clear t0 t1 t2 t3 o1 o2 o3 o4 o5 o6 o7 o8 CKU hxH
            have CE2 := hid (fun X (Y : Ext WH X) => each_face X (HM1.out.rd.later (XH.out.trans Y)))
            have CAL := hid (fun X (Y : Ext WH X) => refAll_any X (HRT.out.later (HXw.out.trans (XH.out.trans Y))))
            rw [HYS.out] at CAL
            obtain ⟨t0, t1, t2, t3⟩ := four_of (XH.out.block HB7.out)
            go_wp2_with fail
            refine (CE2.out _ (Ext.refl _)).mono ?_
            rintro e WI ⟨hxI, eb2, ob2, kF, nF, xF, aF, lF, cF, rfl, heb2, hob2, hbo2, hcase2⟩
            have XI := hid (XH.out.trans hxI)
            have e1 := ((HXw.out.trans XI.out).kp (fun _ => True)).cell HE.out.1 trivial
            have e2 := ((HXw.out.trans XI.out).kp (fun _ => True)).cell HE.out.2.1 trivial
            have e3 := ((HXw.out.trans XI.out).kp (fun _ => True)).cell HE.out.2.2.1 trivial
            have e4 := ((HXw.out.trans XI.out).kp (fun _ => True)).cell HE.out.2.2.2 trivial
            have HXI := hid hxI
            have HCS := hid (And.intro hbo2 hcase2)
            clear t0 t1 t2 t3 CE2 hxI hbo2 hcase2
            go_wp2_with fail
            refine (CAL.out _ HXI.out).mono ?_
            rintro e WJ ⟨vJ, xsJ, rfl, hstJ, hxJ⟩
            obtain ⟨la, lc, rfl⟩ := row5_slice hstJ.1
            have HSTJ := hid hstJ
            have HXJ := hid hxJ
            clear e1 e2 e3 e4 CAL hstJ hxJ
            have XK := hid ((XI.out.trans HXJ.out).more (.cells #[.slice la ys.length lc] 51))
            have HL29 := hid (blk0 WJ (.cells #[.slice la ys.length lc] 51))
            have hl1 : (l1 : Int) ≤ 2199023255488 := by have := HROOT.out.1; omega
            obtain ⟨g7, off7, hg7, hsp⟩ : ∃ g7 off7, (W.heap.size ≤ g7 ∧ g7 < V3.heap.size ∧ g7 ≠ T7) ∧ (l1 = 0 ∨ a1 = some ⟨g7, off7, none⟩ ∧ ∃ cs, Z1.heap[g7]? = some (.cells cs 26) ∧ off7 + l1 * 4 ≤ cs.size) := by
              rcases HROOT.out.2 with h0 | ⟨g7, off7, cs, ha, hk7, hc, hs⟩
              · exact ⟨W.heap.size, 0, ⟨Nat.le_refl _, by omega, by omega⟩, .inl h0⟩
              · have hk7' : V2.heap.size ≤ g7 ∧ g7 ≠ T7 ∧ g7 ≠ T8 := hk7
                exact ⟨g7, off7, ⟨by omega, lt_of_block hc, hk7'.2.1⟩, .inr ⟨ha, cs, HFA4.out.2.1.block' hc (HNM.out g7 (by omega)), hs⟩⟩
            have HSP := hid hsp
            obtain ⟨t0, t1, t2, t3⟩ := four_of (XK.out.block HB7.out)
            clear hsp
            go_wp2_with fail
            go_loopw [30] (fun k wq => ∃ kk : Nat, kk ≤ l1 ∧ k = .int .i64 kk ∧ Kp (· ≠ g7) (WJ.alloc (.cells #[.slice la ys.length lc] 51)) wq ∧ (l1 = 0 ∨ ∃ cu, wq.heap[g7]? = some (.cells cu 26) ∧ off7 + l1 * 4 ≤ cu.size)) (fun k _ => l1 - (intOf k).toNat)
            case atStart => exact ⟨0, Nat.zero_le _, rfl, Kp.refl _ _, HSP.out.imp id (fun ⟨_, cs, h1, h2⟩ => ⟨cs, XK.out.block h1, h2⟩)⟩
            case round =>
              obtain ⟨kk, hkk, rfl, hkq, hcu⟩ := hrel
              have HKQ := hid hkq
              clear t0 t1 t2 t3
              obtain ⟨t0, t1, t2, t3⟩ := four_of (hkq.block' (XK.out.block HB7.out) (fun e => hg7.2.2 e.symm))
              by_cases hkl : kk < l1
              · have hkl' : (kk : Int) < l1 := by omega
                rcases hcu with h0 | ⟨cu, hcu, hcs⟩
                · omega
                rcases HSP.out with h0 | ⟨ha, _⟩
                · omega
                subst ha
                have HCU := hid hcu
                have c0 := cell_of (i := off7 + kk * 4) hcu (Array.getElem?_eq_getElem (by omega))
                have c1' := cell_of (i := off7 + kk * 4 + 1) hcu (Array.getElem?_eq_getElem (by omega))
                have c2' := cell_of (i := off7 + kk * 4 + 2) hcu (Array.getElem?_eq_getElem (by omega))
                have c3' := cell_of (i := off7 + kk * 4 + 3) hcu (Array.getElem?_eq_getElem (by omega))
                have f0 := frozen_of (i := off7 + kk * 4) hcu
                have f1 := frozen_of (i := off7 + kk * 4 + 1) hcu
                have f2 := frozen_of (i := off7 + kk * 4 + 2) hcu
                have f3 := frozen_of (i := off7 + kk * 4 + 3) hcu
                clear hkq hcu
                go_wp2_with fail
                go_roundw
                case rel => exact ⟨kk + 1, hkl, by go_num, HKQ.out.trans (Kp.set4 _ _ _ _ _ _ _), .inr ⟨_, set4_block HCU.out _ _ _ _ _, by rw [set4A_size]; exact hcs⟩⟩
                case measure => simp [intOf]; omega
              · clear hcu hkq
                have hwl : decide ((kk : Int) < l1) = false := decide_eq_false (by omega)
                go_wp2_with fail
                refine (wpIn_wide (n := 0)).1 ?_
                obtain ⟨YY, hYY⟩ : ∃ YY, wr.alloc (.cells #[.int .i64 0] 3) = YY := ⟨_, rfl⟩
                have XYY := hid (show Ext wr YY from hYY ▸ Ext.alloc _ _)
                have HKJ := hid (show YY.heap[wr.heap.size]? = some (.cells #[.int .i64 0] 3) from hYY ▸ blk0 _ _)
                have hsYY := lt_of_block HKJ.out
                rw [hYY]
                clear hYY t0 t1 t2 t3
                have KJY := hid (show Kp (· ≠ g7) WJ YY from (((Ext.alloc WJ _).kp _).trans HKQ.out).trans (XYY.out.kp _))
                have hszJ : WJ.heap.size + 1 ≤ wr.heap.size := by have := HKQ.out.size; rw [blkS] at this; exact this
                have hszI := HXJ.out.size
                have hszI2 := XI.out.size
                have hszH := XH.out.size
                have hszHI := HXI.out.size
                have HLY := hid (show YY.heap[WJ.heap.size]? = some (.cells #[.slice la ys.length lc] 51) from XYY.out.block (HKQ.out.block' HL29.out (show WJ.heap.size ≠ g7 by omega)))
                obtain ⟨bs2, hbs2, hit2⟩ := nest_iter HCS.out.1 HCS.out.2
                rw [HYS.out] at hit2
                have heb3 : eb2 < WI.heap.size := by rcases HCS.out.2 with ⟨_, h, _⟩ | ⟨_, h⟩ <;> exact lt_of_block h
                have hob3 := lt_of_block HCS.out.1
                have KIY : Kp (fun q => q ≠ g7) WI YY := (HXJ.out.kp _).trans KJY.out
                have hIt := hit2 YY (fun q => q = wr.heap.size) (KIY.mono (fun q _ hq => by
                  rcases hq with rfl | rfl | hq
                  · show _ ≠ g7; omega
                  · show _ ≠ g7; omega
                  · have := (hbs2 q hq).1; show q ≠ g7; omega)) (fun q hq hb => by have := (hbs2 q hb).2; have hq' : q = wr.heap.size := hq; omega)
                have HALL := hid (show Kp (fun q => q ≠ g7 ∧ q < Z1.heap.size) Z1 YY from ((XK.out.kp _).trans (HKQ.out.mono (fun q _ hq => hq.1))).trans (XYY.out.kp _))
                clear hit2 KIY
                refine rangeM rfl (enters_of Try.func45 (by kernel_rfl) rfl) ys.length (fun q => q = wr.heap.size) (eachX t YY.heap.size) hIt eachX_size eachX_mono eachX_new
                  (fun M' i Z => (M' = fun q => q = wr.heap.size) ∧ Z.heap[wr.heap.size]? = some (.cells #[.int .i64 i] 3) ∧ i ≤ ys.length) (fun _ _ _ => False)
                  (fun M' i Z h q hq => by rw [h.1] at hq; have hq' : q = _ := hq; rw [hq']; exact lt_of_block h.2.1) (fun M' i Z Z' h hk => ⟨h.1, hk.block' h.2.1 (.inl hsYY), h.2.2⟩)
                  (fun c M' Z h => h.elim) (fun c M' Z Z' h => h.elim) ⟨rfl, HKJ.out, Nat.zero_le _⟩ ?round2 ?done2 ?stop2
                case stop2 =>
                  rintro D Z c M' hD h
                  exact h.elim
                case done2 =>
                  rintro D2 Z2 M' hD2 ⟨rfl, hkb2, _⟩ hd2 hmd2 hsub2 hk2
                  have c0 := cell_of (i := 0) hkb2 rfl
                  have l0 := cell_of (i := 0) (hk2.block' HLY.out (show ¬ WJ.heap.size = wr.heap.size by omega)) rfl
                  simp only [List.getElem_toArray, List.getElem_cons_zero] at c0 l0
                  have HA2 := hid (show Kp (fun q => q ≠ g7 ∧ q < Z1.heap.size) Z1 Z2 from HALL.out.trans (hk2.mono (fun q _ hq e => by have := hq.2; have e' : q = wr.heap.size := e; omega)))
                  have HD2 := hid hd2
                  have hDl := lt_of_block hd2
                  clear hkb2 hd2 hmd2 hsub2 hk2
                  have hg7b : b + 3 ≤ g7 := by omega
                  have FIN := hid (show FrW w b (j + 1) (D2 :: D1 :: ds) M4 Z2 from by
                    have kV : Kp (fun q => ¬ M q ∧ q < V3.heap.size ∧ q ≠ g7) V3 Z2 := (HFA4.out.2.1.mono (fun q _ hq => hq.1)).chain HA2.out (fun q _ hq => ⟨hq.2.2, by have := hq.2.1; omega⟩)
                    have hM4g : ∀ q, M4 q → q ≠ g7 ∧ q < Z1.heap.size := fun q hq => ⟨fun e => (HFA4.out.2.2 q hq).elim (HNM.out q (by omega)) (fun e => by omega), hM4lt q hq⟩
                    have hsW3 := X3.out.size
                    refine ⟨?_, ?_, ?_, (HFA4.out.1.keep HA2.out hM4g).up (by omega) (by omega), HM4.out, ?_, ?_, hwb, ?_⟩
                    · exact Kp.ext (K := fun q => q < w.heap.size) (((HXw.out.kp _)).chain HA2.out (fun q hq _ => ⟨by omega, by have := HXw.out.size; omega⟩)) (fun q hq => hq)
                    · exact kV.block' (X3.out.block HR.out) ⟨fun e => by rcases HMb.out _ e with h | h | h <;> omega, by omega, by omega⟩
                    · exact kV.block' (X3.out.block HP.out) ⟨fun e => by rcases HMb.out _ e with h | h | h <;> omega, by omega, by omega⟩
                    · rw [List.nodup_cons, List.nodup_cons]
                      refine ⟨fun e => ?_, fun e => ?_, HDN.out⟩
                      · rcases List.mem_cons.1 e with e | e
                        · omega
                        · have := lt_of_block (HDS.out _ e).1; omega
                      · have := lt_of_block (HDS.out _ e).1; omega
                    · intro D' hD'
                      rcases List.mem_cons.1 hD' with rfl | hD'
                      · exact ⟨HD2.out, fun e => by have := hM4lt _ e; omega, by omega⟩
                      · rcases List.mem_cons.1 hD' with rfl | hD'
                        · exact ⟨HA2.out.block' HD1.out ⟨by omega, hD1l⟩, HMD1.out, by omega⟩
                        · have hDS := HDS.out D' hD'
                          have hDW := lt_of_block hDS.1
                          exact ⟨kV.block' (X3.out.block hDS.1) ⟨hDS.2.1, by omega, by omega⟩, fun e => (HFA4.out.2.2 _ e).elim hDS.2.1 (fun e => by omega), hDS.2.2⟩
                    · have := kV.size; omega)
                  go_wp2_with fail
                  refine HK.out _ _ ⟨j + 1, D2 :: D1 :: ds, M4, rfl, rfl, rfl, rfl, rfl, rfl, by show some (Value.int .i64 ((j : Int) + 1)) = _; push_cast; rfl, by omega, by omega, FIN.out⟩ (by show 21 - ((j : Int) + 1).toNat < 21 - (j : Int).toNat; omega)
                case round2 =>
                  go_light
                  as_aux_lemma =>
                    rintro l2 M9 i Z argsA EA hlA ⟨r2A, hr2A⟩ hmlA helA hiA hIA ⟨pvA, tvA, pA, uA, dA, bsA, rfl, hLA, hpwA, hownA, _, _, rfl, hEA⟩ hk5A h4A
                    obtain ⟨u0, u1, u2, u3, rfl⟩ := hownA.rd.agg
                    obtain ⟨k1A, n1A, x1A, a1A, c1A, rfl, rfl, rfl, rfl⟩ := hownA.rd.shape
                    obtain ⟨pa1A, pc1A, rfl⟩ := hpwA.shape
                    generalize (T.kids uA).length = kl1A at hownA
                    have HOWNA := hid hownA
                    have HPWA := hid hpwA
                    have HEA := hid hEA
                    have HIA := hid hIA
                    have HK5A := hid hk5A
                    have H4A := hid h4A
                    have HR2A := hid hr2A
                    clear hownA hpwA hEA hIA hk5A h4A hr2A
                    gi_wp2_with fail
                    refine ⟨Ext.alloc _ _, fun W₂ hk2A r3A hr3A => ?_⟩
                    have hzlA : Z.heap.size ≠ l2 := by have := lt_of_block HR2A.out; omega
                    have hbxA := hk2A.block' (blk0 Z _) hzlA
                    have hkzA : Kp (· ≠ l2) Z W₂ := ((Ext.alloc Z _).kp _).trans hk2A
                    have HR3A := hid hr3A
                    have HKZA := hid hkzA
                    clear hr3A hk2A
                    have hMe := HIA.out.1
                    have KYW : Kp (fun q => q < YY.heap.size ∧ q ≠ wr.heap.size) YY W₂ := (HK5A.out.mono (fun q _ hq e => hq.2 e)).trans (hkzA.mono (fun q _ hq (e : q = l2) => by have := hq.1; omega))
                    have K1A : Kp (fun q => WI.heap.size ≤ q ∧ q < WJ.heap.size) WJ W₂ := (KJY.out.mono (fun q _ hq (e : q = g7) => by have := hq.1; omega)).chain KYW (fun q hq h => ⟨by have := KJY.out.size; omega, by omega⟩)
                    have HIWA := hid (hkzA.block' HIA.out.2.1 (show wr.heap.size ≠ l2 by omega))
                    have HI2A := hid (show Ints W₂ (.slice pa1A pA.length pc1A) pA from HPWA.out.ints.keep hkzA (fun g hg => by obtain ⟨v, hv⟩ := hg; exact cell_loop HR2A.out hv))
                    have HRDA := hid (show Rd (· ∈ bsA) W₂ dA (.agg #[.string k1A, .int .i64 n1A, .string x1A, .slice a1A kl1A c1A]) uA from HOWNA.out.rd.keep (hkzA.mono (fun q _ hq e => helA (.inr (by have e' : q = l2 := e; rw [← e']; exact hq)))))
                    have hys : T.all [] t = ys := by
                      have h := HYS.out
                      by_cases hs : t.small
                      · rw [if_pos hs] at h; exact h
                      · rw [if_neg hs] at h; rw [← h] at hiA; exact absurd hiA (Nat.not_lt_zero _)
                    have hyi : ys[i] = (pA, uA) := by rw [hys] at hLA; rw [List.getElem?_eq_getElem hiA] at hLA; exact Option.some.inj hLA
                    have hplA : pA.length ≤ 64 := by
                      have hs : t.small := by
                        by_cases hs : t.small
                        · exact hs
                        · have h := HYS.out; rw [if_neg hs] at h; rw [← h] at hiA; exact absurd hiA (Nat.not_lt_zero _)
                      exact path_len hs hLA
                    have hrow := row5_keep HSTJ.out.1 K1A (fun b hb => HSTJ.out.1.lt b hb)
                    obtain ⟨pa2A, pc2A, b0, b1, b2, b3, d2A, g0, g1, g2, g3, g4, hI3, hR3⟩ := (HSTJ.out.2 i hiA).keep (K1A.mono (fun q _ hq => ⟨hq.1, hq.2.1⟩))
                    rw [hyi] at g0 hI3 hR3
                    obtain ⟨k2A, n2A, x2A, a2A, c2A, rfl, rfl, rfl, rfl⟩ := hR3.shape
                    generalize (T.kids uA).length = kl2A at hR3 g4
                    obtain ⟨gLA, hglA⟩ : ∃ gL, la = some ⟨gL, 0, none⟩ := by
                      rcases hrow.2 with ⟨h, h0⟩ | ⟨g, cap, cur, h, _⟩
                      · rw [h0] at hiA; exact absurd hiA (Nat.not_lt_zero _)
                      · simp only [Value.slice.injEq] at h; exact ⟨g, h.1⟩
                    rw [hglA] at hrow
                    have HR3sA := hid hR3
                    have HI3A := hid hI3.1
                    have hrl := hrow.1
                    have r0 := (hrow.cellAt (i * 5) (by omega)).trans g0
                    have r1 := (hrow.cellAt (i * 5 + 1) (by omega)).trans g1
                    have r2' := (hrow.cellAt (i * 5 + 2) (by omega)).trans g2
                    have r3' := (hrow.cellAt (i * 5 + 3) (by omega)).trans g3
                    have r4 := (hrow.cellAt (i * 5 + 4) (by omega)).trans g4
                    obtain ⟨q0, q1, q2, q3⟩ := four_of hbxA
                    have c0 := cell_of (i := 0) HIWA.out rfl
                    have l0 := cell_of (i := 0) (KYW.block' HLY.out ⟨by omega, by omega⟩) rfl
                    rw [hglA] at l0
                    simp only [List.getElem_toArray, List.getElem_cons_zero] at c0 l0
                    have hiNA : (i : Int) < ys.length := by omega
                    have higeA : decide ((ys.length : Int) ≤ i) = false := decide_eq_false (by omega)
                    have hbl1 := lt_of_cell c0
                    have hbl2 := lt_of_cell l0
                    have hbl3 := lt_of_cell r0
                    have hbl4 := lt_of_cell q0
                    have HSKA := hid (show ∀ W', Ext W₂ W' → (W'.cell? ⟨wr.heap.size, 0, none⟩ = some (.int .i64 i) ∧ W'.cell? ⟨WJ.heap.size, 0, none⟩ = some (.slice (some ⟨gLA, 0, none⟩) ys.length lc) ∧ W'.cell? ⟨gLA, i * 5, none⟩ = some (.slice pa2A pA.length pc2A) ∧ W'.cell? ⟨gLA, i * 5 + 1, none⟩ = some (.string k2A) ∧ W'.cell? ⟨gLA, i * 5 + 2, none⟩ = some (.int .i64 n2A) ∧ W'.cell? ⟨gLA, i * 5 + 3, none⟩ = some (.string x2A) ∧ W'.cell? ⟨gLA, i * 5 + 4, none⟩ = some (.slice a2A kl2A c2A)) ∧ W'.cell? ⟨Z.heap.size, 0, none⟩ = some (.string k1A) ∧ W'.cell? ⟨Z.heap.size, 1, none⟩ = some (.int .i64 n1A) ∧ W'.cell? ⟨Z.heap.size, 2, none⟩ = some (.string x1A) ∧ W'.cell? ⟨Z.heap.size, 3, none⟩ = some (.slice a1A kl1A c1A) from fun W' Y => ⟨⟨(Y.kp (fun _ => True)).cell c0 trivial, (Y.kp (fun _ => True)).cell l0 trivial, (Y.kp (fun _ => True)).cell r0 trivial, (Y.kp (fun _ => True)).cell r1 trivial, (Y.kp (fun _ => True)).cell r2' trivial, (Y.kp (fun _ => True)).cell r3' trivial, (Y.kp (fun _ => True)).cell r4 trivial⟩, four_of (Y.block hbxA)⟩)
                    have C3A := hid (fun W' (Y : Ext W₂ W') => eqPath_any pa1A pa2A pc1A pc2A pA pA W' (by omega) (by omega) (HI2A.out.later Y) (HI3A.out.later Y))
                    have C4A := hid (fun W' (Y : Ext W₂ W') => eq_any dA _ _ uA uA (· ∈ bsA) _ W' d2A (HRDA.out.later Y) (HR3sA.out.later Y))
                    rw [T.beq_refl] at C4A
                    simp only [decide_true] at C3A
                    have wf : ∀ f, Fence.wide.fn f := fun _ => trivial
                    have wd : Fence.wide.depth = none := rfl
                    have hmx : Try.prog.follows Departure.mixedOrders = true := by kernel_rfl
                    clear hI3 hR3 g0 g1 g2 g3 g4 hrow hbxA hkzA hLA hys hyi K1A KYW
                    gi_wp2_with fail
                    refine region_in (S := fun W' => (W'.cell? ⟨wr.heap.size, 0, none⟩ = some (.int .i64 i) ∧ W'.cell? ⟨WJ.heap.size, 0, none⟩ = some (.slice (some ⟨gLA, 0, none⟩) ys.length lc) ∧ W'.cell? ⟨gLA, i * 5, none⟩ = some (.slice pa2A pA.length pc2A) ∧ W'.cell? ⟨gLA, i * 5 + 1, none⟩ = some (.string k2A) ∧ W'.cell? ⟨gLA, i * 5 + 2, none⟩ = some (.int .i64 n2A) ∧ W'.cell? ⟨gLA, i * 5 + 3, none⟩ = some (.string x2A) ∧ W'.cell? ⟨gLA, i * 5 + 4, none⟩ = some (.slice a2A kl2A c2A)) ∧ W'.cell? ⟨Z.heap.size, 0, none⟩ = some (.string k1A) ∧ W'.cell? ⟨Z.heap.size, 1, none⟩ = some (.int .i64 n1A) ∧ W'.cell? ⟨Z.heap.size, 2, none⟩ = some (.string x1A) ∧ W'.cell? ⟨Z.heap.size, 3, none⟩ = some (.slice a1A kl1A c1A)) l2 hmx (by kernel_rfl) (by rintro ⟨_, _, h⟩; exact h.2) (HSKA.out _ (Ext.refl W₂).drew) (fun hHeld => ?_)
                    refine wpAnyH_take (i := 0) (v := ?vAx0) rfl (by kernel_rfl) (by kernel_rfl) (by kernel_rfl) (fun _ _ _ h => h) (Or.inl ⟨by kernel_rfl, ?hAx0⟩) (by assumption) ?rAx0
                    case hAx0 => (intro w hSw; (try dsimp only at hSw); go_simp; try with_reducible rfl)
                    try simp only [Act.put, List.getElem_toArray, List.getElem_cons_zero, List.setIfInBounds_toArray, List.set_cons_zero, List.set_cons_succ]
                    refine wpAnyH_take (i := 1) (v := ?vAx1) rfl (by kernel_rfl) (by kernel_rfl) (by kernel_rfl) (fun _ _ _ h => h) (Or.inl ⟨by kernel_rfl, ?hAx1⟩) (by assumption) ?rAx1
                    case hAx1 => (intro w hSw; (try dsimp only at hSw); go_simp; try with_reducible rfl)
                    try simp only [Act.put, List.getElem_toArray, List.getElem_cons_zero, List.getElem_cons_succ, List.setIfInBounds_toArray, List.set_cons_zero, List.set_cons_succ]
                    refine wpAnyH_take (i := 2) (v := ?vAx2) rfl (by kernel_rfl) (by kernel_rfl) (by kernel_rfl) (fun _ _ _ h => h) (Or.inl ⟨by kernel_rfl, ?hAx2⟩) (by assumption) ?rAx2
                    case hAx2 => (intro w hSw; (try dsimp only at hSw); go_simp; try with_reducible rfl)
                    try simp only [Act.put, List.getElem_toArray, List.getElem_cons_zero, List.getElem_cons_succ, List.setIfInBounds_toArray, List.set_cons_zero, List.set_cons_succ]
                    refine wpAnyH_take (i := 3) (v := .bool false) rfl (by kernel_rfl) (by kernel_rfl) (by kernel_rfl) (fun _ _ _ h => h) (Or.inl ⟨by kernel_rfl, ?hAx3⟩) (by assumption) ?rAx3
                    case hAx3 => (intro w hSw; (try dsimp only at hSw); go_simp; try with_reducible rfl)
                    try simp only [Act.put, List.getElem_toArray, List.getElem_cons_zero, List.getElem_cons_succ, List.setIfInBounds_toArray, List.set_cons_zero, List.set_cons_succ]
                    refine wpAnyH_take (i := 4) (v := .bool false) rfl (by kernel_rfl) (by kernel_rfl) (by kernel_rfl) (fun _ _ _ h => h) (Or.inl ⟨by kernel_rfl, ?hAx4⟩) (by assumption) ?rAx4
                    case hAx4 => (intro w hSw; (try dsimp only at hSw); go_simp; try with_reducible rfl)
                    try simp only [Act.put, List.getElem_toArray, List.getElem_cons_zero, List.getElem_cons_succ, List.setIfInBounds_toArray, List.set_cons_zero, List.set_cons_succ]
                    refine wpAnyH_take (i := 5) (v := ?vAx5) rfl (by kernel_rfl) (by kernel_rfl) (by kernel_rfl) (fun _ _ _ h => h) (Or.inl ⟨by kernel_rfl, ?hAx5⟩) (by assumption) ?rAx5
                    case hAx5 => (intro w hSw; (try dsimp only at hSw); go_simp; try with_reducible rfl)
                    try simp only [Act.put, List.getElem_toArray, List.getElem_cons_zero, List.getElem_cons_succ, List.setIfInBounds_toArray, List.set_cons_zero, List.set_cons_succ]
                    refine wpAnyH_take (i := 6) (v := ?vAx6) rfl (by kernel_rfl) (by kernel_rfl) (by kernel_rfl) (fun _ _ _ h => h) (Or.inl ⟨by kernel_rfl, ?hAx6⟩) (by assumption) ?rAx6
                    case hAx6 => (intro w hSw; (try dsimp only at hSw); go_simp; try with_reducible rfl)
                    try simp only [Act.put, List.getElem_toArray, List.getElem_cons_zero, List.getElem_cons_succ, List.setIfInBounds_toArray, List.set_cons_zero, List.set_cons_succ]
                    refine wpAnyH_take (i := 7) (v := ?vAx7) rfl (by kernel_rfl) (by kernel_rfl) (by kernel_rfl) (fun _ _ _ h => h) (Or.inl ⟨by kernel_rfl, ?hAx7⟩) (by assumption) ?rAx7
                    case hAx7 => (intro w hSw; (try dsimp only at hSw); go_simp; try with_reducible rfl)
                    try simp only [Act.put, List.getElem_toArray, List.getElem_cons_zero, List.getElem_cons_succ, List.setIfInBounds_toArray, List.set_cons_zero, List.set_cons_succ]
                    refine wpAnyH_take (i := 8) (v := ?vAx8) rfl (by kernel_rfl) (by kernel_rfl) (by kernel_rfl) (fun _ _ _ h => h) (Or.inl ⟨by kernel_rfl, ?hAx8⟩) (by assumption) ?rAx8
                    case hAx8 => (intro w hSw; (try dsimp only at hSw); go_simp; try with_reducible rfl)
                    try simp only [Act.put, List.getElem_toArray, List.getElem_cons_zero, List.getElem_cons_succ, List.setIfInBounds_toArray, List.set_cons_zero, List.set_cons_succ]
                    refine wpAnyH_take (i := 9) (v := ?vAx9) rfl (by kernel_rfl) (by kernel_rfl) (by kernel_rfl) (fun _ _ _ h => h) (Or.inl ⟨by kernel_rfl, ?hAx9⟩) (by assumption) ?rAx9
                    case hAx9 => (intro w hSw; (try dsimp only at hSw); go_simp; try with_reducible rfl)
                    try simp only [Act.put, List.getElem_toArray, List.getElem_cons_zero, List.getElem_cons_succ, List.setIfInBounds_toArray, List.set_cons_zero, List.set_cons_succ]
                    refine wpAnyH_take (i := 10) (v := ?vAx10) rfl (by kernel_rfl) (by kernel_rfl) (by kernel_rfl) (fun _ _ _ h => h) (Or.inl ⟨by kernel_rfl, ?hAx10⟩) (by assumption) ?rAx10
                    case hAx10 => (intro w hSw; (try dsimp only at hSw); go_simp; try with_reducible rfl)
                    try simp only [Act.put, List.getElem_toArray, List.getElem_cons_zero, List.getElem_cons_succ, List.setIfInBounds_toArray, List.set_cons_zero, List.set_cons_succ]
                    refine wpAnyH_ready (rs := [11]) (by kernel_rfl) (by simp) ?_
                    refine AllReadyH.cons rfl (fun K hK => ?_) AllReadyH.nil
                    go_simp
                    refine (C3A.out _ (Ext.refl W₂).drew).mono ?_
                    rintro e W₃ ⟨rfl, hx3⟩
                    have Z3 : Ext W₂ W₃ := Ext.trans (Ext.refl W₂).drew hx3
                    show K _ _
                    refine hK.out _ _ (HSKA.out _ Z3) (fun hHeld3 => ?_)
                    clear hK K hHeld
                    try simp only [Act.put, List.getElem_toArray, List.getElem_cons_zero, List.getElem_cons_succ, List.setIfInBounds_toArray, List.set_cons_zero, List.set_cons_succ]
                    refine wpAnyH_take (i := 12) (v := .bool false) rfl (by kernel_rfl) (by kernel_rfl) (by kernel_rfl) (fun _ _ _ h => h) (Or.inl ⟨by kernel_rfl, ?hAx12⟩) (by assumption) ?rAx12
                    case hAx12 => (intro w hSw; (try dsimp only at hSw); go_simp; try with_reducible rfl)
                    try simp only [Act.put, List.getElem_toArray, List.getElem_cons_zero, List.getElem_cons_succ, List.setIfInBounds_toArray, List.set_cons_zero, List.set_cons_succ]
                    refine wpAnyH_take (i := 13) (v := .bool false) rfl (by kernel_rfl) (by kernel_rfl) (by kernel_rfl) (fun _ _ _ h => h) (Or.inl ⟨by kernel_rfl, ?hAx13⟩) (by assumption) ?rAx13
                    case hAx13 => (intro w hSw; (try dsimp only at hSw); go_simp; try with_reducible rfl)
                    try simp only [Act.put, List.getElem_toArray, List.getElem_cons_zero, List.getElem_cons_succ, List.setIfInBounds_toArray, List.set_cons_zero, List.set_cons_succ]
                    refine wpAnyH_take (i := 14) (v := .bool false) rfl (by kernel_rfl) (by kernel_rfl) (by kernel_rfl) (fun _ _ _ h => h) (Or.inl ⟨by kernel_rfl, ?hAx14⟩) (by assumption) ?rAx14
                    case hAx14 => (intro w hSw; (try dsimp only at hSw); go_simp; try with_reducible rfl)
                    try simp only [Act.put, List.getElem_toArray, List.getElem_cons_zero, List.getElem_cons_succ, List.setIfInBounds_toArray, List.set_cons_zero, List.set_cons_succ]
                    refine wpAnyH_take (i := 15) (v := ?vAx15) rfl (by kernel_rfl) (by kernel_rfl) (by kernel_rfl) (fun _ _ _ h => h) (Or.inl ⟨by kernel_rfl, ?hAx15⟩) (by assumption) ?rAx15
                    case hAx15 => (intro w hSw; (try dsimp only at hSw); go_simp; try with_reducible rfl)
                    try simp only [Act.put, List.getElem_toArray, List.getElem_cons_zero, List.getElem_cons_succ, List.setIfInBounds_toArray, List.set_cons_zero, List.set_cons_succ]
                    refine wpAnyH_take (i := 16) (v := ?vAx16) rfl (by kernel_rfl) (by kernel_rfl) (by kernel_rfl) (fun _ _ _ h => h) (Or.inl ⟨by kernel_rfl, ?hAx16⟩) (by assumption) ?rAx16
                    case hAx16 => (intro w hSw; (try dsimp only at hSw); go_simp; try with_reducible rfl)
                    try simp only [Act.put, List.getElem_toArray, List.getElem_cons_zero, List.getElem_cons_succ, List.setIfInBounds_toArray, List.set_cons_zero, List.set_cons_succ]
                    refine wpAnyH_take (i := 17) (v := ?vAx17) rfl (by kernel_rfl) (by kernel_rfl) (by kernel_rfl) (fun _ _ _ h => h) (Or.inl ⟨by kernel_rfl, ?hAx17⟩) (by assumption) ?rAx17
                    case hAx17 => (intro w hSw; (try dsimp only at hSw); go_simp; try with_reducible rfl)
                    try simp only [Act.put, List.getElem_toArray, List.getElem_cons_zero, List.getElem_cons_succ, List.setIfInBounds_toArray, List.set_cons_zero, List.set_cons_succ]
                    refine wpAnyH_take (i := 18) (v := ?vAx18) rfl (by kernel_rfl) (by kernel_rfl) (by kernel_rfl) (fun _ _ _ h => h) (Or.inl ⟨by kernel_rfl, ?hAx18⟩) (by assumption) ?rAx18
                    case hAx18 => (intro w hSw; (try dsimp only at hSw); go_simp; try with_reducible rfl)
                    try simp only [Act.put, List.getElem_toArray, List.getElem_cons_zero, List.getElem_cons_succ, List.setIfInBounds_toArray, List.set_cons_zero, List.set_cons_succ]
                    refine wpAnyH_take (i := 19) (v := ?vAx19) rfl (by kernel_rfl) (by kernel_rfl) (by kernel_rfl) (fun _ _ _ h => h) (Or.inl ⟨by kernel_rfl, ?hAx19⟩) (by assumption) ?rAx19
                    case hAx19 => (intro w hSw; (try dsimp only at hSw); go_simp; try with_reducible rfl)
                    try simp only [Act.put, List.getElem_toArray, List.getElem_cons_zero, List.getElem_cons_succ, List.setIfInBounds_toArray, List.set_cons_zero, List.set_cons_succ]
                    refine wpAnyH_take (i := 20) (v := ?vAx20) rfl (by kernel_rfl) (by kernel_rfl) (by kernel_rfl) (fun _ _ _ h => h) (Or.inl ⟨by kernel_rfl, ?hAx20⟩) (by assumption) ?rAx20
                    case hAx20 => (intro w hSw; (try dsimp only at hSw); go_simp; try with_reducible rfl)
                    try simp only [Act.put, List.getElem_toArray, List.getElem_cons_zero, List.getElem_cons_succ, List.setIfInBounds_toArray, List.set_cons_zero, List.set_cons_succ]
                    refine wpAnyH_ready (rs := [21]) (by kernel_rfl) (by simp) ?_
                    refine AllReadyH.cons rfl (fun K hK => ?_) AllReadyH.nil
                    go_simp
                    refine (C4A.out _ Z3).mono ?_
                    rintro e W₄ ⟨rfl, hx4⟩
                    have Z4 : Ext W₂ W₄ := Ext.trans Z3 hx4
                    show K _ _
                    refine hK.out _ _ (HSKA.out _ Z4) (fun hHeld4 => ?_)
                    clear hK K hHeld3
                    try simp only [Act.put, List.getElem_toArray, List.getElem_cons_zero, List.getElem_cons_succ, List.setIfInBounds_toArray, List.set_cons_zero, List.set_cons_succ]
                    refine wpAnyH_take (i := 22) (v := .bool false) rfl (by kernel_rfl) (by kernel_rfl) (by kernel_rfl) (fun _ _ _ h => h) (Or.inl ⟨by kernel_rfl, ?hAx22⟩) (by assumption) ?rAx22
                    case hAx22 => (intro w hSw; (try dsimp only at hSw); go_simp; try with_reducible rfl)
                    try simp only [Act.put, List.getElem_toArray, List.getElem_cons_zero, List.getElem_cons_succ, List.setIfInBounds_toArray, List.set_cons_zero, List.set_cons_succ]
                    refine wpAnyH_take (i := 23) (v := .bool false) rfl (by kernel_rfl) (by kernel_rfl) (by kernel_rfl) (fun _ _ _ h => h) (Or.inl ⟨by kernel_rfl, ?hAx23⟩) (by assumption) ?rAx23
                    case hAx23 => (intro w hSw; (try dsimp only at hSw); go_simp; try with_reducible rfl)
                    try simp only [Act.put, List.getElem_toArray, List.getElem_cons_zero, List.getElem_cons_succ, List.setIfInBounds_toArray, List.set_cons_zero, List.set_cons_succ]
                    refine wpAnyH_done (by kernel_rfl) ?_ _
                    have ZXA := hid Z4
                    clear c0 l0 r0 r1 r2' r3' r4 q0 q1 q2 q3 hHeld4 hx3 hx4 Z3 Z4 hbl1 hbl2 hbl3 hbl4 hrl
                    have HF := hid (fun (mI : Int) (e : mI = ((i + 1 : Nat) : Int)) => (show bodyR (fun M' i Z => (M' = fun q => q = wr.heap.size) ∧ Z.heap[wr.heap.size]? = some (.cells #[.int .i64 i] 3) ∧ i ≤ ys.length) (fun _ _ _ => False) M9 (fun k => (Value.slice pa1A pA.length pc1A).ownBlock = some k ∨ k ∈ bsA) i Z W₂ .normal { tmps := #[], defers := [] } (W₄.setCell ⟨wr.heap.size, 0, none⟩ (.int .i64 mI)) from
                      ⟨(ZXA.out.kp _).trans (Kp.set _ _ _ _ (fun h => h (.inl (by rw [hMe])))), _, ⟨rfl, by rw [e]; exact set_one (ZXA.out.block HIWA.out), hiA⟩, fun k hk => .inl (by rw [hMe]; exact hk)⟩))
                    have c0 := cell_of (i := 0) (ZXA.out.block HIWA.out) rfl
                    have fz := frozen_of (i := 0) (ZXA.out.block HIWA.out)
                    simp only [List.getElem_toArray, List.getElem_cons_zero] at c0
                    gi_wp2_with fail
                    exact HF.out _ (by push_cast; rfl)
end Go.Proofs.Ythdmoghooaccgaa
