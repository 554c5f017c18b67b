/-
  craft.Kit by a contract: the walk.
-/
import Derived.Test.YtaafcmmmkalgjaaGreatDoorKRows
import Derived.Test.YtaafcmmmkalgjaaGreatDoorSHead
import Derived.Test.YtaafcmmmkalgjaaGreatDoorCWorkO
import Derived.Test.YtaafcmmmkalgjaaGreatDoorKBlk
import Derived.Test.YtaafcmmmkalgjaaGreatDoorCTItems
namespace Go.Proofs.YtaafcmmmkalgjaaGreatDoor
open Go.RowKit
/-- What craft.Kit answers. -/
def CKitR (w : World) (nm : ByteArray) (ks : List Kd) (e : Ending) (w' : World) : Prop := ∃ base kb mb lv' bx, e = .returned (.pointer (some ⟨kb, 0, none⟩)) ∧ KitM w' base kb mb nm (.func (.func 58) #[] #[.pointer (some ⟨bx, 0, none⟩)]) lv' (ks.map kdRow) ∧ (∃ g cap, w'.heap[bx]? = some (.cells #[.slice (some ⟨g, 0, none⟩) ks.length cap] 80) ∧ KRow w' g ks) ∧ w.heap.size ≤ base ∧ Ext w w'
/-- A table whose rows may be. -/
structure GoodK (pre : List UInt8) (ks : List Kd) : Prop where
  pos : 0 < ks.length
  lim : ks.length ≤ 1000
  rows : ∀ k ∈ ks, GoodR pre (kdRow k)
  has : ∀ k ∈ ks, k.has.size ≤ 4000 ∧ k.has.data.toList.all (fun b => decide (b.toNat < 128)) = true
  nodup : ((ks.map kdRow).map Rw.kind).Nodup
  word : speltB wordI 16 pre = true
/-- The rows made so far. -/
def KitLp (w2 : World) (ks : List Kd) (j : Nat) (ao : Option Addr) (c : Nat) (wr : World) : Prop := RItems wr w2.heap.size (.slice ao j c) ((ks.take j).map kdRow) ∧ Ext w2 wr
set_option linter.unusedSimpArgs false in
set_option maxRecDepth 100000 in
set_option maxHeartbeats 4000000 in
theorem ckit_any {pre : List UInt8} (nm : ByteArray) (hnm : nm = ⟨pre.toArray⟩) (tb : Nat) (ks : List Kd) (w : World) (hg : GoodK pre ks) (ht : TabAt w tb ks) (hl : Laid w) :
    Calls Tryz.prog 30 #[.string nm, .slice (some ⟨tb, 0, none⟩) ks.length ks.length] w (CKitR w nm ks) := by
  have HCL := hid (fun w1 (hx : Ext w w1) => cloneK tb ks w1 hg.lim hg.pos (ht.later hx))
  have HNEW := hid (fun fc lv base w1 h => new_good nm hnm hg.word 58 fc lv (ks.map kdRow) base w1 h (by rw [List.length_map]; exact hg.pos) (by rw [List.length_map]; exact hg.lim) (fun r hr => by
    obtain ⟨k, hk, rfl⟩ := List.mem_map.1 hr
    exact hg.rows k hk) hg.nodup)
  have HHAS := hid hg.has
  have HL := hid hl
  have hlim := hg.lim
  obtain ⟨n, hne⟩ : ∃ n, ks.length = n := ⟨_, rfl⟩
  have HNE := hid hne
  rw [hne] at hlim HCL ⊢
  have hlim' : (n : Int) ≤ 1000 := by omega
  have hmf : ∀ (fn : Fn) (first cap : Array Value) (w : World), (Instr.makeFunc fn first cap).run Tryz.prog w = .ok (.func fn first cap) w := fun _ _ _ _ => rfl
  clear hg ht hl hne hnm
  obtain ⟨M, hM⟩ : ∃ M, w.alloc (.cells #[.slice (some ⟨tb, 0, none⟩) n n] 80) = M := ⟨_, rfl⟩
  have XM := hid (show Ext w M from hM ▸ Ext.alloc _ _)
  have HM0 := hid (show M.heap[w.heap.size]? = some (.cells #[.slice (some ⟨tb, 0, none⟩) n n] 80) from hM ▸ blk0 _ _)
  have c0 : M.cell? ⟨w.heap.size, 0, none⟩ = some (.slice (some ⟨tb, 0, none⟩) n n) := cell_of HM0.out rfl
  go_enter Tryz.func30, Tryz.ntmps30
  go_wp2_with fail
  clear hM c0
  refine (HCL.out _ XM.out).mono ?_
  rintro e w1 ⟨g, cap, rfl, hge, hkr, hx1⟩
  have HB1 := hid (hx1.block HM0.out)
  have c1 : w1.cell? ⟨w.heap.size, 0, none⟩ = some (.slice (some ⟨tb, 0, none⟩) n n) := cell_of HB1.out rfl
  have f1 : w1.frozen? ⟨w.heap.size, 0, none⟩ = false := frozen_of HB1.out
  have K1 := Kp.set w1 w.heap.size 0 (.slice (some ⟨g, 0, none⟩) n cap) (K := (· ≠ w.heap.size)) (fun h => h rfl)
  have HX2 := hid (Kp.extOf (XM.out.trans hx1) K1 (Nat.le_refl _))
  have HC2 := hid (show (w1.setCell ⟨w.heap.size, 0, none⟩ (.slice (some ⟨g, 0, none⟩) n cap)).heap[w.heap.size]? = some (.cells #[.slice (some ⟨g, 0, none⟩) n cap] 80) from (set_at HB1.out 0 _).trans (by simp))
  have HKR := hid (show KRow (w1.setCell ⟨w.heap.size, 0, none⟩ (.slice (some ⟨g, 0, none⟩) n cap)) g ks from fun j hj => by
    have hgn : g ≠ w.heap.size := by have := lt_of_block HM0.out; omega
    obtain ⟨h0, h1, h2, h3, h4, h5, h6, h7, h8⟩ := hkr j hj
    exact ⟨K1.cell h0 hgn, K1.cell h1 hgn, K1.cell h2 hgn, K1.cell h3 hgn, K1.cell h4 hgn, K1.cell h5 hgn, K1.cell h6 hgn, K1.cell h7 hgn, K1.cell h8 hgn⟩)
  clear hkr hx1 hge
  go_wp2_with fail
  generalize w1.setCell ⟨w.heap.size, 0, none⟩ (.slice (some ⟨g, 0, none⟩) n cap) = W2 at HX2 HC2 HKR ⊢
  clear c1 f1 K1
  go_loopw [5, 14] (fun q5 q14 wr => ∃ (j : Nat) (ao : Option Addr) (c : Nat), j ≤ n ∧ q14 = .int .i64 j ∧ q5 = .slice ao j c ∧ KitLp W2 ks j ao c wr) (fun _ q14 _ => n - (intOf q14).toNat)
  case atStart => exact ⟨0, none, 0, Nat.zero_le _, rfl, rfl, RItems.nil _ _, Ext.refl _⟩
  case round =>
    obtain ⟨j, ao, c, hj, rfl, rfl, hit, hx⟩ := hrel
    have HIT := hid hit
    have HX := hid hx
    have HLD := hid (HL.out.later (HX2.out.trans hx))
    clear hit hx
    by_cases hlt : j < n
    · have hlt' : (j : Int) < n := by omega
      have hjk : j < ks.length := by rw [HNE.out]; exact hlt
      obtain ⟨p0, p1, p2, p3, p4, p5, p6, p7, p8⟩ := HKR.out.later HX.out j hjk
      have hgl := lt_of_cell p0
      obtain ⟨rj, hrj⟩ : ∃ rj, kdRow ks[j] = rj := ⟨_, rfl⟩
      have HTK := hid (show (ks.take j).map kdRow ++ [rj] = (ks.take (j + 1)).map kdRow by rw [← hrj, List.take_succ_eq_append_getElem hjk, List.map_append]; rfl)
      have HHJ := hid (HHAS.out _ (List.getElem_mem hjk))
      have HRJ0 := hid hrj
      generalize ks[j] = kj at *
      clear hjk hrj
      obtain ⟨k0, k1, k2, k3, k4, k5, k6, k7, k8⟩ := kj
      dsimp only at *
      obtain ⟨abs, habs⟩ : ∃ abs, (Lib.fields k4.data.toList).map (fun l => (⟨l.toArray⟩ : ByteArray)) = abs := ⟨_, rfl⟩
      have HFI := hid (fun w1 h => fields_any k4 abs habs w1 HHJ.out.1 HHJ.out.2 h)
      have HRJ := hid (show rj = ⟨k0, k1, k2, false, k3, abs⟩ by rw [← HRJ0.out, ← habs]; rfl)
      clear HRJ0 habs
      have p6' : wr.cell? ⟨g, j * 9 + 6, none⟩ = some (.func (.func k6) #[] #[]) := p6
      clear p6
      cases k7 with
      | none =>
        have p7' : wr.cell? ⟨g, j * 9 + 7, none⟩ = some .nilFunc := p7
        clear p7
        obtain ⟨M2, hM2⟩ : ∃ M2, wr.alloc (.cells #[.string k0, .int .i64 k1, .int .i64 k2, .int .i64 k3, .string k4, .string k5, .func (.func k6) #[] #[], .nilFunc, .bool k8] 76) = M2 := ⟨_, rfl⟩
        have XM2 := hid (show Ext wr M2 from hM2 ▸ Ext.alloc _ _)
        have HB2 := hid (show M2.heap[wr.heap.size]? = some (.cells #[.string k0, .int .i64 k1, .int .i64 k2, .int .i64 k3, .string k4, .string k5, .func (.func k6) #[] #[], .nilFunc, .bool k8] 76) from hM2 ▸ blk0 _ _)
        have HIT2 := hid (HIT.out.later XM2.out)
        have HSZ := hid (show W2.heap.size ≤ M2.heap.size from Nat.le_trans HX.out.size XM2.out.size)
        have HSK := hid (show ∀ W' : World, W'.heap[wr.heap.size]? = some (.cells #[.string k0, .int .i64 k1, .int .i64 k2, .int .i64 k3, .string k4, .string k5, .func (.func k6) #[] #[], .nilFunc, .bool k8] 76) → (W'.cell? ⟨wr.heap.size, 0, none⟩ = some (.string k0) ∧ W'.cell? ⟨wr.heap.size, 1, none⟩ = some (.int .i64 k1) ∧ W'.cell? ⟨wr.heap.size, 2, none⟩ = some (.int .i64 k2) ∧ W'.cell? ⟨wr.heap.size, 3, none⟩ = some (.int .i64 k3) ∧ W'.cell? ⟨wr.heap.size, 4, none⟩ = some (.string k4)) from fun W' X => ⟨cell_of X rfl, cell_of X rfl, cell_of X rfl, cell_of X rfl, cell_of X rfl⟩)
        go_wp2_with fail
        clear hM2 p0 p1 p2 p3 p4 p5 p6' p7' p8
        generalize wr.heap.size = kx at HB2 HSK ⊢
        refine wp_region_noPanic ?_
        refine wp_region_headed (S := fun W' => W'.cell? ⟨kx, 0, none⟩ = some (.string k0) ∧ W'.cell? ⟨kx, 1, none⟩ = some (.int .i64 k1) ∧ W'.cell? ⟨kx, 2, none⟩ = some (.int .i64 k2) ∧ W'.cell? ⟨kx, 3, none⟩ = some (.int .i64 k3) ∧ W'.cell? ⟨kx, 4, none⟩ = some (.string k4)) 15 (by kernel_rfl) (by kernel_rfl) (HSK.out _ ((Ext.refl M2).drew.block HB2.out)) (fun hS => ?_)
        have Z0 : Ext M2 M2.drew := Ext.drew (Ext.refl _)
        refine wpHd_take (i := 0) (oi := ?o0) (v := ?v0) ?hi0 (by kernel_rfl) (by kernel_rfl) (fun _ _ _ h => h) (Or.inl ⟨?hw0, ?hy0⟩) hS ?rs0
        case hi0 => (simp only [List.getElem?_toArray, List.getElem?_cons_succ, List.getElem?_cons_zero]; rfl)
        case hw0 => rfl
        case hy0 => (intro w hSw; (try dsimp only at hSw); obtain ⟨t0, t1, t2, t3, t4⟩ := hSw; go_simp; all_goals with_reducible rfl)
        try simp only [Act.put, List.setIfInBounds_toArray, List.set_cons_zero, List.set_cons_succ]
        refine wpHd_take (i := 1) (oi := ?o1) (v := ?v1) ?hi1 (by kernel_rfl) (by kernel_rfl) (fun _ _ _ h => h) (Or.inl ⟨?hw1, ?hy1⟩) hS ?rs1
        case hi1 => (simp only [List.getElem?_toArray, List.getElem?_cons_succ, List.getElem?_cons_zero]; rfl)
        case hw1 => rfl
        case hy1 => (intro w hSw; (try dsimp only at hSw); obtain ⟨t0, t1, t2, t3, t4⟩ := hSw; go_simp; all_goals with_reducible rfl)
        try simp only [Act.put, List.setIfInBounds_toArray, List.set_cons_zero, List.set_cons_succ]
        refine wpHd_take (i := 2) (oi := ?o2) (v := ?v2) ?hi2 (by kernel_rfl) (by kernel_rfl) (fun _ _ _ h => h) (Or.inl ⟨?hw2, ?hy2⟩) hS ?rs2
        case hi2 => (simp only [List.getElem?_toArray, List.getElem?_cons_succ, List.getElem?_cons_zero]; rfl)
        case hw2 => rfl
        case hy2 => (intro w hSw; (try dsimp only at hSw); obtain ⟨t0, t1, t2, t3, t4⟩ := hSw; go_simp; all_goals with_reducible rfl)
        try simp only [Act.put, List.setIfInBounds_toArray, List.set_cons_zero, List.set_cons_succ]
        refine wpHd_take (i := 3) (oi := ?o3) (v := ?v3) ?hi3 (by kernel_rfl) (by kernel_rfl) (fun _ _ _ h => h) (Or.inl ⟨?hw3, ?hy3⟩) hS ?rs3
        case hi3 => (simp only [List.getElem?_toArray, List.getElem?_cons_succ, List.getElem?_cons_zero]; rfl)
        case hw3 => rfl
        case hy3 => (intro w hSw; (try dsimp only at hSw); obtain ⟨t0, t1, t2, t3, t4⟩ := hSw; go_simp; all_goals with_reducible rfl)
        try simp only [Act.put, List.setIfInBounds_toArray, List.set_cons_zero, List.set_cons_succ]
        refine wpHd_take (i := 4) (oi := ?o4) (v := ?v4) ?hi4 (by kernel_rfl) (by kernel_rfl) (fun _ _ _ h => h) (Or.inl ⟨?hw4, ?hy4⟩) hS ?rs4
        case hi4 => (simp only [List.getElem?_toArray, List.getElem?_cons_succ, List.getElem?_cons_zero]; rfl)
        case hw4 => rfl
        case hy4 => (intro w hSw; (try dsimp only at hSw); obtain ⟨t0, t1, t2, t3, t4⟩ := hSw; go_simp; all_goals with_reducible rfl)
        try simp only [Act.put, List.setIfInBounds_toArray, List.set_cons_zero, List.set_cons_succ]
        refine wpHd_take (i := 5) (oi := ?o5) (v := ?v5) ?hi5 (by kernel_rfl) (by kernel_rfl) (fun _ _ _ h => h) (Or.inl ⟨?hw5, ?hy5⟩) hS ?rs5
        case hi5 => (simp only [List.getElem?_toArray, List.getElem?_cons_succ, List.getElem?_cons_zero]; rfl)
        case hw5 => rfl
        case hy5 => (intro w hSw; (try dsimp only at hSw); obtain ⟨t0, t1, t2, t3, t4⟩ := hSw; go_simp; all_goals with_reducible rfl)
        try simp only [Act.put, List.setIfInBounds_toArray, List.set_cons_zero, List.set_cons_succ]
        refine wpHd_take (i := 6) (oi := ?o6) (v := ?v6) ?hi6 (by kernel_rfl) (by kernel_rfl) (fun _ _ _ h => h) (Or.inl ⟨?hw6, ?hy6⟩) hS ?rs6
        case hi6 => (simp only [List.getElem?_toArray, List.getElem?_cons_succ, List.getElem?_cons_zero]; rfl)
        case hw6 => rfl
        case hy6 => (intro w hSw; (try dsimp only at hSw); obtain ⟨t0, t1, t2, t3, t4⟩ := hSw; go_simp; all_goals with_reducible rfl)
        try simp only [Act.put, List.setIfInBounds_toArray, List.set_cons_zero, List.set_cons_succ]
        refine wpHd_take (i := 7) (oi := ?o7) (v := ?v7) ?hi7 (by kernel_rfl) (by kernel_rfl) (fun _ _ _ h => h) (Or.inl ⟨?hw7, ?hy7⟩) hS ?rs7
        case hi7 => (simp only [List.getElem?_toArray, List.getElem?_cons_succ, List.getElem?_cons_zero]; rfl)
        case hw7 => rfl
        case hy7 => (intro w hSw; (try dsimp only at hSw); obtain ⟨t0, t1, t2, t3, t4⟩ := hSw; go_simp; all_goals with_reducible rfl)
        try simp only [Act.put, List.setIfInBounds_toArray, List.set_cons_zero, List.set_cons_succ]
        refine wpHd_take (i := 8) (oi := ?o8) (v := ?v8) ?hi8 (by kernel_rfl) (by kernel_rfl) (fun _ _ _ h => h) (Or.inl ⟨?hw8, ?hy8⟩) hS ?rs8
        case hi8 => (simp only [List.getElem?_toArray, List.getElem?_cons_succ, List.getElem?_cons_zero]; rfl)
        case hw8 => rfl
        case hy8 => (intro w hSw; (try dsimp only at hSw); obtain ⟨t0, t1, t2, t3, t4⟩ := hSw; go_simp; all_goals with_reducible rfl)
        try simp only [Act.put, List.setIfInBounds_toArray, List.set_cons_zero, List.set_cons_succ]
        refine wpHd_take (i := 9) (oi := ?o9) (v := ?v9) ?hi9 (by kernel_rfl) (by kernel_rfl) (fun _ _ _ h => h) (Or.inl ⟨?hw9, ?hy9⟩) hS ?rs9
        case hi9 => (simp only [List.getElem?_toArray, List.getElem?_cons_succ, List.getElem?_cons_zero]; rfl)
        case hw9 => rfl
        case hy9 => (intro w hSw; (try dsimp only at hSw); obtain ⟨t0, t1, t2, t3, t4⟩ := hSw; go_simp; all_goals with_reducible rfl)
        try simp only [Act.put, List.setIfInBounds_toArray, List.set_cons_zero, List.set_cons_succ]
        refine wpHd_take (i := 10) (oi := ?o10) (v := ?v10) ?hi10 (by kernel_rfl) (by kernel_rfl) (fun _ _ _ h => h) (Or.inl ⟨?hw10, ?hy10⟩) hS ?rs10
        case hi10 => (simp only [List.getElem?_toArray, List.getElem?_cons_succ, List.getElem?_cons_zero]; rfl)
        case hw10 => rfl
        case hy10 => (intro w hSw; (try dsimp only at hSw); obtain ⟨t0, t1, t2, t3, t4⟩ := hSw; go_simp; all_goals with_reducible rfl)
        try simp only [Act.put, List.setIfInBounds_toArray, List.set_cons_zero, List.set_cons_succ]
        refine wpHd_step (i := 11) (o := ?o11) ?hi11 (by kernel_rfl) (fun K hK => ?st11)
        case hi11 => (simp only [List.getElem?_toArray, List.getElem?_cons_succ, List.getElem?_cons_zero]; rfl)
        go_simp
        refine (HFI.out _ (HLD.out.later (XM2.out.trans Z0))).mono ?_
        rintro r9 w9 ⟨rfl, htb9, hx9⟩
        have Z1 : Ext M2 w9 := Z0.trans hx9
        have HTB9 := hid htb9
        clear hx9 htb9
        try go_simp
        refine hK.out _ _ ?_ (fun hS => ?_)
        · exact HSK.out _ (Z1.block HB2.out)
        clear hK K
        try simp only [Act.put, List.setIfInBounds_toArray, List.set_cons_zero, List.set_cons_succ]
        refine wpHd_take (i := 12) (oi := ?o12) (v := ?v12) ?hi12 (by kernel_rfl) (by kernel_rfl) (fun _ _ _ h => h) (Or.inl ⟨?hw12, ?hy12⟩) hS ?rs12
        case hi12 => (simp only [List.getElem?_toArray, List.getElem?_cons_succ, List.getElem?_cons_zero]; rfl)
        case hw12 => rfl
        case hy12 => (intro w hSw; (try dsimp only at hSw); obtain ⟨t0, t1, t2, t3, t4⟩ := hSw; go_simp; all_goals with_reducible rfl)
        try simp only [Act.put, List.setIfInBounds_toArray, List.set_cons_zero, List.set_cons_succ]
        refine wpHd_step (i := 13) (o := ?o13) ?hi13 (by kernel_rfl) (fun K hK => ?st13)
        case hi13 => (simp only [List.getElem?_toArray, List.getElem?_cons_succ, List.getElem?_cons_zero]; rfl)
        go_simp
        refine hK.out _ _ ?_ (fun hS => ?_)
        · exact HSK.out _ ((Z1.more _).block HB2.out)
        clear hK K
        try simp only [Act.put, List.setIfInBounds_toArray, List.set_cons_zero, List.set_cons_succ]
        refine wpHd_step (i := 14) (o := ?o14) ?hi14 (by kernel_rfl) (fun K hK => ?st14)
        case hi14 => (simp only [List.getElem?_toArray, List.getElem?_cons_succ, List.getElem?_cons_zero]; rfl)
        refine step_ritem (ty := 102) _ (by rfl) _ _ (by rfl) (by rfl) W2.heap.size w9.heap.size (.slice ao j c) ((ks.take j).map kdRow) ⟨k0, k1, k2, false, k3, abs⟩ (some ⟨M2.heap.size, 0, none⟩) abs.length (by rfl) (by rfl) (Nat.le_trans HSZ.out (Nat.le_trans Z1.size (by rw [blkS]; omega))) (HIT2.out.later (Z1.trans (Ext.alloc _ _))) (blk0 _ _) (HTB9.out.later (Ext.alloc _ _)) (by rw [List.length_map, List.length_take]; omega) ?_
        intro ao5 n5 c5 w5 hit5 hgr5
        have HIT5 := hid hit5
        have HG5 := hid (grown_kp hgr5)
        have HBX5 := hid (HG5.out.block' ((Z1.more _).block HB2.out) (fun e => by
          obtain ⟨_, cur, hc⟩ := HIT2.out.block e
          rw [HB2.out] at hc
          cases hc))
        clear hit5 hgr5
        refine hK.out _ _ ?_ (fun hS => ?_)
        · exact HSK.out _ HBX5.out
        clear hK K
        try simp only [Act.put, List.setIfInBounds_toArray, List.set_cons_zero, List.set_cons_succ]
        refine wpHd_done (by kernel_rfl) 1 rfl ?_
        refine wpAny_row 15 1 rfl (by kernel_rfl) ?_
        clear hS
        simp only [List.drop_succ_cons, List.drop_zero]
        go_wp2_with fail
        refine NoPanic.normal ?_
        go_wp2_with fail
        go_roundw
        case rel =>
          have hn5 : n5 = j + 1 := by
            obtain ⟨_, _, he⟩ := HIT5.out.shape
            have h1 := (Value.slice.inj he).2.1
            rw [h1, List.length_append, List.length_map, List.length_take, Nat.min_eq_left (by have := HNE.out; omega)]
            rfl
          subst hn5
          refine ⟨j + 1, ao5, c5, by omega, by go_num, rfl, ?_, ?_⟩
          · rw [← HTK.out, HRJ.out]
            exact HIT5.out
          · exact Below.trans ((HX.out.trans XM2.out).trans (Z1.more _)) (HG5.out.below (fun q hq e => by have := (HIT2.out.block e).1; omega) (Nat.le_trans HSZ.out (Z1.more _).size))
        case measure => simp [intOf]; omega
      | some fd =>
        have p7' : wr.cell? ⟨g, j * 9 + 7, none⟩ = some (.func (.func fd) #[] #[]) := p7
        clear p7
        obtain ⟨M2, hM2⟩ : ∃ M2, wr.alloc (.cells #[.string k0, .int .i64 k1, .int .i64 k2, .int .i64 k3, .string k4, .string k5, .func (.func k6) #[] #[], .func (.func fd) #[] #[], .bool k8] 76) = M2 := ⟨_, rfl⟩
        have XM2 := hid (show Ext wr M2 from hM2 ▸ Ext.alloc _ _)
        have HB2 := hid (show M2.heap[wr.heap.size]? = some (.cells #[.string k0, .int .i64 k1, .int .i64 k2, .int .i64 k3, .string k4, .string k5, .func (.func k6) #[] #[], .func (.func fd) #[] #[], .bool k8] 76) from hM2 ▸ blk0 _ _)
        have HIT2 := hid (HIT.out.later XM2.out)
        have HSZ := hid (show W2.heap.size ≤ M2.heap.size from Nat.le_trans HX.out.size XM2.out.size)
        have HSK := hid (show ∀ W' : World, W'.heap[wr.heap.size]? = some (.cells #[.string k0, .int .i64 k1, .int .i64 k2, .int .i64 k3, .string k4, .string k5, .func (.func k6) #[] #[], .func (.func fd) #[] #[], .bool k8] 76) → (W'.cell? ⟨wr.heap.size, 0, none⟩ = some (.string k0) ∧ W'.cell? ⟨wr.heap.size, 1, none⟩ = some (.int .i64 k1) ∧ W'.cell? ⟨wr.heap.size, 2, none⟩ = some (.int .i64 k2) ∧ W'.cell? ⟨wr.heap.size, 3, none⟩ = some (.int .i64 k3) ∧ W'.cell? ⟨wr.heap.size, 4, none⟩ = some (.string k4)) from fun W' X => ⟨cell_of X rfl, cell_of X rfl, cell_of X rfl, cell_of X rfl, cell_of X rfl⟩)
        go_wp2_with fail
        clear hM2 p0 p1 p2 p3 p4 p5 p6' p7' p8
        generalize wr.heap.size = kx at HB2 HSK ⊢
        refine wp_region_noPanic ?_
        refine wp_region_headed (S := fun W' => W'.cell? ⟨kx, 0, none⟩ = some (.string k0) ∧ W'.cell? ⟨kx, 1, none⟩ = some (.int .i64 k1) ∧ W'.cell? ⟨kx, 2, none⟩ = some (.int .i64 k2) ∧ W'.cell? ⟨kx, 3, none⟩ = some (.int .i64 k3) ∧ W'.cell? ⟨kx, 4, none⟩ = some (.string k4)) 15 (by kernel_rfl) (by kernel_rfl) (HSK.out _ ((Ext.refl M2).drew.block HB2.out)) (fun hS => ?_)
        have Z0 : Ext M2 M2.drew := Ext.drew (Ext.refl _)
        refine wpHd_take (i := 0) (oi := ?o0b) (v := ?v0b) ?hi0b (by kernel_rfl) (by kernel_rfl) (fun _ _ _ h => h) (Or.inl ⟨?hw0b, ?hy0b⟩) hS ?rs0b
        case hi0b => (simp only [List.getElem?_toArray, List.getElem?_cons_succ, List.getElem?_cons_zero]; rfl)
        case hw0b => rfl
        case hy0b => (intro w hSw; (try dsimp only at hSw); obtain ⟨t0, t1, t2, t3, t4⟩ := hSw; go_simp; all_goals with_reducible rfl)
        try simp only [Act.put, List.setIfInBounds_toArray, List.set_cons_zero, List.set_cons_succ]
        refine wpHd_take (i := 1) (oi := ?o1b) (v := ?v1b) ?hi1b (by kernel_rfl) (by kernel_rfl) (fun _ _ _ h => h) (Or.inl ⟨?hw1b, ?hy1b⟩) hS ?rs1b
        case hi1b => (simp only [List.getElem?_toArray, List.getElem?_cons_succ, List.getElem?_cons_zero]; rfl)
        case hw1b => rfl
        case hy1b => (intro w hSw; (try dsimp only at hSw); obtain ⟨t0, t1, t2, t3, t4⟩ := hSw; go_simp; all_goals with_reducible rfl)
        try simp only [Act.put, List.setIfInBounds_toArray, List.set_cons_zero, List.set_cons_succ]
        refine wpHd_take (i := 2) (oi := ?o2b) (v := ?v2b) ?hi2b (by kernel_rfl) (by kernel_rfl) (fun _ _ _ h => h) (Or.inl ⟨?hw2b, ?hy2b⟩) hS ?rs2b
        case hi2b => (simp only [List.getElem?_toArray, List.getElem?_cons_succ, List.getElem?_cons_zero]; rfl)
        case hw2b => rfl
        case hy2b => (intro w hSw; (try dsimp only at hSw); obtain ⟨t0, t1, t2, t3, t4⟩ := hSw; go_simp; all_goals with_reducible rfl)
        try simp only [Act.put, List.setIfInBounds_toArray, List.set_cons_zero, List.set_cons_succ]
        refine wpHd_take (i := 3) (oi := ?o3b) (v := ?v3b) ?hi3b (by kernel_rfl) (by kernel_rfl) (fun _ _ _ h => h) (Or.inl ⟨?hw3b, ?hy3b⟩) hS ?rs3b
        case hi3b => (simp only [List.getElem?_toArray, List.getElem?_cons_succ, List.getElem?_cons_zero]; rfl)
        case hw3b => rfl
        case hy3b => (intro w hSw; (try dsimp only at hSw); obtain ⟨t0, t1, t2, t3, t4⟩ := hSw; go_simp; all_goals with_reducible rfl)
        try simp only [Act.put, List.setIfInBounds_toArray, List.set_cons_zero, List.set_cons_succ]
        refine wpHd_take (i := 4) (oi := ?o4b) (v := ?v4b) ?hi4b (by kernel_rfl) (by kernel_rfl) (fun _ _ _ h => h) (Or.inl ⟨?hw4b, ?hy4b⟩) hS ?rs4b
        case hi4b => (simp only [List.getElem?_toArray, List.getElem?_cons_succ, List.getElem?_cons_zero]; rfl)
        case hw4b => rfl
        case hy4b => (intro w hSw; (try dsimp only at hSw); obtain ⟨t0, t1, t2, t3, t4⟩ := hSw; go_simp; all_goals with_reducible rfl)
        try simp only [Act.put, List.setIfInBounds_toArray, List.set_cons_zero, List.set_cons_succ]
        refine wpHd_take (i := 5) (oi := ?o5b) (v := ?v5b) ?hi5b (by kernel_rfl) (by kernel_rfl) (fun _ _ _ h => h) (Or.inl ⟨?hw5b, ?hy5b⟩) hS ?rs5b
        case hi5b => (simp only [List.getElem?_toArray, List.getElem?_cons_succ, List.getElem?_cons_zero]; rfl)
        case hw5b => rfl
        case hy5b => (intro w hSw; (try dsimp only at hSw); obtain ⟨t0, t1, t2, t3, t4⟩ := hSw; go_simp; all_goals with_reducible rfl)
        try simp only [Act.put, List.setIfInBounds_toArray, List.set_cons_zero, List.set_cons_succ]
        refine wpHd_take (i := 6) (oi := ?o6b) (v := ?v6b) ?hi6b (by kernel_rfl) (by kernel_rfl) (fun _ _ _ h => h) (Or.inl ⟨?hw6b, ?hy6b⟩) hS ?rs6b
        case hi6b => (simp only [List.getElem?_toArray, List.getElem?_cons_succ, List.getElem?_cons_zero]; rfl)
        case hw6b => rfl
        case hy6b => (intro w hSw; (try dsimp only at hSw); obtain ⟨t0, t1, t2, t3, t4⟩ := hSw; go_simp; all_goals with_reducible rfl)
        try simp only [Act.put, List.setIfInBounds_toArray, List.set_cons_zero, List.set_cons_succ]
        refine wpHd_take (i := 7) (oi := ?o7b) (v := ?v7b) ?hi7b (by kernel_rfl) (by kernel_rfl) (fun _ _ _ h => h) (Or.inl ⟨?hw7b, ?hy7b⟩) hS ?rs7b
        case hi7b => (simp only [List.getElem?_toArray, List.getElem?_cons_succ, List.getElem?_cons_zero]; rfl)
        case hw7b => rfl
        case hy7b => (intro w hSw; (try dsimp only at hSw); obtain ⟨t0, t1, t2, t3, t4⟩ := hSw; go_simp; all_goals with_reducible rfl)
        try simp only [Act.put, List.setIfInBounds_toArray, List.set_cons_zero, List.set_cons_succ]
        refine wpHd_take (i := 8) (oi := ?o8b) (v := ?v8b) ?hi8b (by kernel_rfl) (by kernel_rfl) (fun _ _ _ h => h) (Or.inl ⟨?hw8b, ?hy8b⟩) hS ?rs8b
        case hi8b => (simp only [List.getElem?_toArray, List.getElem?_cons_succ, List.getElem?_cons_zero]; rfl)
        case hw8b => rfl
        case hy8b => (intro w hSw; (try dsimp only at hSw); obtain ⟨t0, t1, t2, t3, t4⟩ := hSw; go_simp; all_goals with_reducible rfl)
        try simp only [Act.put, List.setIfInBounds_toArray, List.set_cons_zero, List.set_cons_succ]
        refine wpHd_take (i := 9) (oi := ?o9b) (v := ?v9b) ?hi9b (by kernel_rfl) (by kernel_rfl) (fun _ _ _ h => h) (Or.inl ⟨?hw9b, ?hy9b⟩) hS ?rs9b
        case hi9b => (simp only [List.getElem?_toArray, List.getElem?_cons_succ, List.getElem?_cons_zero]; rfl)
        case hw9b => rfl
        case hy9b => (intro w hSw; (try dsimp only at hSw); obtain ⟨t0, t1, t2, t3, t4⟩ := hSw; go_simp; all_goals with_reducible rfl)
        try simp only [Act.put, List.setIfInBounds_toArray, List.set_cons_zero, List.set_cons_succ]
        refine wpHd_take (i := 10) (oi := ?o10b) (v := ?v10b) ?hi10b (by kernel_rfl) (by kernel_rfl) (fun _ _ _ h => h) (Or.inl ⟨?hw10b, ?hy10b⟩) hS ?rs10b
        case hi10b => (simp only [List.getElem?_toArray, List.getElem?_cons_succ, List.getElem?_cons_zero]; rfl)
        case hw10b => rfl
        case hy10b => (intro w hSw; (try dsimp only at hSw); obtain ⟨t0, t1, t2, t3, t4⟩ := hSw; go_simp; all_goals with_reducible rfl)
        try simp only [Act.put, List.setIfInBounds_toArray, List.set_cons_zero, List.set_cons_succ]
        refine wpHd_step (i := 11) (o := ?o11b) ?hi11b (by kernel_rfl) (fun K hK => ?st11b)
        case hi11b => (simp only [List.getElem?_toArray, List.getElem?_cons_succ, List.getElem?_cons_zero]; rfl)
        go_simp
        refine (HFI.out _ (HLD.out.later (XM2.out.trans Z0))).mono ?_
        rintro r9 w9 ⟨rfl, htb9, hx9⟩
        have Z1 : Ext M2 w9 := Z0.trans hx9
        have HTB9 := hid htb9
        clear hx9 htb9
        try go_simp
        refine hK.out _ _ ?_ (fun hS => ?_)
        · exact HSK.out _ (Z1.block HB2.out)
        clear hK K
        try simp only [Act.put, List.setIfInBounds_toArray, List.set_cons_zero, List.set_cons_succ]
        refine wpHd_take (i := 12) (oi := ?o12b) (v := ?v12b) ?hi12b (by kernel_rfl) (by kernel_rfl) (fun _ _ _ h => h) (Or.inl ⟨?hw12b, ?hy12b⟩) hS ?rs12b
        case hi12b => (simp only [List.getElem?_toArray, List.getElem?_cons_succ, List.getElem?_cons_zero]; rfl)
        case hw12b => rfl
        case hy12b => (intro w hSw; (try dsimp only at hSw); obtain ⟨t0, t1, t2, t3, t4⟩ := hSw; go_simp; all_goals with_reducible rfl)
        try simp only [Act.put, List.setIfInBounds_toArray, List.set_cons_zero, List.set_cons_succ]
        refine wpHd_step (i := 13) (o := ?o13b) ?hi13b (by kernel_rfl) (fun K hK => ?st13b)
        case hi13b => (simp only [List.getElem?_toArray, List.getElem?_cons_succ, List.getElem?_cons_zero]; rfl)
        go_simp
        refine hK.out _ _ ?_ (fun hS => ?_)
        · exact HSK.out _ ((Z1.more _).block HB2.out)
        clear hK K
        try simp only [Act.put, List.setIfInBounds_toArray, List.set_cons_zero, List.set_cons_succ]
        refine wpHd_step (i := 14) (o := ?o14b) ?hi14b (by kernel_rfl) (fun K hK => ?st14b)
        case hi14b => (simp only [List.getElem?_toArray, List.getElem?_cons_succ, List.getElem?_cons_zero]; rfl)
        refine step_ritem (ty := 102) _ (by rfl) _ _ (by rfl) (by rfl) W2.heap.size w9.heap.size (.slice ao j c) ((ks.take j).map kdRow) ⟨k0, k1, k2, false, k3, abs⟩ (some ⟨M2.heap.size, 0, none⟩) abs.length (by rfl) (by rfl) (Nat.le_trans HSZ.out (Nat.le_trans Z1.size (by rw [blkS]; omega))) (HIT2.out.later (Z1.trans (Ext.alloc _ _))) (blk0 _ _) (HTB9.out.later (Ext.alloc _ _)) (by rw [List.length_map, List.length_take]; omega) ?_
        intro ao5 n5 c5 w5 hit5 hgr5
        have HIT5 := hid hit5
        have HG5 := hid (grown_kp hgr5)
        have HBX5 := hid (HG5.out.block' ((Z1.more _).block HB2.out) (fun e => by
          obtain ⟨_, cur, hc⟩ := HIT2.out.block e
          rw [HB2.out] at hc
          cases hc))
        clear hit5 hgr5
        refine hK.out _ _ ?_ (fun hS => ?_)
        · exact HSK.out _ HBX5.out
        clear hK K
        try simp only [Act.put, List.setIfInBounds_toArray, List.set_cons_zero, List.set_cons_succ]
        refine wpHd_done (by kernel_rfl) 1 rfl ?_
        refine wpAny_row 15 1 rfl (by kernel_rfl) ?_
        clear hS
        simp only [List.drop_succ_cons, List.drop_zero]
        go_wp2_with fail
        refine NoPanic.normal ?_
        go_wp2_with fail
        go_roundw
        case rel =>
          have hn5 : n5 = j + 1 := by
            obtain ⟨_, _, he⟩ := HIT5.out.shape
            have h1 := (Value.slice.inj he).2.1
            rw [h1, List.length_append, List.length_map, List.length_take, Nat.min_eq_left (by have := HNE.out; omega)]
            rfl
          subst hn5
          refine ⟨j + 1, ao5, c5, by omega, by go_num, rfl, ?_, ?_⟩
          · rw [← HTK.out, HRJ.out]
            exact HIT5.out
          · exact Below.trans ((HX.out.trans XM2.out).trans (Z1.more _)) (HG5.out.below (fun q hq e => by have := (HIT2.out.block e).1; omega) (Nat.le_trans HSZ.out (Z1.more _).size))
        case measure => simp [intOf]; omega
    · have hje : j = n := by omega
      have hlt2 : decide ((j : Int) < n) = false := decide_eq_false (by omega)
      have hlt3 : ¬ (j : Int) < n := by omega
      have HIF := hid (show RItems wr W2.heap.size (.slice ao j c) (ks.map kdRow) by
        have := HIT.out
        rwa [List.take_of_length_le (by have := HNE.out; omega)] at this)
      clear hje
      go_wp2_with fail
      refine (HNEW.out _ _ _ _ HIF.out).mono ?_
      rintro e w5 ⟨kb, mb, lv', rfl, hkm, hx5⟩
      have HKM := hid hkm
      have HX5 := hid hx5
      clear hkm hx5
      go_wp2_with fail
      go_ret
      exact ⟨_, kb, mb, lv', _, rfl, HKM.out, ⟨g, cap, by rw [HNE.out]; exact (HX.out.trans HX5.out).block HC2.out, HKR.out.later (HX.out.trans HX5.out)⟩, Nat.le_trans HX2.out.size HX.out.size, HX2.out.trans (HX.out.trans HX5.out)⟩
end Go.Proofs.YtaafcmmmkalgjaaGreatDoor
/-
  What an operation of a kit comes to, as data; the program's answer and the document's beside it.
-/
namespace Go.Proofs.YtaafcmmmkalgjaaGreatDoor
open Go.RowKit
/-- A fault's number and what was raised, or a value. -/
inductive Ans where
  | bad (c : Int) (x : ByteArray)
  | good (t : T)
def Ans.one (c : Int) : Ans := .bad c ⟨#[]⟩
def AnsV (r : Ans) (w : World) (V : Value) : Prop := match r with
  | .bad c x => (c == 0) = false ∧ V = refX c x
  | .good t => t.may ∧ ∃ K d v, V = .tuple #[v, .int .i64 0, .string ⟨#[]⟩] ∧ VRd K w d v t
def AnsP (r : Ans) (w : World) (R : Value) : Prop := match r with
  | .bad c x => R = .tuple #[.agg #[.int .i64 0, .int .i64 0, .string ⟨#[]⟩, .slice none 0 0], .int .i64 c, .string x]
  | .good t => ∃ K d p, R = .tuple #[p, .int .i64 0, .string ⟨#[]⟩] ∧ Rd K w d p t
theorem AnsV.later {r : Ans} {w w' : World} {V : Value} (h : AnsV r w V) (hx : Ext w w') : AnsV r w' V := by
  cases r with
  | bad c x => exact h
  | good t =>
    obtain ⟨hm, K, d, v, e, hr⟩ := h
    exact ⟨hm, K, d, v, e, hr.later hx⟩
theorem AnsP.later {r : Ans} {w w' : World} {V : Value} (h : AnsP r w V) (hx : Ext w w') : AnsP r w' V := by
  cases r with
  | bad c x => exact h
  | good t =>
    obtain ⟨K, d, p, e, hr⟩ := h
    exact ⟨K, d, p, e, hr.later hx⟩
theorem AnsV.shape {r : Ans} {w : World} {V : Value} (h : AnsV r w V) : ∃ v ec ex, V = .tuple #[v, .int .i64 ec, .string ex] ∧ (v = .nilIface ∨ ∃ τ q, v = .iface τ q) := by
  cases r with
  | bad c x => exact ⟨_, _, _, h.2, .inl rfl⟩
  | good t =>
    obtain ⟨_, K, d, v, e, hr⟩ := h
    obtain ⟨τ, q, rfl⟩ := hr.iface
    exact ⟨_, _, _, e, .inr ⟨_, _, rfl⟩⟩
/-- The document's answer beside the program's: Fits holds them for the same. -/
theorem AnsP.beside {r : Ans} {w1 w2 : World} {v : Value} {ec : Int} {ex : ByteArray} {R : Value} (h : AnsP r w2 R) (hv : AnsV r w1 (.tuple #[v, .int .i64 ec, .string ex])) : ∃ k n x a l c, R = .tuple #[.agg #[.int .i64 k, .int .i64 n, .string x, .slice a l c], .int .i64 ec, .string ex] ∧ ∀ w, Ext w1 w → Ext w2 w → Calls Tryz.prog 26 #[v, .int .i64 ec, .agg #[.int .i64 k, .int .i64 n, .string x, .slice a l c], .int .i64 ec] w fun r w' => r = .returned (.bool true) ∧ Ext w w' := by
  cases r with
  | bad c x =>
    obtain ⟨hc, e⟩ := hv
    simp only [refX, Value.tuple.injEq, Array.mk.injEq, List.cons.injEq, and_true, Value.int.injEq, Value.string.injEq, true_and] at e
    obtain ⟨rfl, rfl, rfl⟩ := e
    exact ⟨_, _, _, _, _, _, h, fun w _ _ => fits_err ec (by simpa using hc) _ ⟨_, _, _, _, _, _, rfl⟩ w⟩
  | good t =>
    obtain ⟨hm, K, d, v', e, hr⟩ := hv
    obtain ⟨K', d', p, e', hr'⟩ := h
    simp only [Value.tuple.injEq, Array.mk.injEq, List.cons.injEq, and_true, Value.int.injEq, Value.string.injEq, true_and] at e
    obtain ⟨rfl, rfl, rfl⟩ := e
    obtain ⟨u0, u1, u2, u3, rfl⟩ := hr'.agg
    obtain ⟨k, n, x, a, c, rfl, rfl, rfl, rfl⟩ := hr'.shape
    exact ⟨_, _, _, _, _, _, e', fun w h1 h2 => fits_ok w (hr.later h1) (hr'.later h2) hm⟩
theorem AnsV.one {c : Int} (h : (c == 0) = false) (w : World) : AnsV (Ans.one c) w (refV c) := ⟨h, rfl⟩
/-- The answer of a kit's Work; fn: what the operation itself comes to. -/
noncomputable def ansOf (ks : List Kd) (op : ByteArray) (ts : List T) (fn : Ans) : Ans :=
  match kdFind ks op with
  | none => Ans.one 1
  | some k => match k.does with
    | none => Ans.one 1
    | some _ => if cntOk k ts.length = false then Ans.one 11 else if ∀ t ∈ ts, t.may then (if rightB k.signs.data.toList (ts.map T.kind) = true then fn else Ans.one 20) else Ans.one 1
theorem ansOf_of {ks : List Kd} {op : ByteArray} {ts : List T} {fn : Ans} {w : World} {V : Value} (h : WorkQ ks op ts (AnsV fn) w V) : AnsV (ansOf ks op ts fn) w V := by
  unfold WorkQ at h
  unfold ansOf
  split at h
  · rename_i e; rw [e]; rw [h]; exact AnsV.one (by decide) w
  · rename_i k e
    rw [e]
    split at h
    · rename_i e2
      dsimp only
      rw [e2, h]; exact AnsV.one (by decide) w
    · rename_i e2
      dsimp only
      rw [e2]
      dsimp only
      split at h
      · rename_i h1
        rw [if_pos h1, h]; exact AnsV.one (by decide) w
      · rename_i h1
        rw [if_neg h1]
        split at h
        · rename_i h2
          rw [if_pos h2]
          split at h
          · rename_i h3; rw [if_pos h3]; exact h
          · rename_i h3; rw [if_neg h3, h]; exact AnsV.one (by decide) w
        · rename_i h2
          rw [if_neg h2, h]; exact AnsV.one (by decide) w
/-- What the document asks of a call, but for sorts. -/
def strictS : ByteArray := ⟨#[83, 116, 114, 105, 99, 116]⟩
def anyS (x : ByteArray) (xs : List ByteArray) : Bool := xs.any (fun y => decide (y = x))
def strictM (op : ByteArray) (r : Rw) : Bool := decide (r.kind = op) && anyS strictS r.abs
noncomputable def askM (rs : List Rw) (op : ByteArray) (ts : List T) : Int := match rs.find? (strictM op) with
  | none => 1
  | some r => if (ts.length : Int) < r.min ∨ (r.max ≠ -1 ∧ r.max < (ts.length : Int)) then 11 else if ∀ t ∈ ts, t.may then 0 else 1
noncomputable def askK (ks : List Kd) (op : ByteArray) (ts : List T) : Int := match kdFind ks op with
  | none => 1
  | some k => match k.does with
    | none => 1
    | some _ => if cntOk k ts.length = false then 11 else if ∀ t ∈ ts, t.may then 0 else 1
/-- A table whose kinds that do something are its strict ones. -/
structure TabK (ks : List Kd) : Prop where
  strict : ∀ k ∈ ks, anyS strictS (kdRow k).abs = k.does.isSome
  nodup : (ks.map Kd.name).Nodup
  max : ∀ k ∈ ks, k.max = -1 ∨ 0 ≤ k.max
theorem TabK.tail {k : Kd} {ks : List Kd} (h : TabK (k :: ks)) : TabK ks :=
  ⟨fun q hq => h.strict q (List.mem_cons_of_mem _ hq), (List.nodup_cons.1 h.nodup).2, fun q hq => h.max q (List.mem_cons_of_mem _ hq)⟩
theorem find_none_of {ks : List Kd} {op : ByteArray} (h : op ∉ ks.map Kd.name) : (ks.map kdRow).find? (strictM op) = none := by
  rw [List.find?_eq_none]
  intro r hr
  obtain ⟨k, hk, rfl⟩ := List.mem_map.1 hr
  unfold strictM
  rw [Bool.and_eq_true, decide_eq_true_eq]
  intro hh
  exact h (List.mem_map.2 ⟨k, hk, hh.1⟩)
theorem ask_eq : ∀ (ks : List Kd) (_ : TabK ks) (op : ByteArray) (ts : List T), askM (ks.map kdRow) op ts = askK ks op ts
  | [], _, _, _ => rfl
  | k :: ks, h, op, ts => by
    have ih := ask_eq ks h.tail op ts
    unfold askM askK kdFind at ih ⊢
    rw [List.map_cons, List.find?_cons, List.find?_cons]
    by_cases hk : k.name = op
    · have e1 : decide (k.name = op) = true := decide_eq_true hk
      have e2 : strictM op (kdRow k) = k.does.isSome := by
        unfold strictM
        rw [show (kdRow k).kind = k.name from rfl, e1, Bool.true_and, h.strict k List.mem_cons_self]
      rw [e1, e2]
      cases hd : k.does with
      | none =>
        have hn : op ∉ ks.map Kd.name := by rw [← hk]; exact (List.nodup_cons.1 h.nodup).1
        rw [show (Option.none : Option Nat).isSome = false from rfl]
        dsimp only
        rw [find_none_of hn, hd]
      | some f =>
        rw [show (some f).isSome = true from rfl]
        dsimp only
        rw [hd]
        dsimp only
        have hmx := h.max k List.mem_cons_self
        have ec : ((ts.length : Int) < (kdRow k).min ∨ ((kdRow k).max ≠ -1 ∧ (kdRow k).max < (ts.length : Int))) ↔ cntOk k ts.length = false := by
          unfold cntOk
          rw [show (kdRow k).min = k.min from rfl, show (kdRow k).max = k.max from rfl]
          simp only [Bool.and_eq_false_iff, Bool.or_eq_false_iff, decide_eq_false_iff_not]
          omega
        by_cases hc : cntOk k ts.length = false
        · rw [if_pos hc, if_pos (ec.2 hc)]
        · rw [if_neg hc, if_neg (fun hh => hc (ec.1 hh))]
    · have e1 : decide (k.name = op) = false := decide_eq_false hk
      have e2 : strictM op (kdRow k) = false := by
        unfold strictM
        rw [show (kdRow k).kind = k.name from rfl, e1, Bool.false_and]
      rw [e1, e2]
      exact ih
/-- Beside a number of the document's asking the answer is that fault. -/
theorem ansOf_ask {ks : List Kd} {op : ByteArray} {ts : List T} {fn : Ans} (h : (askK ks op ts == 0) = false) : ansOf ks op ts fn = Ans.one (askK ks op ts) := by
  unfold ansOf
  unfold askK at h ⊢
  split
  · rename_i e; rfl
  · rename_i k e
    rw [e] at h
    dsimp only at h
    split
    · rfl
    · rename_i e2
      rw [e2] at h
      dsimp only at h
      by_cases hc : cntOk k ts.length = false
      · rw [if_pos hc, if_pos hc]
      · rw [if_neg hc] at h
        rw [if_neg hc, if_neg hc]
        by_cases hm : ∀ t ∈ ts, t.may
        · rw [if_pos hm] at h; exact absurd h (by decide)
        · rw [if_neg hm, if_neg hm]
/-- Where nothing is amiss the operation is one of the table's, with its number of values, each of which may be. -/
theorem ask_zero {ks : List Kd} {op : ByteArray} {ts : List T} (h : askK ks op ts = 0) : ∃ k f, kdFind ks op = some k ∧ k.does = some f ∧ cntOk k ts.length = true ∧ (∀ t ∈ ts, t.may) ∧ ∀ fn, ansOf ks op ts fn = if rightB k.signs.data.toList (ts.map T.kind) = true then fn else Ans.one 20 := by
  unfold askK at h
  split at h
  · exact absurd h (by decide)
  · rename_i k e
    split at h
    · exact absurd h (by decide)
    · rename_i f e2
      by_cases hc : cntOk k ts.length = false
      · rw [if_pos hc] at h; exact absurd h (by decide)
      · rw [if_neg hc] at h
        by_cases hm : ∀ t ∈ ts, t.may
        · have hc' : cntOk k ts.length = true := by simpa using hc
          refine ⟨k, f, e, e2, hc', hm, fun fn => ?_⟩
          unfold ansOf
          rw [e]
          dsimp only
          rw [e2]
          dsimp only
          rw [if_neg hc, if_pos hm]
        · rw [if_neg hm] at h; exact absurd h (by decide)
/-- One answer of both: the program's function nw and the document's rw. -/
def BothQ (nw rw : Nat) (op : ByteArray) (ts : List T) : Prop := ∃ r : Ans, (∀ w a c, MaxAt w → PRow w a ts → Calls Tryz.prog nw #[.string op, .slice a ts.length c] w fun e w' => ∃ V, e = .returned V ∧ AnsV r w' V ∧ Ext w w') ∧
  ∀ K d w a c, RdL K w d a ts → Calls Tryz.prog rw #[.string op, .slice a ts.length c] w fun e w' => ∃ R, e = .returned R ∧ AnsP r w' R ∧ Ext w w'
theorem kind_five {t : T} (h : t.may) : t.kind = 1 ∨ t.kind = 2 ∨ t.kind = 3 ∨ t.kind = 4 ∨ t.kind = 5 := by
  have := T.wf_of t h.1
  obtain ⟨k, n, x, ks⟩ := t
  have : T.wfP k n x.size ks.length := this
  unfold T.wfP at this
  show k = 1 ∨ k = 2 ∨ k = 3 ∨ k = 4 ∨ k = 5
  omega
def truthI (b : Bool) : Int := if b then 1 else 0
def trT (b : Bool) : T := .node 2 (truthI b) ⟨#[]⟩ []
theorem bytes_nil {x : ByteArray} (h : x.size = 0) : x = ⟨#[]⟩ := by
  obtain ⟨d⟩ := x
  have hd : d.size = 0 := h
  rw [Array.eq_empty_of_size_eq_zero hd]
theorem truth_of {t : T} (h : t.may) (h2 : t.kind = 2) : ∃ b, t = trT b := by
  have := T.wf_of t h.1
  obtain ⟨k, n, x, ks⟩ := t
  obtain rfl : k = 2 := h2
  have : T.wfP 2 n x.size ks.length := this
  unfold T.wfP at this
  have hx : (n = 0 ∨ n = 1) ∧ x.size = 0 ∧ ks.length = 0 := by omega
  obtain rfl := List.eq_nil_of_length_eq_zero hx.2.2
  obtain rfl := bytes_nil hx.2.1
  rcases hx.1 with rfl | rfl
  · exact ⟨false, rfl⟩
  · exact ⟨true, rfl⟩
theorem text_of {t : T} (h : t.may) (h4 : t.kind = 4) : ∃ s : ByteArray, s.size ≤ 65535 ∧ t = textT s := by
  have := T.wf_of t h.1
  have hz := h.2.1
  obtain ⟨k, n, x, ks⟩ := t
  obtain rfl : k = 4 := h4
  have : T.wfP 4 n x.size ks.length := this
  unfold T.wfP at this
  have hx : n = 0 ∧ ks.length = 0 := by omega
  obtain rfl := List.eq_nil_of_length_eq_zero hx.2
  obtain rfl := hx.1
  have hz' : (T.node 4 0 x []).size ≤ 65536 := hz
  simp only [T.size, T.sizeL] at hz'
  exact ⟨x, by omega, rfl⟩
end Go.Proofs.YtaafcmmmkalgjaaGreatDoor
/-
  craft.find by a contract: the first kind of that name in a copied table, or the zero kind.
-/
namespace Go.Proofs.YtaafcmmmkalgjaaGreatDoor
open Go.RowKit
set_option maxRecDepth 100000 in
set_option maxHeartbeats 2000000 in
theorem findK_any (ks : List Kd) (tb cp : Nat) (name : ByteArray) (w : World) (hl : ks.length ≤ 1000) (ht : KRow w tb ks) : Calls Tryz.prog 49 #[.slice (some ⟨tb, 0, none⟩) ks.length cp, .string name] w fun e w' => e = .returned (.tuple #[kdVal (kdFind ks name), .bool (kdFind ks name).isSome]) ∧ Ext w w' := by
  have hl' : (ks.length : Int) ≤ 1000 := by omega
  obtain ⟨M, hM⟩ : ∃ M, w.alloc (.cells #[.string ⟨#[]⟩, .int .i64 0, .int .i64 0, .int .i64 0, .string ⟨#[]⟩, .string ⟨#[]⟩, .nilFunc, .nilFunc, .bool false] 76) = M := ⟨_, rfl⟩
  have XM := hid (show Ext w M from hM ▸ Ext.alloc _ _)
  have HM0 := hid (show M.heap[w.heap.size]? = some (.cells #[.string ⟨#[]⟩, .int .i64 0, .int .i64 0, .int .i64 0, .string ⟨#[]⟩, .string ⟨#[]⟩, .nilFunc, .nilFunc, .bool false] 76) from hM ▸ blk0 _ _)
  have HT := hid ht
  have HL := hid hl
  obtain ⟨n, hn⟩ : ∃ n, ks.length = n := ⟨_, rfl⟩
  have HN := hid hn
  rw [hn] at hl' ⊢
  clear ht hl hn
  go_enter Tryz.func49, Tryz.ntmps49
  go_wp2_with fail
  clear hM
  go_loopw [10] (fun q10 wr => ∃ j : Nat, j ≤ n ∧ q10 = .int .i64 j ∧ (∀ i, (hi : i < ks.length) → i < j → ks[i].name ≠ name) ∧ Ext M wr) (fun q10 _ => n - (intOf q10).toNat)
  case atStart => exact ⟨0, Nat.zero_le _, rfl, fun i _ h => absurd h (Nat.not_lt_zero _), Ext.refl _⟩
  case round =>
    obtain ⟨j, hj, rfl, hno, hx⟩ := hrel
    have HNO := hid hno
    have XR := hid hx
    have HZ := hid (hx.block HM0.out)
    have XW := hid (XM.out.trans hx)
    obtain ⟨f0, f1, f2, f3, f4, f5, f6, f7, f8⟩ := nine_free HZ.out
    obtain ⟨r0, r1, r2, r3, r4, r5, r6, r7, r8⟩ := nine_of HZ.out
    have hlw : w.heap.size < wr.heap.size := lt_of_block HZ.out
    clear hno hx
    by_cases hlt : j < n
    · have hlt' : (j : Int) < n := by omega
      have hjk : j < ks.length := by rw [HN.out]; exact hlt
      obtain ⟨p0, p1, p2, p3, p4, p5, p6, p7, p8⟩ := HT.out.later (XM.out.trans XR.out) j hjk
      have heq := str_eqb ks[j].name name
      have HF := hid (fun h => kdFind_at hjk h (fun i hi => HNO.out i (by omega) hi))
      have HS := hid (show ks[j].name ≠ name → ∀ i, (hi : i < ks.length) → i < j + 1 → ks[i].name ≠ name from fun h i hi hij => by
        by_cases e : i = j
        · subst e; exact h
        · exact HNO.out i hi (by omega))
      generalize ks[j] = kj at *
      have HV := hid (show kdVal (some kj) = .agg #[.string kj.name, .int .i64 kj.min, .int .i64 kj.max, .int .i64 kj.text, .string kj.has, .string kj.signs, .func (.func kj.make) #[] #[], fnV kj.does, .bool kj.joins] from rfl)
      clear hjk
      obtain ⟨k0, k1, k2, k3, k4, k5, k6, k7, k8⟩ := kj
      dsimp only at *
      have p6' : wr.cell? ⟨tb, j * 9 + 6, none⟩ = some (.func (.func k6) #[] #[]) := p6
      clear p6
      cases k7 with
      | none =>
        have p7' : wr.cell? ⟨tb, j * 9 + 7, none⟩ = some .nilFunc := p7
        clear p7
        by_cases he : k0 = name
        · rw [decide_eq_true he] at heq
          have HFD := hid (HF.out he)
          clear he
          go_wp2_with fail
          obtain ⟨z0, z1, z2, z3, z4, z5, z6, z7, z8⟩ := nine_of (blkOld (.cells #[.string k0, .int .i64 k1, .int .i64 k2, .int .i64 k3, .string k4, .string k5, .func (.func k6) #[] #[], .nilFunc, .bool k8] 76) (nine_set (u0 := .string k0) (u1 := .int .i64 k1) (u2 := .int .i64 k2) (u3 := .int .i64 k3) (u4 := .string k4) (u5 := .string k5) (u6 := .func (.func k6) #[] #[]) (u7 := .nilFunc) (u8 := .bool k8) HZ.out))
          refine bodyPost_ret (v := .tuple #[.agg #[.string k0, .int .i64 k1, .int .i64 k2, .int .i64 k3, .string k4, .string k5, .func (.func k6) #[] #[], .nilFunc, .bool k8], .bool true]) (by simp [results, Tryz.results49, go_sem, z0, z1, z2, z3, z4, z5, z6, z7, z8]) rfl ?_
          have HK := Kp.set9 wr w.heap.size (.string k0) (.int .i64 k1) (.int .i64 k2) (.int .i64 k3) (.string k4) (.string k5) (.func (.func k6) #[] #[]) .nilFunc (.bool k8)
          have HX := Kp.extOf XW.out HK (Nat.le_refl _)
          exact ⟨by rw [HFD.out, HV.out]; rfl, HX.trans (Ext.alloc _ _)⟩
        · rw [decide_eq_false he] at heq
          have HNX := hid (HS.out he)
          clear he
          go_wp2_with fail
          go_roundw
          case rel => exact ⟨j + 1, by omega, by go_num, HNX.out, XR.out.trans (Ext.alloc _ _)⟩
          case measure => simp [intOf]; omega
      | some fd =>
        have p7' : wr.cell? ⟨tb, j * 9 + 7, none⟩ = some (.func (.func fd) #[] #[]) := p7
        clear p7
        by_cases he : k0 = name
        · rw [decide_eq_true he] at heq
          have HFD := hid (HF.out he)
          clear he
          go_wp2_with fail
          obtain ⟨z0, z1, z2, z3, z4, z5, z6, z7, z8⟩ := nine_of (blkOld (.cells #[.string k0, .int .i64 k1, .int .i64 k2, .int .i64 k3, .string k4, .string k5, .func (.func k6) #[] #[], .func (.func fd) #[] #[], .bool k8] 76) (nine_set (u0 := .string k0) (u1 := .int .i64 k1) (u2 := .int .i64 k2) (u3 := .int .i64 k3) (u4 := .string k4) (u5 := .string k5) (u6 := .func (.func k6) #[] #[]) (u7 := .func (.func fd) #[] #[]) (u8 := .bool k8) HZ.out))
          refine bodyPost_ret (v := .tuple #[.agg #[.string k0, .int .i64 k1, .int .i64 k2, .int .i64 k3, .string k4, .string k5, .func (.func k6) #[] #[], .func (.func fd) #[] #[], .bool k8], .bool true]) (by simp [results, Tryz.results49, go_sem, z0, z1, z2, z3, z4, z5, z6, z7, z8]) rfl ?_
          have HK := Kp.set9 wr w.heap.size (.string k0) (.int .i64 k1) (.int .i64 k2) (.int .i64 k3) (.string k4) (.string k5) (.func (.func k6) #[] #[]) (.func (.func fd) #[] #[]) (.bool k8)
          have HX := Kp.extOf XW.out HK (Nat.le_refl _)
          exact ⟨by rw [HFD.out, HV.out]; rfl, HX.trans (Ext.alloc _ _)⟩
        · rw [decide_eq_false he] at heq
          have HNX := hid (HS.out he)
          clear he
          go_wp2_with fail
          go_roundw
          case rel => exact ⟨j + 1, by omega, by go_num, HNX.out, XR.out.trans (Ext.alloc _ _)⟩
          case measure => simp [intOf]; omega
    · have hje : j = n := by omega
      have hlt' : ¬ (j : Int) < n := by omega
      have hlt2 : decide ((j : Int) < n) = false := decide_eq_false hlt'
      have HFN := hid (kdFind_none (ks := ks) (name := name) (fun i hi => HNO.out i hi (by have := HN.out; omega)))
      clear hje hlt
      go_wp2_with fail
      obtain ⟨z0, z1, z2, z3, z4, z5, z6, z7, z8⟩ := nine_of (nine_set (u0 := .string ⟨#[]⟩) (u1 := .int .i64 0) (u2 := .int .i64 0) (u3 := .int .i64 0) (u4 := .string ⟨#[]⟩) (u5 := .string ⟨#[]⟩) (u6 := .nilFunc) (u7 := .nilFunc) (u8 := .bool false) HZ.out)
      refine bodyPost_ret (v := .tuple #[.agg #[.string ⟨#[]⟩, .int .i64 0, .int .i64 0, .int .i64 0, .string ⟨#[]⟩, .string ⟨#[]⟩, .nilFunc, .nilFunc, .bool false], .bool false]) (by simp [results, Tryz.results49, go_sem, z0, z1, z2, z3, z4, z5, z6, z7, z8]) rfl ?_
      refine ⟨?_, Kp.extOf XW.out (Kp.set9 wr w.heap.size _ _ _ _ _ _ _ _ _) (Nat.le_refl _)⟩
      rw [HFN.out]
      rfl
end Go.Proofs.YtaafcmmmkalgjaaGreatDoor
