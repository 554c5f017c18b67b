/-
  (*Kit).add of a row that may be, by a contract.
-/
import Derived.Test.YtaafcmmmkalgjaaGreatDoorKBlk
import Derived.Deep.RegionHeld3
import Derived.RegionTactic
import Derived.Test.YtaafcmmmkalgjaaGreatDoorSHead
import Derived.Test.YtaafcmmmkalgjaaGreatDoorShelf
namespace Go.Proofs.YtaafcmmmkalgjaaGreatDoor
open Go.RowKit
/-- Where a kind's row stands. -/
def kIx (acc : List Rw) (k : ByteArray) : Option Nat := acc.findIdx? (fun r => decide (r.kind = k))
theorem kIx_snoc {acc : List Rw} {r : Rw} (h : kIx acc r.kind = none) : kIx (acc ++ [r]) = fun k => if k = r.kind then some acc.length else kIx acc k := by
  funext k
  unfold kIx at *
  rw [List.findIdx?_append]
  by_cases e : k = r.kind
  · subst e
    rw [h, if_pos rfl]
    simp
  · rw [if_neg e]
    have e' : ¬ r.kind = k := fun h => e h.symm
    simp [e']
theorem Kp.below {K : Nat → Prop} {a b : World} {base : Nat} (h : Kp K a b) (hK : ∀ q, q < base → K q) (hb : base ≤ a.heap.size) : Below base a b := ⟨h.os, h.tape, h.output, h.size, fun i hi => h.block i (Nat.lt_of_lt_of_le hi hb) (hK i hi)⟩
/-- A kit that is being made. -/
structure KitM (w : World) (base kb mb : Nat) (nm : ByteArray) (mk : Value) (lv : Value) (acc : List Rw) : Prop where
  blk : w.heap[kb]? = some (.cells #[.string nm, lv, .map (some mb), mk] 133)
  kge : base ≤ kb
  mge : base ≤ mb
  map : MapAt w mb acc.length (kIx acc)
  rows : RItems w base lv acc
theorem KitM.later {w w' : World} {base kb mb : Nat} {nm : ByteArray} {mk lv : Value} {acc : List Rw} (h : KitM w base kb mb nm mk lv acc) (hx : Ext w w') : KitM w' base kb mb nm mk lv acc := ⟨hx.block h.blk, h.kge, h.mge, h.map.later hx, h.rows.later hx⟩
theorem KitM.four {w : World} {base kb mb : Nat} {nm : ByteArray} {mk lv : Value} {acc : List Rw} (h : KitM w base kb mb nm mk lv acc) : w.cell? ⟨kb, 0, none⟩ = some (.string nm) ∧ w.cell? ⟨kb, 1, none⟩ = some lv ∧ w.cell? ⟨kb, 2, none⟩ = some (.map (some mb)) ∧ w.cell? ⟨kb, 3, none⟩ = some mk := ⟨cell_of h.blk rfl, cell_of h.blk rfl, cell_of h.blk rfl, cell_of h.blk rfl⟩
/-- A row's block. -/
abbrev RowAt (w : World) (b : Nat) (r : Rw) (a : Option Addr) (c : Nat) : Prop := w.heap[b]? = some (.cells #[.string r.kind, .int .i64 r.min, .int .i64 r.max, .bool r.num, .int .i64 r.text, .slice a r.abs.length c] 102)
set_option linter.unusedSimpArgs false in
set_option maxRecDepth 100000 in
set_option maxHeartbeats 2000000 in
theorem add_good {pre : List UInt8} {r : Rw} (hg : GoodR pre r) (base kb mb : Nat) (nm : ByteArray) (hnm : nm = ⟨pre.toArray⟩) (mk lv : Value) (acc : List Rw) (a : Option Addr) (c : Nat) (w : World) (hk : KitM w base kb mb nm mk lv acc) (ht : TB w a r.abs) (hno : kIx acc r.kind = none) (hlim : acc.length ≤ 1000) (hbw : base ≤ w.heap.size) :
    Calls Tryz.prog 88 #[.pointer (some ⟨kb, 0, none⟩), r.val a c] w fun e w' => e = .returned (.int .i64 0) ∧ ∃ lv', KitM w' base kb mb nm mk lv' (acc ++ [r]) ∧ Below base w w' := by
  subst hnm
  have HMAY := hid (fun w1 (hx : Ext w w1) => may_good hg a c w1 (ht.later hx).row)
  have HKI := hid (fun w1 => hg.kind_ok w1)
  have HCP := hid (fun w1 h => copied_any r a c w1 hg.len h)
  have HK := hid hk
  have HT := hid ht
  have HNO := hid hno
  have hks : r.kind.size ≤ 4000 := hg.size
  have HRV := hid (show r.val a c = .agg #[.string r.kind, .int .i64 r.min, .int .i64 r.max, .bool r.num, .int .i64 r.text, .slice a r.abs.length c] from rfl)
  rw [HRV.out] at HMAY HCP ⊢
  obtain ⟨ao, lc, hlv⟩ := hk.rows.shape
  clear hg hk ht hno
  obtain ⟨M, hM⟩ : ∃ M, w.alloc (.cells #[.string r.kind, .int .i64 r.min, .int .i64 r.max, .bool r.num, .int .i64 r.text, .slice a r.abs.length c] 102) = M := ⟨_, rfl⟩
  have XM := hid (show Ext w M from hM ▸ Ext.alloc _ _)
  have HR0 := hid (show RowAt M w.heap.size r a c from hM ▸ blk0 _ _)
  obtain ⟨SP, hSP⟩ : ∃ S : ByteArray, (⟨pre.toArray⟩ : ByteArray) = S := ⟨_, rfl⟩
  have hsrc := str_eqb SP SP
  rw [decide_eq_true rfl] at hsrc
  rw [hSP] at HKI HK ⊢
  have hsrc2 : (SP.toList != SP.toList) = false := by unfold bne; rw [hsrc]; rfl
  clear hSP
  obtain ⟨z0, z1, z2, z3, z4, z5⟩ := six_of HR0.out
  go_enter Tryz.func88, Tryz.ntmps88
  go_wp2_with fail
  clear hM
  refine (HMAY.out _ XM.out).mono ?_
  rintro e w1 ⟨rfl, hx1⟩
  have X1 := hid (XM.out.trans hx1)
  have HR1 := hid (show RowAt w1 w.heap.size r a c from hx1.block HR0.out)
  obtain ⟨y0, y1, y2, y3, y4, y5⟩ := six_of HR1.out
  clear hx1 z0 z1 z2 z3 z4 z5
  go_wp2_with fail
  obtain ⟨P, hP⟩ := HKI.out w1
  refine hP.mono ?_
  clear hP y0 y1 y2 y3 y4 y5
  rintro e w2 ⟨rfl, hx2⟩
  have X2 := hid (X1.out.trans hx2)
  have HR2 := hid (show RowAt w2 w.heap.size r a c from hx2.block HR1.out)
  obtain ⟨y0, y1, y2, y3, y4, y5⟩ := six_of HR2.out
  have HK2 := hid (HK.out.later X2.out)
  obtain ⟨k0, k1, k2, k3⟩ := HK2.out.four
  have hl := (HK2.out.map.later (Ext.refl w2).drew).look r.kind (by omega)
  rw [HNO.out] at hl
  have hl' : (Instr.lookup 130 (.map (some mb)) (.string r.kind) true).run Tryz.prog w2.drew = .ok (.tuple #[.int .i64 0, .bool false]) w2.drew := hl
  clear hl hx2
  go_upto_region 7 with fail
  go_region
  clear hl'
  subst hlv
  have HL := hid (show acc.length ≤ 1000 from hlim)
  obtain ⟨w3, hput, hmap3, hkp3⟩ := (HK2.out.map.later ((Ext.refl w2).drew).drew).put r.kind acc.length (by omega) (by omega)
  rw [← kIx_snoc HNO.out] at hmap3
  have HP3 := hid hmap3
  have HKP := hid hkp3
  clear hmap3 hkp3
  go_upto_region 10 with fail
  generalize hal : acc.length = al at *
  have HAL := hid hal
  clear hal
  go_region
  have HK3 := hid (HKP.out.block' (((Ext.refl w2).drew).drew.block HK2.out.blk) (fun e => (HK2.out.map.nocells (e ▸ HK2.out.blk)).elim))
  have HR3 := hid (show RowAt w3 w.heap.size r a c from HKP.out.block' (((Ext.refl w2).drew).drew.block HR2.out) (fun e => (HK2.out.map.nocells (e ▸ HR2.out)).elim))
  have HI3 := hid ((HK2.out.rows.later ((Ext.refl w2).drew).drew).keep HKP.out (fun q hq e => by
    obtain ⟨_, cur, hc⟩ := HK2.out.rows.block hq
    exact HK2.out.map.nocells (e ▸ hc)) (fun q cur hq e => (HK2.out.map.later ((Ext.refl w2).drew).drew).nocells (e ▸ hq)))
  have HT3 := hid ((HT.out.later (X2.out.trans ((Ext.refl w2).drew).drew)).keep HKP.out (fun q cur hq e => (HK2.out.map.later ((Ext.refl w2).drew).drew).nocells (e ▸ hq)))
  have HRB := hid (show (Value.slice ao al lc).ownBlock ≠ some w.heap.size from fun e => by
    obtain ⟨_, cur, hc⟩ := HK.out.rows.block e
    exact absurd (lt_of_block hc) (Nat.lt_irrefl _))
  have HB3 := hid (show base ≤ w3.heap.size from Nat.le_trans hbw (Nat.le_trans X2.out.size HKP.out.size))
  clear y0 y1 y2 y3 y4 y5 k0 k1 k2 k3 hput
  generalize hrb : w.heap.size = rb at HR3 HRB ⊢
  clear hrb
  have HSK := hid (show ∀ W', W'.heap[kb]? = some (.cells #[.string SP, .slice ao al lc, .map (some mb), mk] 133) → RowAt W' rb r a c → (W'.cell? ⟨kb, 1, none⟩ = some (.slice ao al lc) ∧ W'.cell? ⟨rb, 0, none⟩ = some (.string r.kind) ∧ W'.cell? ⟨rb, 1, none⟩ = some (.int .i64 r.min) ∧ W'.cell? ⟨rb, 2, none⟩ = some (.int .i64 r.max) ∧ W'.cell? ⟨rb, 3, none⟩ = some (.bool r.num) ∧ W'.cell? ⟨rb, 4, none⟩ = some (.int .i64 r.text) ∧ W'.cell? ⟨rb, 5, none⟩ = some (.slice a r.abs.length c)) from fun W' X Y => by
    obtain ⟨s0, s1, s2, s3, s4, s5⟩ := six_of Y
    exact ⟨cell_of X rfl, s0, s1, s2, s3, s4, s5⟩)
  go_upto_region 11 with fail
  refine wp_region_noPanic ?_
  refine wp_region_headed (S := fun W' => W'.cell? ⟨kb, 1, none⟩ = some (.slice ao al lc) ∧ W'.cell? ⟨rb, 0, none⟩ = some (.string r.kind) ∧ W'.cell? ⟨rb, 1, none⟩ = some (.int .i64 r.min) ∧ W'.cell? ⟨rb, 2, none⟩ = some (.int .i64 r.max) ∧ W'.cell? ⟨rb, 3, none⟩ = some (.bool r.num) ∧ W'.cell? ⟨rb, 4, none⟩ = some (.int .i64 r.text) ∧ W'.cell? ⟨rb, 5, none⟩ = some (.slice a r.abs.length c)) 9 (by kernel_rfl) (by kernel_rfl) (HSK.out _ ((Ext.refl w3).drew.block HK3.out) ((Ext.refl w3).drew.block HR3.out)) (fun hS => ?_)
  have Z0 : Ext w3 w3.drew := Ext.drew (Ext.refl _)
  refine wpHd_take (i := 0) (oi := ?o0) (v := ?v0) ?hi0 (by kernel_rfl) (by kernel_rfl) (fun _ _ _ h => h) (Or.inl ⟨?hw0, ?hy0⟩) hS ?rs0
  case hi0 => (simp only [List.getElem?_toArray, List.getElem?_cons_succ, List.getElem?_cons_zero]; rfl)
  case hw0 => rfl
  case hy0 => (intro w hSw; (try dsimp only at hSw); obtain ⟨t0, t1, t2, t3, t4, t5, t6⟩ := hSw; go_simp; all_goals with_reducible rfl)
  try simp only [Act.put, List.setIfInBounds_toArray, List.set_cons_zero, List.set_cons_succ]
  refine wpHd_take (i := 1) (oi := ?o1) (v := ?v1) ?hi1 (by kernel_rfl) (by kernel_rfl) (fun _ _ _ h => h) (Or.inl ⟨?hw1, ?hy1⟩) hS ?rs1
  case hi1 => (simp only [List.getElem?_toArray, List.getElem?_cons_succ, List.getElem?_cons_zero]; rfl)
  case hw1 => rfl
  case hy1 => (intro w hSw; (try dsimp only at hSw); obtain ⟨t0, t1, t2, t3, t4, t5, t6⟩ := hSw; go_simp; all_goals with_reducible rfl)
  try simp only [Act.put, List.setIfInBounds_toArray, List.set_cons_zero, List.set_cons_succ]
  refine wpHd_take (i := 2) (oi := ?o2) (v := ?v2) ?hi2 (by kernel_rfl) (by kernel_rfl) (fun _ _ _ h => h) (Or.inl ⟨?hw2, ?hy2⟩) hS ?rs2
  case hi2 => (simp only [List.getElem?_toArray, List.getElem?_cons_succ, List.getElem?_cons_zero]; rfl)
  case hw2 => rfl
  case hy2 => (intro w hSw; (try dsimp only at hSw); obtain ⟨t0, t1, t2, t3, t4, t5, t6⟩ := hSw; go_simp; all_goals with_reducible rfl)
  try simp only [Act.put, List.setIfInBounds_toArray, List.set_cons_zero, List.set_cons_succ]
  refine wpHd_take (i := 3) (oi := ?o3) (v := ?v3) ?hi3 (by kernel_rfl) (by kernel_rfl) (fun _ _ _ h => h) (Or.inl ⟨?hw3, ?hy3⟩) hS ?rs3
  case hi3 => (simp only [List.getElem?_toArray, List.getElem?_cons_succ, List.getElem?_cons_zero]; rfl)
  case hw3 => rfl
  case hy3 => (intro w hSw; (try dsimp only at hSw); obtain ⟨t0, t1, t2, t3, t4, t5, t6⟩ := hSw; go_simp; all_goals with_reducible rfl)
  try simp only [Act.put, List.setIfInBounds_toArray, List.set_cons_zero, List.set_cons_succ]
  refine wpHd_take (i := 4) (oi := ?o4) (v := ?v4) ?hi4 (by kernel_rfl) (by kernel_rfl) (fun _ _ _ h => h) (Or.inl ⟨?hw4, ?hy4⟩) hS ?rs4
  case hi4 => (simp only [List.getElem?_toArray, List.getElem?_cons_succ, List.getElem?_cons_zero]; rfl)
  case hw4 => rfl
  case hy4 => (intro w hSw; (try dsimp only at hSw); obtain ⟨t0, t1, t2, t3, t4, t5, t6⟩ := hSw; go_simp; all_goals with_reducible rfl)
  try simp only [Act.put, List.setIfInBounds_toArray, List.set_cons_zero, List.set_cons_succ]
  refine wpHd_take (i := 5) (oi := ?o5) (v := ?v5) ?hi5 (by kernel_rfl) (by kernel_rfl) (fun _ _ _ h => h) (Or.inl ⟨?hw5, ?hy5⟩) hS ?rs5
  case hi5 => (simp only [List.getElem?_toArray, List.getElem?_cons_succ, List.getElem?_cons_zero]; rfl)
  case hw5 => rfl
  case hy5 => (intro w hSw; (try dsimp only at hSw); obtain ⟨t0, t1, t2, t3, t4, t5, t6⟩ := hSw; go_simp; all_goals with_reducible rfl)
  try simp only [Act.put, List.setIfInBounds_toArray, List.set_cons_zero, List.set_cons_succ]
  refine wpHd_step (i := 6) (o := ?o6) ?hi6 (by kernel_rfl) (fun K hK => ?st6)
  case hi6 => (simp only [List.getElem?_toArray, List.getElem?_cons_succ, List.getElem?_cons_zero]; rfl)
  go_simp
  refine (HCP.out _ (HT3.out.later Z0)).mono ?_
  rintro r9 w9 ⟨a9, c9, rfl, htb9, hx9⟩
  have Z1 : Ext w3 w9 := Z0.trans hx9
  have HTB9 := hid htb9
  clear hx9 htb9
  unfold Rw.val
  try go_simp
  refine hK.out _ _ ?_ (fun hS => ?_)
  · exact HSK.out _ (Z1.block HK3.out) (Z1.block HR3.out)
  clear hK K
  try simp only [Act.put, List.setIfInBounds_toArray, List.set_cons_zero, List.set_cons_succ]
  refine wpHd_step (i := 7) (o := ?o7) ?hi7 (by kernel_rfl) (fun K hK => ?st7)
  case hi7 => (simp only [List.getElem?_toArray, List.getElem?_cons_succ, List.getElem?_cons_zero]; rfl)
  go_simp
  refine hK.out _ _ ?_ (fun hS => ?_)
  · exact HSK.out _ ((Z1.more _).block HK3.out) ((Z1.more _).block HR3.out)
  clear hK K
  try simp only [Act.put, List.setIfInBounds_toArray, List.set_cons_zero, List.set_cons_succ]
  refine wpHd_step (i := 8) (o := ?o8) ?hi8 (by kernel_rfl) (fun K hK => ?st8)
  case hi8 => (simp only [List.getElem?_toArray, List.getElem?_cons_succ, List.getElem?_cons_zero]; rfl)
  refine step_ritem (ty := 102) _ (by rfl) _ _ (by rfl) (by rfl) base w9.heap.size (.slice ao al lc) acc r a9 c9 (by rfl) (by rfl) (Nat.le_trans HB3.out (Nat.le_trans Z1.size (Nat.le_of_lt (lt_of_block (blk0 w9 (.cells (r.cells a9 c9).toArray 102)))))) (HI3.out.later (Z1.trans (Ext.alloc _ _))) (blk0 _ _) (HTB9.out.later (Ext.alloc _ _)) (by have := HL.out; have := HAL.out; omega) ?_
  intro ao5 n5 c5 w5 hit5 hgr5
  have HIT5 := hid hit5
  have HG5 := hid (grown_kp hgr5)
  have HK5 := hid (HG5.out.block' ((Z1.more _).block HK3.out) (fun e => by
    obtain ⟨_, cur, hc⟩ := HI3.out.block e
    rw [HK3.out] at hc
    cases hc))
  have HR5 := hid (show RowAt w5 rb r a c from HG5.out.block' ((Z1.more _).block HR3.out) (fun e => HRB.out e))
  clear hit5 hgr5
  refine hK.out _ _ ?_ (fun hS => ?_)
  · exact HSK.out _ HK5.out HR5.out
  clear hK K
  try simp only [Act.put, List.setIfInBounds_toArray, List.set_cons_zero, List.set_cons_succ]
  refine wpHd_done (by kernel_rfl) 3 rfl ?_
  refine wpAny_row 9 3 rfl (by kernel_rfl) ?_
  clear hS
  have g1 : w5.cell? ⟨kb, 1, none⟩ = some (.slice ao al lc) := cell_of HK5.out rfl
  have g2 : w5.frozen? ⟨kb, 1, none⟩ = false := frozen_of HK5.out
  simp only [List.drop_succ_cons, List.drop_zero]
  go_wp2_with fail
  refine NoPanic.normal ?_
  go_wp2_with fail
  go_ret
  have hkm : kb ≠ mb := fun e => HK.out.map.nocells (e ▸ HK.out.blk)
  have KS := Kp.set w5 kb 1 (.slice ao5 n5 c5) (K := (· ≠ kb)) (fun h => h rfl)
  have hm5 : MapAt w5 mb (al + 1) (kIx (acc ++ [r])) := (HP3.out.later (Z1.more _)).keep HG5.out (fun e => by
    obtain ⟨_, cur, hc⟩ := HI3.out.block e
    exact HP3.out.nocells hc)
  refine ⟨rfl, .slice ao5 n5 c5, ⟨(set_at HK5.out 1 _).trans (by simp), HK.out.kge, HK.out.mge, ?_, ?_⟩, ?_⟩
  · rw [show (acc ++ [r]).length = al + 1 by rw [List.length_append, HAL.out]; rfl]
    exact hm5.keep KS (fun e => hkm e.symm)
  · refine HIT5.out.keep KS (fun q hq e => ?_) (fun q cur hq e => ?_)
    · obtain ⟨_, cur, hc⟩ := HIT5.out.block hq
      rw [e, HK5.out] at hc
      cases hc
    · rw [e, HK5.out] at hq
      cases hq
  · have b1 : Below base w w2.drew.drew := Below.mono (X2.out.trans ((Ext.refl w2).drew).drew) hbw
    have b2 : Below base w2.drew.drew w3 := HKP.out.below (fun q hq e => by have := HK.out.mge; omega) (Nat.le_trans hbw X2.out.size)
    have b3 : Below base w3 _ := Below.mono (Z1.more (.cells #[.string r.kind, .int .i64 r.min, .int .i64 r.max, .bool r.num, .int .i64 r.text, .slice a9 r.abs.length c9] 102)) HB3.out
    have b4 : Below base _ w5 := HG5.out.below (fun q hq e => by
      have := (HK.out.rows.block e).1
      omega) (Nat.le_trans HB3.out (Z1.more (.cells #[.string r.kind, .int .i64 r.min, .int .i64 r.max, .bool r.num, .int .i64 r.text, .slice a9 r.abs.length c9] 102)).size)
    have b5 : Below base w5 _ := KS.below (fun q hq e => by have := HK.out.kge; omega) (Nat.le_trans (Nat.le_trans HB3.out (Z1.more (.cells #[.string r.kind, .int .i64 r.min, .int .i64 r.max, .bool r.num, .int .i64 r.text, .slice a9 r.abs.length c9] 102)).size) HG5.out.size)
    exact (((b1.trans b2).trans b3).trans b4).trans b5
end Go.Proofs.YtaafcmmmkalgjaaGreatDoor
/-
  kit.New of rows that may be, by a contract.
-/
namespace Go.Proofs.YtaafcmmmkalgjaaGreatDoor
open Go.RowKit
theorem RItems.read {w : World} {base : Nat} {lv : Value} {acc : List Rw} (h : RItems w base lv acc) (j : Nat) (hj : j < acc.length) : ∃ g cap a c, lv = .slice (some ⟨g, 0, none⟩) acc.length cap ∧ (w.cell? ⟨g, j * 6, none⟩ = some (.string acc[j].kind) ∧ w.cell? ⟨g, j * 6 + 1, none⟩ = some (.int .i64 acc[j].min) ∧ w.cell? ⟨g, j * 6 + 2, none⟩ = some (.int .i64 acc[j].max) ∧ w.cell? ⟨g, j * 6 + 3, none⟩ = some (.bool acc[j].num) ∧ w.cell? ⟨g, j * 6 + 4, none⟩ = some (.int .i64 acc[j].text) ∧ w.cell? ⟨g, j * 6 + 5, none⟩ = some (.slice a acc[j].abs.length c)) ∧ TB w a acc[j].abs := by
  obtain ⟨us, ho, hi⟩ := h
  obtain ⟨a, c, ⟨q0, q1, q2, q3, q4, q5⟩, ht⟩ := hi j hj
  rcases ho.2 with ⟨hv, h1⟩ | ⟨g, cap, cur, hv, hbg, hbk, h3, h4, h5, h6⟩
  · omega
  · have key : ∀ i u, i < acc.length * 6 → us[i]? = some u → w.cell? ⟨g, i, none⟩ = some u := fun i u hi hu => by
      rw [← h6, List.getElem?_take_of_lt hi] at hu
      exact cell_of hbk (by simpa using hu)
    exact ⟨g, cap, a, c, hv, ⟨key _ _ (by omega) q0, key _ _ (by omega) q1, key _ _ (by omega) q2, key _ _ (by omega) q3, key _ _ (by omega) q4, key _ _ (by omega) q5⟩, ht⟩
theorem kIx_take {rws : List Rw} (hd : (rws.map Rw.kind).Nodup) {j : Nat} (hj : j < rws.length) : kIx (rws.take j) rws[j].kind = none := by
  unfold kIx
  rw [List.findIdx?_eq_none_iff]
  intro r hr
  rw [List.mem_take_iff_getElem] at hr
  obtain ⟨i, hi, rfl⟩ := hr
  simp only [decide_eq_false_iff_not]
  intro e
  have hp := List.pairwise_iff_getElem.1 hd i j (by simp; omega) (by simpa using hj) (by omega)
  exact hp (by simpa using e)
/-- The kit with its first rows. -/
def NewLp (w : World) (kb mb : Nat) (nm : ByteArray) (mk : Value) (rws : List Rw) (j : Nat) (wr : World) : Prop := ∃ lv', KitM wr w.heap.size kb mb nm mk lv' (rws.take j) ∧ Ext w wr
/-- What New answers. -/
def NewR (w : World) (nm : ByteArray) (mk : Value) (rws : List Rw) (e : Ending) (w' : World) : Prop := ∃ kb mb lv', e = .returned (.tuple #[.pointer (some ⟨kb, 0, none⟩), .nilIface]) ∧ KitM w' w.heap.size kb mb nm mk lv' rws ∧ Ext w w'
set_option maxRecDepth 100000 in
set_option maxHeartbeats 2000000 in
theorem new_good {pre : List UInt8} (nm : ByteArray) (hnm : nm = ⟨pre.toArray⟩) (hw : speltB wordI 16 pre = true) (fm : Nat) (fc : Array Value) (lv : Value) (rws : List Rw) (base : Nat) (w : World) (hr : RItems w base lv rws) (h0 : 0 < rws.length) (hlim : rws.length ≤ 1000) (hg : ∀ r ∈ rws, GoodR pre r) (hd : (rws.map Rw.kind).Nodup) :
    Calls Tryz.prog 57 #[.string nm, lv, .func (.func fm) #[] fc] w (NewR w nm (.func (.func fm) #[] fc) rws) := by
  have hqf : ∀ w : World, (binOp .eql 131 (.func (.func fm) #[] fc) .nilFunc).run Tryz.prog w = .ok (.bool false) w := fun _ => by kernel_rfl
  have hmm := @run_makeMap Tryz.prog
  have HW := hid (fun w => word_any nm w)
  rw [show speltB wordI 16 nm.data.toList = true by rw [hnm]; exact hw] at HW
  have HR := hid hr
  have HG := hid hg
  have HD := hid hd
  have HNM := hid hnm
  obtain ⟨ao, lc, hlv⟩ := hr.shape
  subst hlv
  obtain ⟨n, hne⟩ : ∃ n, rws.length = n := ⟨_, rfl⟩
  have HNE := hid hne
  rw [hne] at h0 hlim HR ⊢
  have h0' : (0 : Int) < n := by omega
  have h0q : ((n : Int) == 0) = false := by rw [beq_eq_false_iff_ne]; omega
  have hlim' : (n : Int) ≤ 1000 := by omega
  clear hr hg hd hnm hne
  go_enter Tryz.func57, Tryz.ntmps57
  go_wp2_with fail
  refine (HW.out _).mono ?_
  rintro e w1 ⟨rfl, hx1⟩
  have X1 := hid hx1
  clear hx1
  go_wp2_with fail
  go_loopw [31] (fun q31 wr => ∃ j : Nat, j ≤ n ∧ q31 = .int .i64 j ∧ NewLp w (w1.heap.size + 1) w1.heap.size nm (.func (.func fm) #[] fc) rws j wr) (fun q31 _ => n - (intOf q31).toNat)
  case atStart =>
    have hxs := X1.out.size
    refine ⟨0, Nat.zero_le _, rfl, .slice none 0 0, ⟨blk1 _ _ _, by omega, by omega, ?_, RItems.nil _ _⟩, X1.out.trans (Ext.alloc2 _ _ _)⟩
    exact ⟨.map [], (World.ownsMap_made w1 Tryz.prog 9 inE).alloc _, MapN.nil⟩
  case round =>
    obtain ⟨j, hj, rfl, lv', hkm, hx⟩ := hrel
    have HX := hid hx
    have HKM := hid hkm
    clear hx hkm
    by_cases hlt : j < n
    · have hlt' : (j : Int) < n := by omega
      have hjr : j < rws.length := by rw [HNE.out]; exact hlt
      obtain ⟨g, cap, a, c, hlv, ⟨p0, p1, p2, p3, p4, p5⟩, htb⟩ := (HR.out.later HX.out).read j hjr
      obtain ⟨rfl, hnn, rfl⟩ := Value.slice.inj hlv
      clear hnn
      have HTB := hid htb
      have HADD := hid (fun w2 h1 h2 h3 => add_good (HG.out _ (List.getElem_mem hjr)) w.heap.size (w1.heap.size + 1) w1.heap.size nm HNM.out (.func (.func fm) #[] fc) lv' (rws.take j) a c w2 h1 h2 (kIx_take HD.out hjr) (by rw [List.length_take]; omega) h3)
      have HTK := hid (show rws.take j ++ [rws[j]] = rws.take (j + 1) from (List.take_succ_eq_append_getElem hjr).symm)
      rw [HTK.out] at HADD
      generalize rws[j] = rj at *
      unfold Rw.val at HADD
      clear htb hlv hjr
      have hgl := lt_of_cell p0
      obtain ⟨M, hM⟩ : ∃ M, wr.alloc (.cells #[.string rj.kind, .int .i64 rj.min, .int .i64 rj.max, .bool rj.num, .int .i64 rj.text, .slice a rj.abs.length c] 102) = M := ⟨_, rfl⟩
      have XM := hid (show Ext wr M from hM ▸ Ext.alloc _ _)
      obtain ⟨z0, z1, z2, z3, z4, z5⟩ := six_of (show RowAt M wr.heap.size rj a c from hM ▸ blk0 _ _)
      go_wp2_with fail
      clear hM
      refine (HADD.out _ (HKM.out.later XM.out) (HTB.out.later XM.out) (Nat.le_trans HX.out.size XM.out.size)).mono ?_
      rintro e w2 ⟨rfl, lv2, hk2, hb2⟩
      have HK2 := hid hk2
      have HB2 := hid hb2
      clear hk2 hb2 z0 z1 z2 z3 z4 z5
      go_wp2_with fail
      go_roundw
      case rel => exact ⟨j + 1, by omega, by go_num, lv2, HK2.out, Below.trans (HX.out.trans XM.out) HB2.out⟩
      case measure => simp [intOf]; omega
    · have hje : j = n := by omega
      have hlt2 : decide ((j : Int) < n) = false := decide_eq_false (by omega)
      have hlt3 : ¬ (j : Int) < n := by omega
      have HF := hid (show KitM wr w.heap.size (w1.heap.size + 1) w1.heap.size nm (.func (.func fm) #[] fc) lv' rws by
        have := HKM.out
        rwa [List.take_of_length_le (by have := HNE.out; omega)] at this)
      clear hje
      go_wp2_with fail
      go_ret2
      exact ⟨_, _, lv', rfl, HF.out, HX.out⟩
end Go.Proofs.YtaafcmmmkalgjaaGreatDoor
/-
  craft.Kit by a contract: the kit of a table of kinds whose rows may be.
-/
namespace Go.Proofs.YtaafcmmmkalgjaaGreatDoor
open Go.RowKit
/-- The library's table of blanks, as laid. -/
def Laid (w : World) : Prop := Lib.TabIs Tryz.prog w "strings.asciiSpace" .u8 Lib.asciiSpaceTab
theorem Laid.keep {w w' : World} {K : Nat → Prop} (h : Laid w) (hk : Kp K w w') (h1 : K 0) : Laid w' := by
  have hgn : Tryz.prog.globalNamed "strings.asciiSpace" = some 0 := by kernel_rfl
  unfold Laid Lib.TabIs World.var? at h ⊢
  rw [hgn] at h ⊢
  simp only [Option.bind_some] at h ⊢
  have hlt : 0 < w.heap.size := by
    rcases Nat.lt_or_ge 0 w.heap.size with h' | h'
    · exact h'
    · rw [Array.getElem?_eq_none h'] at h; cases h
  rw [hk.block 0 hlt h1]
  exact h
theorem Laid.later {w w' : World} (h : Laid w) (hx : Ext w w') : Laid w' := h.keep (hx.kp (fun _ => True)) trivial
theorem kindInfo : (Tryz.prog.info? 76).map (fun i => (i.zero, i.size, i.bytes)) = some (some (.agg #[.string ⟨#[]⟩, .int .i64 0, .int .i64 0, .int .i64 0, .string ⟨#[]⟩, .string ⟨#[]⟩, .nilFunc, .nilFunc, .bool false]), 9, 96) := by kernel_rfl
theorem fnV_one : ∀ o, (fnV o).oneCell' = true
  | none => rfl
  | some _ => rfl
theorem tabL_one : ∀ (ks : List Kd), ∀ u ∈ tabL ks, u.oneCell' = true
  | [], u, h => by cases h
  | k :: r, u, h => by
    simp only [tabL, List.mem_cons] at h
    rcases h with rfl | rfl | rfl | rfl | rfl | rfl | rfl | rfl | rfl | h
    · rfl
    · rfl
    · rfl
    · rfl
    · rfl
    · rfl
    · exact fnV_one _
    · exact fnV_one _
    · rfl
    · exact tabL_one r u h
/-- Kinds in a row. -/
def KRow (w : World) (g : Nat) (ks : List Kd) : Prop := ∀ j, (h : j < ks.length) → Nine w g (j * 9) ks[j]
theorem KRow.later {w w' : World} {g : Nat} {ks : List Kd} (h : KRow w g ks) (hx : Ext w w') : KRow w' g ks := fun j hj => by
  obtain ⟨h0, h1, h2, h3, h4, h5, h6, h7, h8⟩ := h j hj
  exact ⟨(Below.cell hx (lt_of_cell h0)).trans h0, (Below.cell hx (lt_of_cell h1)).trans h1, (Below.cell hx (lt_of_cell h2)).trans h2, (Below.cell hx (lt_of_cell h3)).trans h3, (Below.cell hx (lt_of_cell h4)).trans h4, (Below.cell hx (lt_of_cell h5)).trans h5, (Below.cell hx (lt_of_cell h6)).trans h6, (Below.cell hx (lt_of_cell h7)).trans h7, (Below.cell hx (lt_of_cell h8)).trans h8⟩
set_option maxRecDepth 100000 in
set_option maxHeartbeats 1000000 in
theorem cloneK (tb : Nat) (ks : List Kd) (w : World) (hl : ks.length ≤ 1000) (h0 : 0 < ks.length) (h : TabAt w tb ks) :
    Calls Tryz.prog 55 #[.slice (some ⟨tb, 0, none⟩) ks.length ks.length] w fun e w' => ∃ g cap, e = .returned (.slice (some ⟨g, 0, none⟩) ks.length cap) ∧ w.heap.size ≤ g ∧ KRow w' g ks ∧ Ext w w' := by
  obtain ⟨i0, hi0, hz0, hz1, hz2⟩ := info_parts kindInfo
  have hq : ∀ w : World, (binOp .eql 80 (.slice (some ⟨tb, 0, none⟩) ks.length ks.length) (.slice none 0 0)).run Tryz.prog w = .ok (.bool false) w := fun w => by
    exact Lib.run_eql_slice_nil w 80 76 (some ⟨tb, 0, none⟩) ks.length ks.length 0 0 Tryz.underlying80
  have hown : (w.alloc (.cells #[] 76)).ownsRow w.heap.size 76 9 (.slice (some ⟨w.heap.size, 0, none⟩) 0 0) 0 [] :=
    ⟨rfl, .inr ⟨w.heap.size, 0, #[], rfl, Nat.le_refl _, blk0 _ _, Nat.le_refl _, Nat.zero_le _, rfl, rfl⟩⟩
  have HT := hid h
  have HLN := hid (tab_len ks)
  clear h
  go_enter Tryz.func55, Tryz.ntmps55
  go_wp2_with (at_builtin; refine wpList_append_own _ rfl _ _ 80 rfl w.heap.size 76 i0 _ 9 96 Tryz.underlying80 hi0 hz0 hz1 hz2 rfl (by decide) _ _ _ rfl hown ⟨tb, 0, none⟩ ks.length ks.length (tabL ks) rfl (by rw [HLN.out]) ?hnews ?hone ?b1 ?b2 ?b3 ?_)
  case hnews =>
    intro j u hu
    obtain ⟨t, ht⟩ := HT.out
    have h2 := cell_of ((Ext.alloc w (.cells #[] 76)).block ht) (show (tabL ks).toArray[j]? = some u by simpa using hu)
    have ea : Addr.add ⟨tb, 0, none⟩ j = ⟨tb, j, none⟩ := by
      by_cases hj : j = 0
      · subst hj; simp [Addr.add]
      · simp [Addr.add, hj]
    rw [ea]; exact h2
  case hone => exact tabL_one ks
  case b1 => unfold maxLen; omega
  case b2 => simp; omega
  case b3 => simp
  intro v' w' hown' hgrow _
  have hx : Ext w w' := Below.grown (Ext.alloc w _) hgrow (by simp) (fun k hk => by simp [Value.ownBlock] at hk; omega)
  have ho2 : w'.ownsRow w.heap.size 76 9 v' ks.length (tabL ks) := by simpa using hown'
  obtain ⟨g, cap, rfl, hge, hkr⟩ : ∃ g cap, v' = .slice (some ⟨g, 0, none⟩) ks.length cap ∧ w.heap.size ≤ g ∧ KRow w' g ks := by
    rcases ho2.2 with ⟨hv, h1⟩ | ⟨g, cap, cur, hv, hbg, hbk, h3, h4, h5, h6⟩
    · omega
    · refine ⟨g, cap, hv, hbg, fun j hj => ?_⟩
      have key : ∀ i u, i < ks.length * 9 → (tabL ks)[i]? = some u → w'.cell? ⟨g, i, none⟩ = some u := fun i u hi hu => by
        rw [← h6, List.getElem?_take_of_lt hi] at hu
        exact cell_of hbk (by simpa using hu)
      obtain ⟨a0, a1, a2, a3, a4, a5, a6, a7, a8⟩ := tab_at ks j hj
      exact ⟨key _ _ (by omega) a0, key _ _ (by omega) a1, key _ _ (by omega) a2, key _ _ (by omega) a3, key _ _ (by omega) a4, key _ _ (by omega) a5, key _ _ (by omega) a6, key _ _ (by omega) a7, key _ _ (by omega) a8⟩
  have HX := hid hx
  have HKR := hid hkr
  clear hx hkr ho2 hown' hgrow hown
  go_wp2
  go_ret
  exact ⟨g, cap, rfl, hge, HKR.out, HX.out⟩
/-- A kind's row. -/
def kdRow (k : Kd) : Rw := ⟨k.name, k.min, k.max, false, k.text, (Lib.fields k.has.data.toList).map fun l => ⟨l.toArray⟩⟩
theorem fields_any (s : ByteArray) (abs : List ByteArray) (ha : (Lib.fields s.data.toList).map (fun l => (⟨l.toArray⟩ : ByteArray)) = abs) (w : World) (hs : s.size ≤ 4000) (hascii : s.data.toList.all (fun b => decide (b.toNat < 128)) = true) (hl : Laid w) : Calls Tryz.prog 56 #[.string s] w fun e w' => e = .returned (.slice (some ⟨w.heap.size, 0, none⟩) abs.length abs.length) ∧ TB w' (some ⟨w.heap.size, 0, none⟩) abs ∧ Ext w w' := by
  subst ha
  refine (Tryz.strings_Fields s w (by omega) (fun j b hb => ?_) hl).mono ?_
  · have := List.all_eq_true.1 hascii b (List.mem_of_getElem? hb)
    simpa using this
  · rintro e w' ⟨rfl, rfl⟩
    refine ⟨by rw [List.length_map], .inr ⟨_, _, rfl, blk0 _ _, fun j hj => ?_⟩, Ext.alloc _ _⟩
    have hj' : j < (Lib.fields s.data.toList).length := by simpa using hj
    simp [hj']
end Go.Proofs.YtaafcmmmkalgjaaGreatDoor
/-
  (*Kit).Rows, (*Kit).Row, EqNames and EqRow of rows that are the same: by contracts.
-/
namespace Go.Proofs.YtaafcmmmkalgjaaGreatDoor
open Go.RowKit
theorem app_ritem {ops : Array Oper} {rest : List Oper} {o : Oper} {ac : Act} {Q : Exit → Act → World → Prop} {ty : TypeId} (w : World) (hgd : o.guard = none) (x y : Operand)
    (ho : o.op = .call { callee := .builtin .append, args := #[x, y], argTypes := #[98, 98] }) (hty : o.type = 98)
    (base g : Nat) (lv : Value) (acc : List Rw) (r : Rw) (a : Option Addr) (c : Nat) (hx : ac.eval x = lv) (hy : ac.eval y = .slice (some ⟨g, 0, none⟩) 1 1) (hB : base ≤ w.heap.size)
    (hit : RItems w base lv acc) (hg : w.heap[g]? = some (.cells (r.cells a c).toArray ty)) (htb : TB w a r.abs) (hlim : acc.length ≤ 2000000)
    (h : ∀ ao c' w', RItems w' base (.slice ao (acc.length + 1) c') (acc ++ [r]) → w.grownBy w' lv.ownBlock → wpList Tryz.prog ops Q rest (ac.put o.dst (.slice ao (acc.length + 1) c')) w') :
    wpList Tryz.prog ops Q (o :: rest) ac w := by
  refine wpList_plain hgd fun K hK => ?_
  obtain ⟨ao, c', w', hr, h2, h3⟩ := run_ritem (ty := ty) base g lv acc r a c hB hit hg htb hlim
  unfold Oper.wp execOp
  rw [List.length_append] at hr h2
  simp only [ho, hty, resolve, invoke, builtin, Sem.run_bind, Sem.run_pure, Result.andThen_ok, List.map_toArray, List.map_cons, List.map_nil, hx, hy, hr]
  exact hK _ _ (h ao c' w' h2 h3)
/-- The rows told so far. -/
def RowsLp (w : World) (acc : List Rw) (j : Nat) (ao : Option Addr) (c : Nat) (wr : World) : Prop := RItems wr w.heap.size (.slice ao j c) (acc.take j) ∧ Ext w wr
/-- What Rows tells. -/
def RowsR (w : World) (acc : List Rw) (e : Ending) (w' : World) : Prop := ∃ ao c, e = .returned (.slice ao acc.length c) ∧ RItems w' w.heap.size (.slice ao acc.length c) acc ∧ Ext w w'
/-- What Row tells. -/
def RowR (w : World) (r : Rw) (e : Ending) (w' : World) : Prop := ∃ a c, e = .returned (.tuple #[r.val a c, .bool true]) ∧ TB w' a r.abs ∧ Ext w w'
end Go.Proofs.YtaafcmmmkalgjaaGreatDoor
