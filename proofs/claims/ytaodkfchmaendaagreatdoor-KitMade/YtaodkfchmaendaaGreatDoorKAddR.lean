/-
  kit.copied and (*Kit).add of a row whose abilities lie anywhere; by contracts. (kaddr_gen.py writes this text out of craft's KItems, KMap and KAdd.)
-/
import Derived.Test.YtaodkfchmaendaaGreatDoorKKit
import Derived.Deep.RegionHeld3
import Derived.RegionTactic
import Derived.Test.YtaodkfchmaendaaGreatDoorSHead
import Derived.Test.YtaodkfchmaendaaGreatDoorJMay
namespace Go.Proofs.YtaodkfchmaendaaGreatDoor
open Go.RowKit
theorem TRow.keepR {K : Nat → Prop} {w w' : World} {a : Option Addr} {xs : List ByteArray} (h : TRow w a xs) (hk : Kp K w w') (hK : ∀ g cs t m, w.heap[g]? = some (.cells cs t m) → K g) : TRow w' a xs := by
  rcases h with h | ⟨g, off, ha, hc⟩
  · exact .inl h
  · refine .inr ⟨g, off, ha, fun j hj => ?_⟩
    have e := hc j hj
    refine hk.cell e ?_
    unfold World.cell? at e
    split at e
    · rename_i cs t m hb
      exact hK g cs t m hb
    · cases e
theorem cloneTR (a : Option Addr) (c : Nat) (xs : List ByteArray) (w : World) (hl : xs.length ≤ 100) (h : TRow w a xs) : Calls Tryz.prog 64 #[.slice a xs.length c] w fun e w' => ∃ a' c', e = .returned (.slice a' xs.length c') ∧ TB w' a' xs ∧ Ext w w' := by
  have fin : ∀ v' w', World.ownsRow w' w.heap.size 9 1 v' xs.length (xs.map Value.string) → ∃ a' c', v' = .slice a' xs.length c' ∧ TB w' a' xs := fun v' w' ho => by
    rcases ho.2 with ⟨rfl, h0⟩ | ⟨g, cap, cur, rfl, _, hb, h1, h2, h3, h4⟩
    · exact ⟨none, 0, by rw [h0], .inl (List.eq_nil_of_length_eq_zero h0)⟩
    · refine ⟨_, _, rfl, .inr ⟨g, cur, rfl, hb, fun j hj => ?_⟩⟩
      have : (cur.toList.take (xs.length * 1))[j]? = some (.string xs[j]) := by rw [h4, List.getElem?_map, List.getElem?_eq_getElem hj]; rfl
      rw [List.getElem?_take_of_lt (by omega)] at this
      simpa using this
  rcases h with h | ⟨g, off, rfl, hc⟩
  · subst h
    cases a with
    | none =>
      refine (Tryz.slices_Clone_string_nil 0 c w).mono ?_
      rintro e w' ⟨rfl, rfl⟩
      exact ⟨none, 0, rfl, .inl rfl, Ext.refl _⟩
    | some a =>
      refine (Tryz.slices_Clone_string_zero a c w).mono ?_
      rintro e w' ⟨v', rfl, ho, _, hx⟩
      obtain ⟨a', c', rfl, ht⟩ := fin v' w' ho
      exact ⟨a', c', rfl, ht, hx⟩
  · refine (Tryz.slices_Clone_string g off xs.length c xs w (Nat.le_refl _) (by omega) (fun j hj => ?_)).mono ?_
    · rw [List.getD_eq_getElem?_getD, List.getElem?_eq_getElem hj]
      exact hc j hj
    · rintro e w' ⟨v', rfl, ho, _, hx⟩
      rw [List.take_length] at ho
      obtain ⟨a', c', rfl, ht⟩ := fin v' w' ho
      exact ⟨a', c', rfl, ht, hx⟩
set_option maxRecDepth 100000 in
theorem copied_row (r : Rw) (a : Option Addr) (c : Nat) (w : World) (hl : r.abs.length ≤ 100) (h : TRow w a r.abs) : Calls Tryz.prog 36 #[r.val a c] w fun e w' => ∃ a' c', e = .returned (r.val a' c') ∧ TB w' a' r.abs ∧ Ext w w' := by
  have HC := hid (fun w1 (hx : Ext w w1) => cloneTR a c r.abs w1 hl (h.later hx))
  unfold Rw.val
  obtain ⟨k, mn, mx, nm, tx, abs⟩ := r
  dsimp only at *
  generalize abs.length = l at *
  clear h hl
  obtain ⟨M, hM⟩ : ∃ M, (w.alloc (.cells #[.string k, .int .i64 mn, .int .i64 mx, .bool nm, .int .i64 tx, .slice a l c] 37)).alloc (.cells #[.string ⟨#[]⟩, .int .i64 0, .int .i64 0, .bool false, .int .i64 0, .slice none 0 0] 37) = M := ⟨_, rfl⟩
  have XM := hid (show Ext w M from hM ▸ Ext.alloc2 _ _ _)
  have HM0 := hid (show M.heap[w.heap.size]? = some (.cells #[.string k, .int .i64 mn, .int .i64 mx, .bool nm, .int .i64 tx, .slice a l c] 37) from hM ▸ blkOld _ (blk0 _ _))
  have HM1 := hid (show M.heap[w.heap.size + 1]? = some (.cells #[.string ⟨#[]⟩, .int .i64 0, .int .i64 0, .bool false, .int .i64 0, .slice none 0 0] 37) from hM ▸ blk1 _ _ _)
  obtain ⟨z0, z1, z2, z3, z4, z5⟩ := six_of HM0.out
  go_enter Tryz.func36, Tryz.ntmps36
  go_wp2_with fail
  clear hM
  refine (HC.out _ XM.out).mono ?_
  rintro e w1 ⟨a', c', rfl, htb, hx1⟩
  have HTB := hid htb
  have X1 := hid (XM.out.trans hx1)
  have B0 := hid (hx1.block HM0.out)
  have B1 := hid (hx1.block HM1.out)
  obtain ⟨y0, y1, y2, y3, y4, y5⟩ := six_of B0.out
  obtain ⟨f0, f1, f2, f3, f4, f5⟩ : w1.frozen? ⟨w.heap.size + 1, 0, none⟩ = false ∧ w1.frozen? ⟨w.heap.size + 1, 1, none⟩ = false ∧ w1.frozen? ⟨w.heap.size + 1, 2, none⟩ = false ∧ w1.frozen? ⟨w.heap.size + 1, 3, none⟩ = false ∧ w1.frozen? ⟨w.heap.size + 1, 4, none⟩ = false ∧ w1.frozen? ⟨w.heap.size + 1, 5, none⟩ = false := ⟨frozen_of B1.out, frozen_of B1.out, frozen_of B1.out, frozen_of B1.out, frozen_of B1.out, frozen_of B1.out⟩
  have fz : w1.frozen? ⟨w.heap.size, 5, none⟩ = false := frozen_of B0.out
  obtain ⟨x0, x1, x2, x3, x4, x5⟩ := six_of B1.out
  clear htb hx1
  go_wp2_with fail
  have BS := set_other (i := 5) B1.out (show w.heap.size + 1 ≠ w.heap.size by omega) (.slice a' l c')
  obtain ⟨q0, q1, q2, q3, q4, q5⟩ := six_of (six_set (u0 := .string k) (u1 := .int .i64 mn) (u2 := .int .i64 mx) (u3 := .bool nm) (u4 := .int .i64 tx) (u5 := .slice a' l c') BS)
  refine bodyPost_ret (v := .agg #[.string k, .int .i64 mn, .int .i64 mx, .bool nm, .int .i64 tx, .slice a' l c']) (by simp [results, Tryz.results36, go_sem, q0, q1, q2, q3, q4, q5]) rfl ?_
  have K1 : Kp (fun q => q ≠ w.heap.size ∧ q ≠ w.heap.size + 1) w1 _ := ((Kp.set w1 w.heap.size 5 (.slice a' l c') (fun h => h rfl)).mono (L := fun q => q ≠ w.heap.size ∧ q ≠ w.heap.size + 1) (fun q _ h => h.1)).trans ((Kp.set6 _ (w.heap.size + 1) (.string k) (.int .i64 mn) (.int .i64 mx) (.bool nm) (.int .i64 tx) (.slice a' l c')).mono (fun q _ h => h.2))
  refine ⟨a', c', rfl, HTB.out.keep K1 (fun q cur hq => ⟨fun e => ?_, fun e => ?_⟩), ?_⟩
  · rw [e, B0.out] at hq; cases hq
  · rw [e, B1.out] at hq; cases hq
  · exact ⟨K1.os.trans X1.out.os, K1.tape.trans X1.out.tape, K1.output.trans X1.out.output, Nat.le_trans X1.out.size K1.size, fun i hi => (K1.block i (Nat.lt_of_lt_of_le hi X1.out.size) ⟨by omega, by omega⟩).trans (Below.block X1.out i hi)⟩
set_option linter.unusedSimpArgs false in
set_option maxRecDepth 100000 in
set_option maxHeartbeats 2000000 in
theorem add_row {pre : List UInt8} {r : Rw} (hg : GoodR pre r) (base kb mb : Nat) (nm : ByteArray) (hnm : nm = ⟨pre.toArray⟩) (mk lv : Value) (acc : List Rw) (a : Option Addr) (c : Nat) (w : World) (hk : KitM w base kb mb nm mk lv acc) (ht : TRow w a r.abs) (hno : kIx acc r.kind = none) (hlim : acc.length ≤ 1000) (hbw : base ≤ w.heap.size) :
    Calls Tryz.prog 50 #[.pointer (some ⟨kb, 0, none⟩), r.val a c] w fun e w' => e = .returned (.int .i64 0) ∧ ∃ lv', KitM w' base kb mb nm mk lv' (acc ++ [r]) ∧ Below base w w' := by
  subst hnm
  have HMAY := hid (fun w1 (hx : Ext w w1) => may_good hg a c w1 (ht.later hx))
  have HKI := hid (fun w1 => hg.kind_ok w1)
  have HCP := hid (fun w1 h => copied_row r a c w1 hg.len h)
  have HK := hid hk
  have HT := hid ht
  have HNO := hid hno
  have hks : r.kind.size ≤ 4000 := hg.size
  have HRV := hid (show r.val a c = .agg #[.string r.kind, .int .i64 r.min, .int .i64 r.max, .bool r.num, .int .i64 r.text, .slice a r.abs.length c] from rfl)
  rw [HRV.out] at HMAY HCP ⊢
  obtain ⟨ao, lc, hlv⟩ := hk.rows.shape
  clear hg hk ht hno
  obtain ⟨M, hM⟩ : ∃ M, w.alloc (.cells #[.string r.kind, .int .i64 r.min, .int .i64 r.max, .bool r.num, .int .i64 r.text, .slice a r.abs.length c] 37) = M := ⟨_, rfl⟩
  have XM := hid (show Ext w M from hM ▸ Ext.alloc _ _)
  have HR0 := hid (show RowAt M w.heap.size r a c from hM ▸ blk0 _ _)
  obtain ⟨SP, hSP⟩ : ∃ S : ByteArray, (⟨pre.toArray⟩ : ByteArray) = S := ⟨_, rfl⟩
  have hsrc := str_eqb SP SP
  rw [decide_eq_true rfl] at hsrc
  rw [hSP] at HKI HK ⊢
  have hsrc2 : (SP.toList != SP.toList) = false := by unfold bne; rw [hsrc]; rfl
  clear hSP
  obtain ⟨z0, z1, z2, z3, z4, z5⟩ := six_of HR0.out
  go_enter Tryz.func50, Tryz.ntmps50
  go_wp2_with fail
  clear hM
  refine (HMAY.out _ XM.out).mono ?_
  rintro e w1 ⟨rfl, hx1⟩
  have X1 := hid (XM.out.trans hx1)
  have HR1 := hid (show RowAt w1 w.heap.size r a c from hx1.block HR0.out)
  obtain ⟨y0, y1, y2, y3, y4, y5⟩ := six_of HR1.out
  clear hx1 z0 z1 z2 z3 z4 z5
  go_wp2_with fail
  obtain ⟨P, hP⟩ := HKI.out w1
  refine hP.mono ?_
  clear hP y0 y1 y2 y3 y4 y5
  rintro e w2 ⟨rfl, hx2⟩
  have X2 := hid (X1.out.trans hx2)
  have HR2 := hid (show RowAt w2 w.heap.size r a c from hx2.block HR1.out)
  obtain ⟨y0, y1, y2, y3, y4, y5⟩ := six_of HR2.out
  have HK2 := hid (HK.out.later X2.out)
  obtain ⟨k0, k1, k2, k3⟩ := HK2.out.four
  have hl := (HK2.out.map.later (Ext.refl w2).drew).look r.kind (by omega)
  rw [HNO.out] at hl
  have hl' : (Instr.lookup 83 (.map (some mb)) (.string r.kind) true).run Tryz.prog w2.drew = .ok (.tuple #[.int .i64 0, .bool false]) w2.drew := hl
  clear hl hx2
  go_upto_region 7 with fail
  go_region
  clear hl'
  subst hlv
  have HL := hid (show acc.length ≤ 1000 from hlim)
  obtain ⟨w3, hput, hmap3, hkp3⟩ := (HK2.out.map.later ((Ext.refl w2).drew).drew).put r.kind acc.length (by omega) (by omega)
  rw [← kIx_snoc HNO.out] at hmap3
  have HP3 := hid hmap3
  have HKP := hid hkp3
  clear hmap3 hkp3
  go_upto_region 10 with fail
  generalize hal : acc.length = al at *
  have HAL := hid hal
  clear hal
  go_region
  have HK3 := hid (HKP.out.block' (((Ext.refl w2).drew).drew.block HK2.out.blk) (fun e => (HK2.out.map.nocells (e ▸ HK2.out.blk)).elim))
  have HR3 := hid (show RowAt w3 w.heap.size r a c from HKP.out.block' (((Ext.refl w2).drew).drew.block HR2.out) (fun e => (HK2.out.map.nocells (e ▸ HR2.out)).elim))
  have HI3 := hid ((HK2.out.rows.later ((Ext.refl w2).drew).drew).keep HKP.out (fun q hq e => by
    obtain ⟨_, cur, hc⟩ := HK2.out.rows.block hq
    exact HK2.out.map.nocells (e ▸ hc)) (fun q cur hq e => (HK2.out.map.later ((Ext.refl w2).drew).drew).nocells (e ▸ hq)))
  have HT3 := hid ((HT.out.later (X2.out.trans ((Ext.refl w2).drew).drew)).keepR HKP.out (fun q cs t m hq e => (HK2.out.map.later ((Ext.refl w2).drew).drew).nocells (e ▸ hq)))
  have HRB := hid (show (Value.slice ao al lc).ownBlock ≠ some w.heap.size from fun e => by
    obtain ⟨_, cur, hc⟩ := HK.out.rows.block e
    exact absurd (lt_of_block hc) (Nat.lt_irrefl _))
  have HB3 := hid (show base ≤ w3.heap.size from Nat.le_trans hbw (Nat.le_trans X2.out.size HKP.out.size))
  clear y0 y1 y2 y3 y4 y5 k0 k1 k2 k3 hput
  generalize hrb : w.heap.size = rb at HR3 HRB ⊢
  clear hrb
  have HSK := hid (show ∀ W', W'.heap[kb]? = some (.cells #[.string SP, .slice ao al lc, .map (some mb), mk] 86) → RowAt W' rb r a c → (W'.cell? ⟨kb, 1, none⟩ = some (.slice ao al lc) ∧ W'.cell? ⟨rb, 0, none⟩ = some (.string r.kind) ∧ W'.cell? ⟨rb, 1, none⟩ = some (.int .i64 r.min) ∧ W'.cell? ⟨rb, 2, none⟩ = some (.int .i64 r.max) ∧ W'.cell? ⟨rb, 3, none⟩ = some (.bool r.num) ∧ W'.cell? ⟨rb, 4, none⟩ = some (.int .i64 r.text) ∧ W'.cell? ⟨rb, 5, none⟩ = some (.slice a r.abs.length c)) from fun W' X Y => by
    obtain ⟨s0, s1, s2, s3, s4, s5⟩ := six_of Y
    exact ⟨cell_of X rfl, s0, s1, s2, s3, s4, s5⟩)
  go_upto_region 11 with fail
  refine wp_region_noPanic ?_
  refine wp_region_headed (S := fun W' => W'.cell? ⟨kb, 1, none⟩ = some (.slice ao al lc) ∧ W'.cell? ⟨rb, 0, none⟩ = some (.string r.kind) ∧ W'.cell? ⟨rb, 1, none⟩ = some (.int .i64 r.min) ∧ W'.cell? ⟨rb, 2, none⟩ = some (.int .i64 r.max) ∧ W'.cell? ⟨rb, 3, none⟩ = some (.bool r.num) ∧ W'.cell? ⟨rb, 4, none⟩ = some (.int .i64 r.text) ∧ W'.cell? ⟨rb, 5, none⟩ = some (.slice a r.abs.length c)) 9 (by kernel_rfl) (by kernel_rfl) (HSK.out _ ((Ext.refl w3).drew.block HK3.out) ((Ext.refl w3).drew.block HR3.out)) (fun hS => ?_)
  have Z0 : Ext w3 w3.drew := Ext.drew (Ext.refl _)
  refine wpHd_take (i := 0) (oi := ?o0) (v := ?v0) ?hi0 (by kernel_rfl) (by kernel_rfl) (fun _ _ _ h => h) (Or.inl ⟨?hw0, ?hy0⟩) hS ?rs0
  case hi0 => (simp only [List.getElem?_toArray, List.getElem?_cons_succ, List.getElem?_cons_zero]; rfl)
  case hw0 => rfl
  case hy0 => (intro w hSw; (try dsimp only at hSw); obtain ⟨t0, t1, t2, t3, t4, t5, t6⟩ := hSw; go_simp; all_goals with_reducible rfl)
  try simp only [Act.put, List.setIfInBounds_toArray, List.set_cons_zero, List.set_cons_succ]
  refine wpHd_take (i := 1) (oi := ?o1) (v := ?v1) ?hi1 (by kernel_rfl) (by kernel_rfl) (fun _ _ _ h => h) (Or.inl ⟨?hw1, ?hy1⟩) hS ?rs1
  case hi1 => (simp only [List.getElem?_toArray, List.getElem?_cons_succ, List.getElem?_cons_zero]; rfl)
  case hw1 => rfl
  case hy1 => (intro w hSw; (try dsimp only at hSw); obtain ⟨t0, t1, t2, t3, t4, t5, t6⟩ := hSw; go_simp; all_goals with_reducible rfl)
  try simp only [Act.put, List.setIfInBounds_toArray, List.set_cons_zero, List.set_cons_succ]
  refine wpHd_take (i := 2) (oi := ?o2) (v := ?v2) ?hi2 (by kernel_rfl) (by kernel_rfl) (fun _ _ _ h => h) (Or.inl ⟨?hw2, ?hy2⟩) hS ?rs2
  case hi2 => (simp only [List.getElem?_toArray, List.getElem?_cons_succ, List.getElem?_cons_zero]; rfl)
  case hw2 => rfl
  case hy2 => (intro w hSw; (try dsimp only at hSw); obtain ⟨t0, t1, t2, t3, t4, t5, t6⟩ := hSw; go_simp; all_goals with_reducible rfl)
  try simp only [Act.put, List.setIfInBounds_toArray, List.set_cons_zero, List.set_cons_succ]
  refine wpHd_take (i := 3) (oi := ?o3) (v := ?v3) ?hi3 (by kernel_rfl) (by kernel_rfl) (fun _ _ _ h => h) (Or.inl ⟨?hw3, ?hy3⟩) hS ?rs3
  case hi3 => (simp only [List.getElem?_toArray, List.getElem?_cons_succ, List.getElem?_cons_zero]; rfl)
  case hw3 => rfl
  case hy3 => (intro w hSw; (try dsimp only at hSw); obtain ⟨t0, t1, t2, t3, t4, t5, t6⟩ := hSw; go_simp; all_goals with_reducible rfl)
  try simp only [Act.put, List.setIfInBounds_toArray, List.set_cons_zero, List.set_cons_succ]
  refine wpHd_take (i := 4) (oi := ?o4) (v := ?v4) ?hi4 (by kernel_rfl) (by kernel_rfl) (fun _ _ _ h => h) (Or.inl ⟨?hw4, ?hy4⟩) hS ?rs4
  case hi4 => (simp only [List.getElem?_toArray, List.getElem?_cons_succ, List.getElem?_cons_zero]; rfl)
  case hw4 => rfl
  case hy4 => (intro w hSw; (try dsimp only at hSw); obtain ⟨t0, t1, t2, t3, t4, t5, t6⟩ := hSw; go_simp; all_goals with_reducible rfl)
  try simp only [Act.put, List.setIfInBounds_toArray, List.set_cons_zero, List.set_cons_succ]
  refine wpHd_take (i := 5) (oi := ?o5) (v := ?v5) ?hi5 (by kernel_rfl) (by kernel_rfl) (fun _ _ _ h => h) (Or.inl ⟨?hw5, ?hy5⟩) hS ?rs5
  case hi5 => (simp only [List.getElem?_toArray, List.getElem?_cons_succ, List.getElem?_cons_zero]; rfl)
  case hw5 => rfl
  case hy5 => (intro w hSw; (try dsimp only at hSw); obtain ⟨t0, t1, t2, t3, t4, t5, t6⟩ := hSw; go_simp; all_goals with_reducible rfl)
  try simp only [Act.put, List.setIfInBounds_toArray, List.set_cons_zero, List.set_cons_succ]
  refine wpHd_step (i := 6) (o := ?o6) ?hi6 (by kernel_rfl) (fun K hK => ?st6)
  case hi6 => (simp only [List.getElem?_toArray, List.getElem?_cons_succ, List.getElem?_cons_zero]; rfl)
  go_simp
  refine (HCP.out _ (HT3.out.later Z0)).mono ?_
  rintro r9 w9 ⟨a9, c9, rfl, htb9, hx9⟩
  have Z1 : Ext w3 w9 := Z0.trans hx9
  have HTB9 := hid htb9
  clear hx9 htb9
  unfold Rw.val
  try go_simp
  refine hK.out _ _ ?_ (fun hS => ?_)
  · exact HSK.out _ (Z1.block HK3.out) (Z1.block HR3.out)
  clear hK K
  try simp only [Act.put, List.setIfInBounds_toArray, List.set_cons_zero, List.set_cons_succ]
  refine wpHd_step (i := 7) (o := ?o7) ?hi7 (by kernel_rfl) (fun K hK => ?st7)
  case hi7 => (simp only [List.getElem?_toArray, List.getElem?_cons_succ, List.getElem?_cons_zero]; rfl)
  go_simp
  refine hK.out _ _ ?_ (fun hS => ?_)
  · exact HSK.out _ ((Z1.more _).block HK3.out) ((Z1.more _).block HR3.out)
  clear hK K
  try simp only [Act.put, List.setIfInBounds_toArray, List.set_cons_zero, List.set_cons_succ]
  refine wpHd_step (i := 8) (o := ?o8) ?hi8 (by kernel_rfl) (fun K hK => ?st8)
  case hi8 => (simp only [List.getElem?_toArray, List.getElem?_cons_succ, List.getElem?_cons_zero]; rfl)
  refine step_ritem (ty := 37) _ (by rfl) _ _ (by rfl) (by rfl) base w9.heap.size (.slice ao al lc) acc r a9 c9 (by rfl) (by rfl) (Nat.le_trans HB3.out (Nat.le_trans Z1.size (Nat.le_of_lt (lt_of_block (blk0 w9 (.cells (r.cells a9 c9).toArray 37)))))) (HI3.out.later (Z1.trans (Ext.alloc _ _))) (blk0 _ _) (HTB9.out.later (Ext.alloc _ _)) (by have := HL.out; have := HAL.out; omega) ?_
  intro ao5 n5 c5 w5 hit5 hgr5
  have HIT5 := hid hit5
  have HG5 := hid (grown_kp hgr5)
  have HK5 := hid (HG5.out.block' ((Z1.more _).block HK3.out) (fun e => by
    obtain ⟨_, cur, hc⟩ := HI3.out.block e
    rw [HK3.out] at hc
    cases hc))
  have HR5 := hid (show RowAt w5 rb r a c from HG5.out.block' ((Z1.more _).block HR3.out) (fun e => HRB.out e))
  clear hit5 hgr5
  refine hK.out _ _ ?_ (fun hS => ?_)
  · exact HSK.out _ HK5.out HR5.out
  clear hK K
  try simp only [Act.put, List.setIfInBounds_toArray, List.set_cons_zero, List.set_cons_succ]
  refine wpHd_done (by kernel_rfl) 3 rfl ?_
  refine wpAny_row 9 3 rfl (by kernel_rfl) ?_
  clear hS
  have g1 : w5.cell? ⟨kb, 1, none⟩ = some (.slice ao al lc) := cell_of HK5.out rfl
  have g2 : w5.frozen? ⟨kb, 1, none⟩ = false := frozen_of HK5.out
  simp only [List.drop_succ_cons, List.drop_zero]
  go_wp2_with fail
  refine NoPanic.normal ?_
  go_wp2_with fail
  go_ret
  have hkm : kb ≠ mb := fun e => HK.out.map.nocells (e ▸ HK.out.blk)
  have KS := Kp.set w5 kb 1 (.slice ao5 n5 c5) (K := (· ≠ kb)) (fun h => h rfl)
  have hm5 : MapAt w5 mb (al + 1) (kIx (acc ++ [r])) := (HP3.out.later (Z1.more _)).keep HG5.out (fun e => by
    obtain ⟨_, cur, hc⟩ := HI3.out.block e
    exact HP3.out.nocells hc)
  refine ⟨rfl, .slice ao5 n5 c5, ⟨(set_at HK5.out 1 _).trans (by simp), HK.out.kge, HK.out.mge, ?_, ?_⟩, ?_⟩
  · rw [show (acc ++ [r]).length = al + 1 by rw [List.length_append, HAL.out]; rfl]
    exact hm5.keep KS (fun e => hkm e.symm)
  · refine HIT5.out.keep KS (fun q hq e => ?_) (fun q cur hq e => ?_)
    · obtain ⟨_, cur, hc⟩ := HIT5.out.block hq
      rw [e, HK5.out] at hc
      cases hc
    · rw [e, HK5.out] at hq
      cases hq
  · have b1 : Below base w w2.drew.drew := Below.mono (X2.out.trans ((Ext.refl w2).drew).drew) hbw
    have b2 : Below base w2.drew.drew w3 := HKP.out.below (fun q hq e => by have := HK.out.mge; omega) (Nat.le_trans hbw X2.out.size)
    have b3 : Below base w3 _ := Below.mono (Z1.more (.cells #[.string r.kind, .int .i64 r.min, .int .i64 r.max, .bool r.num, .int .i64 r.text, .slice a9 r.abs.length c9] 37)) HB3.out
    have b4 : Below base _ w5 := HG5.out.below (fun q hq e => by
      have := (HK.out.rows.block e).1
      omega) (Nat.le_trans HB3.out (Z1.more (.cells #[.string r.kind, .int .i64 r.min, .int .i64 r.max, .bool r.num, .int .i64 r.text, .slice a9 r.abs.length c9] 37)).size)
    have b5 : Below base w5 _ := KS.below (fun q hq e => by have := HK.out.kge; omega) (Nat.le_trans (Nat.le_trans HB3.out (Z1.more (.cells #[.string r.kind, .int .i64 r.min, .int .i64 r.max, .bool r.num, .int .i64 r.text, .slice a9 r.abs.length c9] 37)).size) HG5.out.size)
    exact (((b1.trans b2).trans b3).trans b4).trans b5

end Go.Proofs.YtaodkfchmaendaaGreatDoor
