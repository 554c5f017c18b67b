/-
  The maker of a kit by a table (craft.Kit$1), for each kind's type; by contracts.
-/
import Derived.Test.YtnmcmjgfnncdmaaGreatDoorZzBMaker
namespace Go.Proofs.YtnmcmjgfnncdmaaGreatDoor.Nd
open Go.RowKit
/-- A node that was made, in its handle. -/
def MadeN (w : World) (τ : TypeId) (k : ByteArray) (n : Int) (x : ByteArray) (nk : Nat) (t : Nat → TypeId) (v : Nat → Value) (h : Nat) (w' : World) : Prop := ∃ b a c, HandAt w' h (.iface τ (.pointer (some ⟨b, 0, none⟩))) (.iface τ (.pointer (some ⟨b, 0, none⟩))) ∧ NodeB w' b k n x (.slice a nk c) ∧ w'.ownsRow w.heap.size 65 1 (.slice a nk c) nk ((List.range nk).map fun i => .iface (t i) (v i)) ∧ w.heap.size ≤ b ∧ w.heap.size ≤ h
def Kit1R (w : World) (τ : TypeId) (k : ByteArray) (n : Int) (x : ByteArray) (nk : Nat) (t : Nat → TypeId) (v : Nat → Value) (e : Ending) (w' : World) : Prop := ∃ h, e = .returned (.pointer (some ⟨h, 0, none⟩)) ∧ MadeN w τ k n x nk t v h w' ∧ Ext w w'
theorem one_cells (nk : Nat) (t : Nat → TypeId) (v : Nat → Value) : ∀ u ∈ ((List.range nk).map fun i => Value.iface (t i) (v i)), u.oneCell' = true := by
  intro u hu
  obtain ⟨i, _, rfl⟩ := List.mem_map.1 hu
  rfl
theorem row_base {w : World} {B B' : Nat} {t : TypeId} {v : Value} {n : Nat} {xs : List Value} (h : w.ownsRow B t 1 v n xs) (hb : B' ≤ B) : w.ownsRow B' t 1 v n xs := by
  refine ⟨h.1, ?_⟩
  rcases h.2 with h | ⟨g, cap, cur, hv, hg, hr⟩
  · exact .inl h
  · exact .inr ⟨g, cap, cur, hv, Nat.le_trans hb hg, hr⟩
set_option maxRecDepth 100000 in
set_option maxHeartbeats 4000000 in
theorem kit1_By (ks : List Kd) (g cp bx : Nat) (k x : ByteArray) (n : Int) (ao : Option Addr) (nk c : Nat) (t : Nat → TypeId) (v : Nat → Value) (kd : Kd) (w : World) (hl : ks.length ≤ 1000) (hb : w.heap[bx]? = some (.cells #[.slice (some ⟨g, 0, none⟩) ks.length cp] 104)) (hk : KRow w g ks) (hf : Go.Proofs.YtnmcmjgfnncdmaaGreatDoor.kdFind ks k = some kd) (hm : kd.make = 128) (hd : kd.does = none) (hn : nk ≤ 100000) (hh : HandsO w ao nk t v) :
    Calls Tryz.prog 124 #[.agg #[.string k, .int .i64 n, .string x, .slice none 0 0], .slice ao nk c, .pointer (some ⟨bx, 0, none⟩)] w (Kit1R w 289 k n x nk t v) := by
  have HF := hid (fun w1 (hx : Ext w w1) => findK_any ks g cp k w1 hl (hk.later hx))
  rw [hf] at HF
  have HNO := hid (fun w1 (hx : Ext w w1) => knodesOf_any ao nk c t v w1 hn (hh.later hx))
  have HXS := hid (one_cells nk t v)
  have HNEW := hid (fun q B xs w1 h1 h => new_row k x n (.slice none 0 0) q B nk xs w1 hn h1 h)
  have HBX := hid hb
  obtain ⟨q0, q1, q2, q3, q4, q5, q6, q7, q8⟩ := kd
  obtain rfl : q6 = 128 := hm
  obtain rfl : q7 = none := hd
  clear hl hb hk hf hn hh
  generalize ks.length = kn at *
  obtain ⟨M, hM⟩ : ∃ M, w.alloc (.cells #[.string k, .int .i64 n, .string x, .slice none 0 0] 69) = M := ⟨_, rfl⟩
  have XM := hid (show Ext w M from hM ▸ Ext.alloc _ _)
  have HM0 := hid (show M.heap[w.heap.size]? = some (.cells #[.string k, .int .i64 n, .string x, .slice none 0 0] 69) from hM ▸ blk0 _ _)
  obtain ⟨t0, t1, t2, t3⟩ := four_of HM0.out
  have c0 : M.cell? ⟨bx, 0, none⟩ = some (.slice (some ⟨g, 0, none⟩) kn cp) := cell_of (XM.out.block HBX.out) rfl
  go_enter Tryz.func124, Tryz.ntmps124
  go_wp2_with fail
  clear hM c0
  refine (HF.out _ XM.out).mono ?_
  rintro e w1 ⟨rfl, hx1⟩
  unfold kdVal Kd.val fnV
  dsimp only
  obtain ⟨V, hV⟩ : ∃ V, w1.alloc (.cells #[.string q0, .int .i64 q1, .int .i64 q2, .int .i64 q3, .string q4, .string q5, .func (.func 128) #[] #[], .nilFunc, .bool q8] 100) = V := ⟨_, rfl⟩
  have XV := hid (show Ext M V from hV ▸ hx1.trans (Ext.alloc _ _))
  have HKB := hid (show V.heap[w1.heap.size]? = some (.cells #[.string q0, .int .i64 q1, .int .i64 q2, .int .i64 q3, .string q4, .string q5, .func (.func 128) #[] #[], .nilFunc, .bool q8] 100) from hV ▸ blk0 _ _)
  clear hx1 t0 t1 t2 t3
  have henter := enterBy
  have HMK := hid (fun a l c w1 => makerBy k x q5 n a l c w1)
  go_wp2_with fail
  first | rw [hV] | skip
  clear hV
  generalize w1.heap.size = kx at HKB ⊢
  refine (HNO.out _ (XM.out.trans XV.out)).mono ?_
  rintro r u1 ⟨q, rfl, hq, hy⟩
  obtain ⟨qa, qc, rfl⟩ := ownsRow_slice hq
  have HQ := hid hq
  have Z1 := hid hy
  clear hq hy
  have HSK := hid (show ∀ W', Ext u1 W' → (W'.cell? ⟨kx, 6, none⟩ = some (.func (.func 128) #[] #[]) ∧ W'.cell? ⟨kx, 5, none⟩ = some (.string q5) ∧ W'.cell? ⟨w.heap.size, 0, none⟩ = some (.string k) ∧ W'.cell? ⟨w.heap.size, 1, none⟩ = some (.int .i64 n) ∧ W'.cell? ⟨w.heap.size, 2, none⟩ = some (.string x) ∧ W'.cell? ⟨w.heap.size, 3, none⟩ = some (.slice none 0 0)) from fun W' X => by
    obtain ⟨s0, s1, s2, s3⟩ := four_of ((XV.out.trans (Z1.out.trans X)).block HM0.out)
    exact ⟨cell_of ((Z1.out.trans X).block HKB.out) rfl, cell_of ((Z1.out.trans X).block HKB.out) rfl, s0, s1, s2, s3⟩)
  go_wp2_with fail
  go_region_held3 (fun W' => W'.cell? ⟨kx, 6, none⟩ = some (.func (.func 128) #[] #[]) ∧ W'.cell? ⟨kx, 5, none⟩ = some (.string q5) ∧ W'.cell? ⟨w.heap.size, 0, none⟩ = some (.string k) ∧ W'.cell? ⟨w.heap.size, 1, none⟩ = some (.int .i64 n) ∧ W'.cell? ⟨w.heap.size, 2, none⟩ = some (.string x) ∧ W'.cell? ⟨w.heap.size, 3, none⟩ = some (.slice none 0 0))
    (first | with_reducible exact HSK.out _ (Ext.refl _) | with_reducible exact HSK.out _ (Ext.refl _).drew | with_reducible exact HSK.out _ Z4 | with_reducible exact HSK.out _ Z3 | with_reducible exact HSK.out _ Z2 | go_keep)
    (first
      | (go_at_call 126; with_reducible refine (HNEW.out _ _ _ _ HXS.out (row_ext HQ.out (by repeat (first | with_reducible exact Ext.refl _ | with_reducible refine Ext.drew ?_)))).mono ?_; rintro r u2 ⟨ra, rc, rfl, hr, hy⟩; have Z2 : Ext u1 u2 := Ext.trans (by repeat (first | with_reducible exact Ext.refl _ | with_reducible refine Ext.drew ?_)) hy; have HR2 := hid hr)
      | (go_at_call 128; with_reducible refine (HMK.out ra nk rc _).mono ?_; rintro r u3 ⟨b, rfl, hbb, hnb, hy⟩; have Z3 : Ext u1 u3 := Ext.trans (by repeat (first | with_reducible exact Z2 | with_reducible refine Ext.drew ?_)) hy; have ZY3 := hy)
      | (go_at_call 125; with_reducible refine (hold_gen 289 bareBy _ _).mono ?_; rintro r u4 ⟨rfl, hhd, hy⟩; have Z4 : Ext u1 u4 := Ext.trans (by repeat (first | with_reducible exact Z3 | with_reducible refine Ext.drew ?_)) hy; have ZY4 := hy))
  all_goals
    go_wp2_with fail
    go_ret
    exact ⟨u3.heap.size, rfl, ⟨b, ra, rc, hhd, hnb.later ZY4, row_base (row_ext (row_ext HR2.out ZY3) ZY4) (Nat.le_trans (XM.out.trans (XV.out.trans Z1.out)).size (Nat.le_refl _)), Nat.le_trans (XM.out.trans (XV.out.trans (Z1.out.trans Z2))).size hbb, (XM.out.trans (XV.out.trans (Z1.out.trans Z3))).size⟩, XM.out.trans (XV.out.trans (Z1.out.trans Z4))⟩
set_option maxRecDepth 100000 in
set_option maxHeartbeats 4000000 in
theorem kit1_To (ks : List Kd) (g cp bx : Nat) (k x : ByteArray) (n : Int) (ao : Option Addr) (nk c : Nat) (t : Nat → TypeId) (v : Nat → Value) (kd : Kd) (w : World) (hl : ks.length ≤ 1000) (hb : w.heap[bx]? = some (.cells #[.slice (some ⟨g, 0, none⟩) ks.length cp] 104)) (hk : KRow w g ks) (hf : Go.Proofs.YtnmcmjgfnncdmaaGreatDoor.kdFind ks k = some kd) (hm : kd.make = 127) (hd : kd.does = none) (hn : nk ≤ 100000) (hh : HandsO w ao nk t v) :
    Calls Tryz.prog 124 #[.agg #[.string k, .int .i64 n, .string x, .slice none 0 0], .slice ao nk c, .pointer (some ⟨bx, 0, none⟩)] w (Kit1R w 286 k n x nk t v) := by
  have HF := hid (fun w1 (hx : Ext w w1) => findK_any ks g cp k w1 hl (hk.later hx))
  rw [hf] at HF
  have HNO := hid (fun w1 (hx : Ext w w1) => knodesOf_any ao nk c t v w1 hn (hh.later hx))
  have HXS := hid (one_cells nk t v)
  have HNEW := hid (fun q B xs w1 h1 h => new_row k x n (.slice none 0 0) q B nk xs w1 hn h1 h)
  have HBX := hid hb
  obtain ⟨q0, q1, q2, q3, q4, q5, q6, q7, q8⟩ := kd
  obtain rfl : q6 = 127 := hm
  obtain rfl : q7 = none := hd
  clear hl hb hk hf hn hh
  generalize ks.length = kn at *
  obtain ⟨M, hM⟩ : ∃ M, w.alloc (.cells #[.string k, .int .i64 n, .string x, .slice none 0 0] 69) = M := ⟨_, rfl⟩
  have XM := hid (show Ext w M from hM ▸ Ext.alloc _ _)
  have HM0 := hid (show M.heap[w.heap.size]? = some (.cells #[.string k, .int .i64 n, .string x, .slice none 0 0] 69) from hM ▸ blk0 _ _)
  obtain ⟨t0, t1, t2, t3⟩ := four_of HM0.out
  have c0 : M.cell? ⟨bx, 0, none⟩ = some (.slice (some ⟨g, 0, none⟩) kn cp) := cell_of (XM.out.block HBX.out) rfl
  go_enter Tryz.func124, Tryz.ntmps124
  go_wp2_with fail
  clear hM c0
  refine (HF.out _ XM.out).mono ?_
  rintro e w1 ⟨rfl, hx1⟩
  unfold kdVal Kd.val fnV
  dsimp only
  obtain ⟨V, hV⟩ : ∃ V, w1.alloc (.cells #[.string q0, .int .i64 q1, .int .i64 q2, .int .i64 q3, .string q4, .string q5, .func (.func 127) #[] #[], .nilFunc, .bool q8] 100) = V := ⟨_, rfl⟩
  have XV := hid (show Ext M V from hV ▸ hx1.trans (Ext.alloc _ _))
  have HKB := hid (show V.heap[w1.heap.size]? = some (.cells #[.string q0, .int .i64 q1, .int .i64 q2, .int .i64 q3, .string q4, .string q5, .func (.func 127) #[] #[], .nilFunc, .bool q8] 100) from hV ▸ blk0 _ _)
  clear hx1 t0 t1 t2 t3
  have henter := enterTo
  have HMK := hid (fun a l c w1 => makerTo k x q5 n a l c w1)
  go_wp2_with fail
  first | rw [hV] | skip
  clear hV
  generalize w1.heap.size = kx at HKB ⊢
  refine (HNO.out _ (XM.out.trans XV.out)).mono ?_
  rintro r u1 ⟨q, rfl, hq, hy⟩
  obtain ⟨qa, qc, rfl⟩ := ownsRow_slice hq
  have HQ := hid hq
  have Z1 := hid hy
  clear hq hy
  have HSK := hid (show ∀ W', Ext u1 W' → (W'.cell? ⟨kx, 6, none⟩ = some (.func (.func 127) #[] #[]) ∧ W'.cell? ⟨kx, 5, none⟩ = some (.string q5) ∧ W'.cell? ⟨w.heap.size, 0, none⟩ = some (.string k) ∧ W'.cell? ⟨w.heap.size, 1, none⟩ = some (.int .i64 n) ∧ W'.cell? ⟨w.heap.size, 2, none⟩ = some (.string x) ∧ W'.cell? ⟨w.heap.size, 3, none⟩ = some (.slice none 0 0)) from fun W' X => by
    obtain ⟨s0, s1, s2, s3⟩ := four_of ((XV.out.trans (Z1.out.trans X)).block HM0.out)
    exact ⟨cell_of ((Z1.out.trans X).block HKB.out) rfl, cell_of ((Z1.out.trans X).block HKB.out) rfl, s0, s1, s2, s3⟩)
  go_wp2_with fail
  go_region_held3 (fun W' => W'.cell? ⟨kx, 6, none⟩ = some (.func (.func 127) #[] #[]) ∧ W'.cell? ⟨kx, 5, none⟩ = some (.string q5) ∧ W'.cell? ⟨w.heap.size, 0, none⟩ = some (.string k) ∧ W'.cell? ⟨w.heap.size, 1, none⟩ = some (.int .i64 n) ∧ W'.cell? ⟨w.heap.size, 2, none⟩ = some (.string x) ∧ W'.cell? ⟨w.heap.size, 3, none⟩ = some (.slice none 0 0))
    (first | with_reducible exact HSK.out _ (Ext.refl _) | with_reducible exact HSK.out _ (Ext.refl _).drew | with_reducible exact HSK.out _ Z4 | with_reducible exact HSK.out _ Z3 | with_reducible exact HSK.out _ Z2 | go_keep)
    (first
      | (go_at_call 126; with_reducible refine (HNEW.out _ _ _ _ HXS.out (row_ext HQ.out (by repeat (first | with_reducible exact Ext.refl _ | with_reducible refine Ext.drew ?_)))).mono ?_; rintro r u2 ⟨ra, rc, rfl, hr, hy⟩; have Z2 : Ext u1 u2 := Ext.trans (by repeat (first | with_reducible exact Ext.refl _ | with_reducible refine Ext.drew ?_)) hy; have HR2 := hid hr)
      | (go_at_call 127; with_reducible refine (HMK.out ra nk rc _).mono ?_; rintro r u3 ⟨b, rfl, hbb, hnb, hy⟩; have Z3 : Ext u1 u3 := Ext.trans (by repeat (first | with_reducible exact Z2 | with_reducible refine Ext.drew ?_)) hy; have ZY3 := hy)
      | (go_at_call 125; with_reducible refine (hold_gen 286 bareTo _ _).mono ?_; rintro r u4 ⟨rfl, hhd, hy⟩; have Z4 : Ext u1 u4 := Ext.trans (by repeat (first | with_reducible exact Z3 | with_reducible refine Ext.drew ?_)) hy; have ZY4 := hy))
  all_goals
    go_wp2_with fail
    go_ret
    exact ⟨u3.heap.size, rfl, ⟨b, ra, rc, hhd, hnb.later ZY4, row_base (row_ext (row_ext HR2.out ZY3) ZY4) (Nat.le_trans (XM.out.trans (XV.out.trans Z1.out)).size (Nat.le_refl _)), Nat.le_trans (XM.out.trans (XV.out.trans (Z1.out.trans Z2))).size hbb, (XM.out.trans (XV.out.trans (Z1.out.trans Z3))).size⟩, XM.out.trans (XV.out.trans (Z1.out.trans Z4))⟩
set_option maxRecDepth 100000 in
set_option maxHeartbeats 4000000 in
theorem kit1_Lz (ks : List Kd) (g cp bx : Nat) (k x : ByteArray) (n : Int) (ao : Option Addr) (nk c : Nat) (t : Nat → TypeId) (v : Nat → Value) (kd : Kd) (w : World) (hl : ks.length ≤ 1000) (hb : w.heap[bx]? = some (.cells #[.slice (some ⟨g, 0, none⟩) ks.length cp] 104)) (hk : KRow w g ks) (hf : Go.Proofs.YtnmcmjgfnncdmaaGreatDoor.kdFind ks k = some kd) (hm : kd.make = 145) (hd : kd.does = none) (hn : nk ≤ 100000) (hh : HandsO w ao nk t v) :
    Calls Tryz.prog 124 #[.agg #[.string k, .int .i64 n, .string x, .slice none 0 0], .slice ao nk c, .pointer (some ⟨bx, 0, none⟩)] w (Kit1R w 351 k n x nk t v) := by
  have HF := hid (fun w1 (hx : Ext w w1) => findK_any ks g cp k w1 hl (hk.later hx))
  rw [hf] at HF
  have HNO := hid (fun w1 (hx : Ext w w1) => knodesOf_any ao nk c t v w1 hn (hh.later hx))
  have HXS := hid (one_cells nk t v)
  have HNEW := hid (fun q B xs w1 h1 h => new_row k x n (.slice none 0 0) q B nk xs w1 hn h1 h)
  have HBX := hid hb
  obtain ⟨q0, q1, q2, q3, q4, q5, q6, q7, q8⟩ := kd
  obtain rfl : q6 = 145 := hm
  obtain rfl : q7 = none := hd
  clear hl hb hk hf hn hh
  generalize ks.length = kn at *
  obtain ⟨M, hM⟩ : ∃ M, w.alloc (.cells #[.string k, .int .i64 n, .string x, .slice none 0 0] 69) = M := ⟨_, rfl⟩
  have XM := hid (show Ext w M from hM ▸ Ext.alloc _ _)
  have HM0 := hid (show M.heap[w.heap.size]? = some (.cells #[.string k, .int .i64 n, .string x, .slice none 0 0] 69) from hM ▸ blk0 _ _)
  obtain ⟨t0, t1, t2, t3⟩ := four_of HM0.out
  have c0 : M.cell? ⟨bx, 0, none⟩ = some (.slice (some ⟨g, 0, none⟩) kn cp) := cell_of (XM.out.block HBX.out) rfl
  go_enter Tryz.func124, Tryz.ntmps124
  go_wp2_with fail
  clear hM c0
  refine (HF.out _ XM.out).mono ?_
  rintro e w1 ⟨rfl, hx1⟩
  unfold kdVal Kd.val fnV
  dsimp only
  obtain ⟨V, hV⟩ : ∃ V, w1.alloc (.cells #[.string q0, .int .i64 q1, .int .i64 q2, .int .i64 q3, .string q4, .string q5, .func (.func 145) #[] #[], .nilFunc, .bool q8] 100) = V := ⟨_, rfl⟩
  have XV := hid (show Ext M V from hV ▸ hx1.trans (Ext.alloc _ _))
  have HKB := hid (show V.heap[w1.heap.size]? = some (.cells #[.string q0, .int .i64 q1, .int .i64 q2, .int .i64 q3, .string q4, .string q5, .func (.func 145) #[] #[], .nilFunc, .bool q8] 100) from hV ▸ blk0 _ _)
  clear hx1 t0 t1 t2 t3
  have henter := enterLz
  have HMK := hid (fun a l c w1 => makerLz k x q5 n a l c w1)
  go_wp2_with fail
  first | rw [hV] | skip
  clear hV
  generalize w1.heap.size = kx at HKB ⊢
  refine (HNO.out _ (XM.out.trans XV.out)).mono ?_
  rintro r u1 ⟨q, rfl, hq, hy⟩
  obtain ⟨qa, qc, rfl⟩ := ownsRow_slice hq
  have HQ := hid hq
  have Z1 := hid hy
  clear hq hy
  have HSK := hid (show ∀ W', Ext u1 W' → (W'.cell? ⟨kx, 6, none⟩ = some (.func (.func 145) #[] #[]) ∧ W'.cell? ⟨kx, 5, none⟩ = some (.string q5) ∧ W'.cell? ⟨w.heap.size, 0, none⟩ = some (.string k) ∧ W'.cell? ⟨w.heap.size, 1, none⟩ = some (.int .i64 n) ∧ W'.cell? ⟨w.heap.size, 2, none⟩ = some (.string x) ∧ W'.cell? ⟨w.heap.size, 3, none⟩ = some (.slice none 0 0)) from fun W' X => by
    obtain ⟨s0, s1, s2, s3⟩ := four_of ((XV.out.trans (Z1.out.trans X)).block HM0.out)
    exact ⟨cell_of ((Z1.out.trans X).block HKB.out) rfl, cell_of ((Z1.out.trans X).block HKB.out) rfl, s0, s1, s2, s3⟩)
  go_wp2_with fail
  go_region_held3 (fun W' => W'.cell? ⟨kx, 6, none⟩ = some (.func (.func 145) #[] #[]) ∧ W'.cell? ⟨kx, 5, none⟩ = some (.string q5) ∧ W'.cell? ⟨w.heap.size, 0, none⟩ = some (.string k) ∧ W'.cell? ⟨w.heap.size, 1, none⟩ = some (.int .i64 n) ∧ W'.cell? ⟨w.heap.size, 2, none⟩ = some (.string x) ∧ W'.cell? ⟨w.heap.size, 3, none⟩ = some (.slice none 0 0))
    (first | with_reducible exact HSK.out _ (Ext.refl _) | with_reducible exact HSK.out _ (Ext.refl _).drew | with_reducible exact HSK.out _ Z4 | with_reducible exact HSK.out _ Z3 | with_reducible exact HSK.out _ Z2 | go_keep)
    (first
      | (go_at_call 126; with_reducible refine (HNEW.out _ _ _ _ HXS.out (row_ext HQ.out (by repeat (first | with_reducible exact Ext.refl _ | with_reducible refine Ext.drew ?_)))).mono ?_; rintro r u2 ⟨ra, rc, rfl, hr, hy⟩; have Z2 : Ext u1 u2 := Ext.trans (by repeat (first | with_reducible exact Ext.refl _ | with_reducible refine Ext.drew ?_)) hy; have HR2 := hid hr)
      | (go_at_call 145; with_reducible refine (HMK.out ra nk rc _).mono ?_; rintro r u3 ⟨b, rfl, hbb, hnb, hy⟩; have Z3 : Ext u1 u3 := Ext.trans (by repeat (first | with_reducible exact Z2 | with_reducible refine Ext.drew ?_)) hy; have ZY3 := hy)
      | (go_at_call 125; with_reducible refine (hold_gen 351 bareLz _ _).mono ?_; rintro r u4 ⟨rfl, hhd, hy⟩; have Z4 : Ext u1 u4 := Ext.trans (by repeat (first | with_reducible exact Z3 | with_reducible refine Ext.drew ?_)) hy; have ZY4 := hy))
  all_goals
    go_wp2_with fail
    go_ret
    exact ⟨u3.heap.size, rfl, ⟨b, ra, rc, hhd, hnb.later ZY4, row_base (row_ext (row_ext HR2.out ZY3) ZY4) (Nat.le_trans (XM.out.trans (XV.out.trans Z1.out)).size (Nat.le_refl _)), Nat.le_trans (XM.out.trans (XV.out.trans (Z1.out.trans Z2))).size hbb, (XM.out.trans (XV.out.trans (Z1.out.trans Z3))).size⟩, XM.out.trans (XV.out.trans (Z1.out.trans Z4))⟩
set_option maxRecDepth 100000 in
set_option maxHeartbeats 4000000 in
theorem kit1_Ec (ks : List Kd) (g cp bx : Nat) (k x : ByteArray) (n : Int) (ao : Option Addr) (nk c : Nat) (t : Nat → TypeId) (v : Nat → Value) (kd : Kd) (w : World) (hl : ks.length ≤ 1000) (hb : w.heap[bx]? = some (.cells #[.slice (some ⟨g, 0, none⟩) ks.length cp] 104)) (hk : KRow w g ks) (hf : Go.Proofs.YtnmcmjgfnncdmaaGreatDoor.kdFind ks k = some kd) (hm : kd.make = 119) (hd : kd.does = none) (hn : nk ≤ 100000) (hh : HandsO w ao nk t v) :
    Calls Tryz.prog 124 #[.agg #[.string k, .int .i64 n, .string x, .slice none 0 0], .slice ao nk c, .pointer (some ⟨bx, 0, none⟩)] w (Kit1R w 275 k n x nk t v) := by
  have HF := hid (fun w1 (hx : Ext w w1) => findK_any ks g cp k w1 hl (hk.later hx))
  rw [hf] at HF
  have HNO := hid (fun w1 (hx : Ext w w1) => knodesOf_any ao nk c t v w1 hn (hh.later hx))
  have HXS := hid (one_cells nk t v)
  have HNEW := hid (fun q B xs w1 h1 h => new_row k x n (.slice none 0 0) q B nk xs w1 hn h1 h)
  have HBX := hid hb
  obtain ⟨q0, q1, q2, q3, q4, q5, q6, q7, q8⟩ := kd
  obtain rfl : q6 = 119 := hm
  obtain rfl : q7 = none := hd
  clear hl hb hk hf hn hh
  generalize ks.length = kn at *
  obtain ⟨M, hM⟩ : ∃ M, w.alloc (.cells #[.string k, .int .i64 n, .string x, .slice none 0 0] 69) = M := ⟨_, rfl⟩
  have XM := hid (show Ext w M from hM ▸ Ext.alloc _ _)
  have HM0 := hid (show M.heap[w.heap.size]? = some (.cells #[.string k, .int .i64 n, .string x, .slice none 0 0] 69) from hM ▸ blk0 _ _)
  obtain ⟨t0, t1, t2, t3⟩ := four_of HM0.out
  have c0 : M.cell? ⟨bx, 0, none⟩ = some (.slice (some ⟨g, 0, none⟩) kn cp) := cell_of (XM.out.block HBX.out) rfl
  go_enter Tryz.func124, Tryz.ntmps124
  go_wp2_with fail
  clear hM c0
  refine (HF.out _ XM.out).mono ?_
  rintro e w1 ⟨rfl, hx1⟩
  unfold kdVal Kd.val fnV
  dsimp only
  obtain ⟨V, hV⟩ : ∃ V, w1.alloc (.cells #[.string q0, .int .i64 q1, .int .i64 q2, .int .i64 q3, .string q4, .string q5, .func (.func 119) #[] #[], .nilFunc, .bool q8] 100) = V := ⟨_, rfl⟩
  have XV := hid (show Ext M V from hV ▸ hx1.trans (Ext.alloc _ _))
  have HKB := hid (show V.heap[w1.heap.size]? = some (.cells #[.string q0, .int .i64 q1, .int .i64 q2, .int .i64 q3, .string q4, .string q5, .func (.func 119) #[] #[], .nilFunc, .bool q8] 100) from hV ▸ blk0 _ _)
  clear hx1 t0 t1 t2 t3
  have henter := enterEc
  have HMK := hid (fun a l c w1 => makerEc k x q5 n a l c w1)
  go_wp2_with fail
  first | rw [hV] | skip
  clear hV
  generalize w1.heap.size = kx at HKB ⊢
  refine (HNO.out _ (XM.out.trans XV.out)).mono ?_
  rintro r u1 ⟨q, rfl, hq, hy⟩
  obtain ⟨qa, qc, rfl⟩ := ownsRow_slice hq
  have HQ := hid hq
  have Z1 := hid hy
  clear hq hy
  have HSK := hid (show ∀ W', Ext u1 W' → (W'.cell? ⟨kx, 6, none⟩ = some (.func (.func 119) #[] #[]) ∧ W'.cell? ⟨kx, 5, none⟩ = some (.string q5) ∧ W'.cell? ⟨w.heap.size, 0, none⟩ = some (.string k) ∧ W'.cell? ⟨w.heap.size, 1, none⟩ = some (.int .i64 n) ∧ W'.cell? ⟨w.heap.size, 2, none⟩ = some (.string x) ∧ W'.cell? ⟨w.heap.size, 3, none⟩ = some (.slice none 0 0)) from fun W' X => by
    obtain ⟨s0, s1, s2, s3⟩ := four_of ((XV.out.trans (Z1.out.trans X)).block HM0.out)
    exact ⟨cell_of ((Z1.out.trans X).block HKB.out) rfl, cell_of ((Z1.out.trans X).block HKB.out) rfl, s0, s1, s2, s3⟩)
  go_wp2_with fail
  go_region_held3 (fun W' => W'.cell? ⟨kx, 6, none⟩ = some (.func (.func 119) #[] #[]) ∧ W'.cell? ⟨kx, 5, none⟩ = some (.string q5) ∧ W'.cell? ⟨w.heap.size, 0, none⟩ = some (.string k) ∧ W'.cell? ⟨w.heap.size, 1, none⟩ = some (.int .i64 n) ∧ W'.cell? ⟨w.heap.size, 2, none⟩ = some (.string x) ∧ W'.cell? ⟨w.heap.size, 3, none⟩ = some (.slice none 0 0))
    (first | with_reducible exact HSK.out _ (Ext.refl _) | with_reducible exact HSK.out _ (Ext.refl _).drew | with_reducible exact HSK.out _ Z4 | with_reducible exact HSK.out _ Z3 | with_reducible exact HSK.out _ Z2 | go_keep)
    (first
      | (go_at_call 126; with_reducible refine (HNEW.out _ _ _ _ HXS.out (row_ext HQ.out (by repeat (first | with_reducible exact Ext.refl _ | with_reducible refine Ext.drew ?_)))).mono ?_; rintro r u2 ⟨ra, rc, rfl, hr, hy⟩; have Z2 : Ext u1 u2 := Ext.trans (by repeat (first | with_reducible exact Ext.refl _ | with_reducible refine Ext.drew ?_)) hy; have HR2 := hid hr)
      | (go_at_call 119; with_reducible refine (HMK.out ra nk rc _).mono ?_; rintro r u3 ⟨b, rfl, hbb, hnb, hy⟩; have Z3 : Ext u1 u3 := Ext.trans (by repeat (first | with_reducible exact Z2 | with_reducible refine Ext.drew ?_)) hy; have ZY3 := hy)
      | (go_at_call 125; with_reducible refine (hold_gen 275 bareEc _ _).mono ?_; rintro r u4 ⟨rfl, hhd, hy⟩; have Z4 : Ext u1 u4 := Ext.trans (by repeat (first | with_reducible exact Z3 | with_reducible refine Ext.drew ?_)) hy; have ZY4 := hy))
  all_goals
    go_wp2_with fail
    go_ret
    exact ⟨u3.heap.size, rfl, ⟨b, ra, rc, hhd, hnb.later ZY4, row_base (row_ext (row_ext HR2.out ZY3) ZY4) (Nat.le_trans (XM.out.trans (XV.out.trans Z1.out)).size (Nat.le_refl _)), Nat.le_trans (XM.out.trans (XV.out.trans (Z1.out.trans Z2))).size hbb, (XM.out.trans (XV.out.trans (Z1.out.trans Z3))).size⟩, XM.out.trans (XV.out.trans (Z1.out.trans Z4))⟩

end Go.Proofs.YtnmcmjgfnncdmaaGreatDoor.Nd
