/-
  A node of the kit base that is a truth is made (node.Make), with all that this calls; by contracts.
-/
import Derived.Test.YtnmcmjgfnncdmaaGreatDoorZzBFacts
import Derived.Deep.RegionHeld3
import Derived.WalkMore
namespace Go.Proofs.YtnmcmjgfnncdmaaGreatDoor.Nd
open Go.RowKit
attribute [local go_sem] isLitWrapped
/-- A handle's block. -/
abbrev HandAt (w : World) (b : Nat) (n c : Value) : Prop := w.heap[b]? = some (.cells #[n, c] 198)
theorem node_nil (w : World) : Calls Tryz.prog 63 #[.pointer none] w fun e w' => e = .returned .nilIface ∧ w' = w := by
  go_enter Tryz.func63, Tryz.ntmps63
  go_wp2
  go_ret
  exact ⟨rfl, rfl⟩
theorem node_at (b : Nat) (n c : Value) (w : World) (h : HandAt w b n c) : Calls Tryz.prog 63 #[.pointer (some ⟨b, 0, none⟩)] w fun e w' => e = .returned n ∧ w' = w := by
  have c0 : w.cell? ⟨b, 0, none⟩ = some n := cell_of h rfl
  clear h
  go_enter Tryz.func63, Tryz.ntmps63
  go_wp2
  go_ret
  exact ⟨rfl, rfl⟩
theorem nodesOf_none (w : World) : Calls Tryz.prog 65 #[.slice none 0 0] w fun e w' => e = .returned (.tuple #[.slice none 0 0, .bool true]) ∧ w' = w := by
  go_enter Tryz.func65, Tryz.ntmps65
  go_wp2
  refine wp_loop_rounds 1 ?_
  rw [rounds_succ]
  go_wp2
  go_ret2
  exact ⟨rfl, rfl⟩
theorem cloneN_nil (w : World) : Calls Tryz.prog 179 #[.slice none 0 0] w fun e w' => e = .returned (.slice none 0 0) ∧ w' = w := by
  have hq : ∀ w : World, (binOp .eql 131 (.slice none 0 0) (.slice none 0 0)).run Tryz.prog w = .ok (.bool true) w := fun _ => by kernel_rfl
  go_enter Tryz.func179, Tryz.ntmps179
  go_wp2
  go_ret
  exact ⟨rfl, rfl⟩
theorem four_set0 {w : World} {b : Nat} {v0 v1 v2 v3 u0 u1 u2 u3 : Value} {t : TypeId} (h : w.heap[b]? = some (.cells #[v0, v1, v2, v3] t)) : ((((w.setCell ⟨b, 0, none⟩ u0).setCell ⟨b, 1, none⟩ u1).setCell ⟨b, 2, none⟩ u2).setCell ⟨b, 3, none⟩ u3).heap[b]? = some (.cells #[u0, u1, u2, u3] t) := (set_at (set_at (set_at (set_at h 0 u0) 1 u1) 2 u2) 3 u3).trans (by simp)
theorem four_of {w : World} {b : Nat} {v0 v1 v2 v3 : Value} {t : TypeId} (h : w.heap[b]? = some (.cells #[v0, v1, v2, v3] t)) : w.cell? ⟨b, 0, none⟩ = some v0 ∧ w.cell? ⟨b, 1, none⟩ = some v1 ∧ w.cell? ⟨b, 2, none⟩ = some v2 ∧ w.cell? ⟨b, 3, none⟩ = some v3 := ⟨cell_of h rfl, cell_of h rfl, cell_of h rfl, cell_of h rfl⟩
set_option maxRecDepth 100000 in
set_option maxHeartbeats 1000000 in
theorem new_none (k x : ByteArray) (n : Int) (kv : Value) (w : World) : Calls Tryz.prog 126 #[.agg #[.string k, .int .i64 n, .string x, kv], .slice none 0 0] w fun e w' => e = .returned (.agg #[.string k, .int .i64 n, .string x, .slice none 0 0]) ∧ Ext w w' := by
  obtain ⟨M, hM⟩ : ∃ M, (w.alloc (.cells #[.string k, .int .i64 n, .string x, kv] 69)).alloc (.cells #[.string ⟨#[]⟩, .int .i64 0, .string ⟨#[]⟩, .slice none 0 0] 189) = M := ⟨_, rfl⟩
  have XM := hid (show Ext w M from hM ▸ Ext.alloc2 _ _ _)
  have HM0 := hid (show M.heap[w.heap.size]? = some (.cells #[.string k, .int .i64 n, .string x, kv] 69) from hM ▸ blkOld _ (blk0 _ _))
  have HM1 := hid (show M.heap[w.heap.size + 1]? = some (.cells #[.string ⟨#[]⟩, .int .i64 0, .string ⟨#[]⟩, .slice none 0 0] 189) from hM ▸ blk1 _ _ _)
  obtain ⟨t0, t1, t2, t3⟩ := four_of HM0.out
  obtain ⟨r0, r1, r2, r3⟩ := four_of HM1.out
  obtain ⟨f0, f1, f2, f3⟩ : M.frozen? ⟨w.heap.size + 1, 0, none⟩ = false ∧ M.frozen? ⟨w.heap.size + 1, 1, none⟩ = false ∧ M.frozen? ⟨w.heap.size + 1, 2, none⟩ = false ∧ M.frozen? ⟨w.heap.size + 1, 3, none⟩ = false := ⟨frozen_of HM1.out, frozen_of HM1.out, frozen_of HM1.out, frozen_of HM1.out⟩
  go_enter Tryz.func126, Tryz.ntmps126
  go_wp2_with fail
  clear hM
  go_region_held3 (fun W' => W'.cell? ⟨w.heap.size, 0, none⟩ = some (.string k) ∧ W'.cell? ⟨w.heap.size, 1, none⟩ = some (.int .i64 n) ∧ W'.cell? ⟨w.heap.size, 2, none⟩ = some (.string x))
    (first | with_reducible exact ⟨t0, t1, t2⟩ | go_keep)
    (first | (go_at_call 179; refine (cloneN_nil _).mono ?_; rintro r w1 ⟨rfl, rfl⟩))
  all_goals
    go_wp2_with fail
    obtain ⟨z0, z1, z2, z3⟩ := four_of (four_set0 (u0 := .string k) (u1 := .int .i64 n) (u2 := .string x) (u3 := .slice none 0 0) HM1.out)
    refine bodyPost_ret (v := .agg #[.string k, .int .i64 n, .string x, .slice none 0 0]) (by simp [results, Tryz.results126, go_sem, z0, z1, z2, z3]) rfl ?_
    exact ⟨rfl, (Kp.extOf XM.out (((((Kp.set M (w.heap.size + 1) 0 _ (fun h => h rfl)).trans (Kp.set _ (w.heap.size + 1) 1 _ (fun h => h rfl))).trans (Kp.set _ (w.heap.size + 1) 2 _ (fun h => h rfl))).trans (Kp.set _ (w.heap.size + 1) 3 _ (fun h => h rfl)))) (by omega)).drew⟩
theorem coreOf_lit (v : Value) (w : World) : Calls Tryz.prog 178 #[.iface 388 v] w fun e w' => e = .returned (.iface 388 v) ∧ w' = w := by
  go_enter Tryz.func178, Tryz.ntmps178
  go_wp2
  refine wp_loop_rounds 1 ?_
  rw [rounds_succ]
  go_wp2
  go_ret
  exact ⟨rfl, rfl⟩
theorem hold_lit (v : Value) (w : World) : Calls Tryz.prog 125 #[.iface 388 v] w fun e w' => e = .returned (.pointer (some ⟨w.heap.size, 0, none⟩)) ∧ HandAt w' w.heap.size (.iface 388 v) (.iface 388 v) ∧ Ext w w' := by
  go_enter Tryz.func125, Tryz.ntmps125
  go_wp2_with fail
  go_at_call 178
  refine (coreOf_lit v _).mono ?_
  rintro r w1 ⟨rfl, rfl⟩
  go_wp2_with fail
  go_ret
  exact ⟨rfl, blk0 _ _, Ext.alloc _ _⟩
/-- A literal's block. -/
abbrev LitAt (w : World) (b : Nat) (k : ByteArray) (n : Int) (x : ByteArray) (v : Value) : Prop := w.heap[b]? = some (.cells #[.string k, .int .i64 n, .string x, .slice none 0 0, v] 390)
theorem lit_of (k x : ByteArray) (n : Int) (vt : TypeId) (vv : Value) (w : World) : Calls Tryz.prog 232 #[.agg #[.string k, .int .i64 n, .string x, .slice none 0 0], .iface vt vv] w fun e w' => ∃ b, e = .returned (.iface 388 (.pointer (some ⟨b, 0, none⟩))) ∧ w.heap.size ≤ b ∧ LitAt w' b k n x (.iface vt vv) ∧ Ext w w' := by
  go_enter Tryz.func232, Tryz.ntmps232
  go_wp2_with fail
  go_ret
  exact ⟨_, rfl, Nat.le_succ _, blk1 _ _ _, Ext.alloc2 _ _ _⟩
set_option maxRecDepth 100000 in
theorem takes_void (nj hj : ByteArray) (mj xj : Int) (bj : Bool) (fv : Value) (w : World) (hf : ∃ fn c d, fv = .func fn c d) : Calls Tryz.prog 181 #[.agg #[.string nj, .int .i64 mj, .int .i64 xj, .bool bj, .int .i64 0, .string hj, fv], .string ⟨#[]⟩] w fun e w' => e = .returned (.bool true) ∧ Ext w w' := by
  obtain ⟨fn, c, d, rfl⟩ := hf
  go_enter Tryz.func181, Tryz.ntmps181
  go_wp2_with fail
  go_ret
  exact ⟨rfl, Ext.alloc _ _⟩
def hLit : ByteArray := ⟨#[76, 105, 116, 101, 114, 97, 108, 32, 80, 117, 114, 101, 32, 84, 111, 116, 97, 108, 32, 83, 111, 114, 116, 101, 100]⟩
def nYes : ByteArray := ⟨#[98, 97, 115, 101, 46, 121, 101, 115]⟩
theorem find_yes : kdFind nYes = some 1 := by decide
set_option maxRecDepth 100000 in
theorem mkYes_any (k x : ByteArray) (n : Int) (g : Nat) (w : World) (hg : OfAt w g) : Calls Tryz.prog 234 #[.agg #[.string k, .int .i64 n, .string x, .slice none 0 0], .pointer (some ⟨g, 0, none⟩)] w fun e w' => ∃ b, e = .returned (.iface 388 (.pointer (some ⟨b, 0, none⟩))) ∧ w.heap.size ≤ b ∧ LitAt w' b k n x (.iface 85 (.bool true)) ∧ Ext w w' := by
  have hgc : (w.alloc (.cells #[.string k, .int .i64 n, .string x, .slice none 0 0] 189)).cell? ⟨g, 0, none⟩ = some (.func (.func 232) #[] #[]) := cell_of (blkOld _ hg) rfl
  have hgw : w.cell? ⟨g, 0, none⟩ = some (.func (.func 232) #[] #[]) := cell_of hg rfl
  have hgl : g < w.heap.size := lt_of_block hg
  go_enter Tryz.func234, Tryz.ntmps234
  go_wp2_with fail
  go_at_call 232
  refine (lit_of k x n _ _ _).mono ?_
  rintro r w1 ⟨b, rfl, hb, hl, hx⟩
  go_wp2_with fail
  go_ret
  exact ⟨_, rfl, Nat.le_trans (Ext.alloc w _).size hb, hl, (Ext.alloc w _).trans hx⟩
set_option maxRecDepth 100000 in
set_option maxHeartbeats 2000000 in
theorem fits_none (nj hj : ByteArray) (kv : Value) (k : ByteArray) (fv : Value) (w : World) (hf : ∃ fn c d, fv = .func fn c d) : Calls Tryz.prog 130 #[.agg #[.string nj, .int .i64 0, .int .i64 0, .bool false, .int .i64 0, .string hj, fv], .agg #[.string k, .int .i64 0, .string ⟨#[]⟩, kv], .int .i64 0] w fun e w' => e = .returned (.int .i64 0) ∧ Ext w w' := by
  have HT := hid (fun w1 => takes_void nj hj 0 0 false fv w1 hf)
  obtain ⟨fn, c, d, rfl⟩ := hf
  obtain ⟨M, hM⟩ : ∃ M, (w.alloc (.cells #[.string nj, .int .i64 0, .int .i64 0, .bool false, .int .i64 0, .string hj, .func fn c d] 193)).alloc (.cells #[.string k, .int .i64 0, .string ⟨#[]⟩, kv] 69) = M := ⟨_, rfl⟩
  have XM := hid (show Ext w M from hM ▸ Ext.alloc2 _ _ _)
  have HM0 := hid (show M.heap[w.heap.size]? = some (.cells #[.string nj, .int .i64 0, .int .i64 0, .bool false, .int .i64 0, .string hj, .func fn c d] 193) from hM ▸ blkOld _ (blk0 _ _))
  have HM1 := hid (show M.heap[w.heap.size + 1]? = some (.cells #[.string k, .int .i64 0, .string ⟨#[]⟩, kv] 69) from hM ▸ blk1 _ _ _)
  obtain ⟨t0, t1, t2, t3⟩ := four_of HM1.out
  obtain ⟨r0, r1, r2, r3, r4, r5, r6⟩ := seven_of HM0.out
  go_enter Tryz.func130, Tryz.ntmps130
  go_wp2_with fail
  go_at_call 181
  refine (HT.out M).mono ?_
  rintro r w1 ⟨rfl, hx⟩
  have X1 := hid (XM.out.trans hx)
  clear hx
  go_wp2_with fail
  go_ret
  exact ⟨rfl, X1.out⟩
set_option maxRecDepth 100000 in
set_option maxHeartbeats 4000000 in
theorem make_yes (w : World) : Calls Tryz.prog 62 #[.agg #[.string nYes, .int .i64 0, .string ⟨#[]⟩, .slice none 0 0], .slice none 0 0] w fun e w' => ∃ b h, e = .returned (.tuple #[.pointer (some ⟨h, 0, none⟩), .nilIface]) ∧ w.heap.size ≤ b ∧ w.heap.size ≤ h ∧ HandAt w' h (.iface 388 (.pointer (some ⟨b, 0, none⟩))) (.iface 388 (.pointer (some ⟨b, 0, none⟩))) ∧ LitAt w' b nYes 0 ⟨#[]⟩ (.iface 85 (.bool true)) ∧ Ext w w' := by
  obtain ⟨M, hM⟩ : ∃ M, w.alloc (.cells #[.string nYes, .int .i64 0, .string ⟨#[]⟩, .slice none 0 0] 69) = M := ⟨_, rfl⟩
  have XM := hid (show Ext w M from hM ▸ Ext.alloc _ _)
  have HM0 := hid (show M.heap[w.heap.size]? = some (.cells #[.string nYes, .int .i64 0, .string ⟨#[]⟩, .slice none 0 0] 69) from hM ▸ blk0 _ _)
  obtain ⟨t0, t1, t2, t3⟩ := four_of HM0.out
  have HKF := hid find_yes
  generalize hnn : nYes = nn at *
  have HNN := hid hnn
  clear hnn
  go_enter Tryz.func62, Tryz.ntmps62
  go_wp2_with fail
  clear hM
  go_at_call 129
  refine (kindOf_any nn M).mono ?_
  rintro e w1 ⟨hx1, hk⟩
  rw [HKF.out] at hk
  obtain ⟨g, hg, hO, rfl⟩ := hk
  rw [show kdV g 1 = .agg #[.string nYes, .int .i64 0, .int .i64 0, .bool false, .int .i64 0, .string hLit, .func (.func 234) #[] #[.pointer (some ⟨g, 0, none⟩)]] from rfl]
  rw [HNN.out]
  generalize hhl : hLit = hl at *
  clear hhl
  obtain ⟨V, hV⟩ : ∃ V, w1.alloc (.cells #[.string nn, .int .i64 0, .int .i64 0, .bool false, .int .i64 0, .string hl, .func (.func 234) #[] #[.pointer (some ⟨g, 0, none⟩)]] 193) = V := ⟨_, rfl⟩
  have X1 := hid (show Ext M V from hV ▸ hx1.trans (Ext.alloc _ _))
  have HOV := hid (show OfAt V g from hV ▸ blkOld _ hO)
  have HKB := hid (show V.heap[w1.heap.size]? = some (.cells #[.string nn, .int .i64 0, .int .i64 0, .bool false, .int .i64 0, .string hl, .func (.func 234) #[] #[.pointer (some ⟨g, 0, none⟩)]] 193) from hV ▸ blk0 _ _)
  obtain ⟨r0, r1, r2, r3, r4, r5, r6⟩ := seven_of HKB.out
  have HTB := hid (X1.out.block HM0.out)
  clear t0 t1 t2 t3 hx1 hO hg
  obtain ⟨t0, t1, t2, t3⟩ := four_of HTB.out
  go_wp2_with fail
  clear hV
  go_at_call 65
  refine (nodesOf_none _).mono ?_
  rintro e wn ⟨rfl, hwn⟩
  rw [hwn]
  clear hwn wn
  go_wp2_with fail
  go_at_call 130
  refine (fits_none nn hl (.slice none 0 0) nn _ V ⟨_, _, _, rfl⟩).mono ?_
  rintro e w2 ⟨rfl, hx2⟩
  have X2 := hid (X1.out.trans hx2)
  have HK2 := hid (hx2.block HKB.out)
  have HT2 := hid (hx2.block HTB.out)
  have HO2 := hid (hx2.block HOV.out)
  clear hx2 r0 r1 r2 r3 r4 r5 r6 t0 t1 t2 t3
  have HSK := hid (show ∀ W', Ext w2 W' → (Ext w2 W' ∧ W'.cell? ⟨w1.heap.size, 6, none⟩ = some (.func (.func 234) #[] #[.pointer (some ⟨g, 0, none⟩)]) ∧ W'.cell? ⟨w.heap.size, 0, none⟩ = some (.string nn) ∧ W'.cell? ⟨w.heap.size, 1, none⟩ = some (.int .i64 0) ∧ W'.cell? ⟨w.heap.size, 2, none⟩ = some (.string ⟨#[]⟩) ∧ W'.cell? ⟨w.heap.size, 3, none⟩ = some (.slice none 0 0)) from fun W' X => by
    obtain ⟨s0, s1, s2, s3⟩ := four_of (X.block HT2.out)
    exact ⟨X, cell_of (X.block HK2.out) rfl, s0, s1, s2, s3⟩)
  go_wp2_with fail
  go_region_held3 (fun W' => Ext w2 W' ∧ W'.cell? ⟨w1.heap.size, 6, none⟩ = some (.func (.func 234) #[] #[.pointer (some ⟨g, 0, none⟩)]) ∧ W'.cell? ⟨w.heap.size, 0, none⟩ = some (.string nn) ∧ W'.cell? ⟨w.heap.size, 1, none⟩ = some (.int .i64 0) ∧ W'.cell? ⟨w.heap.size, 2, none⟩ = some (.string ⟨#[]⟩) ∧ W'.cell? ⟨w.heap.size, 3, none⟩ = some (.slice none 0 0))
    (first | with_reducible exact HSK.out _ (Ext.refl _) | with_reducible exact HSK.out _ (Ext.refl _).drew | with_reducible exact HSK.out _ Z3 | with_reducible exact HSK.out _ Z2 | with_reducible exact HSK.out _ Z1 | go_keep)
    (first
      | (go_at_call 126; refine (new_none nn ⟨#[]⟩ 0 _ _).mono ?_; rintro r u1 ⟨rfl, hy⟩; have Z1 : Ext w2 u1 := Ext.trans (by repeat (first | with_reducible exact Ext.refl _ | with_reducible refine Ext.drew ?_)) hy)
      | (go_at_call 234; refine (mkYes_any nn ⟨#[]⟩ 0 g _ ((Ext.trans (by repeat (first | with_reducible exact Z1 | with_reducible refine Ext.drew ?_)) (Ext.refl _)).block HO2.out)).mono ?_; rintro r u2 ⟨b, rfl, hb, hl2, hy⟩; have Z2 : Ext w2 u2 := Ext.trans (by repeat (first | with_reducible exact Z1 | with_reducible refine Ext.drew ?_)) hy; have ZB : w2.heap.size ≤ b := Nat.le_trans Z1.size hb)
      | (go_at_call 125; refine (hold_lit _ _).mono ?_; rintro r u3 ⟨rfl, hh, hy⟩; have Z3 : Ext w2 u3 := Ext.trans (by repeat (first | with_reducible exact Z2 | with_reducible refine Ext.drew ?_)) hy; have ZH := hy.block hl2))
  all_goals
    go_wp2_with fail
    go_ret2
    exact ⟨_, _, rfl, Nat.le_trans (XM.out.trans X2.out).size ZB, Nat.le_trans (XM.out.trans X2.out).size Z2.size, hh, ZH, XM.out.trans (X2.out.trans Z3)⟩
end Go.Proofs.YtnmcmjgfnncdmaaGreatDoor.Nd
