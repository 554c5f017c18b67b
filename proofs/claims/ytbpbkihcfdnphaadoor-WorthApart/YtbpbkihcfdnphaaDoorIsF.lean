/-
  Plain and Is of the statements' own, each by a contract: of values that are not too great.
-/
import Derived.Test.YtbpbkihcfdnphaaDoorPlain
import Derived.Test.YtbpbkihcfdnphaaDoorFace
namespace Go.Proofs.YtbpbkihcfdnphaaDoor
open Go.RowKit
def PlainR (w : World) (d : Nat) (t : T) (e : Ending) (w' : World) : Prop := Ext w w' ∧ ∃ u0 u1 u2 u3, e = .returned (.tuple #[.agg #[u0, u1, u2, u3], .bool true]) ∧ Rd (fun x => w.heap.size ≤ x) w' d (.agg #[u0, u1, u2, u3]) t
set_option maxRecDepth 100000 in
set_option maxHeartbeats 4000000 in
theorem Plain_any {K : Nat → Prop} {d : Nat} {v : Value} {t : T} (w : World) (hr : VRd K w d v t) (hn : t.nodes ≤ 70000) (hd : t.deep ≤ 70) : Calls Tryd.prog 13 #[v] w (PlainR w d t) := by
  obtain ⟨τ, p, rfl⟩ := hr.iface
  have HR := hid hr.low
  have HN := hid hn
  have HD := hid hd
  clear hr hn hd
  go_enter Tryd.func13, Tryd.ntmps13
  go_wp2_with fail
  have hx2 : Ext w ((w.alloc (.cells #[.int .i64 0, .int .i64 0, .string ⟨#[]⟩, .slice none 0 0] 24)).alloc (.cells #[.int .i64 0] 3)) := Ext.alloc2 _ _ _
  have hb1 : ((w.alloc (.cells #[.int .i64 0, .int .i64 0, .string ⟨#[]⟩, .slice none 0 0] 24)).alloc (.cells #[.int .i64 0] 3)).heap[w.heap.size]? = some (.cells #[.int .i64 0, .int .i64 0, .string ⟨#[]⟩, .slice none 0 0] 24) := blkOld _ (blk0 w _)
  have hb2 : ((w.alloc (.cells #[.int .i64 0, .int .i64 0, .string ⟨#[]⟩, .slice none 0 0] 24)).alloc (.cells #[.int .i64 0] 3)).heap[w.heap.size + 1]? = some (.cells #[.int .i64 (0 : Nat)] 3) := blk1 w _ _
  have hs2 : ((w.alloc (.cells #[.int .i64 0, .int .i64 0, .string ⟨#[]⟩, .slice none 0 0] 24)).alloc (.cells #[.int .i64 0] 3)).heap.size = w.heap.size + 2 := by rw [blkS, blkS]
  generalize ((w.alloc (.cells #[.int .i64 0, .int .i64 0, .string ⟨#[]⟩, .slice none 0 0] 24)).alloc (.cells #[.int .i64 0] 3)) = V at hx2 hb1 hb2 hs2 ⊢
  refine (pln_any d (.iface τ p) t (· < w.heap.size) V (w.heap.size + 1) 0 0 (HR.out.later hx2) (by omega) hb2 (by have := HN.out; omega) (by have := HD.out; omega)).mono ?_
  rintro e V2 ⟨hk, _, u0, u1, u2, u3, rfl, hrd⟩
  obtain ⟨k', n', x', a', c', rfl, rfl, rfl, rfl⟩ := hrd.shape
  have HRD := hid hrd
  generalize t.kids.length = lk at *
  have HX := hid (Kp.extOf hx2 hk (Nat.le_succ _))
  have HB := hid (hk.block' hb1 (by show w.heap.size ≠ w.heap.size + 1; omega))
  have HS := hid hs2
  obtain ⟨r0, r1, r2, r3⟩ := four_of HB.out
  have f0 := frozen_of (i := 0) HB.out
  have f1 := frozen_of (i := 1) HB.out
  have f2 := frozen_of (i := 2) HB.out
  have f3 := frozen_of (i := 3) HB.out
  clear hk hrd hx2 hb1 hb2 hs2
  go_wp2_with fail
  have hb5 := set4_block HB.out 0 (.int .i64 k') (.int .i64 n') (.string x') (.slice a' lk c')
  have hk2 := Kp.set4 V2 w.heap.size 0 (.int .i64 k') (.int .i64 n') (.string x') (.slice a' lk c')
  have hX2 := Kp.extOf HX.out hk2 (Nat.le_refl _)
  generalize ((((V2.setCell ⟨w.heap.size, 0, none⟩ (.int .i64 k')).setCell ⟨w.heap.size, 0 + 1, none⟩ (.int .i64 n')).setCell ⟨w.heap.size, 0 + 2, none⟩ (.string x')).setCell ⟨w.heap.size, 0 + 3, none⟩ (.slice a' lk c')) = W at hb5 hk2 hX2 ⊢
  have z0 : W.cell? ⟨w.heap.size, 0, none⟩ = some (.int .i64 k') := cell_of hb5 (by simp [set4A])
  have z1 : W.cell? ⟨w.heap.size, 1, none⟩ = some (.int .i64 n') := cell_of hb5 (by simp [set4A])
  have z2 : W.cell? ⟨w.heap.size, 2, none⟩ = some (.string x') := cell_of hb5 (by simp [set4A])
  have z3 : W.cell? ⟨w.heap.size, 3, none⟩ = some (.slice a' lk c') := cell_of hb5 (by simp [set4A])
  refine bodyPost_ret (v := .tuple #[.agg #[.int .i64 k', .int .i64 n', .string x', .slice a' lk c'], .bool true]) (by simp [results, Tryd.results13, go_sem, z0, z1, z2, z3]) rfl ?_
  refine ⟨hX2, _, _, _, _, rfl, ?_⟩
  have hq := HRD.out.keep (hk2.mono (fun q _ hq e => by have e' : q = w.heap.size := e; have := HS.out; have hq' : V.heap.size ≤ q := hq; omega))
  exact hq.mono (fun q _ hq => by have := HS.out; have hq' : V.heap.size ≤ q := hq; show w.heap.size ≤ q; omega)
set_option maxRecDepth 100000 in
set_option maxHeartbeats 4000000 in
theorem is_any {K K' : Nat → Prop} {d d' : Nat} {v v' : Value} {t t' : T} (w : World) (hr : VRd K w d v t) (hr' : Rd K' w d' v' t') (hn : t.nodes ≤ 70000) (hd : t.deep ≤ 70) : Calls Tryd.prog 11 #[v, v'] w fun e w' => e = .returned (.bool (T.beq t t')) ∧ Ext w w' := by
  obtain ⟨τ, p, rfl⟩ := hr.iface
  obtain ⟨u0, u1, u2, u3, rfl⟩ := hr'.agg
  obtain ⟨k1, n1, x1, a1, c1, rfl, rfl, rfl, rfl⟩ := hr'.shape
  have HR := hid hr
  have HR' := hid hr'
  generalize t'.kids.length = l1 at *
  have HN := hid hn
  have HD := hid hd
  clear hr hn hd hr'
  go_enter Tryd.func11, Tryd.ntmps11
  go_wp2_with fail
  refine (Plain_any (w.alloc _) (HR.out.later (Ext.alloc w _)) HN.out HD.out).mono ?_
  rintro e V ⟨hx, u0, u1, u2, u3, rfl, hrd⟩
  obtain ⟨k', n', x', a', c', rfl, rfl, rfl, rfl⟩ := hrd.shape
  have HRD := hid hrd
  generalize t.kids.length = lk at *
  have HX := hid ((Ext.alloc w _).trans hx)
  obtain ⟨m0, m1, m2, m3⟩ := four_of (hx.block (blk0 w _))
  have HRV := hid (HR'.out.later HX.out)
  have hwl : w.heap.size < V.heap.size := lt_of_cell m0
  clear hx hrd
  go_wp2_with fail
  refine (eq_any d _ _ t t' _ _ _ d' (HRD.out.later (Ext.alloc V _)) (HRV.out.later (Ext.alloc V _))).mono ?_
  rintro e V2 ⟨rfl, hx2⟩
  have HX2 := hid (HX.out.trans ((Ext.alloc V _).trans hx2))
  clear hx2
  go_wp2_with fail
  go_ret
  exact ⟨rfl, HX2.out⟩
end Go.Proofs.YtbpbkihcfdnphaaDoor
