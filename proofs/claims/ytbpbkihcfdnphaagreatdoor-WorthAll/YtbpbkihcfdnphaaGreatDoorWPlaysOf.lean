/-
  plays of the statements, a kind at a time: it answers true.
-/
import Derived.Test.YtbpbkihcfdnphaaGreatDoorRReadF
import Derived.Test.YtbpbkihcfdnphaaGreatDoorRCmp
import Derived.Test.YtbpbkihcfdnphaaGreatDoorRJoin
import Derived.Test.YtbpbkihcfdnphaaGreatDoorRTextF
import Derived.Test.YtbpbkihcfdnphaaGreatDoorPMarks
import Derived.Test.YtbpbkihcfdnphaaGreatDoorEnvF
import Derived.WalkMore
import Derived.Deep.RegionHeld3
namespace Go.Proofs.YtbpbkihcfdnphaaGreatDoor
open Go.RowKit
/-- A call, as a value. -/
abbrev opV (kd k n : Int) (x : ByteArray) (a : Option Addr) (kl c : Nat) (k' n' : Int) (x' : ByteArray) (a' : Option Addr) (kl' c' : Nat) (lv : Value) (sx : ByteArray) : Array Value := #[.int .i64 kd, .int .i64 k, .int .i64 n, .string x, .slice a kl c, .int .i64 k', .int .i64 n', .string x', .slice a' kl' c', lv, .string sx]
theorem op_of {w : World} {b : Nat} {v0 v1 v2 v3 v4 v5 v6 v7 v8 v9 v10 : Value} {t : TypeId} (h : w.heap[b]? = some (.cells #[v0, v1, v2, v3, v4, v5, v6, v7, v8, v9, v10] t)) :
    w.cell? ⟨b, 0, none⟩ = some v0 ∧ w.cell? ⟨b, 1, none⟩ = some v1 ∧ w.cell? ⟨b, 2, none⟩ = some v2 ∧ w.cell? ⟨b, 3, none⟩ = some v3 ∧ w.cell? ⟨b, 4, none⟩ = some v4 ∧ w.cell? ⟨b, 5, none⟩ = some v5 ∧ w.cell? ⟨b, 6, none⟩ = some v6 ∧ w.cell? ⟨b, 7, none⟩ = some v7 ∧ w.cell? ⟨b, 8, none⟩ = some v8 ∧ w.cell? ⟨b, 9, none⟩ = some v9 ∧ w.cell? ⟨b, 10, none⟩ = some v10 :=
  ⟨cell_of h rfl, cell_of h rfl, cell_of h rfl, cell_of h rfl, cell_of h rfl, cell_of h rfl, cell_of h rfl, cell_of h rfl, cell_of h rfl, cell_of h rfl, cell_of h rfl⟩
/-- What fits: nothing beside an error, or a value beside the plain one that it stands for. -/
def FitV (w : World) (v p : Value) (e : Int) : Prop := (e ≠ 0 ∧ v = .nilIface) ∨ (e = 0 ∧ ∃ K K' d d' t, VRd K w d v t ∧ Rd K' w d' p t ∧ t.may)
theorem FitV.calls {w : World} {v p : Value} {e : Int} (h : FitV w v p e) (hp : ∃ k n x a l c, p = .agg #[.int .i64 k, .int .i64 n, .string x, .slice a l c]) (w' : World) (hx : Ext w w') : Calls Tryz.prog 18 #[v, .int .i64 e, p, .int .i64 e] w' fun r w'' => r = .returned (.bool true) ∧ Ext w' w'' := by
  rcases h with ⟨he, rfl⟩ | ⟨rfl, K, K', d, d', t, h1, h2, h3⟩
  · exact fits_err e he p hp w'
  · exact fits_ok w' (h1.later hx) (h2.later hx) h3
section
variable {K K' : Nat → Prop} {d d' : Nat} {t u : T} (w : World) (k n : Int) (x : ByteArray) (a : Option Addr) (kl c : Nat) (k' n' : Int) (x' : ByteArray) (a' : Option Addr) (kl' c' : Nat) (la : Option Addr) (ll lc : Nat) (sx : ByteArray)
/-- What is told of plays. -/
def PlayR (w : World) (e : Ending) (w' : World) : Prop := e = .returned (.bool true) ∧ Ext w w'
set_option maxRecDepth 100000 in
set_option maxHeartbeats 2000000 in
theorem plays_may (hr : Rd K w d (.agg #[.int .i64 k, .int .i64 n, .string x, .slice a kl c]) t) : Calls Tryz.prog 5 #[.agg (opV 1 k n x a kl c k' n' x' a' kl' c' (.slice la ll lc) sx)] w (PlayR w) := by
  obtain ⟨r, hrr⟩ : ∃ r, decide t.may = r := ⟨_, rfl⟩
  have C1 := hid (fun w1 (h : Ext w w1) => may_to hr r hrr w1 h)
  have C2 := hid (fun w1 (h : Ext w w1) => rmay_to hr r hrr w1 h)
  clear hr
  skip
  clear hrr
  obtain ⟨M, hM⟩ : ∃ M, w.alloc (.cells (opV 1 k n x a kl c k' n' x' a' kl' c' (.slice la ll lc) sx) 29) = M := ⟨_, rfl⟩
  have HXM := hid (show Ext w M from hM ▸ Ext.alloc _ _)
  have HB := hid (show M.heap[w.heap.size]? = some (.cells (opV 1 k n x a kl c k' n' x' a' kl' c' (.slice la ll lc) sx) 29) from hM ▸ blk0 _ _)
  obtain ⟨t0, t1, t2, t3, t4, t5, t6, t7, t8, t9, t10⟩ := op_of HB.out
  have HSK := hid (show ∀ W', Ext M W' → W'.cell? ⟨w.heap.size, 1, none⟩ = some (.int .i64 k) ∧ W'.cell? ⟨w.heap.size, 2, none⟩ = some (.int .i64 n) ∧ W'.cell? ⟨w.heap.size, 3, none⟩ = some (.string x) ∧ W'.cell? ⟨w.heap.size, 4, none⟩ = some (.slice a kl c) from fun W' Y => by
    obtain ⟨_, s1, s2, s3, s4, _⟩ := op_of (Y.block HB.out)
    exact ⟨s1, s2, s3, s4⟩)
  go_enter Tryz.func5, Tryz.ntmps5
  go_wp2_with fail
  go_region_held3 (fun W' => W'.cell? ⟨w.heap.size, 1, none⟩ = some (.int .i64 k) ∧ W'.cell? ⟨w.heap.size, 2, none⟩ = some (.int .i64 n) ∧ W'.cell? ⟨w.heap.size, 3, none⟩ = some (.string x) ∧ W'.cell? ⟨w.heap.size, 4, none⟩ = some (.slice a kl c))
    (first | exact SK2 | exact SK1 | exact ⟨t1, t2, t3, t4⟩ | go_keep)
    (first
      | (go_at_call 15; refine (C1.out _ (HXM.out.trans (by repeat (first | with_reducible exact Ext.refl _ | with_reducible exact Z2 | with_reducible refine Ext.drew ?_)))).mono ?_; rintro e w1 ⟨rfl, hx1⟩; have Z1 : Ext M w1 := Ext.trans (by repeat (first | with_reducible exact Ext.refl _ | with_reducible exact Z2 | with_reducible refine Ext.drew ?_)) hx1; have SK1 := HSK.out w1 Z1)
      | (go_at_call 16; refine (C2.out _ (HXM.out.trans (by repeat (first | with_reducible exact Ext.refl _ | with_reducible exact Z1 | with_reducible refine Ext.drew ?_)))).mono ?_; rintro e w2 ⟨rfl, hx2⟩; have Z2 : Ext M w2 := Ext.trans (by repeat (first | with_reducible exact Ext.refl _ | with_reducible exact Z1 | with_reducible refine Ext.drew ?_)) hx2; have SK2 := HSK.out w2 Z2))
  all_goals
    go_wp2_with fail
    go_ret
    exact ⟨by first | rfl | simp, HXM.out.trans Z2⟩
set_option maxRecDepth 100000 in
set_option maxHeartbeats 2000000 in
theorem plays_same (hr : Rd K w d (.agg #[.int .i64 k, .int .i64 n, .string x, .slice a kl c]) t) (hr' : Rd K' w d' (.agg #[.int .i64 k', .int .i64 n', .string x', .slice a' kl' c']) u) : Calls Tryz.prog 5 #[.agg (opV 3 k n x a kl c k' n' x' a' kl' c' (.slice la ll lc) sx)] w (PlayR w) := by
  obtain ⟨r, hrr⟩ : ∃ r, sameN t u = r := ⟨_, rfl⟩
  have C1 := hid (fun w1 (h : Ext w w1) => sameOf_any w1 (hr.later h) (hr'.later h))
  have C2 := hid (fun w1 (h : Ext w w1) => rsame_any w1 (hr.later h) (hr'.later h))
  clear hr hr'
  rw [hrr] at C1 C2
  clear hrr
  obtain ⟨M, hM⟩ : ∃ M, w.alloc (.cells (opV 3 k n x a kl c k' n' x' a' kl' c' (.slice la ll lc) sx) 29) = M := ⟨_, rfl⟩
  have HXM := hid (show Ext w M from hM ▸ Ext.alloc _ _)
  have HB := hid (show M.heap[w.heap.size]? = some (.cells (opV 3 k n x a kl c k' n' x' a' kl' c' (.slice la ll lc) sx) 29) from hM ▸ blk0 _ _)
  obtain ⟨t0, t1, t2, t3, t4, t5, t6, t7, t8, t9, t10⟩ := op_of HB.out
  have HSK := hid (show ∀ W', Ext M W' → W'.cell? ⟨w.heap.size, 1, none⟩ = some (.int .i64 k) ∧ W'.cell? ⟨w.heap.size, 2, none⟩ = some (.int .i64 n) ∧ W'.cell? ⟨w.heap.size, 3, none⟩ = some (.string x) ∧ W'.cell? ⟨w.heap.size, 4, none⟩ = some (.slice a kl c) ∧ W'.cell? ⟨w.heap.size, 5, none⟩ = some (.int .i64 k') ∧ W'.cell? ⟨w.heap.size, 6, none⟩ = some (.int .i64 n') ∧ W'.cell? ⟨w.heap.size, 7, none⟩ = some (.string x') ∧ W'.cell? ⟨w.heap.size, 8, none⟩ = some (.slice a' kl' c') from fun W' Y => by
    obtain ⟨_, s1, s2, s3, s4, s5, s6, s7, s8, _⟩ := op_of (Y.block HB.out)
    exact ⟨s1, s2, s3, s4, s5, s6, s7, s8⟩)
  go_enter Tryz.func5, Tryz.ntmps5
  go_wp2_with fail
  go_region_held3 (fun W' => W'.cell? ⟨w.heap.size, 1, none⟩ = some (.int .i64 k) ∧ W'.cell? ⟨w.heap.size, 2, none⟩ = some (.int .i64 n) ∧ W'.cell? ⟨w.heap.size, 3, none⟩ = some (.string x) ∧ W'.cell? ⟨w.heap.size, 4, none⟩ = some (.slice a kl c) ∧ W'.cell? ⟨w.heap.size, 5, none⟩ = some (.int .i64 k') ∧ W'.cell? ⟨w.heap.size, 6, none⟩ = some (.int .i64 n') ∧ W'.cell? ⟨w.heap.size, 7, none⟩ = some (.string x') ∧ W'.cell? ⟨w.heap.size, 8, none⟩ = some (.slice a' kl' c'))
    (first | exact SK2 | exact SK1 | exact ⟨t1, t2, t3, t4, t5, t6, t7, t8⟩ | go_keep)
    (first
      | (go_at_call 14; refine (C1.out _ (HXM.out.trans (by repeat (first | with_reducible exact Ext.refl _ | with_reducible exact Z2 | with_reducible refine Ext.drew ?_)))).mono ?_; rintro e w1 ⟨rfl, hx1⟩; have Z1 : Ext M w1 := Ext.trans (by repeat (first | with_reducible exact Ext.refl _ | with_reducible exact Z2 | with_reducible refine Ext.drew ?_)) hx1; have SK1 := HSK.out w1 Z1)
      | (go_at_call 20; refine (C2.out _ (HXM.out.trans (by repeat (first | with_reducible exact Ext.refl _ | with_reducible exact Z1 | with_reducible refine Ext.drew ?_)))).mono ?_; rintro e w2 ⟨rfl, hx2⟩; have Z2 : Ext M w2 := Ext.trans (by repeat (first | with_reducible exact Ext.refl _ | with_reducible exact Z1 | with_reducible refine Ext.drew ?_)) hx2; have SK2 := HSK.out w2 Z2))
  all_goals
    go_wp2_with fail
    go_ret
    exact ⟨by first | rfl | simp, HXM.out.trans Z2⟩
set_option maxRecDepth 100000 in
set_option maxHeartbeats 2000000 in
theorem plays_compare (hr : Rd K w d (.agg #[.int .i64 k, .int .i64 n, .string x, .slice a kl c]) t) (hr' : Rd K' w d' (.agg #[.int .i64 k', .int .i64 n', .string x', .slice a' kl' c']) u) : Calls Tryz.prog 5 #[.agg (opV 4 k n x a kl c k' n' x' a' kl' c' (.slice la ll lc) sx)] w (PlayR w) := by
  obtain ⟨r, hrr⟩ : ∃ r, cmpN t u = r := ⟨_, rfl⟩
  have C1 := hid (fun w1 (h : Ext w w1) => compareOf_any w1 (hr.later h) (hr'.later h))
  have C2 := hid (fun w1 (h : Ext w w1) => rcompare_any w1 (hr.later h) (hr'.later h))
  clear hr hr'
  rw [hrr] at C1 C2
  clear hrr
  obtain ⟨M, hM⟩ : ∃ M, w.alloc (.cells (opV 4 k n x a kl c k' n' x' a' kl' c' (.slice la ll lc) sx) 29) = M := ⟨_, rfl⟩
  have HXM := hid (show Ext w M from hM ▸ Ext.alloc _ _)
  have HB := hid (show M.heap[w.heap.size]? = some (.cells (opV 4 k n x a kl c k' n' x' a' kl' c' (.slice la ll lc) sx) 29) from hM ▸ blk0 _ _)
  obtain ⟨t0, t1, t2, t3, t4, t5, t6, t7, t8, t9, t10⟩ := op_of HB.out
  have HSK := hid (show ∀ W', Ext M W' → W'.cell? ⟨w.heap.size, 1, none⟩ = some (.int .i64 k) ∧ W'.cell? ⟨w.heap.size, 2, none⟩ = some (.int .i64 n) ∧ W'.cell? ⟨w.heap.size, 3, none⟩ = some (.string x) ∧ W'.cell? ⟨w.heap.size, 4, none⟩ = some (.slice a kl c) ∧ W'.cell? ⟨w.heap.size, 5, none⟩ = some (.int .i64 k') ∧ W'.cell? ⟨w.heap.size, 6, none⟩ = some (.int .i64 n') ∧ W'.cell? ⟨w.heap.size, 7, none⟩ = some (.string x') ∧ W'.cell? ⟨w.heap.size, 8, none⟩ = some (.slice a' kl' c') from fun W' Y => by
    obtain ⟨_, s1, s2, s3, s4, s5, s6, s7, s8, _⟩ := op_of (Y.block HB.out)
    exact ⟨s1, s2, s3, s4, s5, s6, s7, s8⟩)
  go_enter Tryz.func5, Tryz.ntmps5
  go_wp2_with fail
  go_region_held3 (fun W' => W'.cell? ⟨w.heap.size, 1, none⟩ = some (.int .i64 k) ∧ W'.cell? ⟨w.heap.size, 2, none⟩ = some (.int .i64 n) ∧ W'.cell? ⟨w.heap.size, 3, none⟩ = some (.string x) ∧ W'.cell? ⟨w.heap.size, 4, none⟩ = some (.slice a kl c) ∧ W'.cell? ⟨w.heap.size, 5, none⟩ = some (.int .i64 k') ∧ W'.cell? ⟨w.heap.size, 6, none⟩ = some (.int .i64 n') ∧ W'.cell? ⟨w.heap.size, 7, none⟩ = some (.string x') ∧ W'.cell? ⟨w.heap.size, 8, none⟩ = some (.slice a' kl' c'))
    (first | exact SK2 | exact SK1 | exact ⟨t1, t2, t3, t4, t5, t6, t7, t8⟩ | go_keep)
    (first
      | (go_at_call 13; refine (C1.out _ (HXM.out.trans (by repeat (first | with_reducible exact Ext.refl _ | with_reducible exact Z2 | with_reducible refine Ext.drew ?_)))).mono ?_; rintro e w1 ⟨rfl, hx1⟩; have Z1 : Ext M w1 := Ext.trans (by repeat (first | with_reducible exact Ext.refl _ | with_reducible exact Z2 | with_reducible refine Ext.drew ?_)) hx1; have SK1 := HSK.out w1 Z1)
      | (go_at_call 21; refine (C2.out _ (HXM.out.trans (by repeat (first | with_reducible exact Ext.refl _ | with_reducible exact Z1 | with_reducible refine Ext.drew ?_)))).mono ?_; rintro e w2 ⟨rfl, hx2⟩; have Z2 : Ext M w2 := Ext.trans (by repeat (first | with_reducible exact Ext.refl _ | with_reducible exact Z1 | with_reducible refine Ext.drew ?_)) hx2; have SK2 := HSK.out w2 Z2))
  all_goals
    go_wp2_with fail
    go_ret
    exact ⟨by first | rfl | simp, HXM.out.trans Z2⟩
set_option maxRecDepth 100000 in
set_option maxHeartbeats 2000000 in
theorem plays_size (hr : Rd K w d (.agg #[.int .i64 k, .int .i64 n, .string x, .slice a kl c]) t) : Calls Tryz.prog 5 #[.agg (opV 5 k n x a kl c k' n' x' a' kl' c' (.slice la ll lc) sx)] w (PlayR w) := by
  obtain ⟨r, hrr⟩ : ∃ r, sizeN t = r := ⟨_, rfl⟩
  have C1 := hid (fun w1 (h : Ext w w1) => sizeOf_any w1 (hr.later h))
  have C2 := hid (fun w1 (h : Ext w w1) => rsize_any w1 (hr.later h))
  clear hr
  rw [hrr] at C1 C2
  clear hrr
  obtain ⟨M, hM⟩ : ∃ M, w.alloc (.cells (opV 5 k n x a kl c k' n' x' a' kl' c' (.slice la ll lc) sx) 29) = M := ⟨_, rfl⟩
  have HXM := hid (show Ext w M from hM ▸ Ext.alloc _ _)
  have HB := hid (show M.heap[w.heap.size]? = some (.cells (opV 5 k n x a kl c k' n' x' a' kl' c' (.slice la ll lc) sx) 29) from hM ▸ blk0 _ _)
  obtain ⟨t0, t1, t2, t3, t4, t5, t6, t7, t8, t9, t10⟩ := op_of HB.out
  have HSK := hid (show ∀ W', Ext M W' → W'.cell? ⟨w.heap.size, 1, none⟩ = some (.int .i64 k) ∧ W'.cell? ⟨w.heap.size, 2, none⟩ = some (.int .i64 n) ∧ W'.cell? ⟨w.heap.size, 3, none⟩ = some (.string x) ∧ W'.cell? ⟨w.heap.size, 4, none⟩ = some (.slice a kl c) from fun W' Y => by
    obtain ⟨_, s1, s2, s3, s4, _⟩ := op_of (Y.block HB.out)
    exact ⟨s1, s2, s3, s4⟩)
  go_enter Tryz.func5, Tryz.ntmps5
  go_wp2_with fail
  go_region_held3 (fun W' => W'.cell? ⟨w.heap.size, 1, none⟩ = some (.int .i64 k) ∧ W'.cell? ⟨w.heap.size, 2, none⟩ = some (.int .i64 n) ∧ W'.cell? ⟨w.heap.size, 3, none⟩ = some (.string x) ∧ W'.cell? ⟨w.heap.size, 4, none⟩ = some (.slice a kl c))
    (first | exact SK2 | exact SK1 | exact ⟨t1, t2, t3, t4⟩ | go_keep)
    (first
      | (go_at_call 12; refine (C1.out _ (HXM.out.trans (by repeat (first | with_reducible exact Ext.refl _ | with_reducible exact Z2 | with_reducible refine Ext.drew ?_)))).mono ?_; rintro e w1 ⟨rfl, hx1⟩; have Z1 : Ext M w1 := Ext.trans (by repeat (first | with_reducible exact Ext.refl _ | with_reducible exact Z2 | with_reducible refine Ext.drew ?_)) hx1; have SK1 := HSK.out w1 Z1)
      | (go_at_call 22; refine (C2.out _ (HXM.out.trans (by repeat (first | with_reducible exact Ext.refl _ | with_reducible exact Z1 | with_reducible refine Ext.drew ?_)))).mono ?_; rintro e w2 ⟨rfl, hx2⟩; have Z2 : Ext M w2 := Ext.trans (by repeat (first | with_reducible exact Ext.refl _ | with_reducible exact Z1 | with_reducible refine Ext.drew ?_)) hx2; have SK2 := HSK.out w2 Z2))
  all_goals
    go_wp2_with fail
    go_ret
    exact ⟨by first | rfl | simp, HXM.out.trans Z2⟩
set_option maxRecDepth 100000 in
set_option maxHeartbeats 2000000 in
theorem plays_text (hr : Rd K w d (.agg #[.int .i64 k, .int .i64 n, .string x, .slice a kl c]) t) (hf : t.fitI) (hT : LaidT w) (h0 : 0 < w.heap.size) : Calls Tryz.prog 5 #[.agg (opV 6 k n x a kl c k' n' x' a' kl' c' (.slice la ll lc) sx)] w (PlayR w) := by
  have C1 := hid (fun w1 (h : Ext w w1) => text_gen w1 (hr.later h) hf (hT.below h h0) (Nat.lt_of_lt_of_le h0 h.size))
  have C2 := hid (fun w1 (h : Ext w w1) => rtext_any w1 (hr.later h) hf)
  clear hr hT
  obtain ⟨r1, r2, hrr⟩ : ∃ (r1 : ByteArray) (r2 : Int), textV t = .tuple #[.string r1, .int .i64 r2] := by
    unfold textV
    split
    · split
      · exact ⟨_, _, rfl⟩
      · exact ⟨_, _, rfl⟩
    · exact ⟨_, _, rfl⟩
  rw [hrr] at C1 C2
  clear hrr
  obtain ⟨M, hM⟩ : ∃ M, w.alloc (.cells (opV 6 k n x a kl c k' n' x' a' kl' c' (.slice la ll lc) sx) 29) = M := ⟨_, rfl⟩
  have HXM := hid (show Ext w M from hM ▸ Ext.alloc _ _)
  have HB := hid (show M.heap[w.heap.size]? = some (.cells (opV 6 k n x a kl c k' n' x' a' kl' c' (.slice la ll lc) sx) 29) from hM ▸ blk0 _ _)
  obtain ⟨t0, t1, t2, t3, t4, t5, t6, t7, t8, t9, t10⟩ := op_of HB.out
  go_enter Tryz.func5, Tryz.ntmps5
  go_wp2_with fail
  refine (C1.out _ HXM.out).mono ?_
  rintro e w1 ⟨rfl, hx1⟩
  obtain ⟨s0, s1, s2, s3, s4, s5, s6, s7, s8, s9, s10⟩ := op_of (hx1.block HB.out)
  have X1 := hid hx1
  clear hx1 t0 t1 t2 t3 t4 t5 t6 t7 t8 t9 t10
  go_wp2_with fail
  refine (C2.out _ (HXM.out.trans X1.out)).mono ?_
  rintro e w2 ⟨rfl, hx2⟩
  have X2 := hid (X1.out.trans hx2)
  clear hx2
  go_wp2_with fail
  go_ret
  exact ⟨by first | rfl | simp, HXM.out.trans X2.out⟩
end
/-- A value: none beside an error, or what t is. -/
def VIs (cc : Int) (t : T) (w : World) (v : Value) : Prop := (cc ≠ 0 ∧ v = .nilIface) ∨ (cc = 0 ∧ t.may ∧ ∃ K d, VRd K w d v t)
/-- A plain value: any beside an error, or t. -/
def PIs (cc : Int) (t : T) (w : World) (v : Value) : Prop := (∃ k n x a l c, v = .agg #[.int .i64 k, .int .i64 n, .string x, .slice a l c]) ∧ (cc ≠ 0 ∨ (cc = 0 ∧ ∃ K d, Rd K w d v t))
theorem vis_pis {cc : Int} {t : T} {w w' : World} {v p : Value} (h : VIs cc t w v) (hx : Ext w w') (h2 : cc ≠ 0 ∨ (cc = 0 ∧ ∃ K d, Rd K w' d p t)) : FitV w' v p cc := by
  rcases h with ⟨h1, rfl⟩ | ⟨h1, hm, K, d, h3⟩
  · exact .inl ⟨h1, rfl⟩
  · rcases h2 with h2 | ⟨_, K', d', h4⟩
    · exact absurd h1 h2
    · exact .inr ⟨h1, K, K', d, d', t, h3.later hx, h4, hm⟩
theorem rd_shape {K : Nat → Prop} {w : World} {d : Nat} {v : Value} {t : T} (h : Rd K w d v t) : (∃ k n x a l c, v = .agg #[.int .i64 k, .int .i64 n, .string x, .slice a l c]) := by
  obtain ⟨u0, u1, u2, u3, rfl⟩ := h.agg
  obtain ⟨k, n, x, a, c, rfl, rfl, rfl, rfl⟩ := h.shape
  exact ⟨_, _, _, _, _, _, rfl⟩
/-- What is read, and where and what is amiss. -/
def rsT : Rs → T
  | .ok t _ => t
  | .bad _ _ => .node 0 0 ⟨#[]⟩ []
def rsA : Rs → Int
  | .ok _ _ => 0
  | .bad _ a => a
def rsC : Rs → Int
  | .ok _ _ => 0
  | .bad c _ => c
theorem read_ans {w w' : World} {s : ByteArray} {e : Ending} (h : ReadR w (readR s (quoQ s)) e w') : Ext w w' ∧ ∃ v, e = .returned (.tuple #[v, .int .i64 (rsA (readR s (quoQ s))), .int .i64 (rsC (readR s (quoQ s)))]) ∧ VIs (rsC (readR s (quoQ s))) (rsT (readR s (quoQ s))) w' v := by
  obtain ⟨hx, h⟩ := h
  have hb := readR_bad s
  have ho := @readR_ok s
  cases hr : readR s (quoQ s) with
  | ok t a =>
    rw [hr] at h
    obtain ⟨u, bs, rfl, hv, _⟩ := h
    exact ⟨hx, u, rfl, .inr ⟨rfl, (ho hr).1, _, _, hv.rd⟩⟩
  | bad c a =>
    rw [hr] at h hb
    have h' : e = _ := h
    exact ⟨hx, _, h', .inl ⟨by have hb' : c ≠ 0 ∧ a ≤ s.size := hb; show (c : Int) ≠ 0; omega, rfl⟩⟩
theorem rread_ans {w w' : World} {s : ByteArray} {e : Ending} (h : RReadR w (readR s (quoQ s)) e w') : Ext w w' ∧ ∃ v, e = .returned (.tuple #[v, .int .i64 (rsA (readR s (quoQ s))), .int .i64 (rsC (readR s (quoQ s)))]) ∧ PIs (rsC (readR s (quoQ s))) (rsT (readR s (quoQ s))) w' v := by
  obtain ⟨hx, h⟩ := h
  cases hr : readR s (quoQ s) with
  | ok t a =>
    rw [hr] at h
    obtain ⟨u, rfl, hv⟩ := h
    exact ⟨hx, u, rfl, rd_shape hv, .inr ⟨rfl, _, _, hv⟩⟩
  | bad c a =>
    rw [hr] at h
    obtain ⟨h', hc⟩ := h
    exact ⟨hx, _, h', ⟨_, _, _, _, _, _, rfl⟩, .inl (by show (c : Int) ≠ 0; omega)⟩
open Classical in
/-- The number that joining tells. -/
noncomputable def joC (ks : List T) : Int := if (∃ t ∈ ks, ¬ t.may) then 1 else if (T.node 5 0 ⟨#[]⟩ ks).may then 0 else 2
theorem join_ans {w w' : World} {d : Nat} {ks : List T} {e : Ending} (h : JoinR w d ks e w') : Ext w w' ∧ ∃ v, e = .returned (.tuple #[v, .int .i64 (joC ks)]) ∧ VIs (joC ks) (.node 5 0 ⟨#[]⟩ ks) w' v := by
  obtain ⟨hx, h⟩ := h
  rcases h with ⟨h1, rfl⟩ | ⟨h1, h2, rfl⟩ | ⟨h1, h2, u, bs, rfl, hv, _⟩
  · have e : joC ks = 1 := by unfold joC; rw [if_pos h1]
    rw [e]; exact ⟨hx, _, rfl, .inl ⟨by decide, rfl⟩⟩
  · have e : joC ks = 2 := by unfold joC; rw [if_neg (fun ⟨t, ht, hn⟩ => hn (h1 t ht)), if_neg h2]
    rw [e]; exact ⟨hx, _, rfl, .inl ⟨by decide, rfl⟩⟩
  · have e : joC ks = 0 := by unfold joC; rw [if_neg (fun ⟨t, ht, hn⟩ => hn (h1 t ht)), if_pos h2]
    rw [e]; exact ⟨hx, _, rfl, .inr ⟨rfl, h2, _, _, hv.rd⟩⟩
theorem rjoin_ans {w w' : World} {d : Nat} {ks : List T} {e : Ending} (h : RJoinR w d ks e w') : Ext w w' ∧ ∃ v, e = .returned (.tuple #[v, .int .i64 (joC ks)]) ∧ PIs (joC ks) (.node 5 0 ⟨#[]⟩ ks) w' v := by
  obtain ⟨hx, h⟩ := h
  rcases h with ⟨h1, rfl⟩ | ⟨h1, h2, rfl⟩ | ⟨h1, h2, u, rfl, hv⟩
  · have e : joC ks = 1 := by unfold joC; rw [if_pos h1]
    rw [e]; exact ⟨hx, _, rfl, ⟨_, _, _, _, _, _, rfl⟩, .inl (by decide)⟩
  · have e : joC ks = 2 := by unfold joC; rw [if_neg (fun ⟨t, ht, hn⟩ => hn (h1 t ht)), if_neg h2]
    rw [e]; exact ⟨hx, _, rfl, ⟨_, _, _, _, _, _, rfl⟩, .inl (by decide)⟩
  · have e : joC ks = 0 := by unfold joC; rw [if_neg (fun ⟨t, ht, hn⟩ => hn (h1 t ht)), if_pos h2]
    rw [e]; exact ⟨hx, _, rfl, rd_shape hv, .inr ⟨rfl, _, _, hv⟩⟩
section
variable {K K' : Nat → Prop} {d d' : Nat} {t u : T} (w : World) (k n : Int) (x : ByteArray) (a : Option Addr) (kl c : Nat) (k' n' : Int) (x' : ByteArray) (a' : Option Addr) (kl' c' : Nat) (la : Option Addr) (ll lc : Nat) (sx : ByteArray)
set_option maxRecDepth 100000 in
set_option maxHeartbeats 2000000 in
theorem plays_read (hs : sx.size ≤ 140737488351232) (hL : LaidE w) : Calls Tryz.prog 5 #[.agg (opV 7 k n x a kl c k' n' x' a' kl' c' (.slice la ll lc) sx)] w (PlayR w) := by
  have C1 := hid (fun w1 (h : Ext w w1) => (read_gen sx w1 hs (hL.keep (h.kp (fun _ => True)) trivial trivial)).mono (fun e w' h => read_ans h))
  have C2 := hid (fun w1 (h : Ext w w1) => (rread_any sx w1 hs).mono (fun e w' h => rread_ans h))
  clear hL
  generalize rsA (readR sx (quoQ sx)) = AT at C1 C2
  generalize rsC (readR sx (quoQ sx)) = CC at C1 C2
  generalize rsT (readR sx (quoQ sx)) = TT at C1 C2
  have HFIT := hid (show ∀ (w1 w2 : World) (v p : Value), VIs CC TT w1 v → Ext w1 w2 → (CC ≠ 0 ∨ (CC = 0 ∧ ∃ K d, Rd K w2 d p TT)) → FitV w2 v p CC from fun w1 w2 v p h1 h2 h3 => vis_pis h1 h2 h3)
  obtain ⟨M, hM⟩ : ∃ M, w.alloc (.cells (opV 7 k n x a kl c k' n' x' a' kl' c' (.slice la ll lc) sx) 29) = M := ⟨_, rfl⟩
  have HXM := hid (show Ext w M from hM ▸ Ext.alloc _ _)
  have HB := hid (show M.heap[w.heap.size]? = some (.cells (opV 7 k n x a kl c k' n' x' a' kl' c' (.slice la ll lc) sx) 29) from hM ▸ blk0 _ _)
  obtain ⟨t0, t1, t2, t3, t4, t5, t6, t7, t8, t9, t10⟩ := op_of HB.out
  go_enter Tryz.func5, Tryz.ntmps5
  go_wp2_with fail
  refine (C1.out _ HXM.out).mono ?_
  rintro e w1 ⟨hx1, v1, rfl, hv1⟩
  obtain ⟨s0, s1, s2, s3, s4, s5, s6, s7, s8, s9, s10⟩ := op_of (hx1.block HB.out)
  have X1 := hid hx1
  have HV1 := hid hv1
  clear hx1 hv1 t0 t1 t2 t3 t4 t5 t6 t7 t8 t9 t10
  go_wp2_with fail
  refine (C2.out _ (HXM.out.trans X1.out)).mono ?_
  rintro e w2 ⟨hx2, v2, rfl, ⟨k2, n2, x2, a2, l2, c2, rfl⟩, hv2⟩
  have Y2 := hid (hx2.more (.cells #[.int .i64 k2, .int .i64 n2, .string x2, .slice a2 l2 c2] 27))
  obtain ⟨q0, q1, q2, q3⟩ := four_of (blk0 w2 (.cells #[.int .i64 k2, .int .i64 n2, .string x2, .slice a2 l2 c2] 27))
  have HC := hid (FitV.calls (HFIT.out _ _ v1 _ HV1.out hx2 hv2) ⟨_, _, _, _, _, _, rfl⟩ _ (Ext.alloc w2 (.cells #[.int .i64 k2, .int .i64 n2, .string x2, .slice a2 l2 c2] 27)))
  clear hx2 hv2 s0 s1 s2 s3 s4 s5 s6 s7 s8 s9 s10
  go_wp2_with fail
  refine HC.out.mono ?_
  rintro e w3 ⟨rfl, hx3⟩
  have X3 := hid ((X1.out.trans Y2.out).trans hx3)
  clear hx3 q0 q1 q2 q3
  go_wp2_with fail
  go_ret
  exact ⟨rfl, HXM.out.trans X3.out⟩
set_option maxRecDepth 100000 in
set_option maxHeartbeats 2000000 in
theorem plays_join (ks : List T) (hr : RdL K w d la ks) : Calls Tryz.prog 5 #[.agg (opV 8 k n x a kl c k' n' x' a' kl' c' (.slice la ks.length lc) sx)] w (PlayR w) := by
  have C1 := hid (fun w1 (h : Ext w w1) => (join_any (c := lc) w1 (hr.keep (h.kp _))).mono (fun e w' h => join_ans h))
  have C2 := hid (fun w1 (h : Ext w w1) => (rjoin_any (c := lc) w1 (hr.keep (h.kp _))).mono (fun e w' h => rjoin_ans h))
  clear hr
  generalize joC ks = CC at C1 C2
  generalize (T.node 5 0 ⟨#[]⟩ ks) = TT at C1 C2
  have HFIT := hid (show ∀ (w1 w2 : World) (v p : Value), VIs CC TT w1 v → Ext w1 w2 → (CC ≠ 0 ∨ (CC = 0 ∧ ∃ K d, Rd K w2 d p TT)) → FitV w2 v p CC from fun w1 w2 v p h1 h2 h3 => vis_pis h1 h2 h3)
  obtain ⟨M, hM⟩ : ∃ M, w.alloc (.cells (opV 8 k n x a kl c k' n' x' a' kl' c' (.slice la ks.length lc) sx) 29) = M := ⟨_, rfl⟩
  have HXM := hid (show Ext w M from hM ▸ Ext.alloc _ _)
  have HB := hid (show M.heap[w.heap.size]? = some (.cells (opV 8 k n x a kl c k' n' x' a' kl' c' (.slice la ks.length lc) sx) 29) from hM ▸ blk0 _ _)
  obtain ⟨t0, t1, t2, t3, t4, t5, t6, t7, t8, t9, t10⟩ := op_of HB.out
  go_enter Tryz.func5, Tryz.ntmps5
  go_wp2_with fail
  refine (C1.out _ HXM.out).mono ?_
  rintro e w1 ⟨hx1, v1, rfl, hv1⟩
  obtain ⟨s0, s1, s2, s3, s4, s5, s6, s7, s8, s9, s10⟩ := op_of (hx1.block HB.out)
  have X1 := hid hx1
  have HV1 := hid hv1
  clear hx1 hv1 t0 t1 t2 t3 t4 t5 t6 t7 t8 t9 t10
  go_wp2_with fail
  refine (C2.out _ (HXM.out.trans X1.out)).mono ?_
  rintro e w2 ⟨hx2, v2, rfl, ⟨k2, n2, x2, a2, l2, c2, rfl⟩, hv2⟩
  have Y2 := hid (hx2.more (.cells #[.int .i64 k2, .int .i64 n2, .string x2, .slice a2 l2 c2] 27))
  obtain ⟨q0, q1, q2, q3⟩ := four_of (blk0 w2 (.cells #[.int .i64 k2, .int .i64 n2, .string x2, .slice a2 l2 c2] 27))
  have HC := hid (FitV.calls (HFIT.out _ _ v1 _ HV1.out hx2 hv2) ⟨_, _, _, _, _, _, rfl⟩ _ (Ext.alloc w2 (.cells #[.int .i64 k2, .int .i64 n2, .string x2, .slice a2 l2 c2] 27)))
  clear hx2 hv2 s0 s1 s2 s3 s4 s5 s6 s7 s8 s9 s10
  go_wp2_with fail
  refine HC.out.mono ?_
  rintro e w3 ⟨rfl, hx3⟩
  have X3 := hid ((X1.out.trans Y2.out).trans hx3)
  clear hx3 q0 q1 q2 q3
  go_wp2_with fail
  go_ret
  exact ⟨rfl, HXM.out.trans X3.out⟩
end
end Go.Proofs.YtbpbkihcfdnphaaGreatDoor
/-
  plays of the statements: the kind Of, and kinds that are none: it answers true.
-/
namespace Go.Proofs.YtbpbkihcfdnphaaGreatDoor
open Go.RowKit
attribute [local go_sem] eq_nil_nil
section
variable {K K' : Nat → Prop} {d d' : Nat} {t u : T} (w : World) (k n : Int) (x : ByteArray) (a : Option Addr) (kl c : Nat) (k' n' : Int) (x' : ByteArray) (a' : Option Addr) (kl' c' : Nat) (la : Option Addr) (ll lc : Nat) (sx : ByteArray)
set_option maxRecDepth 100000 in
set_option maxHeartbeats 2000000 in
theorem plays_none (kd : Int) (h : ∀ i : Int, 1 ≤ i → i ≤ 8 → kd ≠ i) : Calls Tryz.prog 5 #[.agg (opV kd k n x a kl c k' n' x' a' kl' c' (.slice la ll lc) sx)] w (PlayR w) := by
  have q1 : (kd == 1) = false := by simpa using h 1 (by decide) (by decide)
  have q2 : (kd == 2) = false := by simpa using h 2 (by decide) (by decide)
  have q3 : (kd == 3) = false := by simpa using h 3 (by decide) (by decide)
  have q4 : (kd == 4) = false := by simpa using h 4 (by decide) (by decide)
  have q5 : (kd == 5) = false := by simpa using h 5 (by decide) (by decide)
  have q6 : (kd == 6) = false := by simpa using h 6 (by decide) (by decide)
  have q7 : (kd == 7) = false := by simpa using h 7 (by decide) (by decide)
  have q8 : (kd == 8) = false := by simpa using h 8 (by decide) (by decide)
  clear h
  obtain ⟨M, hM⟩ : ∃ M, w.alloc (.cells (opV kd k n x a kl c k' n' x' a' kl' c' (.slice la ll lc) sx) 29) = M := ⟨_, rfl⟩
  have HXM := hid (show Ext w M from hM ▸ Ext.alloc _ _)
  have HB := hid (show M.heap[w.heap.size]? = some (.cells (opV kd k n x a kl c k' n' x' a' kl' c' (.slice la ll lc) sx) 29) from hM ▸ blk0 _ _)
  obtain ⟨t0, t1, t2, t3, t4, t5, t6, t7, t8, t9, t10⟩ := op_of HB.out
  go_enter Tryz.func5, Tryz.ntmps5
  go_wp2_with fail
  go_ret
  exact ⟨rfl, HXM.out⟩
set_option maxRecDepth 100000 in
set_option maxHeartbeats 2000000 in
theorem plays_of (hr : Rd K w d (.agg #[.int .i64 k, .int .i64 n, .string x, .slice a kl c]) t) : Calls Tryz.prog 5 #[.agg (opV 2 k n x a kl c k' n' x' a' kl' c' (.slice la ll lc) sx)] w (PlayR w) := by
  obtain ⟨M, hM⟩ : ∃ M, w.alloc (.cells (opV 2 k n x a kl c k' n' x' a' kl' c' (.slice la ll lc) sx) 29) = M := ⟨_, rfl⟩
  have HXM := hid (show Ext w M from hM ▸ Ext.alloc _ _)
  have HB := hid (show M.heap[w.heap.size]? = some (.cells (opV 2 k n x a kl c k' n' x' a' kl' c' (.slice la ll lc) sx) 29) from hM ▸ blk0 _ _)
  obtain ⟨t0, t1, t2, t3, t4, t5, t6, t7, t8, t9, t10⟩ := op_of HB.out
  have HR := hid hr
  clear hr
  by_cases hm : t.may
  · have HM := hid (rmay_to HR.out true (decide_eq_true hm))
    have HMM := hid hm
    clear hm
    go_enter Tryz.func5, Tryz.ntmps5
    go_wp2_with fail
    refine (HM.out _ HXM.out).mono ?_
    rintro e w1 ⟨rfl, hx1⟩
    have X1 := hid hx1
    clear hx1 t0 t1 t2 t3 t4 t5 t6 t7 t8 t9 t10
    obtain ⟨s0, s1, s2, s3, s4, s5, s6, s7, s8, s9, s10⟩ := op_of (X1.out.block HB.out)
    go_wp2_with fail
    refine (twin_any d _ t _ w1 (HR.out.later (HXM.out.trans X1.out))).mono ?_
    rintro e w2 ⟨v2, rfl, hm2, hx2⟩
    obtain ⟨y0, y1, y2, y3, rfl⟩ := hm2.rd.agg
    obtain ⟨k2, n2, x2, a2, c2, rfl, rfl, rfl, rfl⟩ := hm2.rd.shape
    generalize (T.kids t).length = l2 at hm2
    have HX2 := hid (Ext.alloc w2 (.cells #[.int .i64 k2, .int .i64 n2, .string x2, .slice a2 l2 c2] 27))
    have HM2 := hid (hm2.later HX2.out)
    have X2 := hid ((X1.out.trans hx2).trans HX2.out)
    have HP2 := hid (blk0 w2 (.cells #[.int .i64 k2, .int .i64 n2, .string x2, .slice a2 l2 c2] 27))
    clear hm2 hx2 s0 s1 s2 s3 s4 s5 s6 s7 s8 s9 s10
    obtain ⟨p0, p1, p2, p3⟩ := four_of HP2.out
    go_wp2_with fail
    refine (of_any (w2.alloc (.cells #[.int .i64 k2, .int .i64 n2, .string x2, .slice a2 l2 c2] 27)) HM2.out.rd).mono ?_
    rintro e w3 ⟨hx3, hO⟩
    rcases hO with ⟨_, v3, bs, rfl, hv3, _⟩ | ⟨hn, _⟩
    · obtain ⟨τ, q, rfl⟩ := hv3.rd.iface
      have HV3 := hid hv3.rd
      have X3 := hid (X2.out.trans hx3)
      have HM3 := hid (HM2.out.later hx3)
      have HP3 := hid (hx3.block HP2.out)
      have HR3 := hid (HR.out.later (HXM.out.trans X3.out))
      clear hx3 hv3 p0 p1 p2 p3
      obtain ⟨p0, p1, p2, p3⟩ := four_of HP3.out
      obtain ⟨s0, s1, s2, s3, s4, s5, s6, s7, s8, s9, s10⟩ := op_of (X3.out.block HB.out)
      go_wp2_with fail
      refine (fits_ok w3 HV3.out HR3.out HMM.out).mono ?_
      rintro e w4 ⟨rfl, hx4⟩
      have X4 := hid (X3.out.trans hx4)
      have HM4 := hid (HM3.out.later hx4)
      have HP4 := hid (hx4.block HP3.out)
      have HR4 := hid (HR3.out.later hx4)
      clear hx4 p0 p1 p2 p3 s0 s1 s2 s3 s4 s5 s6 s7 s8 s9 s10
      obtain ⟨p0, p1, p2, p3⟩ := four_of HP4.out
      obtain ⟨s0, s1, s2, s3, s4, s5, s6, s7, s8, s9, s10⟩ := op_of (X4.out.block HB.out)
      go_wp2_with fail
      refine (kept_any w4 HM4.out HR4.out).mono ?_
      rintro e w5 ⟨rfl, hx5⟩
      have X5 := hid (X4.out.trans hx5)
      clear hx5
      go_wp2_with fail
      go_ret
      exact ⟨rfl, HXM.out.trans X5.out⟩
    · exact absurd HMM.out hn
  · have HM := hid (rmay_to HR.out false (decide_eq_false hm))
    have HMM := hid hm
    clear hm
    go_enter Tryz.func5, Tryz.ntmps5
    go_wp2_with fail
    refine (HM.out _ HXM.out).mono ?_
    rintro e w1 ⟨rfl, hx1⟩
    have X1 := hid hx1
    clear hx1 t0 t1 t2 t3 t4 t5 t6 t7 t8 t9 t10
    obtain ⟨s0, s1, s2, s3, s4, s5, s6, s7, s8, s9, s10⟩ := op_of (X1.out.block HB.out)
    go_wp2_with fail
    refine (of_any w1 (HR.out.later (HXM.out.trans X1.out))).mono ?_
    rintro e w2 ⟨hx2, hO⟩
    have X2 := hid (X1.out.trans hx2)
    clear hx2 s0 s1 s2 s3 s4 s5 s6 s7 s8 s9 s10
    rcases hO with ⟨hmm, _⟩ | ⟨_, rfl⟩
    · exact absurd hmm HMM.out
    · go_wp2_with fail
      go_ret
      exact ⟨rfl, HXM.out.trans X2.out⟩
end
end Go.Proofs.YtbpbkihcfdnphaaGreatDoor
