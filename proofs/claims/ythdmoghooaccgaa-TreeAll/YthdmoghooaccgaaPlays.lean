/-
  plays of the statements, a kind at a time: it answers true.
-/
import Derived.Test.YthdmoghooaccgaaRefMay
import Derived.Test.YthdmoghooaccgaaRefNames
import Derived.Test.YthdmoghooaccgaaRefPutF
import Derived.Test.YthdmoghooaccgaaRefAt
import Derived.Test.YthdmoghooaccgaaPathsMath
import Derived.WalkMore
import Derived.Deep.RegionHeld3
namespace Go.Proofs.Ythdmoghooaccgaa
open Go.RowKit
/-- A call, as a value. -/
abbrev opV (kd : Int) (k : ByteArray) (n : Int) (x : ByteArray) (a : Option Addr) (kl c : Nat) (k' : ByteArray) (n' : Int) (x' : ByteArray) (a' : Option Addr) (kl' c' : Nat) (pv : Value) (st : Int) : Array Value := #[.int .i64 kd, .string k, .int .i64 n, .string x, .slice a kl c, .string k', .int .i64 n', .string x', .slice a' kl' c', pv, .int .i64 st]
theorem op_of {w : World} {b : Nat} {v0 v1 v2 v3 v4 v5 v6 v7 v8 v9 v10 : Value} {t : TypeId} (h : w.heap[b]? = some (.cells #[v0, v1, v2, v3, v4, v5, v6, v7, v8, v9, v10] t)) :
    w.cell? ⟨b, 0, none⟩ = some v0 ∧ w.cell? ⟨b, 1, none⟩ = some v1 ∧ w.cell? ⟨b, 2, none⟩ = some v2 ∧ w.cell? ⟨b, 3, none⟩ = some v3 ∧ w.cell? ⟨b, 4, none⟩ = some v4 ∧ w.cell? ⟨b, 5, none⟩ = some v5 ∧ w.cell? ⟨b, 6, none⟩ = some v6 ∧ w.cell? ⟨b, 7, none⟩ = some v7 ∧ w.cell? ⟨b, 8, none⟩ = some v8 ∧ w.cell? ⟨b, 9, none⟩ = some v9 ∧ w.cell? ⟨b, 10, none⟩ = some v10 :=
  ⟨cell_of h rfl, cell_of h rfl, cell_of h rfl, cell_of h rfl, cell_of h rfl, cell_of h rfl, cell_of h rfl, cell_of h rfl, cell_of h rfl, cell_of h rfl, cell_of h rfl⟩
section
variable {K K' : Nat → Prop} {d d' : Nat} {t u : T} (w : World) (k : ByteArray) (n : Int) (x : ByteArray) (a : Option Addr) (kl c : Nat) (k' : ByteArray) (n' : Int) (x' : ByteArray) (a' : Option Addr) (kl' c' : Nat) (pa : Option Addr) (pc : Nat) (p : List Int) (st : Int)
/-- What is told of plays. -/
def PlayR (w : World) (e : Ending) (w' : World) : Prop := e = .returned (.bool true) ∧ Ext w w'
set_option maxRecDepth 100000 in
set_option maxHeartbeats 2000000 in
theorem plays_may (hr : Rd K w d (.agg #[.string k, .int .i64 n, .string x, .slice a kl c]) t) : Calls Try.prog 11 #[.agg (opV 1 k n x a kl c k' n' x' a' kl' c' (.slice pa p.length pc) st)] w (PlayR w) := by
  have C1 := hid (fun w1 (h : Ext w w1) => may_face w1 (hr.later h))
  have C2 := hid (fun w1 (h : Ext w w1) => refMay_any w1 (hr.later h))
  clear hr
  obtain ⟨r, hrr⟩ : ∃ r, mayN t = r := ⟨_, rfl⟩
  rw [hrr] at C1 C2
  clear hrr
  obtain ⟨M, hM⟩ : ∃ M, w.alloc (.cells (opV 1 k n x a kl c k' n' x' a' kl' c' (.slice pa p.length pc) st) 29) = M := ⟨_, rfl⟩
  have HXM := hid (show Ext w M from hM ▸ Ext.alloc _ _)
  have HB := hid (show M.heap[w.heap.size]? = some (.cells (opV 1 k n x a kl c k' n' x' a' kl' c' (.slice pa p.length pc) st) 29) from hM ▸ blk0 _ _)
  obtain ⟨t0, t1, t2, t3, t4, t5, t6, t7, t8, t9, t10⟩ := op_of HB.out
  have HSK := hid (show ∀ W', Ext M W' → W'.cell? ⟨w.heap.size, 1, none⟩ = some (.string k) ∧ W'.cell? ⟨w.heap.size, 2, none⟩ = some (.int .i64 n) ∧ W'.cell? ⟨w.heap.size, 3, none⟩ = some (.string x) ∧ W'.cell? ⟨w.heap.size, 4, none⟩ = some (.slice a kl c) from fun W' Y => by
    obtain ⟨_, s1, s2, s3, s4, _⟩ := op_of (Y.block HB.out)
    exact ⟨s1, s2, s3, s4⟩)
  go_enter Try.func11, Try.ntmps11
  go_wp2_with fail
  go_region_held3 (fun W' => W'.cell? ⟨w.heap.size, 1, none⟩ = some (.string k) ∧ W'.cell? ⟨w.heap.size, 2, none⟩ = some (.int .i64 n) ∧ W'.cell? ⟨w.heap.size, 3, none⟩ = some (.string x) ∧ W'.cell? ⟨w.heap.size, 4, none⟩ = some (.slice a kl c))
    (first | exact SK2 | exact SK1 | exact ⟨t1, t2, t3, t4⟩ | go_keep)
    (first
      | (go_at_call 21; refine (C1.out _ (HXM.out.trans (by repeat (first | with_reducible exact Ext.refl _ | with_reducible exact Z2 | with_reducible refine Ext.drew ?_)))).mono ?_; rintro e w1 ⟨rfl, hx1⟩; have Z1 : Ext M w1 := Ext.trans (by repeat (first | with_reducible exact Ext.refl _ | with_reducible exact Z2 | with_reducible refine Ext.drew ?_)) hx1; have SK1 := HSK.out w1 Z1)
      | (go_at_call 34; refine (C2.out _ (HXM.out.trans (by repeat (first | with_reducible exact Ext.refl _ | with_reducible exact Z1 | with_reducible refine Ext.drew ?_)))).mono ?_; rintro e w2 ⟨rfl, hx2⟩; have Z2 : Ext M w2 := Ext.trans (by repeat (first | with_reducible exact Ext.refl _ | with_reducible exact Z1 | with_reducible refine Ext.drew ?_)) hx2; have SK2 := HSK.out w2 Z2))
  all_goals
    go_wp2_with fail
    go_ret
    exact ⟨rfl, HXM.out.trans Z2⟩
set_option maxRecDepth 100000 in
set_option maxHeartbeats 2000000 in
theorem plays_size (hr : Rd K w d (.agg #[.string k, .int .i64 n, .string x, .slice a kl c]) t) : Calls Try.prog 11 #[.agg (opV 2 k n x a kl c k' n' x' a' kl' c' (.slice pa p.length pc) st)] w (PlayR w) := by
  have C1 := hid (fun w1 (h : Ext w w1) => size_any w1 (hr.later h))
  have C2 := hid (fun w1 (h : Ext w w1) => refSize_any w1 (hr.later h))
  clear hr
  obtain ⟨r1, r2, r3, hrr⟩ : ∃ r1 r2 r3 : Int, sizeV t = .tuple #[.int .i64 r1, .int .i64 r2, .int .i64 r3] := by
    unfold sizeV
    split
    · exact ⟨_, _, _, rfl⟩
    · exact ⟨_, _, _, rfl⟩
  rw [hrr] at C1 C2
  clear hrr
  obtain ⟨M, hM⟩ : ∃ M, w.alloc (.cells (opV 2 k n x a kl c k' n' x' a' kl' c' (.slice pa p.length pc) st) 29) = M := ⟨_, rfl⟩
  have HXM := hid (show Ext w M from hM ▸ Ext.alloc _ _)
  have HB := hid (show M.heap[w.heap.size]? = some (.cells (opV 2 k n x a kl c k' n' x' a' kl' c' (.slice pa p.length pc) st) 29) from hM ▸ blk0 _ _)
  obtain ⟨t0, t1, t2, t3, t4, t5, t6, t7, t8, t9, t10⟩ := op_of HB.out
  go_enter Try.func11, Try.ntmps11
  go_wp2_with fail
  refine (C1.out _ HXM.out).mono ?_
  rintro e w1 ⟨rfl, hx1⟩
  obtain ⟨s0, s1, s2, s3, s4, s5, s6, s7, s8, s9, s10⟩ := op_of (hx1.block HB.out)
  have X1 := hid hx1
  clear hx1 t0 t1 t2 t3 t4 t5 t6 t7 t8 t9 t10
  go_wp2_with fail
  refine (C2.out _ (HXM.out.trans X1.out)).mono ?_
  rintro e w2 ⟨rfl, hx2⟩
  have X2 := hid (X1.out.trans hx2)
  clear hx2
  go_wp2_with fail
  go_ret
  exact ⟨rfl, HXM.out.trans X2.out⟩
set_option maxRecDepth 100000 in
set_option maxHeartbeats 2000000 in
theorem plays_same (hr : Rd K w d (.agg #[.string k, .int .i64 n, .string x, .slice a kl c]) t) (hr' : Rd K' w d' (.agg #[.string k', .int .i64 n', .string x', .slice a' kl' c']) u) : Calls Try.prog 11 #[.agg (opV 3 k n x a kl c k' n' x' a' kl' c' (.slice pa p.length pc) st)] w (PlayR w) := by
  have C1 := hid (fun w1 (h : Ext w w1) => same_face w1 (hr.later h) (hr'.later h))
  have C2 := hid (fun w1 (h : Ext w w1) => refSame_any w1 (hr.later h) (hr'.later h))
  clear hr hr'
  obtain ⟨r, hrr⟩ : ∃ r, (decide t.small && decide u.small && T.beq t u) = r := ⟨_, rfl⟩
  rw [hrr] at C1 C2
  clear hrr
  obtain ⟨M, hM⟩ : ∃ M, w.alloc (.cells (opV 3 k n x a kl c k' n' x' a' kl' c' (.slice pa p.length pc) st) 29) = M := ⟨_, rfl⟩
  have HXM := hid (show Ext w M from hM ▸ Ext.alloc _ _)
  have HB := hid (show M.heap[w.heap.size]? = some (.cells (opV 3 k n x a kl c k' n' x' a' kl' c' (.slice pa p.length pc) st) 29) from hM ▸ blk0 _ _)
  obtain ⟨t0, t1, t2, t3, t4, t5, t6, t7, t8, t9, t10⟩ := op_of HB.out
  have HSK := hid (show ∀ W', Ext M W' → W'.cell? ⟨w.heap.size, 1, none⟩ = some (.string k) ∧ W'.cell? ⟨w.heap.size, 2, none⟩ = some (.int .i64 n) ∧ W'.cell? ⟨w.heap.size, 3, none⟩ = some (.string x) ∧ W'.cell? ⟨w.heap.size, 4, none⟩ = some (.slice a kl c) ∧ W'.cell? ⟨w.heap.size, 5, none⟩ = some (.string k') ∧ W'.cell? ⟨w.heap.size, 6, none⟩ = some (.int .i64 n') ∧ W'.cell? ⟨w.heap.size, 7, none⟩ = some (.string x') ∧ W'.cell? ⟨w.heap.size, 8, none⟩ = some (.slice a' kl' c') from fun W' Y => by
    obtain ⟨_, s1, s2, s3, s4, s5, s6, s7, s8, _⟩ := op_of (Y.block HB.out)
    exact ⟨s1, s2, s3, s4, s5, s6, s7, s8⟩)
  go_enter Try.func11, Try.ntmps11
  go_wp2_with fail
  go_region_held3 (fun W' => W'.cell? ⟨w.heap.size, 1, none⟩ = some (.string k) ∧ W'.cell? ⟨w.heap.size, 2, none⟩ = some (.int .i64 n) ∧ W'.cell? ⟨w.heap.size, 3, none⟩ = some (.string x) ∧ W'.cell? ⟨w.heap.size, 4, none⟩ = some (.slice a kl c) ∧ W'.cell? ⟨w.heap.size, 5, none⟩ = some (.string k') ∧ W'.cell? ⟨w.heap.size, 6, none⟩ = some (.int .i64 n') ∧ W'.cell? ⟨w.heap.size, 7, none⟩ = some (.string x') ∧ W'.cell? ⟨w.heap.size, 8, none⟩ = some (.slice a' kl' c'))
    (first | exact SK2 | exact SK1 | exact ⟨t1, t2, t3, t4, t5, t6, t7, t8⟩ | go_keep)
    (first
      | (go_at_call 17; refine (C1.out _ (HXM.out.trans (by repeat (first | with_reducible exact Ext.refl _ | with_reducible exact Z2 | with_reducible refine Ext.drew ?_)))).mono ?_; rintro e w1 ⟨rfl, hx1⟩; have Z1 : Ext M w1 := Ext.trans (by repeat (first | with_reducible exact Ext.refl _ | with_reducible exact Z2 | with_reducible refine Ext.drew ?_)) hx1; have SK1 := HSK.out w1 Z1)
      | (go_at_call 36; refine (C2.out _ (HXM.out.trans (by repeat (first | with_reducible exact Ext.refl _ | with_reducible exact Z1 | with_reducible refine Ext.drew ?_)))).mono ?_; rintro e w2 ⟨rfl, hx2⟩; have Z2 : Ext M w2 := Ext.trans (by repeat (first | with_reducible exact Ext.refl _ | with_reducible exact Z1 | with_reducible refine Ext.drew ?_)) hx2; have SK2 := HSK.out w2 Z2))
  all_goals
    go_wp2_with fail
    go_ret
    exact ⟨by simp, HXM.out.trans Z2⟩
end
/-- The zero tree. -/
abbrev zT : T := .node ⟨#[]⟩ 0 ⟨#[]⟩ []
theorem zero_rd (K : Nat → Prop) (w : World) : Rd K w 1 zeroTree zT := ⟨none, 0, rfl, by decide, by decide, by simp, .inl rfl⟩
/-- A tree and a number. -/
def ResR (w : World) (y : T) (c : Int) (e : Ending) (w' : World) : Prop := Ext w w' ∧ ∃ v d K, e = .returned (.tuple #[v, .int .i64 c]) ∧ Rd K w' d v y
theorem copy_res {w w' : World} {d : Nat} {t : T} {e : Ending} (h : CopyF w d t e w') : ResR w (if t.small then t else zT) (if t.small then 0 else 2) e w' := by
  obtain ⟨hx, ⟨hs, v, bs, rfl, ho, _⟩ | ⟨hs, rfl⟩⟩ := h
  · rw [if_pos hs, if_pos hs]; exact ⟨hx, _, _, _, rfl, ho.rd⟩
  · rw [if_neg hs, if_neg hs]; exact ⟨hx, _, _, _, rfl, zero_rd (fun _ => True) _⟩
theorem rcopy_res {w w' : World} {d : Nat} {t : T} {e : Ending} (h : RCopyF w d t e w') : ResR w (if t.small then t else zT) (if t.small then 0 else 2) e w' := by
  obtain ⟨hx, ⟨hs, v, rfl, ho⟩ | ⟨hs, rfl⟩⟩ := h
  · rw [if_pos hs, if_pos hs]; exact ⟨hx, _, _, _, rfl, ho⟩
  · rw [if_neg hs, if_neg hs]; exact ⟨hx, _, _, _, rfl, zero_rd (fun _ => True) _⟩
def atT (t : T) (p : List Int) : T := if t.small then (T.at? t p).getD zT else zT
def atC (t : T) (p : List Int) : Int := if t.small then (if (T.at? t p).isSome then 0 else 23) else 2
theorem at_res {w w' : World} {t : T} {p : List Int} {e : Ending} (h : AtF w t p e w') : ResR w (atT t p) (atC t p) e w' := by
  obtain ⟨hx, ⟨hs, rfl⟩ | ⟨hs, hn, rfl⟩ | ⟨hs, u, d, hu, v, bs, rfl, ho, _⟩⟩ := h
  · rw [atT, atC, if_neg hs, if_neg hs]; exact ⟨hx, _, _, _, rfl, zero_rd (fun _ => True) _⟩
  · rw [atT, atC, if_pos hs, if_pos hs, hn]; exact ⟨hx, _, _, _, rfl, zero_rd (fun _ => True) _⟩
  · rw [atT, atC, if_pos hs, if_pos hs, hu]; exact ⟨hx, _, _, _, rfl, ho.rd⟩
theorem rat_res {w w' : World} {t : T} {p : List Int} {e : Ending} (h : RAtF w t p e w') : ResR w (atT t p) (atC t p) e w' := by
  obtain ⟨hx, ⟨hs, rfl⟩ | ⟨hs, hn, rfl⟩ | ⟨hs, u, d, hu, v, rfl, ho⟩⟩ := h
  · rw [atT, atC, if_neg hs, if_neg hs]; exact ⟨hx, _, _, _, rfl, zero_rd (fun _ => True) _⟩
  · rw [atT, atC, if_pos hs, if_pos hs, hn]; exact ⟨hx, _, _, _, rfl, zero_rd (fun _ => True) _⟩
  · rw [atT, atC, if_pos hs, if_pos hs, hu]; exact ⟨hx, _, _, _, rfl, ho⟩
def putT (t : T) (p : List Int) (u : T) : T := if (t.small ∧ u.small) ∧ (T.at? t p).isSome ∧ (T.put t p u).small then T.put t p u else zT
def putC (t : T) (p : List Int) (u : T) : Int := if t.small ∧ u.small then (if (T.at? t p).isSome then (if (T.put t p u).small then 0 else 2) else 23) else 2
theorem put_res {w w' : World} {t : T} {p : List Int} {u : T} {e : Ending} (h : PutF w t p u e w') : ResR w (putT t p u) (putC t p u) e w' := by
  obtain ⟨hx, ⟨hs, rfl⟩ | ⟨h1, h2, hn, rfl⟩ | ⟨h1, h2, ⟨y, hy⟩, ⟨h3, rfl⟩ | ⟨h3, d, v, bs, rfl, ho, _⟩⟩⟩ := h
  · rw [putT, putC, if_neg (fun h => hs h.1), if_neg hs]; exact ⟨hx, _, _, _, rfl, zero_rd (fun _ => True) _⟩
  · rw [putT, putC, if_neg (fun h => by rw [hn] at h; exact absurd h.2.1 (by simp)), if_pos ⟨h1, h2⟩, hn]; exact ⟨hx, _, _, _, rfl, zero_rd (fun _ => True) _⟩
  · rw [putT, putC, if_neg (fun h => h3 h.2.2), if_pos ⟨h1, h2⟩, hy, if_pos (show (some y).isSome = true from rfl), if_neg h3]; exact ⟨hx, _, _, _, rfl, zero_rd (fun _ => True) _⟩
  · rw [putT, putC, if_pos ⟨⟨h1, h2⟩, by rw [hy]; rfl, h3⟩, if_pos ⟨h1, h2⟩, hy, if_pos (show (some y).isSome = true from rfl), if_pos h3]; exact ⟨hx, _, _, _, rfl, ho.rd⟩
theorem rput_res {w w' : World} {t : T} {p : List Int} {u : T} {e : Ending} (h : RPutF w t p u e w') : ResR w (putT t p u) (putC t p u) e w' := by
  obtain ⟨hx, ⟨hs, rfl⟩ | ⟨h1, h2, hn, rfl⟩ | ⟨h1, h2, ⟨y, hy⟩, ⟨h3, rfl⟩ | ⟨h3, d, v, rfl, ho⟩⟩⟩ := h
  · rw [putT, putC, if_neg (fun h => hs h.1), if_neg hs]; exact ⟨hx, _, _, _, rfl, zero_rd (fun _ => True) _⟩
  · rw [putT, putC, if_neg (fun h => by rw [hn] at h; exact absurd h.2.1 (by simp)), if_pos ⟨h1, h2⟩, hn]; exact ⟨hx, _, _, _, rfl, zero_rd (fun _ => True) _⟩
  · rw [putT, putC, if_neg (fun h => h3 h.2.2), if_pos ⟨h1, h2⟩, hy, if_pos (show (some y).isSome = true from rfl), if_neg h3]; exact ⟨hx, _, _, _, rfl, zero_rd (fun _ => True) _⟩
  · rw [putT, putC, if_pos ⟨⟨h1, h2⟩, by rw [hy]; rfl, h3⟩, if_pos ⟨h1, h2⟩, hy, if_pos (show (some y).isSome = true from rfl), if_pos h3]; exact ⟨hx, _, _, _, rfl, ho⟩
section
variable {K K' : Nat → Prop} {d d' : Nat} {t u : T} (w : World) (k : ByteArray) (n : Int) (x : ByteArray) (a : Option Addr) (kl c : Nat) (k' : ByteArray) (n' : Int) (x' : ByteArray) (a' : Option Addr) (kl' c' : Nat) (pa : Option Addr) (pc : Nat) (p : List Int) (st : Int)
set_option maxRecDepth 100000 in
set_option maxHeartbeats 2000000 in
theorem plays_copy (hr : Rd K w d (.agg #[.string k, .int .i64 n, .string x, .slice a kl c]) t) : Calls Try.prog 11 #[.agg (opV 4 k n x a kl c k' n' x' a' kl' c' (.slice pa p.length pc) st)] w (PlayR w) := by
  have C1 := hid (fun w1 (h : Ext w w1) => (copy_face w1 (hr.later h)).mono (fun e w' h => h))
  have C2 := hid (fun w1 (h : Ext w w1) => (refCopy_any w1 (hr.later h)).mono (fun e w' h => h))
  replace C1 : Hid (∀ w1, Ext w w1 → Calls _ _ _ w1 (ResR w1 (if t.small then t else zT) (if t.small then (0 : Int) else 2))) := fun w1 h => (C1.out w1 h).mono (fun e w' h => copy_res h)
  replace C2 : Hid (∀ w1, Ext w w1 → Calls _ _ _ w1 (ResR w1 (if t.small then t else zT) (if t.small then (0 : Int) else 2))) := fun w1 h => (C2.out w1 h).mono (fun e w' h => rcopy_res h)
  clear hr
  generalize (if t.small then t else zT) = Y at C1 C2
  generalize (if t.small then (0 : Int) else 2) = cc at C1 C2
  obtain ⟨M, hM⟩ : ∃ M, w.alloc (.cells (opV 4 k n x a kl c k' n' x' a' kl' c' (.slice pa p.length pc) st) 29) = M := ⟨_, rfl⟩
  have HXM := hid (show Ext w M from hM ▸ Ext.alloc _ _)
  have HB := hid (show M.heap[w.heap.size]? = some (.cells (opV 4 k n x a kl c k' n' x' a' kl' c' (.slice pa p.length pc) st) 29) from hM ▸ blk0 _ _)
  obtain ⟨t0, t1, t2, t3, t4, t5, t6, t7, t8, t9, t10⟩ := op_of HB.out
  go_enter Try.func11, Try.ntmps11
  go_wp2_with fail
  refine (C1.out _ HXM.out).mono ?_
  rintro e w1 ⟨hx1, v1, d1, K1, rfl, hr1⟩
  obtain ⟨u0, u1, u2, u3, rfl⟩ := hr1.agg
  obtain ⟨k1, n1, x1, a1, c1, rfl, rfl, rfl, rfl⟩ := hr1.shape
  generalize (T.kids Y).length = l1 at *
  have X1 := hid (hx1.more (.cells #[.string k1, .int .i64 n1, .string x1, .slice a1 l1 c1] 26))
  obtain ⟨s0, s1, s2, s3, s4, s5, s6, s7, s8, s9, s10⟩ := op_of (X1.out.block HB.out)
  have HR1 := hid (hr1.later (Ext.alloc w1 (.cells #[.string k1, .int .i64 n1, .string x1, .slice a1 l1 c1] 26)))
  clear hx1 hr1 t0 t1 t2 t3 t4 t5 t6 t7 t8 t9 t10
  go_wp2_with fail
  refine (C2.out _ (HXM.out.trans X1.out)).mono ?_
  rintro e w2 ⟨hx2, v2, d2, K2, rfl, hr2⟩
  obtain ⟨u0, u1, u2, u3, rfl⟩ := hr2.agg
  obtain ⟨k2, n2, x2, a2, c2, rfl, rfl, rfl, rfl⟩ := hr2.shape
  generalize (T.kids Y).length = l2 at *
  have Y2 := hid (hx2.more (.cells #[.string k2, .int .i64 n2, .string x2, .slice a2 l2 c2] 26))
  obtain ⟨p0, p1, p2, p3⟩ := four_of (Y2.out.block (blk0 w1 (.cells #[.string k1, .int .i64 n1, .string x1, .slice a1 l1 c1] 26)))
  obtain ⟨q0, q1, q2, q3⟩ := four_of (blk0 w2 (.cells #[.string k2, .int .i64 n2, .string x2, .slice a2 l2 c2] 26))
  have HC := hid (eq_any d1 _ _ Y Y K1 K2 _ d2 (HR1.out.later Y2.out) (hr2.later (Ext.alloc w2 (.cells #[.string k2, .int .i64 n2, .string x2, .slice a2 l2 c2] 26))))
  rw [T.beq_refl] at HC
  have hp := lt_of_cell p0
  clear hx2 hr2 s0 s1 s2 s3 s4 s5 s6 s7 s8 s9 s10
  go_wp2_with fail
  refine HC.out.mono ?_
  rintro e w3 ⟨rfl, hx3⟩
  have X3 := hid ((X1.out.trans Y2.out).trans hx3)
  clear hx3 p0 p1 p2 p3 q0 q1 q2 q3
  go_wp2_with fail
  go_ret
  exact ⟨rfl, HXM.out.trans X3.out⟩
set_option maxRecDepth 100000 in
set_option maxHeartbeats 2000000 in
theorem plays_at (hr : Rd K w d (.agg #[.string k, .int .i64 n, .string x, .slice a kl c]) t) (hI : Ints w (.slice pa p.length pc) p) (hb : p.length * 8 ≤ 140737488355328) : Calls Try.prog 11 #[.agg (opV 5 k n x a kl c k' n' x' a' kl' c' (.slice pa p.length pc) st)] w (PlayR w) := by
  have C1 := hid (fun w1 (h : Ext w w1) => (at_face w1 pa pc p (hr.later h) (hI.later h) hb).mono (fun e w' h => h))
  have C2 := hid (fun w1 (h : Ext w w1) => (refAt_any w1 pa pc p (hr.later h) (hI.later h) hb).mono (fun e w' h => h))
  replace C1 : Hid (∀ w1, Ext w w1 → Calls _ _ _ w1 (ResR w1 (atT t p) (atC t p))) := fun w1 h => (C1.out w1 h).mono (fun e w' h => at_res h)
  replace C2 : Hid (∀ w1, Ext w w1 → Calls _ _ _ w1 (ResR w1 (atT t p) (atC t p))) := fun w1 h => (C2.out w1 h).mono (fun e w' h => rat_res h)
  clear hr hI
  generalize (atT t p) = Y at C1 C2
  generalize (atC t p) = cc at C1 C2
  obtain ⟨M, hM⟩ : ∃ M, w.alloc (.cells (opV 5 k n x a kl c k' n' x' a' kl' c' (.slice pa p.length pc) st) 29) = M := ⟨_, rfl⟩
  have HXM := hid (show Ext w M from hM ▸ Ext.alloc _ _)
  have HB := hid (show M.heap[w.heap.size]? = some (.cells (opV 5 k n x a kl c k' n' x' a' kl' c' (.slice pa p.length pc) st) 29) from hM ▸ blk0 _ _)
  obtain ⟨t0, t1, t2, t3, t4, t5, t6, t7, t8, t9, t10⟩ := op_of HB.out
  go_enter Try.func11, Try.ntmps11
  go_wp2_with fail
  refine (C1.out _ HXM.out).mono ?_
  rintro e w1 ⟨hx1, v1, d1, K1, rfl, hr1⟩
  obtain ⟨u0, u1, u2, u3, rfl⟩ := hr1.agg
  obtain ⟨k1, n1, x1, a1, c1, rfl, rfl, rfl, rfl⟩ := hr1.shape
  generalize (T.kids Y).length = l1 at *
  have X1 := hid (hx1.more (.cells #[.string k1, .int .i64 n1, .string x1, .slice a1 l1 c1] 26))
  obtain ⟨s0, s1, s2, s3, s4, s5, s6, s7, s8, s9, s10⟩ := op_of (X1.out.block HB.out)
  have HR1 := hid (hr1.later (Ext.alloc w1 (.cells #[.string k1, .int .i64 n1, .string x1, .slice a1 l1 c1] 26)))
  clear hx1 hr1 t0 t1 t2 t3 t4 t5 t6 t7 t8 t9 t10
  go_wp2_with fail
  refine (C2.out _ (HXM.out.trans X1.out)).mono ?_
  rintro e w2 ⟨hx2, v2, d2, K2, rfl, hr2⟩
  obtain ⟨u0, u1, u2, u3, rfl⟩ := hr2.agg
  obtain ⟨k2, n2, x2, a2, c2, rfl, rfl, rfl, rfl⟩ := hr2.shape
  generalize (T.kids Y).length = l2 at *
  have Y2 := hid (hx2.more (.cells #[.string k2, .int .i64 n2, .string x2, .slice a2 l2 c2] 26))
  obtain ⟨p0, p1, p2, p3⟩ := four_of (Y2.out.block (blk0 w1 (.cells #[.string k1, .int .i64 n1, .string x1, .slice a1 l1 c1] 26)))
  obtain ⟨q0, q1, q2, q3⟩ := four_of (blk0 w2 (.cells #[.string k2, .int .i64 n2, .string x2, .slice a2 l2 c2] 26))
  have HC := hid (eq_any d1 _ _ Y Y K1 K2 _ d2 (HR1.out.later Y2.out) (hr2.later (Ext.alloc w2 (.cells #[.string k2, .int .i64 n2, .string x2, .slice a2 l2 c2] 26))))
  rw [T.beq_refl] at HC
  have hp := lt_of_cell p0
  clear hx2 hr2 s0 s1 s2 s3 s4 s5 s6 s7 s8 s9 s10
  go_wp2_with fail
  refine HC.out.mono ?_
  rintro e w3 ⟨rfl, hx3⟩
  have X3 := hid ((X1.out.trans Y2.out).trans hx3)
  clear hx3 p0 p1 p2 p3 q0 q1 q2 q3
  go_wp2_with fail
  go_ret
  exact ⟨rfl, HXM.out.trans X3.out⟩
set_option maxRecDepth 100000 in
set_option maxHeartbeats 2000000 in
theorem plays_put (hr : Rd K w d (.agg #[.string k, .int .i64 n, .string x, .slice a kl c]) t) (hr' : Rd K' w d' (.agg #[.string k', .int .i64 n', .string x', .slice a' kl' c']) u) (hI : Ints w (.slice pa p.length pc) p) (hb : p.length * 8 ≤ 140737488355328) (hcap : p.length ≤ pc) : Calls Try.prog 11 #[.agg (opV 6 k n x a kl c k' n' x' a' kl' c' (.slice pa p.length pc) st)] w (PlayR w) := by
  have C1 := hid (fun w1 (h : Ext w w1) => (put_any w1 pa pc p (hr.later h) (hr'.later h) (hI.later h) hb).mono (fun e w' h => h))
  have C2 := hid (fun w1 (h : Ext w w1) => (refPut_any w1 pa pc p (hr.later h) (hr'.later h) (hI.later h) hb hcap).mono (fun e w' h => h))
  replace C1 : Hid (∀ w1, Ext w w1 → Calls _ _ _ w1 (ResR w1 (putT t p u) (putC t p u))) := fun w1 h => (C1.out w1 h).mono (fun e w' h => put_res h)
  replace C2 : Hid (∀ w1, Ext w w1 → Calls _ _ _ w1 (ResR w1 (putT t p u) (putC t p u))) := fun w1 h => (C2.out w1 h).mono (fun e w' h => rput_res h)
  clear hr hr' hI
  generalize (putT t p u) = Y at C1 C2
  generalize (putC t p u) = cc at C1 C2
  obtain ⟨M, hM⟩ : ∃ M, w.alloc (.cells (opV 6 k n x a kl c k' n' x' a' kl' c' (.slice pa p.length pc) st) 29) = M := ⟨_, rfl⟩
  have HXM := hid (show Ext w M from hM ▸ Ext.alloc _ _)
  have HB := hid (show M.heap[w.heap.size]? = some (.cells (opV 6 k n x a kl c k' n' x' a' kl' c' (.slice pa p.length pc) st) 29) from hM ▸ blk0 _ _)
  obtain ⟨t0, t1, t2, t3, t4, t5, t6, t7, t8, t9, t10⟩ := op_of HB.out
  go_enter Try.func11, Try.ntmps11
  go_wp2_with fail
  refine (C1.out _ HXM.out).mono ?_
  rintro e w1 ⟨hx1, v1, d1, K1, rfl, hr1⟩
  obtain ⟨u0, u1, u2, u3, rfl⟩ := hr1.agg
  obtain ⟨k1, n1, x1, a1, c1, rfl, rfl, rfl, rfl⟩ := hr1.shape
  generalize (T.kids Y).length = l1 at *
  have X1 := hid (hx1.more (.cells #[.string k1, .int .i64 n1, .string x1, .slice a1 l1 c1] 26))
  obtain ⟨s0, s1, s2, s3, s4, s5, s6, s7, s8, s9, s10⟩ := op_of (X1.out.block HB.out)
  have HR1 := hid (hr1.later (Ext.alloc w1 (.cells #[.string k1, .int .i64 n1, .string x1, .slice a1 l1 c1] 26)))
  clear hx1 hr1 t0 t1 t2 t3 t4 t5 t6 t7 t8 t9 t10
  go_wp2_with fail
  refine (C2.out _ (HXM.out.trans X1.out)).mono ?_
  rintro e w2 ⟨hx2, v2, d2, K2, rfl, hr2⟩
  obtain ⟨u0, u1, u2, u3, rfl⟩ := hr2.agg
  obtain ⟨k2, n2, x2, a2, c2, rfl, rfl, rfl, rfl⟩ := hr2.shape
  generalize (T.kids Y).length = l2 at *
  have Y2 := hid (hx2.more (.cells #[.string k2, .int .i64 n2, .string x2, .slice a2 l2 c2] 26))
  obtain ⟨p0, p1, p2, p3⟩ := four_of (Y2.out.block (blk0 w1 (.cells #[.string k1, .int .i64 n1, .string x1, .slice a1 l1 c1] 26)))
  obtain ⟨q0, q1, q2, q3⟩ := four_of (blk0 w2 (.cells #[.string k2, .int .i64 n2, .string x2, .slice a2 l2 c2] 26))
  have HC := hid (eq_any d1 _ _ Y Y K1 K2 _ d2 (HR1.out.later Y2.out) (hr2.later (Ext.alloc w2 (.cells #[.string k2, .int .i64 n2, .string x2, .slice a2 l2 c2] 26))))
  rw [T.beq_refl] at HC
  have hp := lt_of_cell p0
  clear hx2 hr2 s0 s1 s2 s3 s4 s5 s6 s7 s8 s9 s10
  go_wp2_with fail
  refine HC.out.mono ?_
  rintro e w3 ⟨rfl, hx3⟩
  have X3 := hid ((X1.out.trans Y2.out).trans hx3)
  clear hx3 p0 p1 p2 p3 q0 q1 q2 q3
  go_wp2_with fail
  go_ret
  exact ⟨rfl, HXM.out.trans X3.out⟩
set_option maxRecDepth 100000 in
set_option maxHeartbeats 2000000 in
theorem plays_kinds (hr : Rd K w d (.agg #[.string k, .int .i64 n, .string x, .slice a kl c]) t) : Calls Try.prog 11 #[.agg (opV 8 k n x a kl c k' n' x' a' kl' c' (.slice pa p.length pc) st)] w (PlayR w) := by
  have C1 := hid (fun w1 (h : Ext w w1) => kinds_face w1 (hr.later h))
  have C2 := hid (fun w1 (h : Ext w w1) => refKinds_any w1 (hr.later h))
  clear hr
  obtain ⟨NS, hNS⟩ : ∃ NS, (if t.small then kindsOf (T.all [] t) else []) = NS := ⟨_, rfl⟩
  have HNL := hid (show NS.length * 16 ≤ 140737488355328 by
    have : NS.length ≤ 1024 := by
      rw [← hNS]
      split
      · rename_i h; have h1 := kindsOf_len (T.all [] t); rw [T.all_length] at h1; have := h.1; omega
      · exact Nat.zero_le _
    omega)
  rw [hNS] at C1 C2
  clear hNS
  obtain ⟨M, hM⟩ : ∃ M, w.alloc (.cells (opV 8 k n x a kl c k' n' x' a' kl' c' (.slice pa p.length pc) st) 29) = M := ⟨_, rfl⟩
  have HXM := hid (show Ext w M from hM ▸ Ext.alloc _ _)
  have HB := hid (show M.heap[w.heap.size]? = some (.cells (opV 8 k n x a kl c k' n' x' a' kl' c' (.slice pa p.length pc) st) 29) from hM ▸ blk0 _ _)
  obtain ⟨t0, t1, t2, t3, t4, t5, t6, t7, t8, t9, t10⟩ := op_of HB.out
  have HSK := hid (show ∀ W', Ext M W' → W'.cell? ⟨w.heap.size, 1, none⟩ = some (.string k) ∧ W'.cell? ⟨w.heap.size, 2, none⟩ = some (.int .i64 n) ∧ W'.cell? ⟨w.heap.size, 3, none⟩ = some (.string x) ∧ W'.cell? ⟨w.heap.size, 4, none⟩ = some (.slice a kl c) from fun W' Y => by
    obtain ⟨_, s1, s2, s3, s4, _⟩ := op_of (Y.block HB.out)
    exact ⟨s1, s2, s3, s4⟩)
  go_enter Try.func11, Try.ntmps11
  go_wp2_with fail
  go_region_held3 (fun W' => W'.cell? ⟨w.heap.size, 1, none⟩ = some (.string k) ∧ W'.cell? ⟨w.heap.size, 2, none⟩ = some (.int .i64 n) ∧ W'.cell? ⟨w.heap.size, 3, none⟩ = some (.string x) ∧ W'.cell? ⟨w.heap.size, 4, none⟩ = some (.slice a kl c))
    (first | exact SK3 | exact SK2 | exact SK1 | exact ⟨t1, t2, t3, t4⟩ | go_keep)
    (first
      | (go_at_call 22; refine (C1.out _ (HXM.out.trans (by repeat (first | with_reducible exact Ext.refl _ | with_reducible refine Ext.drew ?_)))).mono ?_; rintro e w1 ⟨a1, c1, ns1, rfl, rfl, hrow1, hx1⟩; have Z1 : Ext M w1 := Ext.trans (by repeat (first | with_reducible exact Ext.refl _ | with_reducible refine Ext.drew ?_)) hx1; have SK1 := HSK.out w1 Z1)
      | (go_at_call 42; refine (C2.out _ (HXM.out.trans (by repeat (first | with_reducible exact Z1 | with_reducible refine Ext.drew ?_)))).mono ?_; rintro e w2 ⟨a2, c2, ns2, rfl, rfl, hrow2, hx2⟩; have Y12 : Ext w1 w2 := Ext.trans (by repeat (first | with_reducible exact Ext.refl _ | with_reducible refine Ext.drew ?_)) hx2; have Z2 : Ext M w2 := Z1.trans Y12; have SK2 := HSK.out w2 Z2)
      | (go_at_call 41; refine (eqNames_same a1 a2 c1 c2 _ _ _ _ HNL.out (ownsRow_keep hrow1 ((Y12.trans (by repeat (first | with_reducible exact Ext.refl _ | with_reducible refine Ext.drew ?_))).kp (fun _ => True)) (fun _ _ => trivial)) (ownsRow_keep hrow2 ((show Ext w2 _ by repeat (first | with_reducible exact Ext.refl _ | with_reducible refine Ext.drew ?_)).kp (fun _ => True)) (fun _ _ => trivial))).mono ?_; rintro e w3 ⟨rfl, hx3⟩; have Z3 : Ext M w3 := Ext.trans (by repeat (first | with_reducible exact Z2 | with_reducible refine Ext.drew ?_)) hx3; have SK3 := HSK.out w3 Z3))
  all_goals
    go_wp2_with fail
    go_ret
    exact ⟨rfl, HXM.out.trans Z3⟩
end
end Go.Proofs.Ythdmoghooaccgaa
