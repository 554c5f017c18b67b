/-
  plays of the statements, a kind at a time: it answers true.
-/
import Derived.Test.YtllbelglilkdpaaDoorSRefI
import Derived.Test.YtllbelglilkdpaaDoorSRefL
import Derived.Test.YtllbelglilkdpaaDoorSRefN
import Derived.Test.YtllbelglilkdpaaDoorSGivens
import Derived.WalkMore
import Derived.Deep.RegionHeld3
namespace Go.Proofs.YtllbelglilkdpaaDoor
open Go.RowKit
/-- A call, as a value. -/
abbrev opS5 (kd : Int) (x : ByteArray) (a : Option Addr) (kl c : Nat) (x' : ByteArray) (a' : Option Addr) (kl' c' : Nat) (sx : ByteArray) (ga : Option Addr) (gl gc : Nat) (pk pn : Int) (px : ByteArray) (pa : Option Addr) (pl pc : Nat) : Array Value := #[.int .i64 kd, .string x, .slice a kl c, .string x', .slice a' kl' c', .string sx, .slice ga gl gc, .int .i64 pk, .int .i64 pn, .string px, .slice pa pl pc]
theorem op_of {w : World} {b : Nat} {v0 v1 v2 v3 v4 v5 v6 v7 v8 v9 v10 : Value} {t : TypeId} (h : w.heap[b]? = some (.cells #[v0, v1, v2, v3, v4, v5, v6, v7, v8, v9, v10] t)) :
    w.cell? ⟨b, 0, none⟩ = some v0 ∧ w.cell? ⟨b, 1, none⟩ = some v1 ∧ w.cell? ⟨b, 2, none⟩ = some v2 ∧ w.cell? ⟨b, 3, none⟩ = some v3 ∧ w.cell? ⟨b, 4, none⟩ = some v4 ∧ w.cell? ⟨b, 5, none⟩ = some v5 ∧ w.cell? ⟨b, 6, none⟩ = some v6 ∧ w.cell? ⟨b, 7, none⟩ = some v7 ∧ w.cell? ⟨b, 8, none⟩ = some v8 ∧ w.cell? ⟨b, 9, none⟩ = some v9 ∧ w.cell? ⟨b, 10, none⟩ = some v10 :=
  ⟨cell_of h rfl, cell_of h rfl, cell_of h rfl, cell_of h rfl, cell_of h rfl, cell_of h rfl, cell_of h rfl, cell_of h rfl, cell_of h rfl, cell_of h rfl, cell_of h rfl⟩
theorem ap_chain (t : S) (l : List (ByteArray × S)) : ∃ n x, (apS t l).2 = chain n x := by
  unfold apS
  split
  · exact ⟨0, ⟨#[]⟩, rfl⟩
  · split
    · split
      · split
        · exact ⟨_, _, rfl⟩
        · split
          · exact ⟨0, ⟨#[]⟩, rfl⟩
          · exact ⟨_, _, rfl⟩
      · exact ⟨0, ⟨#[]⟩, rfl⟩
    · exact ⟨0, ⟨#[]⟩, rfl⟩
theorem of_chain (t : T) : ∃ n x, (ofS t).2 = chain n x := by
  unfold ofS
  split
  · split
    · exact ⟨0, ⟨#[]⟩, rfl⟩
    · exact ⟨_, _, rfl⟩
  · exact ⟨0, ⟨#[]⟩, rfl⟩
theorem uni_chain (o : Option (Option (ByteArray × (Nat × ByteArray)))) : ∀ g ∈ uniL o, ∃ n x, g.2 = chain n x := by
  intro g hg
  match o, hg with
  | some (some (k, q)), hg =>
    have : g = (k, chain q.1 q.2) := by simpa [uniL] using hg
    exact ⟨_, _, by rw [this]⟩
  | some none, hg => cases hg
  | none, hg => cases hg
/-- What both readers answer. -/
def rdN : ShR → Nat × ByteArray | .ok n l => (n, ⟨l.toArray⟩) | .bad _ _ => (0, ⟨#[]⟩)
def rdA : ShR → Int | .ok _ _ => 0 | .bad _ a => a
def rdC : ShR → Int | .ok _ _ => 0 | .bad c _ => c
def Rd3 (w : World) (r : ShR) (e : Ending) (w' : World) : Prop := ∃ v d, e = .returned (.tuple #[v, .int .i64 (rdA r), .int .i64 (rdC r)]) ∧ SRd (fun _ => True) w' d v (chain (rdN r).1 (rdN r).2) ∧ Ext w w'
theorem rd3_a {w w' : World} {r : ShR} {e : Ending} (h : ReadSR w r e w') : Rd3 w r e w' := by
  obtain ⟨h1, h2⟩ := h
  cases r with
  | ok n l =>
    obtain ⟨v', rfl, h3, _⟩ := h2
    exact ⟨v', n + 1, rfl, h3.mono (fun _ _ _ => trivial), h1⟩
  | bad c a =>
    have h2 : e = _ := h2
    subst h2
    exact ⟨_, 1, rfl, srd_nil _, h1⟩
theorem rd3_b {w w' : World} {r : ShR} {e : Ending} (h : RReadR w r e w') : Rd3 w r e w' := by
  obtain ⟨h1, h2⟩ := h
  cases r with
  | ok n l =>
    obtain ⟨v', rfl, h3⟩ := h2
    exact ⟨v', n + 1, rfl, h3.mono (fun _ _ _ => trivial), h1⟩
  | bad c a =>
    have h2 : e = _ := h2
    subst h2
    exact ⟨_, 1, rfl, srd_nil _, h1⟩
/-- What is told of plays. -/
def PlayR (w : World) (e : Ending) (w' : World) : Prop := e = .returned (.bool true) ∧ Ext w w'
section
variable {K K' K'' : Nat → Prop} {d d' d'' : Nat} {t u : S} {l : List (ByteArray × S)} {p : T} (w : World) (x : ByteArray) (a : Option Addr) (kl c : Nat) (x' : ByteArray) (a' : Option Addr) (kl' c' : Nat) (sx : ByteArray) (ga : Option Addr) (gl gc : Nat) (pk pn : Int) (px : ByteArray) (pa : Option Addr) (pl pc : Nat)
set_option maxRecDepth 100000 in
set_option maxHeartbeats 4000000 in
theorem plays_may (hr : SRd K w d (.agg #[.string x, .slice a kl c]) t) : Calls Tryd.prog 8 #[.agg (opS5 1 x a kl c x' a' kl' c' sx ga gl gc pk pn px pa pl pc)] w (PlayR w) := by
  obtain ⟨r, hrr⟩ : ∃ r, mayS t = r := ⟨_, rfl⟩
  have C1 := hid (fun w1 (h : Ext w w1) => mayS_any w1 (hr.later h))
  have C2 := hid (fun w1 (h : Ext w w1) => rmay_any w1 (hr.later h))
  rw [hrr] at C1 C2
  clear hr hrr
  obtain ⟨M, hM⟩ : ∃ M, w.alloc (.cells (opS5 1 x a kl c x' a' kl' c' sx ga gl gc pk pn px pa pl pc) 33) = M := ⟨_, rfl⟩
  have HXM := hid (show Ext w M from hM ▸ Ext.alloc _ _)
  have HB := hid (show M.heap[w.heap.size]? = some (.cells (opS5 1 x a kl c x' a' kl' c' sx ga gl gc pk pn px pa pl pc) 33) from hM ▸ blk0 _ _)
  obtain ⟨t0, t1, t2, t3, t4, t5, t6, t7, t8, t9, t10⟩ := op_of HB.out
  have HSK := hid (show ∀ W', Ext M W' → W'.cell? ⟨w.heap.size, 1, none⟩ = some (.string x) ∧ W'.cell? ⟨w.heap.size, 2, none⟩ = some (.slice a kl c) from fun W' Y => by
    obtain ⟨s0, s1, s2, s3, s4, s5, s6, s7, s8, s9, s10⟩ := op_of (Y.block HB.out)
    exact ⟨s1, s2⟩)
  go_enter Tryd.func8, Tryd.ntmps8
  go_wp2_with fail
  go_region_held3 (fun W' => W'.cell? ⟨w.heap.size, 1, none⟩ = some (.string x) ∧ W'.cell? ⟨w.heap.size, 2, none⟩ = some (.slice a kl c))
    (first | with_reducible exact SK2 | with_reducible exact SK1 | with_reducible exact ⟨t1, t2⟩ | go_keep)
    (first
      | (go_at_call 10; refine (C1.out _ (HXM.out.trans (by repeat (first | with_reducible exact Ext.refl _ | with_reducible exact Z2 | with_reducible refine Ext.drew ?_)))).mono ?_; rintro e w1 ⟨rfl, hx1⟩; have Z1 : Ext M w1 := Ext.trans (by repeat (first | with_reducible exact Ext.refl _ | with_reducible exact Z2 | with_reducible refine Ext.drew ?_)) hx1; have SK1 := HSK.out w1 Z1)
      | (go_at_call 24; refine (C2.out _ (HXM.out.trans (by repeat (first | with_reducible exact Ext.refl _ | with_reducible exact Z1 | with_reducible refine Ext.drew ?_)))).mono ?_; rintro e w2 ⟨rfl, hx2⟩; have Z2 : Ext M w2 := Ext.trans (by repeat (first | with_reducible exact Ext.refl _ | with_reducible exact Z1 | with_reducible refine Ext.drew ?_)) hx2; have SK2 := HSK.out w2 Z2))
  all_goals
    go_wp2_with fail
    go_ret
    exact ⟨by first | rfl | simp, HXM.out.trans (by first | with_reducible exact Z2 | with_reducible exact Z1)⟩
set_option maxRecDepth 100000 in
set_option maxHeartbeats 4000000 in
theorem plays_same (hr : SRd K w d (.agg #[.string x, .slice a kl c]) t) (hr' : SRd K' w d' (.agg #[.string x', .slice a' kl' c']) u) : Calls Tryd.prog 8 #[.agg (opS5 2 x a kl c x' a' kl' c' sx ga gl gc pk pn px pa pl pc)] w (PlayR w) := by
  obtain ⟨r, hrr⟩ : ∃ r, sameS t u = r := ⟨_, rfl⟩
  have C1 := hid (fun w1 (h : Ext w w1) => sameS_any w1 (hr.later h) (hr'.later h))
  have C2 := hid (fun w1 (h : Ext w w1) => rsame_any w1 (hr.later h) (hr'.later h))
  rw [hrr] at C1 C2
  clear hr hr' hrr
  obtain ⟨M, hM⟩ : ∃ M, w.alloc (.cells (opS5 2 x a kl c x' a' kl' c' sx ga gl gc pk pn px pa pl pc) 33) = M := ⟨_, rfl⟩
  have HXM := hid (show Ext w M from hM ▸ Ext.alloc _ _)
  have HB := hid (show M.heap[w.heap.size]? = some (.cells (opS5 2 x a kl c x' a' kl' c' sx ga gl gc pk pn px pa pl pc) 33) from hM ▸ blk0 _ _)
  obtain ⟨t0, t1, t2, t3, t4, t5, t6, t7, t8, t9, t10⟩ := op_of HB.out
  have HSK := hid (show ∀ W', Ext M W' → W'.cell? ⟨w.heap.size, 1, none⟩ = some (.string x) ∧ W'.cell? ⟨w.heap.size, 2, none⟩ = some (.slice a kl c) ∧ W'.cell? ⟨w.heap.size, 3, none⟩ = some (.string x') ∧ W'.cell? ⟨w.heap.size, 4, none⟩ = some (.slice a' kl' c') from fun W' Y => by
    obtain ⟨s0, s1, s2, s3, s4, s5, s6, s7, s8, s9, s10⟩ := op_of (Y.block HB.out)
    exact ⟨s1, s2, s3, s4⟩)
  go_enter Tryd.func8, Tryd.ntmps8
  go_wp2_with fail
  go_region_held3 (fun W' => W'.cell? ⟨w.heap.size, 1, none⟩ = some (.string x) ∧ W'.cell? ⟨w.heap.size, 2, none⟩ = some (.slice a kl c) ∧ W'.cell? ⟨w.heap.size, 3, none⟩ = some (.string x') ∧ W'.cell? ⟨w.heap.size, 4, none⟩ = some (.slice a' kl' c'))
    (first | with_reducible exact SK2 | with_reducible exact SK1 | with_reducible exact ⟨t1, t2, t3, t4⟩ | go_keep)
    (first
      | (go_at_call 12; refine (C1.out _ (HXM.out.trans (by repeat (first | with_reducible exact Ext.refl _ | with_reducible exact Z2 | with_reducible refine Ext.drew ?_)))).mono ?_; rintro e w1 ⟨rfl, hx1⟩; have Z1 : Ext M w1 := Ext.trans (by repeat (first | with_reducible exact Ext.refl _ | with_reducible exact Z2 | with_reducible refine Ext.drew ?_)) hx1; have SK1 := HSK.out w1 Z1)
      | (go_at_call 25; refine (C2.out _ (HXM.out.trans (by repeat (first | with_reducible exact Ext.refl _ | with_reducible exact Z1 | with_reducible refine Ext.drew ?_)))).mono ?_; rintro e w2 ⟨rfl, hx2⟩; have Z2 : Ext M w2 := Ext.trans (by repeat (first | with_reducible exact Ext.refl _ | with_reducible exact Z1 | with_reducible refine Ext.drew ?_)) hx2; have SK2 := HSK.out w2 Z2))
  all_goals
    go_wp2_with fail
    go_ret
    exact ⟨by first | rfl | simp, HXM.out.trans (by first | with_reducible exact Z2 | with_reducible exact Z1)⟩
set_option maxRecDepth 100000 in
set_option maxHeartbeats 4000000 in
theorem plays_text (hr : SRd K w d (.agg #[.string x, .slice a kl c]) t) : Calls Tryd.prog 8 #[.agg (opS5 3 x a kl c x' a' kl' c' sx ga gl gc pk pn px pa pl pc)] w (PlayR w) := by
  have C1 := hid (fun w1 (h : Ext w w1) => textS_any w1 (hr.later h))
  have C2 := hid (fun w1 (h : Ext w w1) => rtext_any w1 (hr.later h))
  clear hr
  obtain ⟨r1, r2, hrr⟩ : ∃ (r1 : ByteArray) (r2 : Int), txtV t = .tuple #[.string r1, .int .i64 r2] := by
    unfold txtV
    split
    · exact ⟨_, _, rfl⟩
    · exact ⟨_, _, rfl⟩
  rw [hrr] at C1 C2
  clear hrr
  obtain ⟨M, hM⟩ : ∃ M, w.alloc (.cells (opS5 3 x a kl c x' a' kl' c' sx ga gl gc pk pn px pa pl pc) 33) = M := ⟨_, rfl⟩
  have HXM := hid (show Ext w M from hM ▸ Ext.alloc _ _)
  have HB := hid (show M.heap[w.heap.size]? = some (.cells (opS5 3 x a kl c x' a' kl' c' sx ga gl gc pk pn px pa pl pc) 33) from hM ▸ blk0 _ _)
  obtain ⟨t0, t1, t2, t3, t4, t5, t6, t7, t8, t9, t10⟩ := op_of HB.out
  go_enter Tryd.func8, Tryd.ntmps8
  go_wp2_with fail
  go_at_call 9
  refine (C1.out _ HXM.out).mono ?_
  rintro e w1 ⟨rfl, hx1⟩
  obtain ⟨s0, s1, s2, s3, s4, s5, s6, s7, s8, s9, s10⟩ := op_of (hx1.block HB.out)
  have X1 := hid hx1
  clear hx1 t0 t1 t2 t3 t4 t5 t6 t7 t8 t9 t10
  go_wp2_with fail
  go_at_call 26
  refine (C2.out _ (HXM.out.trans X1.out)).mono ?_
  rintro e w2 ⟨rfl, hx2⟩
  have X2 := hid (X1.out.trans hx2)
  clear hx2
  go_wp2_with fail
  go_ret
  exact ⟨by first | rfl | simp, HXM.out.trans X2.out⟩
/-- An answer with a sort and a number (and a place). -/
def Ans2 (w : World) (N : Nat) (X : ByteArray) (rc : Int) (e : Ending) (w' : World) : Prop := ∃ v d, e = .returned (.tuple #[v, .int .i64 rc]) ∧ SRd (fun _ => True) w' d v (chain N X) ∧ Ext w w'
def Ans3 (w : World) (N : Nat) (X : ByteArray) (ra rc : Int) (e : Ending) (w' : World) : Prop := ∃ v d, e = .returned (.tuple #[v, .int .i64 ra, .int .i64 rc]) ∧ SRd (fun _ => True) w' d v (chain N X) ∧ Ext w w'
theorem ans2_of {w w' : World} {r : Int × S} {N : Nat} {X : ByteArray} {e : Ending} (hc : r.2 = chain N X) (h : ApR w r e w') : Ans2 w N X r.1 e w' := by
  obtain ⟨v, d, h1, h2, h3⟩ := h
  rw [hc] at h2
  exact ⟨v, d, h1, h2.mono (fun _ _ _ => trivial), h3⟩
set_option maxRecDepth 100000 in
set_option maxHeartbeats 4000000 in
theorem plays_read (hs : sx.size ≤ 140737488351232) : Calls Tryd.prog 8 #[.agg (opS5 4 x a kl c x' a' kl' c' sx ga gl gc pk pn px pa pl pc)] w (PlayR w) := by
  have C1 := hid (fun w1 (_ : Ext w w1) => (readS_any sx w1 hs).mono (fun e w' h => show Ans3 w1 (rdN (readS sx)).1 (rdN (readS sx)).2 (rdA (readS sx)) (rdC (readS sx)) e w' from rd3_a h))
  have C2 := hid (fun w1 (_ : Ext w w1) => (rread_any sx w1 hs).mono (fun e w' h => show Ans3 w1 (rdN (readS sx)).1 (rdN (readS sx)).2 (rdA (readS sx)) (rdC (readS sx)) e w' from rd3_b h))
  generalize (rdN (readS sx)).1 = N at *
  generalize (rdN (readS sx)).2 = X at *
  generalize rdA (readS sx) = ra at *
  generalize rdC (readS sx) = rc at *
  clear hs
  obtain ⟨M, hM⟩ : ∃ M, w.alloc (.cells (opS5 4 x a kl c x' a' kl' c' sx ga gl gc pk pn px pa pl pc) 33) = M := ⟨_, rfl⟩
  have HXM := hid (show Ext w M from hM ▸ Ext.alloc _ _)
  have HB := hid (show M.heap[w.heap.size]? = some (.cells (opS5 4 x a kl c x' a' kl' c' sx ga gl gc pk pn px pa pl pc) 33) from hM ▸ blk0 _ _)
  obtain ⟨t0, t1, t2, t3, t4, t5, t6, t7, t8, t9, t10⟩ := op_of HB.out
  go_enter Tryd.func8, Tryd.ntmps8
  go_wp2_with fail
  go_at_call 11
  refine (C1.out _ HXM.out).mono ?_
  rintro e w1 ⟨v1, d1, rfl, hr1, hx1⟩
  obtain ⟨a1, c1, rfl⟩ := hr1.shape
  have R1 := hid hr1
  generalize (chain N X).name = nm at *
  generalize (chain N X).kids.length = kk at *
  obtain ⟨V1, hV1⟩ : ∃ V, w1.alloc (.cells #[.string nm, .slice a1 kk c1] 27) = V := ⟨_, rfl⟩
  have X1 := hid (show Ext M V1 from hV1 ▸ hx1.trans (Ext.alloc _ _))
  have Y1 := hid (show Ext w1 V1 from hV1 ▸ Ext.alloc _ _)
  have HB1 := hid (show V1.heap[w1.heap.size]? = some (.cells #[.string nm, .slice a1 kk c1] 27) from hV1 ▸ blk0 _ _)
  obtain ⟨s0, s1, s2, s3, s4, s5, s6, s7, s8, s9, s10⟩ := op_of (X1.out.block HB.out)
  clear hx1 hr1 hM t0 t1 t2 t3 t4 t5 t6 t7 t8 t9 t10
  go_wp2_with fail
  go_at_call 27
  refine (C2.out _ (HXM.out.trans X1.out)).mono ?_
  rintro e w2 ⟨v2, d2, rfl, hr2, hx2⟩
  obtain ⟨a2, c2, rfl⟩ := hr2.shape
  have R2 := hid hr2
  generalize (chain N X).name = nm2 at *
  generalize (chain N X).kids.length = kk2 at *
  obtain ⟨V2, hV2⟩ : ∃ V, w2.alloc (.cells #[.string nm2, .slice a2 kk2 c2] 27) = V := ⟨_, rfl⟩
  have X2 := hid (show Ext V1 V2 from hV2 ▸ hx2.trans (Ext.alloc _ _))
  have Y2 := hid (show Ext w2 V2 from hV2 ▸ Ext.alloc _ _)
  obtain ⟨e0, e1⟩ := two_of (X2.out.block HB1.out)
  obtain ⟨e2, e3⟩ := two_of (show V2.heap[w2.heap.size]? = some (.cells #[.string nm2, .slice a2 kk2 c2] 27) from hV2 ▸ blk0 _ _)
  clear hx2 hr2 hV1 s0 s1 s2 s3 s4 s5 s6 s7 s8 s9 s10
  go_wp2_with fail
  go_at_call 23
  refine (eqS_any N _ _ _ _ _ _ X _ (R1.out.later (Y1.out.trans X2.out)) (R2.out.later Y2.out)).mono ?_
  rintro e w3 ⟨rfl, hx3⟩
  have X3 := hid (HXM.out.trans (X1.out.trans (X2.out.trans hx3)))
  clear hx3 hV2 e0 e1 e2 e3
  go_wp2_with fail
  go_ret
  exact ⟨by first | rfl | simp, X3.out⟩
set_option maxRecDepth 100000 in
set_option maxHeartbeats 4000000 in
theorem plays_unify (hr : SRd K w d (.agg #[.string x, .slice a kl c]) t) (hr' : SRd K' w d' (.agg #[.string x', .slice a' kl' c']) u) : Calls Tryd.prog 8 #[.agg (opS5 5 x a kl c x' a' kl' c' sx ga gl gc pk pn px pa pl pc)] w (PlayR w) := by
  have C1 := hid (fun w1 (h : Ext w w1) => unify_any w1 (hr.later h) (hr'.later h))
  have C2 := hid (fun w1 (h : Ext w w1) => runify_any w1 (hr.later h) (hr'.later h))
  have HCH := hid (uni_chain (uniT t u))
  clear hr hr'
  unfold UniR at C1 C2
  generalize uniN (uniT t u) = rc at *
  generalize uniL (uniT t u) = L at *
  obtain ⟨M, hM⟩ : ∃ M, w.alloc (.cells (opS5 5 x a kl c x' a' kl' c' sx ga gl gc pk pn px pa pl pc) 33) = M := ⟨_, rfl⟩
  have HXM := hid (show Ext w M from hM ▸ Ext.alloc _ _)
  have HB := hid (show M.heap[w.heap.size]? = some (.cells (opS5 5 x a kl c x' a' kl' c' sx ga gl gc pk pn px pa pl pc) 33) from hM ▸ blk0 _ _)
  obtain ⟨t0, t1, t2, t3, t4, t5, t6, t7, t8, t9, t10⟩ := op_of HB.out
  go_enter Tryd.func8, Tryd.ntmps8
  go_wp2_with fail
  go_at_call 14
  refine (C1.out _ HXM.out).mono ?_
  rintro e w1 ⟨v1, d1, rfl, hr1, hx1⟩
  obtain ⟨s0, s1, s2, s3, s4, s5, s6, s7, s8, s9, s10⟩ := op_of (hx1.block HB.out)
  have X1 := hid hx1
  have R1 := hid hr1
  clear hx1 hr1 hM t0 t1 t2 t3 t4 t5 t6 t7 t8 t9 t10
  go_wp2_with fail
  go_at_call 28
  refine (C2.out _ (HXM.out.trans X1.out)).mono ?_
  rintro e w2 ⟨v2, d2, rfl, hr2, hx2⟩
  have X2 := hid hx2
  have R2 := hid hr2
  clear hx2 hr2 s0 s1 s2 s3 s4 s5 s6 s7 s8 s9 s10
  go_wp2_with fail
  go_at_call 15
  refine (givens_same w2 HCH.out (R1.out.later X2.out) R2.out).mono ?_
  rintro e w3 ⟨rfl, hx3⟩
  have X3 := hid (HXM.out.trans (X1.out.trans (X2.out.trans hx3)))
  clear hx3
  go_wp2_with fail
  go_ret
  exact ⟨by first | rfl | simp, X3.out⟩
set_option maxRecDepth 100000 in
set_option maxHeartbeats 4000000 in
theorem plays_apply (hr : SRd K w d (.agg #[.string x, .slice a kl c]) t) (hg : GsRd K' w d' (.slice ga gl gc) l) : Calls Tryd.prog 8 #[.agg (opS5 6 x a kl c x' a' kl' c' sx ga gl gc pk pn px pa pl pc)] w (PlayR w) := by
  obtain ⟨N, X, hc⟩ := ap_chain t l
  have C1 := hid (fun w1 (h : Ext w w1) => (apply_any w1 (hr.later h) (hg.later h)).mono (fun e w' h => ans2_of hc h))
  have C2 := hid (fun w1 (h : Ext w w1) => (rapply_any w1 (hr.later h) (hg.later h)).mono (fun e w' h => ans2_of hc h))
  clear hr hg hc
  generalize (apS t l).1 = rc at *
  obtain ⟨M, hM⟩ : ∃ M, w.alloc (.cells (opS5 6 x a kl c x' a' kl' c' sx ga gl gc pk pn px pa pl pc) 33) = M := ⟨_, rfl⟩
  have HXM := hid (show Ext w M from hM ▸ Ext.alloc _ _)
  have HB := hid (show M.heap[w.heap.size]? = some (.cells (opS5 6 x a kl c x' a' kl' c' sx ga gl gc pk pn px pa pl pc) 33) from hM ▸ blk0 _ _)
  obtain ⟨t0, t1, t2, t3, t4, t5, t6, t7, t8, t9, t10⟩ := op_of HB.out
  go_enter Tryd.func8, Tryd.ntmps8
  go_wp2_with fail
  go_at_call 16
  refine (C1.out _ HXM.out).mono ?_
  rintro e w1 ⟨v1, d1, rfl, hr1, hx1⟩
  obtain ⟨a1, c1, rfl⟩ := hr1.shape
  have R1 := hid hr1
  generalize (chain N X).name = nm at *
  generalize (chain N X).kids.length = kk at *
  obtain ⟨V1, hV1⟩ : ∃ V, w1.alloc (.cells #[.string nm, .slice a1 kk c1] 27) = V := ⟨_, rfl⟩
  have X1 := hid (show Ext M V1 from hV1 ▸ hx1.trans (Ext.alloc _ _))
  have Y1 := hid (show Ext w1 V1 from hV1 ▸ Ext.alloc _ _)
  have HB1 := hid (show V1.heap[w1.heap.size]? = some (.cells #[.string nm, .slice a1 kk c1] 27) from hV1 ▸ blk0 _ _)
  obtain ⟨s0, s1, s2, s3, s4, s5, s6, s7, s8, s9, s10⟩ := op_of (X1.out.block HB.out)
  clear hx1 hr1 hM t0 t1 t2 t3 t4 t5 t6 t7 t8 t9 t10
  go_wp2_with fail
  go_at_call 29
  refine (C2.out _ (HXM.out.trans X1.out)).mono ?_
  rintro e w2 ⟨v2, d2, rfl, hr2, hx2⟩
  obtain ⟨a2, c2, rfl⟩ := hr2.shape
  have R2 := hid hr2
  generalize (chain N X).name = nm2 at *
  generalize (chain N X).kids.length = kk2 at *
  obtain ⟨V2, hV2⟩ : ∃ V, w2.alloc (.cells #[.string nm2, .slice a2 kk2 c2] 27) = V := ⟨_, rfl⟩
  have X2 := hid (show Ext V1 V2 from hV2 ▸ hx2.trans (Ext.alloc _ _))
  have Y2 := hid (show Ext w2 V2 from hV2 ▸ Ext.alloc _ _)
  obtain ⟨e0, e1⟩ := two_of (X2.out.block HB1.out)
  obtain ⟨e2, e3⟩ := two_of (show V2.heap[w2.heap.size]? = some (.cells #[.string nm2, .slice a2 kk2 c2] 27) from hV2 ▸ blk0 _ _)
  clear hx2 hr2 hV1 s0 s1 s2 s3 s4 s5 s6 s7 s8 s9 s10
  go_wp2_with fail
  go_at_call 23
  refine (eqS_any N _ _ _ _ _ _ X _ (R1.out.later (Y1.out.trans X2.out)) (R2.out.later Y2.out)).mono ?_
  rintro e w3 ⟨rfl, hx3⟩
  have X3 := hid (HXM.out.trans (X1.out.trans (X2.out.trans hx3)))
  clear hx3 hV2 e0 e1 e2 e3
  go_wp2_with fail
  go_ret
  exact ⟨by first | rfl | simp, X3.out⟩
set_option maxRecDepth 100000 in
set_option maxHeartbeats 4000000 in
theorem plays_of (hp : Rd K'' w d'' (.agg #[.int .i64 pk, .int .i64 pn, .string px, .slice pa pl pc]) p) (hG : Laid w) : Calls Tryd.prog 8 #[.agg (opS5 7 x a kl c x' a' kl' c' sx ga gl gc pk pn px pa pl pc)] w (PlayR w) := by
  obtain ⟨N, X, hc⟩ := of_chain p
  have C1 := hid (fun w1 (h : Ext w w1) => (ofS_any w1 (hp.later h) (hG.later h)).mono (fun e w' h => ans2_of hc h))
  have C2 := hid (fun w1 (h : Ext w w1) => (rofS_any w1 (hp.later h)).mono (fun e w' h => ans2_of hc h))
  clear hp hG hc
  generalize (ofS p).1 = rc at *
  obtain ⟨M, hM⟩ : ∃ M, w.alloc (.cells (opS5 7 x a kl c x' a' kl' c' sx ga gl gc pk pn px pa pl pc) 33) = M := ⟨_, rfl⟩
  have HXM := hid (show Ext w M from hM ▸ Ext.alloc _ _)
  have HB := hid (show M.heap[w.heap.size]? = some (.cells (opS5 7 x a kl c x' a' kl' c' sx ga gl gc pk pn px pa pl pc) 33) from hM ▸ blk0 _ _)
  obtain ⟨t0, t1, t2, t3, t4, t5, t6, t7, t8, t9, t10⟩ := op_of HB.out
  go_enter Tryd.func8, Tryd.ntmps8
  go_wp2_with fail
  go_at_call 17
  refine (C1.out _ HXM.out).mono ?_
  rintro e w1 ⟨v1, d1, rfl, hr1, hx1⟩
  obtain ⟨a1, c1, rfl⟩ := hr1.shape
  have R1 := hid hr1
  generalize (chain N X).name = nm at *
  generalize (chain N X).kids.length = kk at *
  obtain ⟨V1, hV1⟩ : ∃ V, w1.alloc (.cells #[.string nm, .slice a1 kk c1] 27) = V := ⟨_, rfl⟩
  have X1 := hid (show Ext M V1 from hV1 ▸ hx1.trans (Ext.alloc _ _))
  have Y1 := hid (show Ext w1 V1 from hV1 ▸ Ext.alloc _ _)
  have HB1 := hid (show V1.heap[w1.heap.size]? = some (.cells #[.string nm, .slice a1 kk c1] 27) from hV1 ▸ blk0 _ _)
  obtain ⟨s0, s1, s2, s3, s4, s5, s6, s7, s8, s9, s10⟩ := op_of (X1.out.block HB.out)
  clear hx1 hr1 hM t0 t1 t2 t3 t4 t5 t6 t7 t8 t9 t10
  go_wp2_with fail
  go_at_call 30
  refine (C2.out _ (HXM.out.trans X1.out)).mono ?_
  rintro e w2 ⟨v2, d2, rfl, hr2, hx2⟩
  obtain ⟨a2, c2, rfl⟩ := hr2.shape
  have R2 := hid hr2
  generalize (chain N X).name = nm2 at *
  generalize (chain N X).kids.length = kk2 at *
  obtain ⟨V2, hV2⟩ : ∃ V, w2.alloc (.cells #[.string nm2, .slice a2 kk2 c2] 27) = V := ⟨_, rfl⟩
  have X2 := hid (show Ext V1 V2 from hV2 ▸ hx2.trans (Ext.alloc _ _))
  have Y2 := hid (show Ext w2 V2 from hV2 ▸ Ext.alloc _ _)
  obtain ⟨e0, e1⟩ := two_of (X2.out.block HB1.out)
  obtain ⟨e2, e3⟩ := two_of (show V2.heap[w2.heap.size]? = some (.cells #[.string nm2, .slice a2 kk2 c2] 27) from hV2 ▸ blk0 _ _)
  clear hx2 hr2 hV1 s0 s1 s2 s3 s4 s5 s6 s7 s8 s9 s10
  go_wp2_with fail
  go_at_call 23
  refine (eqS_any N _ _ _ _ _ _ X _ (R1.out.later (Y1.out.trans X2.out)) (R2.out.later Y2.out)).mono ?_
  rintro e w3 ⟨rfl, hx3⟩
  have X3 := hid (HXM.out.trans (X1.out.trans (X2.out.trans hx3)))
  clear hx3 hV2 e0 e1 e2 e3
  go_wp2_with fail
  go_ret
  exact ⟨by first | rfl | simp, X3.out⟩
set_option maxRecDepth 100000 in
set_option maxHeartbeats 4000000 in
theorem plays_is (hr : SRd K w d (.agg #[.string x, .slice a kl c]) t) (hp : Rd K'' w d'' (.agg #[.int .i64 pk, .int .i64 pn, .string px, .slice pa pl pc]) p) (hG : Laid w) : Calls Tryd.prog 8 #[.agg (opS5 8 x a kl c x' a' kl' c' sx ga gl gc pk pn px pa pl pc)] w (PlayR w) := by
  have C1 := hid (fun w1 (h : Ext w w1) => isS_any w1 (hp.later h) (hr.later h) (hG.later h))
  have C2 := hid (fun w1 (h : Ext w w1) => risS_any w1 (hp.later h) (hr.later h))
  clear hr hp hG
  obtain ⟨r, hrr⟩ : ∃ r, isS p t = r := ⟨_, rfl⟩
  rw [hrr] at C1 C2
  unfold IsR at C1 C2
  clear hrr
  obtain ⟨M, hM⟩ : ∃ M, w.alloc (.cells (opS5 8 x a kl c x' a' kl' c' sx ga gl gc pk pn px pa pl pc) 33) = M := ⟨_, rfl⟩
  have HXM := hid (show Ext w M from hM ▸ Ext.alloc _ _)
  have HB := hid (show M.heap[w.heap.size]? = some (.cells (opS5 8 x a kl c x' a' kl' c' sx ga gl gc pk pn px pa pl pc) 33) from hM ▸ blk0 _ _)
  obtain ⟨t0, t1, t2, t3, t4, t5, t6, t7, t8, t9, t10⟩ := op_of HB.out
  have HSK := hid (show ∀ W', Ext M W' → W'.cell? ⟨w.heap.size, 1, none⟩ = some (.string x) ∧ W'.cell? ⟨w.heap.size, 2, none⟩ = some (.slice a kl c) ∧ W'.cell? ⟨w.heap.size, 7, none⟩ = some (.int .i64 pk) ∧ W'.cell? ⟨w.heap.size, 8, none⟩ = some (.int .i64 pn) ∧ W'.cell? ⟨w.heap.size, 9, none⟩ = some (.string px) ∧ W'.cell? ⟨w.heap.size, 10, none⟩ = some (.slice pa pl pc) from fun W' Y => by
    obtain ⟨s0, s1, s2, s3, s4, s5, s6, s7, s8, s9, s10⟩ := op_of (Y.block HB.out)
    exact ⟨s1, s2, s7, s8, s9, s10⟩)
  go_enter Tryd.func8, Tryd.ntmps8
  go_wp2_with fail
  go_region_held3 (fun W' => W'.cell? ⟨w.heap.size, 1, none⟩ = some (.string x) ∧ W'.cell? ⟨w.heap.size, 2, none⟩ = some (.slice a kl c) ∧ W'.cell? ⟨w.heap.size, 7, none⟩ = some (.int .i64 pk) ∧ W'.cell? ⟨w.heap.size, 8, none⟩ = some (.int .i64 pn) ∧ W'.cell? ⟨w.heap.size, 9, none⟩ = some (.string px) ∧ W'.cell? ⟨w.heap.size, 10, none⟩ = some (.slice pa pl pc))
    (first | with_reducible exact SK2 | with_reducible exact SK1 | with_reducible exact ⟨t1, t2, t7, t8, t9, t10⟩ | go_keep)
    (first
      | (go_at_call 18; refine (C1.out _ (HXM.out.trans (by repeat (first | with_reducible exact Ext.refl _ | with_reducible exact Z2 | with_reducible refine Ext.drew ?_)))).mono ?_; rintro e w1 ⟨rfl, hx1⟩; have Z1 : Ext M w1 := Ext.trans (by repeat (first | with_reducible exact Ext.refl _ | with_reducible exact Z2 | with_reducible refine Ext.drew ?_)) hx1; have SK1 := HSK.out w1 Z1)
      | (go_at_call 31; refine (C2.out _ (HXM.out.trans (by repeat (first | with_reducible exact Ext.refl _ | with_reducible exact Z1 | with_reducible refine Ext.drew ?_)))).mono ?_; rintro e w2 ⟨rfl, hx2⟩; have Z2 : Ext M w2 := Ext.trans (by repeat (first | with_reducible exact Ext.refl _ | with_reducible exact Z1 | with_reducible refine Ext.drew ?_)) hx2; have SK2 := HSK.out w2 Z2))
  all_goals
    go_wp2_with fail
    go_ret
    exact ⟨by first | rfl | simp, HXM.out.trans (by first | with_reducible exact Z2 | with_reducible exact Z1)⟩
set_option maxRecDepth 100000 in
set_option maxHeartbeats 4000000 in
theorem plays_none (kd : Int) (hk : ∀ i : Int, 1 ≤ i → i ≤ 8 → kd ≠ i) : Calls Tryd.prog 8 #[.agg (opS5 kd x a kl c x' a' kl' c' sx ga gl gc pk pn px pa pl pc)] w (PlayR w) := by
  have q1 : (kd == 1) = false := by rw [beq_eq_false_iff_ne]; exact hk 1 (by decide) (by decide)
  have q2 : (kd == 2) = false := by rw [beq_eq_false_iff_ne]; exact hk 2 (by decide) (by decide)
  have q3 : (kd == 3) = false := by rw [beq_eq_false_iff_ne]; exact hk 3 (by decide) (by decide)
  have q4 : (kd == 4) = false := by rw [beq_eq_false_iff_ne]; exact hk 4 (by decide) (by decide)
  have q5 : (kd == 5) = false := by rw [beq_eq_false_iff_ne]; exact hk 5 (by decide) (by decide)
  have q6 : (kd == 6) = false := by rw [beq_eq_false_iff_ne]; exact hk 6 (by decide) (by decide)
  have q7 : (kd == 7) = false := by rw [beq_eq_false_iff_ne]; exact hk 7 (by decide) (by decide)
  have q8 : (kd == 8) = false := by rw [beq_eq_false_iff_ne]; exact hk 8 (by decide) (by decide)
  clear hk
  obtain ⟨M, hM⟩ : ∃ M, w.alloc (.cells (opS5 kd x a kl c x' a' kl' c' sx ga gl gc pk pn px pa pl pc) 33) = M := ⟨_, rfl⟩
  have HXM := hid (show Ext w M from hM ▸ Ext.alloc _ _)
  have HB := hid (show M.heap[w.heap.size]? = some (.cells (opS5 kd x a kl c x' a' kl' c' sx ga gl gc pk pn px pa pl pc) 33) from hM ▸ blk0 _ _)
  obtain ⟨t0, t1, t2, t3, t4, t5, t6, t7, t8, t9, t10⟩ := op_of HB.out
  go_enter Tryd.func8, Tryd.ntmps8
  go_wp2_with fail
  go_ret
  exact ⟨rfl, HXM.out⟩
end
end Go.Proofs.YtllbelglilkdpaaDoor
