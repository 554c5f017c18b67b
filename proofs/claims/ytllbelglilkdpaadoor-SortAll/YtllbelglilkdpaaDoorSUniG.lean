/-
  Unify in general, by a contract.
-/
import Derived.Test.YtllbelglilkdpaaDoorSGs
import Derived.Test.YtllbelglilkdpaaDoorSUni
namespace Go.Proofs.YtllbelglilkdpaaDoor
open Go.RowKit
/-- The letter of that number. -/
def ltr (j : Nat) : ByteArray := Utf8.encode (97 + (j : Int))
theorem ltr_eq (j : Nat) (h : j < 26) : ltr j = ⟨#[UInt8.ofNat (97 + j)]⟩ := by
  have key : ∀ i : Fin 26, Utf8.encode (97 + (i.val : Int)) = ⟨#[UInt8.ofNat (97 + i.val)]⟩ := by decide
  exact key ⟨j, h⟩
theorem ltr_size (j : Nat) (h : j < 26) : (ltr j).size ≤ 5 := by rw [ltr_eq j h]; show 1 ≤ 5; omega
theorem ltr_inj {i j : Nat} (hi : i < 26) (hj : j < 26) (h : ltr i = ltr j) : i = j := by
  rw [ltr_eq i hi, ltr_eq j hj] at h
  have h1 : [UInt8.ofNat (97 + i)] = [UInt8.ofNat (97 + j)] := by
    have := congrArg (fun x : ByteArray => x.data.toList) h
    simpa using this
  have h2 : (UInt8.ofNat (97 + i)).toNat = (UInt8.ofNat (97 + j)).toNat := by rw [(List.cons.inj h1).1]
  rw [UInt8.toNat_ofNat', UInt8.toNat_ofNat'] at h2
  omega
theorem ltr_of {x : ByteArray} (h : vrbL x.data.toList = true) : ∃ j, j < 26 ∧ ltr j = x := by
  obtain ⟨b, e, h1, h2⟩ := vrb_one h
  refine ⟨b.toNat - 97, by omega, ?_⟩
  rw [ltr_eq _ (by omega)]
  refine data_inj ?_
  rw [e]
  have : UInt8.ofNat (97 + (b.toNat - 97)) = b := by
    rw [show 97 + (b.toNat - 97) = b.toNat by omega]
    exact UInt8.ofNat_toNat
  simp [this]
/-- What is left to the loop over the letters. -/
structure UniF (o : Option (Option (ByteArray × (Nat × ByteArray)))) (σ : ByteArray → Option Sh) (jp : Nat) : Prop where
  idle : ∀ j, j < 26 → j ≠ jp → FndN σ 0 (0, ltr j) (0, ltr j)
  hit : jp < 26 → ∃ q : Nat × ByteArray, o = some (some (ltr jp, q)) ∧ FndN σ 1 (0, ltr jp) (shI q) ∧ q.2 ≠ ltr jp ∧ q.1 ≤ 64 ∧ q.2.size ≤ 5
  void : 26 ≤ jp → o = some none
theorem bd_ltr (j : Nat) (h : j < 26) : Bd (0, ltr j) := by
  have h1 := ltr_size j h
  generalize ltr j = y at *
  exact ⟨by show (-70368744175616 : Int) ≤ 0; decide, by show (0 : Int) ≤ 70368744175616; decide, by show y.size ≤ _; omega⟩
theorem uniF_none : UniF (some none) (fun _ => none) 26 := ⟨fun j hj _ => ⟨bd_ltr j hj, rfl, rfl⟩, fun h => absurd h (by omega), fun _ => rfl⟩
theorem fnd0 {σ : ByteArray → Option Sh} {x : Sh} (hb : Bd x) (hs : σ x.2 = none) : FndN σ 0 x x := ⟨hb, hs, rfl⟩
theorem fnd_idle {k y : ByteArray} {s : Sh} (hy : Bd (0, y)) (hn : y ≠ k) : FndN (fun x => if x = k then some s else none) 0 (0, y) (0, y) := fnd0 hy (if_neg hn)
theorem fnd_hit {k z : ByteArray} {n : Nat} (hk : Bd (0, k)) (hz : z ≠ k) (bq : Bd ((n : Int), z)) : FndN (fun x => if x = k then some ((n : Int), z) else none) 1 (0, k) ((n : Int), z) := by
  refine ⟨hk, ((n : Int), z), if_pos rfl, bq, ?_⟩
  show FndN _ 0 ((n : Int) + 0, z) _
  rw [Int.add_zero]
  exact fnd0 bq (if_neg hz)
theorem bd_small {n : Nat} {z : ByteArray} (h1 : n ≤ 64) (h2 : z.size ≤ 5) : Bd ((n : Int), z) := ⟨by show (-70368744175616 : Int) ≤ n; omega, by show (n : Int) ≤ 70368744175616; omega, by show z.size ≤ _; omega⟩
theorem uniF_some {k z : ByteArray} {n jp : Nat} (hk : ltr jp = k) (hj : jp < 26) (hq : z ≠ k) (h1 : n ≤ 64) (h2 : z.size ≤ 5) : UniF (some (some (k, (n, z)))) (fun x => if x = k then some ((n : Int), z) else none) jp := by
  refine ⟨fun j hj' hn => fnd_idle (bd_ltr j hj') (fun e => hn (ltr_inj hj' hj (e.trans hk.symm))), fun _ => ?_, fun h => absurd hj (by omega)⟩
  have hb := bd_ltr jp hj
  rw [hk] at hb ⊢
  exact ⟨(n, z), rfl, fnd_hit hb hq (bd_small h1 h2), hq, h1, h2⟩
/-- The givens, as far as they have been made. -/
def GsAt' (o : Option (Option (ByteArray × (Nat × ByteArray)))) (jp j : Nat) (gs : Value) (wr : World) : Prop := (¬ jp < j ∧ gs = .slice none 0 0) ∨ (jp < j ∧ jp < 26 ∧ ∃ d, GsRd (fun _ => True) wr d gs (uniL o))
theorem GsAt'.up {o : Option (Option (ByteArray × (Nat × ByteArray)))} {jp j : Nat} {gs : Value} {wr w' : World} (h : GsAt' o jp j gs wr) (h0 : ¬ j = jp) (hx : Ext wr w') : GsAt' o jp (j + 1) gs w' := by
  rcases h with ⟨h1, h2⟩ | ⟨h1, h2, d, h3⟩
  · exact .inl ⟨by omega, h2⟩
  · exact .inr ⟨by omega, h2, d, h3.later hx⟩
/-- What Unify answers. -/
def UniR (w : World) (o : Option (Option (ByteArray × (Nat × ByteArray)))) (e : Ending) (w' : World) : Prop := ∃ v1 d1, e = .returned (.tuple #[v1, .int .i64 (uniN o)]) ∧ GsRd (fun _ => True) w' d1 v1 (uniL o) ∧ Ext w w'
theorem leaf_size {x : ByteArray} (h : leafL x.data.toList = true) : x.size ≤ 5 := by
  have := (leaf_len h).1
  have e : x.data.toList.length = x.size := by rw [Array.length_toList]; rfl
  omega
theorem shp_le {t : S} {n : Nat} {x : ByteArray} (h : shp t = some (n, x)) : n ≤ 64 ∧ leafL x.data.toList = true := by
  have hs := shp_some h
  exact ⟨by rw [← hs.1]; exact peel_le 64 t, hs.2.2.2⟩
theorem op_var {x : ByteArray} (h : leafL x.data.toList = true) {n : Int} (ho : opS (n, x) = true) : vrbL x.data.toList = true ∧ n = 0 := by
  unfold opS at ho
  simp only [Bool.and_eq_true, decide_eq_true_eq, Bool.not_eq_true'] at ho
  unfold leafL at h
  rw [ho.2, Bool.false_or] at h
  exact ⟨h, ho.1⟩
/-- The two that meet: each one of the bare shapes. -/
theorem barS_two (a b : Nat × ByteArray) : ∃ p q : Nat × ByteArray, barS a b = (shI p, shI q) ∧ ((p = (a.1 - min a.1 b.1, a.2) ∧ q = (b.1 - min a.1 b.1, b.2)) ∨ (q = (a.1 - min a.1 b.1, a.2) ∧ p = (b.1 - min a.1 b.1, b.2))) := by
  have e1 : (a.1 : Int) + -(if (b.1 : Int) < a.1 then (b.1 : Int) else a.1) = ((a.1 - min a.1 b.1 : Nat) : Int) := by split <;> omega
  have e2 : (b.1 : Int) + -(if (b.1 : Int) < a.1 then (b.1 : Int) else a.1) = ((b.1 - min a.1 b.1 : Nat) : Int) := by split <;> omega
  unfold barS meetPQ
  rw [e1, e2]
  split
  · exact ⟨(b.1 - min a.1 b.1, b.2), (a.1 - min a.1 b.1, a.2), rfl, .inr ⟨rfl, rfl⟩⟩
  · exact ⟨(a.1 - min a.1 b.1, a.2), (b.1 - min a.1 b.1, b.2), rfl, .inl ⟨rfl, rfl⟩⟩
/-- What meet leaves behind for the loop. -/
theorem meet_uni {w w5 : World} {kb mb b1 b2 b3 : Nat} {a b : Nat × ByteArray} {e : Ending} (ha : a.1 ≤ 64 ∧ leafL a.2.data.toList = true) (hb : b.1 ≤ 64 ∧ leafL b.2.data.toList = true) (hS : Sol w kb mb 0 b1 b2 b3 (fun _ => none))
    (hr : MeetR w kb mb 0 b1 b2 b3 (fun _ => none) (barS a b).1 (barS a b).2 e w5) : (uniS a b = none ∧ e = .returned (.bool false) ∧ Ext w w5) ∨ (∃ o σ N jp, uniS a b = o ∧ o.isSome = true ∧ UniF o σ jp ∧ e = .returned (.bool true) ∧ Kp (· ≠ mb) w w5 ∧ Sol w5 kb mb N b1 b2 b3 σ) := by
  obtain ⟨p, q, hpq, hor⟩ := barS_two a b
  have hp : p.1 ≤ 64 ∧ leafL p.2.data.toList = true := by
    rcases hor with ⟨rfl, _⟩ | ⟨_, rfl⟩
    · exact ⟨by show a.1 - min a.1 b.1 ≤ 64; omega, ha.2⟩
    · exact ⟨by show b.1 - min a.1 b.1 ≤ 64; omega, hb.2⟩
  have hq : q.1 ≤ 64 ∧ leafL q.2.data.toList = true := by
    rcases hor with ⟨_, rfl⟩ | ⟨rfl, _⟩
    · exact ⟨by show b.1 - min a.1 b.1 ≤ 64; omega, hb.2⟩
    · exact ⟨by show a.1 - min a.1 b.1 ≤ 64; omega, ha.2⟩
  unfold uniS
  rw [hpq] at hr ⊢
  rcases hr with ⟨h1, h2, h3⟩ | ⟨h1, h2, h3, h4, h5⟩ | ⟨h1, h2, h3, h4⟩
  · rw [if_pos h1]
    exact .inr ⟨_, _, 0, 26, rfl, rfl, uniF_none, h2, h3.kp _, hS.later h3⟩
  · rw [if_neg h1, if_pos h2]
    obtain ⟨hv, _⟩ := op_var hp.2 h2.1
    obtain ⟨jp, hj, he⟩ := ltr_of hv
    refine .inr ⟨_, _, 1, jp, rfl, rfl, uniF_some (n := ((q.1 : Int)).toNat) he hj (fun e => h2.2 e.symm) (by simpa using hq.1) (leaf_size hq.2), h3, h4, ?_⟩
    have : (((((q.1 : Int)).toNat : Nat) : Int), q.2) = shI q := by simp
    rw [this]
    exact h5
  · rw [if_neg h1, if_neg h2]
    exact .inl ⟨rfl, h3, h4⟩
set_option maxRecDepth 100000 in
set_option maxHeartbeats 2000000 in
theorem unify_two {K K' : Nat → Prop} {d d' : Nat} {v v' : Value} {t u : S} {nx ny : Nat} {x y : ByteArray} (w : World) (h : SRd K w d v t) (h' : SRd K' w d' v' u) (ht : shp t = some (nx, x)) (hu : shp u = some (ny, y)) : Calls Tryd.prog 14 #[v, v'] w (UniR w (uniS (nx, x) (ny, y))) := by
  obtain ⟨a, c, rfl⟩ := h.shape
  obtain ⟨a', c', rfl⟩ := h'.shape
  have HTX := hid (shp_le ht)
  have HUY := hid (shp_le hu)
  have HSH := hid (show shsV t u = .tuple #[.agg #[.int .i64 nx, .string x], .agg #[.int .i64 ny, .string y], .int .i64 0] by unfold shsV; rw [ht, hu])
  clear ht hu
  have C1 := hid (fun w1 (hx : Ext w w1) => shapesOf_any w1 (h.later hx) (h'.later hx))
  clear h h'
  rw [HSH.out] at C1
  clear HSH
  generalize t.name = nt at *
  generalize t.kids.length = kt at *
  generalize u.name = nu at *
  generalize u.kids.length = ku at *
  obtain ⟨M, hM⟩ : ∃ M, (w.alloc (.cells #[.string nt, .slice a kt c] 27)).alloc (.cells #[.string nu, .slice a' ku c'] 27) = M := ⟨_, rfl⟩
  have XM := hid (show Ext w M from hM ▸ Ext.alloc2 _ _ _)
  obtain ⟨m0, m1⟩ := two_of (show M.heap[w.heap.size]? = some (.cells #[.string nt, .slice a kt c] 27) from hM ▸ blkOld _ (blk0 _ _))
  obtain ⟨m2, m3⟩ := two_of (show M.heap[w.heap.size + 1]? = some (.cells #[.string nu, .slice a' ku c'] 27) from hM ▸ blk1 _ _ _)
  go_enter Tryd.func14, Tryd.ntmps14
  go_wp2_with fail
  go_at_call 38
  refine (C1.out M XM.out).mono ?_
  rintro e w1 ⟨rfl, hx1⟩
  clear hM m0 m1 m2 m3
  obtain ⟨V1, hV1⟩ : ∃ V1, (w1.alloc (.cells #[.int .i64 nx, .string x] 58)).alloc (.cells #[.int .i64 ny, .string y] 58) = V1 := ⟨_, rfl⟩
  have X1 := hid (show Ext M V1 from hV1 ▸ hx1.trans (Ext.alloc2 _ _ _))
  have HA := hid (show V1.heap[w1.heap.size]? = some (.cells #[.int .i64 nx, .string x] 58) from hV1 ▸ blkOld _ (blk0 _ _))
  have HB := hid (show V1.heap[w1.heap.size + 1]? = some (.cells #[.int .i64 ny, .string y] 58) from hV1 ▸ blk1 _ _ _)
  clear hx1
  go_wp2_with fail
  go_at_call 39
  refine (newSolver_any V1).mono ?_
  rintro e w3 ⟨kb, mb, b1, b2, b3, b5, rfl, hx3, hs3⟩
  clear hV1
  obtain ⟨V3, hV3⟩ : ∃ V3, w3.alloc (.cells #[meetF b3 b1, foundF b2, freshF b5] 72) = V3 := ⟨_, rfl⟩
  have X3 := hid (show Ext V1 V3 from hV3 ▸ hx3.trans (Ext.alloc _ _))
  have HS3 := hid (show Solv V3 V1.heap.size kb mb 0 b1 b2 b3 b5 0 (fun _ => none) from hs3.later (hV3 ▸ Ext.alloc _ _))
  have HV3 := hid (show V3.heap[w3.heap.size]? = some (.cells #[meetF b3 b1, foundF b2, freshF b5] 72) from hV3 ▸ blk0 _ _)
  have hlt : mb < w3.heap.size := hs3.sol.map.lt.2
  have HLT := hid hlt
  clear hx3 hs3 hlt
  have s0 : V3.cell? ⟨w3.heap.size, 0, none⟩ = some (meetF b3 b1) := cell_of HV3.out rfl
  obtain ⟨d0, d1⟩ := two_of (X3.out.block HA.out)
  obtain ⟨d2, d3⟩ := two_of (X3.out.block HB.out)
  have BX := hid (show Bd ((nx : Int), x) from ⟨by show (-70368744175616 : Int) ≤ nx; omega, by have := HTX.out.1; show (nx : Int) ≤ 70368744175616; omega, Nat.le_trans (leaf_size HTX.out.2) (by decide)⟩)
  have BY := hid (show Bd ((ny : Int), y) from ⟨by show (-70368744175616 : Int) ≤ ny; omega, by have := HUY.out.1; show (ny : Int) ≤ 70368744175616; omega, Nat.le_trans (leaf_size HUY.out.2) (by decide)⟩)
  go_wp2_with fail
  go_at_call 58
  refine (meet_any 0 0 ((nx : Int), x) ((ny : Int), y) ((nx : Int), x) ((ny : Int), y) V3 HS3.out.sol ⟨BX.out, rfl, rfl⟩ ⟨BY.out, rfl, rfl⟩ BX.out BY.out (by decide)).mono ?_
  intro e w5 hr
  rcases meet_uni (a := (nx, x)) (b := (ny, y)) HTX.out HUY.out HS3.out.sol hr with ⟨ho, rfl, hx5⟩ | ⟨o, σ, N, jp, ho, hos, hF, rfl, hk, hsol⟩
  · have HO := hid ho
    have HX5 := hid ((((XM.out.trans X1.out).trans X3.out)).trans hx5)
    clear hr hV3 s0 d0 d1 d2 d3 ho hx5
    go_wp2_with fail
    go_ret2
    rw [HO.out]
    exact ⟨_, 0, rfl, GsRd.none _ _ _, HX5.out⟩
  have HO := hid hos
  have HOO := hid ho
  have HF := hid hF
  have HK := hid hk
  have HSOL := hid hsol
  have HV5 := hid (hk.block' HV3.out (by have := HLT.out; omega))
  clear hr hk hsol hV3 s0 d0 d1 d2 d3 ho hos hF
  go_wp2_with fail
  go_loopw [10, 11] (fun gs le wr => ∃ j : Nat, j ≤ 26 ∧ le = .int .i32 (97 + j) ∧ Ext w5 wr ∧ GsAt' o jp j gs wr) (fun _ le _ => 26 - (intOf le - 97).toNat)
  case atStart => exact ⟨0, by omega, rfl, Ext.refl _, .inl ⟨by omega, rfl⟩⟩
  case round =>
    obtain ⟨j, hj, rfl, hx, hg⟩ := hrel
    have HX := hid hx
    have HG := hid hg
    have HJ := hid hj
    clear hx hg
    by_cases hlt : j < 26
    · have hle : ((97 : Int) + j ≤ 122) := by omega
      have HL := hid hlt
      obtain ⟨y', hy⟩ : ∃ y', Utf8.encode (97 + (j : Int)) = y' := ⟨_, rfl⟩
      have HY := hid hy
      have HSR := hid (HSOL.out.later HX.out)
      have s1 : wr.cell? ⟨w3.heap.size, 1, none⟩ = some (foundF b2) := cell_of (HX.out.block HV5.out) rfl
      have hw : IntKind.i32.wrap (97 + (j : Int) + 1) = 97 + (j : Int) + 1 := by rw [IntKind.wrap_i32]; omega
      by_cases h0 : j = jp
      · obtain ⟨q, hoq, hfq, hqn, hq1, hq2⟩ := HF.out.hit (by omega)
        rw [← h0] at hoq hfq hqn
        rw [show ltr j = y' from hy] at hoq hfq hqn
        have hg0 : u10 = .slice none 0 0 := by
          rcases HG.out with ⟨_, h1⟩ | ⟨h1, _⟩
          · exact h1
          · exact absurd h1 (by omega)
        subst hg0
        obtain ⟨qn, qz⟩ := q
        have HJ0 := hid h0
        have HOQ := hid hoq
        have HFQ := hid (show FndN σ 1 (0, y') ((qn : Int), qz) from hfq)
        have HQ1 := hid hq1
        have HQ2 := hid hq2
        have hn : (qz.toList == y'.toList) = false := by rw [beq_eq_false_iff_ne]; exact fun e => absurd (toList_inj e) hqn
        have hn2 : (qz.toList != y'.toList) = true := by rw [bne_iff_ne]; exact fun e => absurd (toList_inj e) hqn
        have HYS := hid (show y'.size ≤ 5 from hy ▸ ltr_size j hlt)
        clear h0 hoq hfq hqn hq1 hq2
        go_wp2_with fail
        go_at_call 57
        refine (found_any 1 (0, y') ((qn : Int), qz) wr HSR.out.map HSR.out.c2 HFQ.out).mono ?_
        rintro e w6 ⟨rfl, hx6⟩
        obtain ⟨V6, hV6⟩ : ∃ V6, w6.alloc (.cells #[.int .i64 qn, .string qz] 58) = V6 := ⟨_, rfl⟩
        have X6 := hid (show Ext wr V6 from hV6 ▸ hx6.trans (Ext.alloc _ _))
        obtain ⟨p0, p1⟩ := two_of (show V6.heap[w6.heap.size]? = some (.cells #[.int .i64 qn, .string qz] 58) from hV6 ▸ blk0 _ _)
        clear hx6 s1
        go_wp2_with fail
        go_at_call 37
        refine (sort_any qn qz V6 (by have := HQ1.out; omega) (by have := HQ2.out; omega)).mono ?_
        rintro e w7 ⟨v7, rfl, hr7, hx7, _⟩
        obtain ⟨a9, c9, rfl⟩ := hr7.shape
        have X7 := hid (X6.out.trans hx7)
        have HR7 := hid hr7
        obtain ⟨nm, hnm⟩ : ∃ nm, (chain qn qz).name = nm := ⟨_, rfl⟩
        obtain ⟨kl, hkl⟩ : ∃ kl, (chain qn qz).kids.length = kl := ⟨_, rfl⟩
        rw [hnm, hkl] at HR7 ⊢
        clear hr7 hx7 p0 p1 hV6 hnm hkl
        go_wp2_with (at_builtin; refine app_given rfl _ _ rfl rfl y' nm a9 kl c9 rfl (by first | rfl | (rw [blkS]; done) | (rw [blkS]; rfl)) ?_; intro g9 k9 w8 hc8 hx8)
        have hgs : GsRd (fun _ => True) w8 (qn + 1) (.slice (some ⟨g9, 0, none⟩) 1 k9) (uniL o) := by
          rw [HOQ.out]
          refine ⟨some ⟨g9, 0, none⟩, k9, rfl, by show 1 * 56 ≤ 140737488351232; decide, .inr ⟨g9, 0, rfl, trivial, fun i hi => ?_⟩⟩
          have hi0 : i = 0 := by
            have : i < 1 := hi
            omega
          subst hi0
          exact ⟨hc8.1, Nat.le_trans HYS.out (by decide), _, _, ⟨hc8.2.1, hc8.2.2⟩, (HR7.out.later hx8).mono (fun _ _ _ => trivial)⟩
        refine ⟨⟨j + 1, by have := HL.out; omega, by go_num, HX.out.trans (X7.out.trans hx8), .inr ⟨by have := HJ0.out; omega, by have := HJ0.out; have := HL.out; omega, _, hgs⟩⟩, ?_⟩
        have := HL.out
        show 26 - ((97 : Int) + j + 1 - 97).toNat < 26 - ((97 : Int) + j - 97).toNat
        omega
      · have HFj := hid (show FndN σ 0 (0, y') (0, y') from hy ▸ HF.out.idle j hlt h0)
        have HJ0 := hid h0
        clear h0
        go_wp2_with fail
        go_at_call 57
        refine (found_any 0 (0, y') (0, y') wr HSR.out.map HSR.out.c2 HFj.out).mono ?_
        rintro e w6 ⟨rfl, hx6⟩
        obtain ⟨V6, hV6⟩ : ∃ V6, w6.alloc (.cells #[.int .i64 0, .string y'] 58) = V6 := ⟨_, rfl⟩
        have X6 := hid (show Ext wr V6 from hV6 ▸ hx6.trans (Ext.alloc _ _))
        obtain ⟨p0, p1⟩ := two_of (show V6.heap[w6.heap.size]? = some (.cells #[.int .i64 0, .string y'] 58) from hV6 ▸ blk0 _ _)
        have hn : (y'.toList != y'.toList) = false := by simp
        clear hx6 s1
        go_wp2_with fail
        refine ⟨⟨j + 1, by have := HL.out; omega, by go_num, HX.out.trans X6.out, HG.out.up HJ0.out X6.out⟩, ?_⟩
        have := HL.out
        show 26 - ((97 : Int) + j + 1 - 97).toNat < 26 - ((97 : Int) + j - 97).toNat
        omega
    · have hj26 : j = 26 := by have := HJ.out; omega
      subst hj26
      have HE := hid (show ∃ dd, GsRd (fun _ => True) wr dd u10 (uniL o) by
        rcases HG.out with ⟨h1, h2⟩ | ⟨_, _, h3⟩
        · rw [h2, HF.out.void (by omega)]; exact ⟨0, GsRd.none _ _ _⟩
        · exact h3)
      have HN := hid (show uniN o = 0 by unfold uniN; rw [if_pos HO.out])
      clear hlt HG
      obtain ⟨dd, hdd⟩ := HE.out
      have HDD := hid hdd
      obtain ⟨ga, gc, rfl, _⟩ := hdd
      clear HE
      obtain ⟨ll, hll⟩ : ∃ ll, (uniL o).length = ll := ⟨_, rfl⟩
      rw [hll] at HDD ⊢
      clear hll
      go_wp2_with fail
      go_ret2
      rw [HOO.out]
      refine ⟨_, dd, by rw [HN.out]; rfl, HDD.out, ?_⟩
      exact (Kp.extOf ((XM.out.trans X1.out).trans X3.out) HK.out (Nat.le_trans (XM.out.trans X1.out).size HS3.out.ge.2.1)).trans HX.out
set_option maxRecDepth 100000 in
theorem unify_bad {K K' : Nat → Prop} {d d' : Nat} {v v' : Value} {t u : S} {n1 n2 : Int} {x1 x2 : ByteArray} (w : World) (h : SRd K w d v t) (h' : SRd K' w d' v' u) (hs : shsV t u = .tuple #[.agg #[.int .i64 n1, .string x1], .agg #[.int .i64 n2, .string x2], .int .i64 14]) : Calls Tryd.prog 14 #[v, v'] w (UniR w none) := by
  obtain ⟨a, c, rfl⟩ := h.shape
  obtain ⟨a', c', rfl⟩ := h'.shape
  have C1 := hid (fun w1 (hx : Ext w w1) => shapesOf_any w1 (h.later hx) (h'.later hx))
  rw [hs] at C1
  clear h h' hs
  generalize t.name = nt at *
  generalize t.kids.length = kt at *
  generalize u.name = nu at *
  generalize u.kids.length = ku at *
  go_enter Tryd.func14, Tryd.ntmps14
  go_wp2_with fail
  go_at_call 38
  refine (C1.out _ (Ext.alloc2 _ _ _)).mono ?_
  rintro e w1 ⟨rfl, hx1⟩
  have HX := hid (((Ext.alloc2 w _ _).trans hx1).trans (Ext.alloc2 w1 (.cells #[.int .i64 n1, .string x1] 58) (.cells #[.int .i64 n2, .string x2] 58)))
  clear hx1
  go_wp2_with fail
  go_ret2
  exact ⟨_, 0, rfl, GsRd.none _ _ _, HX.out⟩
theorem unify_any {K K' : Nat → Prop} {d d' : Nat} {v v' : Value} {t u : S} (w : World) (h : SRd K w d v t) (h' : SRd K' w d' v' u) : Calls Tryd.prog 14 #[v, v'] w (UniR w (uniT t u)) := by
  cases ht : shp t with
  | none =>
    have e : uniT t u = none := by unfold uniT; rw [ht]
    rw [e]
    exact unify_bad w h h' (by unfold shsV; rw [ht])
  | some a =>
    obtain ⟨nx, x⟩ := a
    cases hu : shp u with
    | none =>
      have e : uniT t u = none := by unfold uniT; rw [ht, hu]
      rw [e]
      exact unify_bad w h h' (by unfold shsV; rw [ht, hu])
    | some b =>
      obtain ⟨ny, y⟩ := b
      have e : uniT t u = uniS (nx, x) (ny, y) := by unfold uniT; rw [ht, hu]
      rw [e]
      exact unify_two w h h' ht hu
end Go.Proofs.YtllbelglilkdpaaDoor
