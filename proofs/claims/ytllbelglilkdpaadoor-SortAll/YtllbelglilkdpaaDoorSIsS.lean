/-
  Of of package sort, in general, by a contract.
-/
import Derived.Test.YtllbelglilkdpaaDoorSOfG
import Derived.Test.YtllbelglilkdpaaDoorSOfF
import Derived.Test.YtllbelglilkdpaaDoorSApply
namespace Go.Proofs.YtllbelglilkdpaaDoor
open Go.RowKit
/-- What of told. -/
def OfF (t : T) (n : Nat) (z : ByteArray) (b : Bool) : Prop := (b = false → srt t = none) ∧ (b = true → n ≤ 64 ∧ ∃ g, srt t = some (n, g) ∧ (∀ y, g = some y → z = y ∧ grdL y.data.toList = true ∧ y.size ≤ 5) ∧ (g = none → grdL z.data.toList = false))
/-- What Of comes to. -/
def ofS (t : T) : Int × S := if t.may then match srt t with
    | none => (14, .node ⟨#[]⟩ [])
    | some a => (0, chain a.1 (a.2.getD ⟨#[97]⟩))
  else (1, .node ⟨#[]⟩ [])
theorem ext_k2 {M w w' : World} {mb b5 : Nat} (h : Ext M w) (hk : Kp (K2 mb b5) w w') (h1 : M.heap.size ≤ mb) (h2 : M.heap.size ≤ b5) : Ext M w' := Kp.ext ((h.kp (K2 mb b5)).trans hk) (fun k hk => ⟨by omega, by omega⟩)
theorem inv_nil : Inv (fun _ => none) 0 := ⟨fun _ _ h => (by cases h), fun _ _ h => (by cases h)⟩
theorem of_one {K : Nat → Prop} {d : Nat} {v : Value} {t : T} (w : World) {B kb mb b1 b2 b3 b5 : Nat} (hr : Rd K w d v t) (hK : ∀ k, K k → K2 mb b5 k) (hs : Solv w B kb mb 0 b1 b2 b3 b5 0 (fun _ => none)) (ht : t.may) (hG : Laid w) (hB : 2 ≤ B) :
    Calls Tryd.prog 43 #[.agg #[meetF b3 b1, foundF b2, freshF b5], v] w fun e w' => ∃ n z b, e = .returned (.tuple #[.agg #[.int .i64 ((n : Nat) : Int), .string z], .bool b]) ∧ Kp (K2 mb b5) w w' ∧ OfF t n z b := by
  have h1 := ht.2.1
  have h2 := ht.2.2
  refine (of_any d v t K w B kb mb 0 b1 b2 b3 b5 0 _ hr hK hs inv_nil (by omega) (by omega) h2 hG hB).mono ?_
  rintro e w' ⟨hk, ⟨hn, rfl⟩ | ⟨a, X, l', N', σ', hsa, rfl, _, _, _, _, _, _, _, hrt⟩⟩
  · exact ⟨0, ⟨#[]⟩, false, rfl, hk, fun _ => hn, fun h => by cases h⟩
  · have hok := srt_ok t a hsa
    have ha1 : X.1 = a.1 := hrt.1
    refine ⟨X.1, X.2, true, rfl, hk, (fun h => by cases h), fun _ => ⟨by have := hok.1; omega, a.2, by rw [hsa, ha1], fun y hy => ?_, fun hy => ?_⟩⟩
    · obtain ⟨an, ag⟩ := a
      have hy' : ag = some y := hy
      subst hy'
      exact ⟨hrt.2.1, hrt.2.2, (hok.2 y rfl).2⟩
    · obtain ⟨an, ag⟩ := a
      have hy' : ag = none := hy
      subst hy'
      exact isFr.grd hrt.2
set_option maxRecDepth 100000 in
set_option maxHeartbeats 4000000 in
theorem ofS_any {K : Nat → Prop} {d : Nat} {v : Value} {t : T} (w : World) (hr : Rd K w d v t) (hG : Laid w) : Calls Tryd.prog 17 #[v] w (ApR w (ofS t)) := by
  obtain ⟨p0, p1, p2, p3, rfl⟩ := hr.agg
  obtain ⟨k, n, x, a, c, rfl, rfl, rfl, rfl⟩ := hr.shape
  have HRL := hid hr.low
  have HMAY := hid (fun w1 (hx : Ext w w1) => may_any w1 (hr.later hx))
  have HG := hid hG
  clear hr hG
  generalize t.kids.length = kl at *
  obtain ⟨M, hM⟩ : ∃ M, (w.alloc (.cells #[.int .i64 k, .int .i64 n, .string x, .slice a kl c] 31)).alloc (.cells #[.string ⟨#[]⟩, .slice none 0 0] 27) = M := ⟨_, rfl⟩
  have XM := hid (show Ext w M from hM ▸ Ext.alloc2 _ _ _)
  have HM0 := hid (show M.heap[w.heap.size]? = some (.cells #[.int .i64 k, .int .i64 n, .string x, .slice a kl c] 31) from hM ▸ blkOld _ (blk0 _ _))
  have HM1 := hid (show M.heap[w.heap.size + 1]? = some (.cells #[.string ⟨#[]⟩, .slice none 0 0] 27) from hM ▸ blk1 _ _ _)
  have HC := hid (show ∀ W', Ext M W' → (Ext M W' ∧ W'.cell? ⟨w.heap.size, 0, none⟩ = some (.int .i64 k) ∧ W'.cell? ⟨w.heap.size, 1, none⟩ = some (.int .i64 n) ∧ W'.cell? ⟨w.heap.size, 2, none⟩ = some (.string x) ∧ W'.cell? ⟨w.heap.size, 3, none⟩ = some (.slice a kl c)) from fun W' X => ⟨X, cell_of (X.block HM0.out) rfl, cell_of (X.block HM0.out) rfl, cell_of (X.block HM0.out) rfl, cell_of (X.block HM0.out) rfl⟩)
  obtain ⟨_, a0, a1, a2, a3⟩ := HC.out M (Ext.refl _)
  obtain ⟨B, hB⟩ : ∃ B, decide t.may = B := ⟨_, rfl⟩
  rw [hB] at HMAY
  go_enter Tryd.func17, Tryd.ntmps17
  go_wp2_with fail
  go_at_call 42
  refine (HMAY.out M XM.out).mono ?_
  rintro e w1 ⟨rfl, hx1⟩
  clear hM a0 a1 a2 a3
  have X1 := hid hx1
  clear hx1
  cases B with
  | false =>
    have HO := hid (show ofS t = (1, .node ⟨#[]⟩ []) by unfold ofS; rw [if_neg (of_decide_eq_false hB)])
    clear hB
    have HR1 := hid (X1.out.block HM1.out)
    obtain ⟨f0, f1⟩ := two_free HR1.out
    obtain ⟨r0, r1⟩ := two_of HR1.out
    go_wp2_with fail
    obtain ⟨z0, z1⟩ := two_of (two_set (u0 := .string ⟨#[]⟩) (u1 := .slice none 0 0) HR1.out)
    refine bodyPost_ret (v := .tuple #[.agg #[.string ⟨#[]⟩, .slice none 0 0], .int .i64 1]) (by simp [results, Tryd.results17, go_sem, z0, z1]) rfl ?_
    rw [HO.out]
    exact ⟨_, 1, rfl, srd_nil _, Kp.extOf (XM.out.trans X1.out) (Kp.set2 w1 (w.heap.size + 1) 0 _ _) (by omega)⟩
  | true =>
  have HT := hid (of_decide_eq_true hB)
  clear hB
  have HO := hid (show ofS t = match srt t with
      | none => (14, .node ⟨#[]⟩ [])
      | some a => (0, chain a.1 (a.2.getD ⟨#[97]⟩)) by unfold ofS; rw [if_pos HT.out])
  obtain ⟨_, a0, a1, a2, a3⟩ := HC.out w1 X1.out
  go_upto_region 3 with fail
  go_cut [4, 5] (fun s4 s5 wx => ∃ q n z b, s4 = .pointer (some ⟨q, 0, none⟩) ∧ s5 = .bool b ∧ M.heap.size ≤ q ∧ wx.heap[q]? = some (.cells #[.int .i64 ((n : Nat) : Int), .string z] 58) ∧ Ext M wx ∧ OfF t n z b)
  case first =>
    go_region_held3 (fun W' => Ext M W' ∧ W'.cell? ⟨w.heap.size, 0, none⟩ = some (.int .i64 k) ∧ W'.cell? ⟨w.heap.size, 1, none⟩ = some (.int .i64 n) ∧ W'.cell? ⟨w.heap.size, 2, none⟩ = some (.string x) ∧ W'.cell? ⟨w.heap.size, 3, none⟩ = some (.slice a kl c)) (first
      | exact HC.out _ (X1.out.drew)
      | exact HC.out _ Z2
      | exact HC.out _ Z3
      | exact HC.out _ (X1.out.drew.trans (Ext.alloc _ _))
      | exact HC.out _ (Z2.trans (Ext.alloc _ _))
      | exact HC.out _ (Z3.trans (Ext.alloc _ _))
      | exact HC.out _ (ext_set (ext_set Z3 X1.out.size) X1.out.size)
      | exact HC.out _ (ext_set (ext_set Z3 Z2.size) Z2.size)
      | exact HC.out _ (ext_set (ext_set (Z3.trans (Ext.alloc _ _)) Z3.size) Z3.size)) (first
      | (go_at_call 39; have ZS := (‹Ext M _ ∧ _›).1.size; refine (newSolver_any _).mono ?_; rintro e w2 ⟨kb, mb, b1, b2, b3, b5, rfl, hx2, hs2⟩; have Z2 : Ext M w2 := (‹Ext M _ ∧ _›).1.trans hx2; (try (have zz := hid (show w2.heap[w1.heap.size]? = some (.cells #[.int .i64 0, .string ⟨#[]⟩] 58) from hx2.block (blk0 _ (.cells #[.int .i64 0, .string ⟨#[]⟩] 58))))); (try (have _ := zz.out; have zq := hid (show K2 mb b5 w1.heap.size by have h1 := hs2.ge.2.2.2.2.2; have h1' := hs2.ge.2.1; have h2 : w1.drew.heap.size + 1 ≤ b5 := by { rw [← blkS w1.drew (.cells #[.int .i64 0, .string ⟨#[]⟩] 58)]; exact h1 }; have h2' : w1.drew.heap.size + 1 ≤ mb := by { rw [← blkS w1.drew (.cells #[.int .i64 0, .string ⟨#[]⟩] 58)]; exact h1' }; have h3 : w1.heap.size + 1 ≤ b5 := h2; have h3' : w1.heap.size + 1 ≤ mb := h2'; exact ⟨Nat.ne_of_lt h3', Nat.ne_of_lt h3⟩))); have ZB := hid (show M.heap.size ≤ mb ∧ M.heap.size ≤ b5 from ⟨Nat.le_trans ZS hs2.ge.2.1, Nat.le_trans ZS hs2.ge.2.2.2.2.2⟩); have HS2 := hid hs2; have HGE := hid ZS; clear hx2 ZS hs2)
      | (go_at_call 43; refine (of_one _ (HRL.out.later (XM.out.trans (‹Ext M _ ∧ _›).1)) (fun k hk => ⟨by have h1 := ZB.out.1; have h2 := XM.out.size; have h3 : k < w.heap.size := hk; omega, by have h1 := ZB.out.2; have h2 := XM.out.size; have h3 : k < w.heap.size := hk; omega⟩) (HS2.out.later (by first | exact Ext.refl _ | exact Ext.alloc _ _)) HT.out (HG.out.later (XM.out.trans (‹Ext M _ ∧ _›).1)) (by have h1 := HG.out.lt; have h2 := XM.out.size; have h3 := HGE.out; omega)).mono ?_; rintro e w3 ⟨nn, zz', bb, rfl, hx3, hof⟩; have Z3 : Ext M w3 := ext_k2 (‹Ext M _ ∧ _›).1 hx3 ZB.out.1 ZB.out.2; have HOF := hid hof; clear hof; (try (have z3 := hx3.block' (blk0 _ (.cells #[.int .i64 0, .string ⟨#[]⟩] 58)) (by have h1 := lt_of_block HS2.out.c5; have h2 := HS2.out.sol.map.lt.2; exact ⟨by omega, by omega⟩); obtain ⟨y0, y1⟩ := two_of z3; obtain ⟨y2, y3⟩ := two_free z3)); (try (have z3 := hx3.block' zz.out zq.out; obtain ⟨y0, y1⟩ := two_of z3; obtain ⟨y2, y3⟩ := two_free z3))))
    all_goals
      go_wp2_with fail
      go_meet
      case rel =>
        first
          | exact ⟨_, nn, zz', bb, rfl, rfl, X1.out.size, two_set z3, ext_set (ext_set Z3 X1.out.size) X1.out.size, HOF.out⟩
          | exact ⟨_, nn, zz', bb, rfl, rfl, Z2.size, two_set z3, ext_set (ext_set Z3 Z2.size) Z2.size, HOF.out⟩
          | exact ⟨_, nn, zz', bb, rfl, rfl, Z3.size, blk0 _ _, Z3.trans (Ext.alloc _ _), HOF.out⟩
          | exact ⟨_, nn, zz', bb, rfl, rfl, Z3.size, two_set (blk0 _ _), ext_set (ext_set (Z3.trans (Ext.alloc _ _)) Z3.size) Z3.size, HOF.out⟩
  case rest =>
  obtain ⟨q, nn, z, b, rfl, rfl, hq, hb, hx, hof⟩ := hcut
  obtain ⟨V, hV⟩ : ∃ V, V = wc := ⟨wc, rfl⟩
  subst hV
  have HQ := hid hq
  have HB := hid hb
  have HX := hid hx
  clear a0 a1 a2 a3 hq hb hx
  cases b with
  | false =>
    have HSG := hid (hof.1 rfl)
    clear hof
    have HR1 := hid (HX.out.block HM1.out)
    obtain ⟨f0, f1⟩ := two_free HR1.out
    obtain ⟨r0, r1⟩ := two_of HR1.out
    go_wp2_with fail
    obtain ⟨z0, z1⟩ := two_of (two_set (u0 := .string ⟨#[]⟩) (u1 := .slice none 0 0) HR1.out)
    refine bodyPost_ret (v := .tuple #[.agg #[.string ⟨#[]⟩, .slice none 0 0], .int .i64 14]) (by simp [results, Tryd.results17, go_sem, z0, z1]) rfl ?_
    rw [HO.out, HSG.out]
    exact ⟨_, 1, rfl, srd_nil _, Kp.extOf (XM.out.trans HX.out) (Kp.set2 V (w.heap.size + 1) 0 _ _) (by omega)⟩
  | true =>
  obtain ⟨hn64, g, hsg, hg1, hg2⟩ := hof.2 rfl
  have HN64 := hid hn64
  clear hof hn64
  have HGR := hid (fun w1 => ground_any z w1)
  obtain ⟨c0, c1⟩ := two_of HB.out
  obtain ⟨c2, c3⟩ := two_free HB.out
  cases g with
  | some y =>
    obtain ⟨rfl, hgy, hys⟩ := hg1 y rfl
    rw [hgy] at HGR
    have HYS := hid hys
    have HSG := hid hsg
    clear hg1 hg2 hgy hys hsg
    go_wp2_with fail
    go_at_call 35
    refine (HGR.out V).mono ?_
    rintro e w9 ⟨rfl, hw9⟩
    rw [hw9]
    clear hw9 w9
    go_wp2_with fail
    go_at_call 37
    refine (sort_any nn z V (by have := HN64.out; omega) (Nat.le_trans HYS.out (by decide))).mono ?_
    rintro e w6 ⟨v', rfl, hr6, hx6, _⟩
    clear c0 c1 c2 c3
    obtain ⟨a9, c9, rfl⟩ := hr6.shape
    obtain ⟨nm, hnm⟩ : ∃ nm, (chain nn z).name = nm := ⟨_, rfl⟩
    obtain ⟨kk, hkk⟩ : ∃ kk, (chain nn z).kids.length = kk := ⟨_, rfl⟩
    rw [hnm, hkk] at hr6 ⊢
    clear hnm hkk
    have R6 := hid hr6
    have X6 := hid (HX.out.trans hx6)
    clear hr6 hx6
    have H6 := hid (X6.out.block HM1.out)
    obtain ⟨d0, d1⟩ := two_of H6.out
    obtain ⟨d2, d3⟩ := two_free H6.out
    go_wp2_with fail
    obtain ⟨z0, z1⟩ := two_of (two_set (u0 := .string nm) (u1 := .slice a9 kk c9) H6.out)
    refine bodyPost_ret (v := .tuple #[.agg #[.string nm, .slice a9 kk c9], .int .i64 0]) (by simp [results, Tryd.results17, go_sem, z0, z1]) rfl ?_
    rw [HO.out, HSG.out]
    have hlt := lt_of_block HM1.out
    have hsz := HX.out.size
    refine ⟨_, nn + 1, rfl, ?_, Kp.extOf (XM.out.trans X6.out) (Kp.set2 w6 (w.heap.size + 1) 0 _ _) (by omega)⟩
    exact (R6.out.keep ((Kp.set2 w6 (w.heap.size + 1) 0 (.string nm) (.slice a9 kk c9)).mono (fun k _ (hk : V.heap.size ≤ k) => by show k ≠ _; omega))).mono (fun k _ (hk : V.heap.size ≤ k) => Nat.le_trans (XM.out.trans HX.out).size hk)
  | none =>
    have hgz := hg2 rfl
    rw [hgz] at HGR
    have HSG := hid hsg
    clear hg1 hg2 hgz hsg
    obtain ⟨U, hU⟩ : ∃ U, V.setCell ⟨q, 1, none⟩ (.string ⟨#[97]⟩) = U := ⟨_, rfl⟩
    have HBU := hid (show U.heap[q]? = some (.cells #[.int .i64 ((nn : Nat) : Int), .string ⟨#[97]⟩] 58) from hU ▸ set_at HB.out 1 (.string ⟨#[97]⟩))
    have HXU := hid (show Ext M U from hU ▸ ext_set HX.out HQ.out)
    obtain ⟨u0, u1⟩ := two_of HBU.out
    go_wp2_with fail
    go_at_call 35
    refine (HGR.out V).mono ?_
    rintro e w9 ⟨rfl, hw9⟩
    rw [hw9]
    clear hw9 w9
    go_wp2_with fail
    go_at_call 37
    refine (sort_any nn ⟨#[97]⟩ U (by have := HN64.out; omega) (by decide)).mono ?_
    rintro e w6 ⟨v', rfl, hr6, hx6, _⟩
    clear hU c0 c1 c2 c3 u0 u1
    obtain ⟨a9, c9, rfl⟩ := hr6.shape
    obtain ⟨nm, hnm⟩ : ∃ nm, (chain nn ⟨#[97]⟩).name = nm := ⟨_, rfl⟩
    obtain ⟨kk, hkk⟩ : ∃ kk, (chain nn ⟨#[97]⟩).kids.length = kk := ⟨_, rfl⟩
    rw [hnm, hkk] at hr6 ⊢
    clear hnm hkk
    have R6 := hid hr6
    have X6 := hid (HXU.out.trans hx6)
    clear hr6 hx6
    have H6 := hid (X6.out.block HM1.out)
    obtain ⟨d0, d1⟩ := two_of H6.out
    obtain ⟨d2, d3⟩ := two_free H6.out
    go_wp2_with fail
    obtain ⟨z0, z1⟩ := two_of (two_set (u0 := .string nm) (u1 := .slice a9 kk c9) H6.out)
    refine bodyPost_ret (v := .tuple #[.agg #[.string nm, .slice a9 kk c9], .int .i64 0]) (by simp [results, Tryd.results17, go_sem, z0, z1]) rfl ?_
    rw [HO.out, HSG.out]
    have hlt := lt_of_block HM1.out
    have hsz := HXU.out.size
    refine ⟨_, nn + 1, rfl, ?_, Kp.extOf (XM.out.trans X6.out) (Kp.set2 w6 (w.heap.size + 1) 0 _ _) (by omega)⟩
    exact (R6.out.keep ((Kp.set2 w6 (w.heap.size + 1) 0 (.string nm) (.slice a9 kk c9)).mono (fun k _ (hk : U.heap.size ≤ k) => by show k ≠ _; omega))).mono (fun k _ (hk : U.heap.size ≤ k) => Nat.le_trans (XM.out.trans HXU.out).size hk)
end Go.Proofs.YtllbelglilkdpaaDoor
/-
  Is of package sort, in general, by a contract.
-/
namespace Go.Proofs.YtllbelglilkdpaaDoor
open Go.RowKit
/-- A name that is ground, or none. -/
def grO (x : ByteArray) : Option ByteArray := if grdL x.data.toList = true then some x else none
/-- What Is comes to. -/
def isS (t : T) (u : S) : Bool := match shp u with
  | none => false
  | some b => if t.may then match srt t with
      | none => false
      | some a => (uniA a (b.1, grO b.2)).isSome
    else false
theorem is_uni {l : Nat} {a : Nat × Option ByteArray} {X W : Nat × ByteArray} (hr : Rt 0 l a X) (hw : leafL W.2.data.toList = true) : (uniS X W).isSome = (uniA a (W.1, grO W.2)).isSome := by
  obtain ⟨Xn, Xz⟩ := X
  obtain ⟨Wn, Wz⟩ := W
  have hw' : leafL Wz.data.toList = true := hw
  have hne : Xz = Wz → grdL Xz.data.toList = true := fun e => by
    rcases hr.val with h | h
    · exact h
    · obtain ⟨i, _, _, h⟩ := h
      have h' : Xz = frB i := h
      rw [← e, h', frB_leaf] at hw'
      cases hw'
  have gT : ∀ {y : ByteArray}, grdL y.data.toList = true → grO y = some y := fun h => if_pos h
  have gF : ∀ {y : ByteArray}, grdL y.data.toList = false → grO y = none := fun {y} h => if_neg (by rw [h]; intro h; cases h)
  show (uniS (Xn, Xz) (Wn, Wz)).isSome = (uniA a (Wn, grO Wz)).isSome
  rcases uniS_gen (Xn, Xz) (Wn, Wz) with ⟨g1, g2⟩ | ⟨k, q, m, g1, hkg, hqk, hor⟩ | ⟨g1, hor⟩
  · obtain ⟨e1, e2⟩ := Prod.mk.inj g2
    have hg := hne e2
    rw [g1, hr.gr hg, gT (by rw [← e2]; exact hg)]
    show true = (if Xn = Wn ∧ Xz = Wz then some (Xn, some Xz) else none).isSome
    rw [if_pos ⟨e1, e2⟩]
    rfl
  · rw [g1]
    obtain ⟨qn, qx⟩ := q
    rcases hor with ⟨c1, c2⟩ | ⟨c1, c2⟩
    · obtain ⟨e1, e2⟩ := Prod.mk.inj c1
      obtain ⟨e3, e4⟩ := Prod.mk.inj c2
      have hkg' : grdL Xz.data.toList = false := by rw [e2]; exact hkg
      rw [(hr.fr hkg').2]
      cases gb : grdL Wz.data.toList with
      | true =>
        rw [gT gb]
        show true = (if Xn ≤ Wn then some (Wn, some Wz) else none).isSome
        rw [if_pos (by omega)]
        rfl
      | false => rw [gF gb]; rfl
    · obtain ⟨e1, e2⟩ := Prod.mk.inj c1
      obtain ⟨e3, e4⟩ := Prod.mk.inj c2
      have hkg' : grdL Wz.data.toList = false := by rw [e2]; exact hkg
      rw [gF hkg']
      cases ga : grdL Xz.data.toList with
      | true =>
        rw [hr.gr ga]
        show true = (if Wn ≤ Xn then some (Xn, some Xz) else none).isSome
        rw [if_pos (by omega)]
        rfl
      | false => rw [(hr.fr ga).2]; rfl
  · rw [g1]
    rcases hor with ⟨e1, e2⟩ | ⟨e1, e2, e3⟩
    · have e1' : Xz = Wz := e1
      have e2' : Xn ≠ Wn := e2
      have hg := hne e1'
      rw [hr.gr hg, gT (by rw [← e1']; exact hg)]
      show false = (if Xn = Wn ∧ Xz = Wz then some (Xn, some Xz) else none).isSome
      rw [if_neg (fun h => e2' h.1)]
      rfl
    · have e2' : Xn ≤ Wn → grdL Xz.data.toList = true := e2
      have e3' : Wn ≤ Xn → grdL Wz.data.toList = true := e3
      cases ga : grdL Xz.data.toList with
      | true =>
        rw [hr.gr ga]
        cases gb : grdL Wz.data.toList with
        | true =>
          rw [gT gb]
          show false = (if Xn = Wn ∧ Xz = Wz then some (Xn, some Xz) else none).isSome
          rw [if_neg (fun h => e1 (Prod.ext h.1 h.2))]
          rfl
        | false =>
          rw [gF gb]
          show false = (if Wn ≤ Xn then some (Xn, some Xz) else none).isSome
          rw [if_neg (fun h => by have := e3' h; rw [gb] at this; cases this)]
          rfl
      | false =>
        rw [(hr.fr ga).2]
        cases gb : grdL Wz.data.toList with
        | true =>
          rw [gT gb]
          show false = (if Xn ≤ Wn then some (Wn, some Wz) else none).isSome
          rw [if_neg (fun h => by have := e2' h; rw [ga] at this; cases this)]
          rfl
        | false =>
          exfalso
          rcases Nat.le_total Xn Wn with h | h
          · have := e2' h; rw [ga] at this; cases this
          · have := e3' h; rw [gb] at this; cases this
theorem inv_leaf {σ : ByteArray → Option Sh} {l : Nat} (h : Inv σ l) {z : ByteArray} (hz : leafL z.data.toList = true) : σ z = none := by
  cases e : σ z with
  | none => rfl
  | some s =>
    obtain ⟨i, _, _, h3⟩ := h.keys z s e
    rw [h3, frB_leaf] at hz
    cases hz
/-- What Is answers. -/
def IsR (w : World) (b : Bool) (e : Ending) (w' : World) : Prop := e = .returned (.bool b) ∧ Ext w w'
set_option maxRecDepth 100000 in
set_option maxHeartbeats 4000000 in
theorem isS_any {K K' : Nat → Prop} {d d' : Nat} {v v' : Value} {t : T} {u : S} (w : World) (hr : Rd K w d v t) (hs : SRd K' w d' v' u) (hG : Laid w) : Calls Tryd.prog 18 #[v, v'] w (IsR w (isS t u)) := by
  obtain ⟨p0, p1, p2, p3, rfl⟩ := hr.agg
  obtain ⟨k, n, x, a, c, rfl, rfl, rfl, rfl⟩ := hr.shape
  obtain ⟨a', c', rfl⟩ := hs.shape
  have HRL := hid hr.low
  have HMAY := hid (fun w1 (hx : Ext w w1) => may_any w1 (hr.later hx))
  have HSF := hid (fun w1 (hx : Ext w w1) => shapeOf_any w1 (hs.later hx))
  have HG := hid hG
  clear hr hG hs
  generalize t.kids.length = kl at *
  generalize u.name = nu at *
  generalize u.kids.length = ku at *
  obtain ⟨R, hR⟩ : ∃ R, isS t u = R := ⟨_, rfl⟩
  rw [hR]
  have HRR := hid hR
  clear hR
  obtain ⟨M, hM⟩ : ∃ M, (w.alloc (.cells #[.int .i64 k, .int .i64 n, .string x, .slice a kl c] 31)).alloc (.cells #[.string nu, .slice a' ku c'] 27) = M := ⟨_, rfl⟩
  have XM := hid (show Ext w M from hM ▸ Ext.alloc2 _ _ _)
  have HM0 := hid (show M.heap[w.heap.size]? = some (.cells #[.int .i64 k, .int .i64 n, .string x, .slice a kl c] 31) from hM ▸ blkOld _ (blk0 _ _))
  have HM1 := hid (show M.heap[w.heap.size + 1]? = some (.cells #[.string nu, .slice a' ku c'] 27) from hM ▸ blk1 _ _ _)
  have HC := hid (show ∀ W', Ext M W' → (W'.cell? ⟨w.heap.size, 0, none⟩ = some (.int .i64 k) ∧ W'.cell? ⟨w.heap.size, 1, none⟩ = some (.int .i64 n) ∧ W'.cell? ⟨w.heap.size, 2, none⟩ = some (.string x) ∧ W'.cell? ⟨w.heap.size, 3, none⟩ = some (.slice a kl c)) from fun W' X => ⟨cell_of (X.block HM0.out) rfl, cell_of (X.block HM0.out) rfl, cell_of (X.block HM0.out) rfl, cell_of (X.block HM0.out) rfl⟩)
  obtain ⟨m0, m1⟩ := two_of HM1.out
  cases hsu : shp u with
  | none =>
    have HR0 := hid (show R = false by rw [← HRR.out]; unfold isS; rw [hsu])
    rw [hsu] at HSF
    have hv : shpV none = .tuple #[.agg #[.int .i64 0, .string ⟨#[]⟩], .int .i64 14] := rfl
    rw [hv] at HSF
    clear hsu hv
    go_enter Tryd.func18, Tryd.ntmps18
    go_wp2_with fail
    go_at_call 32
    refine (HSF.out M XM.out).mono ?_
    rintro e w1 ⟨rfl, hx1⟩
    have X1 := hid (XM.out.trans (hx1.trans (Ext.alloc w1 (.cells #[.int .i64 0, .string ⟨#[]⟩] 58))))
    clear hM m0 m1 hx1
    go_wp2_with fail
    go_ret
    exact ⟨by rw [HR0.out]; rfl, X1.out⟩
  | some b =>
    obtain ⟨wn, wx⟩ := b
    rw [hsu] at HSF
    have hv : shpV (some (wn, wx)) = .tuple #[.agg #[.int .i64 wn, .string wx], .int .i64 0] := rfl
    rw [hv] at HSF
    have HLE := hid (shp_le hsu)
    have HR0 := hid (show R = if t.may then (match srt t with
        | none => false
        | some a => (uniA a (wn, grO wx)).isSome)
      else false by rw [← HRR.out]; unfold isS; rw [hsu])
    clear hsu hv
    obtain ⟨B, hB⟩ : ∃ B, decide t.may = B := ⟨_, rfl⟩
    rw [hB] at HMAY
    go_enter Tryd.func18, Tryd.ntmps18
    go_wp2_with fail
    go_at_call 32
    refine (HSF.out M XM.out).mono ?_
    rintro e w1 ⟨rfl, hx1⟩
    clear hM m0 m1
    obtain ⟨V1, hV1⟩ : ∃ V, w1.alloc (.cells #[.int .i64 wn, .string wx] 58) = V := ⟨_, rfl⟩
    have X1 := hid (show Ext M V1 from hV1 ▸ hx1.trans (Ext.alloc _ _))
    have HW1 := hid (show V1.heap[w1.heap.size]? = some (.cells #[.int .i64 wn, .string wx] 58) from hV1 ▸ blk0 _ _)
    clear hx1
    obtain ⟨a0, a1, a2, a3⟩ := HC.out V1 X1.out
    go_wp2_with fail
    clear hV1
    go_at_call 42
    refine (HMAY.out V1 (XM.out.trans X1.out)).mono ?_
    rintro e w2 ⟨rfl, hx2⟩
    have X2 := hid (X1.out.trans hx2)
    have HW2 := hid (hx2.block HW1.out)
    clear hx2 a0 a1 a2 a3
    cases B with
    | false =>
      have HR1 := hid (show R = false by rw [HR0.out, if_neg (of_decide_eq_false hB)])
      clear hB
      go_wp2_with fail
      go_ret
      exact ⟨by rw [HR1.out]; rfl, XM.out.trans X2.out⟩
    | true =>
    have HT := hid (of_decide_eq_true hB)
    rw [if_pos HT.out] at HR0
    clear hB
    obtain ⟨a0, a1, a2, a3⟩ := HC.out w2 X2.out
    go_wp2_with fail
    go_at_call 39
    refine (newSolver_any w2).mono ?_
    rintro e w3 ⟨kb, mb, b1, b2, b3, b5, rfl, hx3, hs3⟩
    obtain ⟨V3, hV3⟩ : ∃ V3, w3.alloc (.cells #[meetF b3 b1, foundF b2, freshF b5] 72) = V3 := ⟨_, rfl⟩
    have Y3 := hid (show Ext w2 V3 from hV3 ▸ hx3.trans (Ext.alloc _ _))
    have X3 := hid (X2.out.trans Y3.out)
    have HS3 := hid (show Solv V3 w2.heap.size kb mb 0 b1 b2 b3 b5 0 (fun _ => none) from hs3.later (hV3 ▸ Ext.alloc _ _))
    have HV3 := hid (show V3.heap[w3.heap.size]? = some (.cells #[meetF b3 b1, foundF b2, freshF b5] 72) from hV3 ▸ blk0 _ _)
    have HLT := hid (show mb < w3.heap.size ∧ b5 < w3.heap.size from ⟨hs3.sol.map.lt.2, lt_of_block hs3.c5⟩)
    have HW3 := hid (Y3.out.block HW2.out)
    clear hx3 hs3 a0 a1 a2 a3
    obtain ⟨a0, a1, a2, a3⟩ := HC.out V3 X3.out
    have s0 := cell_of (i := 0) HV3.out rfl
    have s1 := cell_of (i := 1) HV3.out rfl
    have s2 := cell_of (i := 2) HV3.out rfl
    simp only [List.getElem_toArray, List.getElem_cons_zero, List.getElem_cons_succ] at s0 s1 s2
    have HGE := hid (show w2.heap.size ≤ mb ∧ w2.heap.size ≤ b5 from ⟨HS3.out.ge.2.1, HS3.out.ge.2.2.2.2.2⟩)
    have C5 := hid (of_any d (.agg #[.int .i64 k, .int .i64 n, .string x, .slice a kl c]) t (fun q => q < w.heap.size) V3 w2.heap.size kb mb 0 b1 b2 b3 b5 0 _ (HRL.out.later (XM.out.trans X3.out)) (fun q (hq : q < w.heap.size) => ⟨by have h1 := HGE.out.1; have h2 := (XM.out.trans X2.out).size; omega, by have h1 := HGE.out.2; have h2 := (XM.out.trans X2.out).size; omega⟩) HS3.out inv_nil (by have := HT.out.2.1; omega) (by have := HT.out.2.1; omega) HT.out.2.2 (HG.out.later (XM.out.trans X3.out)) (by have h1 := HG.out.lt; have h2 := (XM.out.trans X2.out).size; omega))
    go_wp2_with fail
    clear hV3 a0 a1 a2 a3 s0 s1 s2
    go_at_call 43
    refine C5.out.mono ?_
    rintro e w5 ⟨hk5, ⟨hno, rfl⟩ | ⟨aa, X, l2, N2, σ2, hsb, rfl, hl3, hl4, hn2, hs2, hi2, hag2, hfx, hrx⟩⟩
    · have HR1 := hid (show R = false by rw [HR0.out, hno])
      have X5 := hid (ext_k2 X3.out hk5 (by have h1 := HGE.out.1; have h2 := X2.out.size; omega) (by have h1 := HGE.out.2; have h2 := X2.out.size; omega))
      have HX5 := hid (X5.out.trans (Ext.alloc w5 (.cells #[.int .i64 0, .string ⟨#[]⟩] 58)))
      clear hk5 hno
      go_wp2_with fail
      go_ret
      exact ⟨by rw [HR1.out]; rfl, XM.out.trans HX5.out⟩
    · obtain ⟨Xn, Xz⟩ := X
      have X5 := hid (ext_k2 X3.out hk5 (by have h1 := HGE.out.1; have h2 := X2.out.size; omega) (by have h1 := HGE.out.2; have h2 := X2.out.size; omega))
      have HR1 := hid (show R = (uniS (Xn, Xz) (wn, wx)).isSome by rw [HR0.out, hsb]; exact (is_uni (W := (wn, wx)) hrx HLE.out.2).symm)
      have HE1 := hid (hk5.block' HV3.out ⟨by have := HLT.out.1; omega, by have := HLT.out.2; omega⟩)
      have HE2 := hid (hk5.block' HW3.out ⟨by have h1 := HGE.out.1; have h2 := lt_of_block HW2.out; omega, by have h1 := HGE.out.2; have h2 := lt_of_block HW2.out; omega⟩)
      have HS2 := hid hs2
      have HFX := hid hfx
      have HIW := hid (inv_leaf hi2 HLE.out.2)
      have HNB := hid (show N2 ≤ 1000000 by have h1 := HT.out.2.1; omega)
      clear hk5 hsb hl3 hl4 hn2 hs2 hi2 hag2 hfx hrx
      obtain ⟨V5, hV5⟩ : ∃ V5, w5.alloc (.cells #[.int .i64 Xn, .string Xz] 58) = V5 := ⟨_, rfl⟩
      have Y5 := hid (show Ext w5 V5 from hV5 ▸ Ext.alloc _ _)
      have HBX := hid (show V5.heap[w5.heap.size]? = some (.cells #[.int .i64 Xn, .string Xz] 58) from hV5 ▸ blk0 _ _)
      have HS5 := hid (HS2.out.later Y5.out)
      have BW := hid (bd_small HLE.out.1 (leaf_size HLE.out.2))
      have s0 : V5.cell? ⟨w3.heap.size, 0, none⟩ = some (meetF b3 b1) := cell_of (Y5.out.block HE1.out) rfl
      obtain ⟨i0, i1⟩ := two_of (Y5.out.block HE2.out)
      obtain ⟨x0, x1⟩ := two_of HBX.out
      have HMT := hid (meet_any 0 0 ((Xn : Int), Xz) ((wn : Int), wx) ((Xn : Int), Xz) ((wn : Int), wx) V5 HS5.out.sol HFX.out ⟨BW.out, HIW.out, rfl⟩ (bd_root HFX.out) BW.out HNB.out)
      go_wp2_with fail
      clear hV5 s0 i0 i1 x0 x1
      refine HMT.out.mono ?_
      intro e w6 hmr
      have hmr' := meetR_uni (a := (Xn, Xz)) (b := (wn, wx)) hmr
      have XV5 := hid (XM.out.trans (X5.out.trans Y5.out))
      clear hmr
      rcases hmr' with ⟨hu, rfl, hx6⟩ | ⟨hu, rfl, hx6⟩ | ⟨kk, qq, hu, rfl, hk6, hs6⟩
      · have HR2 := hid (show R = false by rw [HR1.out, hu]; rfl)
        have HX6 := hid hx6
        clear hu hx6
        go_wp2_with fail
        go_ret
        exact ⟨by rw [HR2.out]; rfl, XV5.out.trans HX6.out⟩
      · have HR2 := hid (show R = true by rw [HR1.out, hu]; rfl)
        have HX6 := hid hx6
        clear hu hx6
        go_wp2_with fail
        go_ret
        exact ⟨by rw [HR2.out]; rfl, XV5.out.trans HX6.out⟩
      · have HR2 := hid (show R = true by rw [HR1.out, hu]; rfl)
        have HX6 := hid (Kp.extOf XV5.out hk6 (by have h1 := HGE.out.1; have h2 := (XM.out.trans X2.out).size; omega))
        clear hu hk6 hs6
        go_wp2_with fail
        go_ret
        exact ⟨by rw [HR2.out]; rfl, HX6.out⟩
end Go.Proofs.YtllbelglilkdpaaDoor
