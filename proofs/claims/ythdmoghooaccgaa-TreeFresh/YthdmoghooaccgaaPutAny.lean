/-
  Put, by a contract.
-/
import Derived.Test.YthdmoghooaccgaaPutOwn
namespace Go.Proofs.Ythdmoghooaccgaa
open Go.RowKit
/-- What Put answers. -/
def PutF (w : World) (t : T) (p : List Int) (u : T) (e : Ending) (w' : World) : Prop :=
  Ext w w' ∧ ((¬ (t.small ∧ u.small) ∧ e = .returned (.tuple #[zeroTree, .int .i64 2])) ∨ (t.small ∧ u.small ∧ T.at? t p = none ∧ e = .returned (.tuple #[zeroTree, .int .i64 23])) ∨
    (t.small ∧ u.small ∧ (∃ y, T.at? t p = some y) ∧ ((¬ (T.put t p u).small ∧ e = .returned (.tuple #[zeroTree, .int .i64 2])) ∨ ((T.put t p u).small ∧ ∃ d, GivenR w d (T.put t p u) e w'))))
theorem arr4 {cs : Array Value} {a b c d : Value} (hs : cs.size = 4) (h0 : cs[0]? = some a) (h1 : cs[0 + 1]? = some b) (h2 : cs[0 + 2]? = some c) (h3 : cs[0 + 3]? = some d) : cs = #[a, b, c, d] := by
  obtain ⟨l⟩ := cs
  match l, hs with
  | [x0, x1, x2, x3], _ =>
    simp at h0 h1 h2 h3
    rw [h0, h1, h2, h3]
theorem get_of {cs : Array Value} {i : Nat} (h : i < cs.size) : ∃ v, cs[i]? = some v := ⟨cs[i], Array.getElem?_eq_getElem h⟩
set_option maxRecDepth 100000 in
set_option maxHeartbeats 2000000 in
theorem put_any {K K' : Nat → Prop} {d d' : Nat} {v v' : Value} {t u : T} (w : World) (pa : Option Addr) (pc : Nat) (p : List Int) (hr : Rd K w d v t) (hr' : Rd K' w d' v' u) (hI : Ints w (.slice pa p.length pc) p) (hb : p.length * 8 ≤ 140737488355328) : Calls Try.prog 19 #[v, .slice pa p.length pc, v'] w (PutF w t p u) := by
  obtain ⟨u0, u1, u2, u3, rfl⟩ := hr.agg
  obtain ⟨k, n, x, a, c, rfl, rfl, rfl, rfl⟩ := hr.shape
  obtain ⟨u0, u1, u2, u3, rfl⟩ := hr'.agg
  obtain ⟨k', n', x', a', c', rfl, rfl, rfl, rfl⟩ := hr'.shape
  have C1 := hid (fun w1 (h : Ext w w1) => great_any w1 (hr.later h))
  have C2 := hid (fun w1 (h : Ext w w1) => great_any w1 (hr'.later h))
  have C3 := hid (fun w1 (h : Ext w w1) => copied_any d _ t K w1 (hr.later h))
  have C4 := hid (fun w1 (h : Ext w w1) => copied_any d' _ u K' w1 (hr'.later h))
  have HI := hid hI
  clear hr hr' hI
  generalize (T.kids t).length = kt at *
  generalize (T.kids u).length = ku at *
  by_cases hs : t.small
  · rw [decide_eq_true hs] at C1
    have HS := hid hs
    clear hs
    by_cases hs' : u.small
    · rw [decide_eq_true hs'] at C2
      have HS' := hid hs'
      clear hs'
      go_enter Try.func19, Try.ntmps19
      go_wp2_with fail
      refine (C1.out _ (Ext.alloc3 _ _ _ _)).mono ?_
      rintro e w1 ⟨rfl, hx1⟩
      have hX1 : Ext w w1 := (Ext.alloc3 w _ _ _).trans hx1
      have b0 := hx1.block (blkOld _ (blkOld _ (blk0 w _)))
      have b1 := hx1.block (blkOld _ (blk1 w _ _))
      have b2 := hx1.block (blk2 w _ _ _)
      obtain ⟨p0, p1, p2, p3⟩ := four_of b1
      have hsz := hx1.size
      simp only [World.size_alloc] at hsz
      have HB := hid (And.intro b0 (And.intro b1 b2))
      clear b0 b1 b2 hx1
      go_wp2_with fail
      refine (C2.out _ hX1).mono ?_
      rintro e w2 ⟨rfl, hx2⟩
      clear p0 p1 p2 p3
      obtain ⟨p0, p1, p2, p3⟩ := four_of (hx2.block HB.out.1)
      have hX2 : Ext w w2 := hX1.trans hx2
      have HB2 := hid (And.intro (hx2.block HB.out.2.1) (hx2.block HB.out.2.2))
      have hs2 := hx2.size
      go_wp2_with fail
      refine (C3.out _ hX2).mono ?_
      rintro e w3 ⟨v', bs, rfl, hx3, hown, hge, hnd⟩
      obtain ⟨u0, u1, u2, u3, rfl⟩ := hown.rd.agg
      obtain ⟨k3, n3, x3, a3, c3, rfl, rfl, rfl, rfl⟩ := hown.rd.shape
      have hX3 : Ext w w3 := hX2.trans hx3
      have HB3 := hid (And.intro (hx3.block HB2.out.1) (hx3.block HB2.out.2))
      have hs3 := hx3.size
      clear p0 p1 p2 p3
      have HO3 := hid hown
      have HL3 := hid hown.lt
      clear hown
      generalize (T.kids t).length = kt3 at HO3
      obtain ⟨W3, hW3⟩ : ∃ W3, w3.alloc (.cells #[.string k3, .int .i64 n3, .string x3, .slice a3 kt3 c3] 26) = W3 := ⟨_, rfl⟩
      have hx3a : Ext w3 W3 := hW3 ▸ Ext.alloc _ _
      have hbx : W3.heap[w3.heap.size]? = some (.cells #[.string k3, .int .i64 n3, .string x3, .slice a3 kt3 c3] 26) := hW3 ▸ blk0 w3 _
      have HX3 := hid (hX3.trans hx3a)
      have HBX := hid hbx
      have HR3 := hid (And.intro (hx3a.block HB3.out.1) (hx3a.block HB3.out.2))
      have HO := hid (HO3.out.keep (hx3a.kp _))
      have hra : RdAt (fun _ => True) W3 d ⟨w3.heap.size, 0, none⟩ t := by
        obtain ⟨p0, p1, p2, p3⟩ := four_of hbx
        exact ⟨rfl, trivial, _, _, _, _, ⟨p0, p1, p2, p3⟩, HO.out.rd.mono (fun q _ _ => trivial)⟩
      have HF := hid (follow_any W3 pa pc p hra (HI.out.later HX3.out) hb)
      have hsW : w3.heap.size < W3.heap.size := lt_of_block hbx
      clear hra hbx HO3 HB3
      go_wp2_with fail
      refine HF.out.mono ?_
      rintro e w4 ⟨hw, hcase⟩
      obtain rfl := hw
      rcases hcase with ⟨hnone, rfl⟩ | ⟨y, d4, hsome, rfl, hsp, _⟩
      · have HN := hid hnone
        obtain ⟨q0, q1, q2, q3⟩ := four_of HR3.out.2
        obtain ⟨f0, f1, f2, f3⟩ := four_free HR3.out.2
        clear hnone hW3
        go_wp2_with fail
        have hk4 := Kp.set4 w4 (w.heap.size + 1 + 1) 0 (.string ⟨#[]⟩) (.int .i64 0) (.string ⟨#[]⟩) (.slice none 0 0)
        obtain ⟨z0, z1, z2, z3⟩ := four_of (four_set (u0 := .string ⟨#[]⟩) (u1 := .int .i64 0) (u2 := .string ⟨#[]⟩) (u3 := .slice none 0 0) HR3.out.2)
        refine bodyPost_ret (v := .tuple #[zeroTree, .int .i64 23]) (by simp [results, Try.results19, go_sem, z0, z1, z2, z3]) rfl ?_
        exact ⟨Kp.extOf HX3.out hk4 (by omega), .inr (.inl ⟨HS.out, HS'.out, HN.out, rfl⟩)⟩
      · have HU := hid hsome
        obtain ⟨g, o, hpl⟩ : ∃ g o, place w4 ⟨w3.heap.size, 0, none⟩ p = ⟨g, o, none⟩ := by
          generalize place w4 ⟨w3.heap.size, 0, none⟩ p = pl at hsp
          obtain ⟨gb, go, gs⟩ := pl
          obtain rfl : gs = none := hsp
          exact ⟨gb, go, rfl⟩
        rw [hpl]
        have HPL := hid hpl
        clear hpl hsp hsome hW3
        obtain ⟨p0, p1, p2, p3⟩ := four_of HR3.out.1
        go_wp2_with fail
        refine (C4.out _ HX3.out).mono ?_
        rintro e w5 ⟨v'', bs', rfl, hx5, hown, hge', hnd'⟩
        obtain ⟨u0, u1, u2, u3, rfl⟩ := hown.rd.agg
        obtain ⟨k5, n5, x5, a5, c5, rfl, rfl, rfl, rfl⟩ := hown.rd.shape
        clear p0 p1 p2 p3
        obtain ⟨g', o', cs0, hpl', hgm, hg, ho3, cs', z0, z1, z2, z3, d6, bs6, hb6, hsz6, _, e0, e1, e2, e3, ho6, hsub, hnd6⟩ :=
          put_own hx5 hown hnd' p w3.heap.size 0 d #[.string k3, .int .i64 n3, .string x3, .slice a3 kt3 c3] _ _ _ _ t y bs HBX.out rfl rfl rfl rfl HO.out
            (List.nodup_cons.2 ⟨fun h => by have := HL3.out _ h; omega, hnd⟩) HU.out (fun q hq => ⟨fun e => by have := hge' q hq; omega, fun h => by have h1 := hge' q hq; have h2 := HL3.out _ h; omega⟩)
        have hgo := HPL.out.symm.trans hpl'
        simp only [Addr.mk.injEq, and_true] at hgo
        obtain ⟨rfl, rfl⟩ := hgo
        obtain rfl := arr4 hsz6 e0 e1 e2 e3
        obtain ⟨y0, i0⟩ := get_of (show o < cs0.size by omega)
        obtain ⟨y1, i1⟩ := get_of (show o + 1 < cs0.size by omega)
        obtain ⟨y2, i2⟩ := get_of (show o + 2 < cs0.size by omega)
        obtain ⟨y3, i3⟩ := get_of (show o + 3 < cs0.size by omega)
        have q0 := cell_of hg i0
        have q1 := cell_of hg i1
        have q2 := cell_of hg i2
        have q3 := cell_of hg i3
        have f0 := frozen_of (i := o) hg
        have f1 := frozen_of (i := o + 1) hg
        have f2 := frozen_of (i := o + 2) hg
        have f3 := frozen_of (i := o + 3) hg
        have hs5 := hx5.size
        have hge3 : ∀ b ∈ bs, w.heap.size + 1 + 1 < b := fun b hb => by have := hge b hb; omega
        have hgge : w.heap.size + 1 + 1 < g := by
          rcases hgm with rfl | h
          · omega
          · exact hge3 _ h
        obtain ⟨k6, n6, x6, a6, c6, rfl, rfl, rfl, rfl⟩ := ho6.rd.shape
        obtain ⟨m0, m1, m2, m3⟩ := four_of hb6
        have HB6 := hid hb6
        have HO6 := hid ho6
        have HG6 := hid (show ∀ b ∈ bs6, w.heap.size + 1 + 1 < b from fun b hb => by
          rcases hsub b hb with h | h
          · exact hge3 b h
          · have := hge' b h; omega)
        have HX5 := hid (HX3.out.trans hx5)
        have HR5 := hid (hx5.block HR3.out.2)
        have HND := hid hnd6
        clear hown hge hge' hnd hnd' hb6 ho6 hnd6 hsub hgm hg i0 i1 i2 i3 e0 e1 e2 e3 hpl' hsz6 hx5 hge3
        generalize (T.kids u).length = ku5 at *
        generalize (T.kids (T.put t p u)).length = ku6 at *
        have HX6 := hid (Kp.extOf HX5.out (Kp.set4 w5 g o (.string k5) (.int .i64 n5) (.string x5) (.slice a5 ku5 c5)) (by omega))
        have HR6 := hid ((Kp.set4 w5 g o (.string k5) (.int .i64 n5) (.string x5) (.slice a5 ku5 c5)).block' HR5.out (show w.heap.size + 1 + 1 ≠ g by omega))
        simp only [set4] at m0 m1 m2 m3 HO6 HB6
        go_wp2_with fail
        generalize (((w5.setCell ⟨g, o, none⟩ (.string k5)).setCell ⟨g, o + 1, none⟩ (.int .i64 n5)).setCell ⟨g, o + 2, none⟩ (.string x5)).setCell ⟨g, o + 3, none⟩ (.slice a5 ku5 c5) = W6 at *
        have C6 := great_any W6 HO6.out.rd
        clear q0 q1 q2 q3 f0 f1 f2 f3 m0 m1 m2 m3
        by_cases h6 : (T.put t p u).small
        · rw [decide_eq_true h6] at C6
          have HS6 := hid h6
          clear h6
          refine C6.mono ?_
          rintro e w7 ⟨rfl, hx7⟩
          obtain ⟨p0, p1, p2, p3⟩ := four_of (hx7.block HB6.out)
          have hb7 := hx7.block HR6.out
          have HB7 := hid hb7
          obtain ⟨q0, q1, q2, q3⟩ := four_of hb7
          obtain ⟨f0, f1, f2, f3⟩ := four_free hb7
          have HX7 := hid (HX6.out.trans hx7)
          have HO7 := hid (HO6.out.keep (hx7.kp _))
          clear hb7 C6 hx7
          go_wp2_with fail
          have hk4 := Kp.set4 w7 (w.heap.size + 1 + 1) 0 (.string k6) (.int .i64 n6) (.string x6) (.slice a6 ku6 c6)
          obtain ⟨z0, z1, z2, z3⟩ := four_of (four_set (u0 := .string k6) (u1 := .int .i64 n6) (u2 := .string x6) (u3 := .slice a6 ku6 c6) HB7.out)
          refine bodyPost_ret (v := .tuple #[.agg #[.string k6, .int .i64 n6, .string x6, .slice a6 ku6 c6], .int .i64 0]) (by simp [results, Try.results19, go_sem, z0, z1, z2, z3]) rfl ?_
          exact ⟨Kp.extOf HX7.out hk4 (by omega), .inr (.inr ⟨HS.out, HS'.out, ⟨y, HU.out⟩, .inr ⟨HS6.out, d6, _, bs6, rfl, HO7.out.keep (hk4.mono (fun q _ hq e => by have := HG6.out q hq; have e' : q = _ := e; omega)), fun b hb => by have := HG6.out b hb; omega, HND.out⟩⟩)⟩
        · rw [decide_eq_false h6] at C6
          have HS6 := hid h6
          clear h6
          refine C6.mono ?_
          rintro e w7 ⟨rfl, hx7⟩
          have hb7 := hx7.block HR6.out
          have HB7 := hid hb7
          obtain ⟨q0, q1, q2, q3⟩ := four_of hb7
          obtain ⟨f0, f1, f2, f3⟩ := four_free hb7
          have HX7 := hid (HX6.out.trans hx7)
          clear hb7 C6 hx7
          go_wp2_with fail
          have hk4 := Kp.set4 w7 (w.heap.size + 1 + 1) 0 (.string ⟨#[]⟩) (.int .i64 0) (.string ⟨#[]⟩) (.slice none 0 0)
          obtain ⟨z0, z1, z2, z3⟩ := four_of (four_set (u0 := .string ⟨#[]⟩) (u1 := .int .i64 0) (u2 := .string ⟨#[]⟩) (u3 := .slice none 0 0) HB7.out)
          refine bodyPost_ret (v := .tuple #[zeroTree, .int .i64 2]) (by simp [results, Try.results19, go_sem, z0, z1, z2, z3]) rfl ?_
          exact ⟨Kp.extOf HX7.out hk4 (by omega), .inr (.inr ⟨HS.out, HS'.out, ⟨y, HU.out⟩, .inl ⟨HS6.out, rfl⟩⟩)⟩
    · rw [decide_eq_false hs'] at C2
      have HS' := hid hs'
      clear hs'
      go_enter Try.func19, Try.ntmps19
      go_wp2_with fail
      refine (C1.out _ (Ext.alloc3 _ _ _ _)).mono ?_
      rintro e w1 ⟨rfl, hx1⟩
      have hX1 : Ext w w1 := (Ext.alloc3 w _ _ _).trans hx1
      have b1 := hx1.block (blkOld _ (blk1 w _ _))
      have HB := hid (hx1.block (blk2 w _ _ _))
      obtain ⟨p0, p1, p2, p3⟩ := four_of b1
      clear b1 hx1
      go_wp2_with fail
      refine (C2.out _ hX1).mono ?_
      rintro e w2 ⟨rfl, hx2⟩
      have hb2 := hx2.block HB.out
      have HB2 := hid hb2
      have HX2 := hid (hX1.trans hx2)
      clear p0 p1 p2 p3 hx2
      obtain ⟨q0, q1, q2, q3⟩ := four_of hb2
      obtain ⟨f0, f1, f2, f3⟩ := four_free hb2
      clear hb2
      go_wp2_with fail
      have hk4 := Kp.set4 w2 (w.heap.size + 1 + 1) 0 (.string ⟨#[]⟩) (.int .i64 0) (.string ⟨#[]⟩) (.slice none 0 0)
      obtain ⟨z0, z1, z2, z3⟩ := four_of (four_set (u0 := .string ⟨#[]⟩) (u1 := .int .i64 0) (u2 := .string ⟨#[]⟩) (u3 := .slice none 0 0) HB2.out)
      refine bodyPost_ret (v := .tuple #[zeroTree, .int .i64 2]) (by simp [results, Try.results19, go_sem, z0, z1, z2, z3]) rfl ?_
      exact ⟨Kp.extOf HX2.out hk4 (by omega), .inl ⟨fun h => HS'.out h.2, rfl⟩⟩
  · rw [decide_eq_false hs] at C1
    have HS := hid hs
    clear hs
    go_enter Try.func19, Try.ntmps19
    go_wp2_with fail
    refine (C1.out _ (Ext.alloc3 _ _ _ _)).mono ?_
    rintro e w1 ⟨rfl, hx1⟩
    have hb2 := hx1.block (blk2 w _ _ _)
    have HB2 := hid hb2
    have HX2 := hid ((Ext.alloc3 w _ _ _).trans hx1)
    obtain ⟨q0, q1, q2, q3⟩ := four_of hb2
    obtain ⟨f0, f1, f2, f3⟩ := four_free hb2
    clear hb2 hx1
    go_wp2_with fail
    have hk4 := Kp.set4 w1 (w.heap.size + 1 + 1) 0 (.string ⟨#[]⟩) (.int .i64 0) (.string ⟨#[]⟩) (.slice none 0 0)
    obtain ⟨z0, z1, z2, z3⟩ := four_of (four_set (u0 := .string ⟨#[]⟩) (u1 := .int .i64 0) (u2 := .string ⟨#[]⟩) (u3 := .slice none 0 0) HB2.out)
    refine bodyPost_ret (v := .tuple #[zeroTree, .int .i64 2]) (by simp [results, Try.results19, go_sem, z0, z1, z2, z3]) rfl ?_
    exact ⟨Kp.extOf HX2.out hk4 (by omega), .inl ⟨fun h => HS.out h.1, rfl⟩⟩
end Go.Proofs.Ythdmoghooaccgaa
