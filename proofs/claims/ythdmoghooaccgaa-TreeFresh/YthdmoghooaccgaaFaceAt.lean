/-
  At and Each, each by a contract.
-/
import Derived.Test.YthdmoghooaccgaaFace
namespace Go.Proofs.Ythdmoghooaccgaa
open Go.RowKit
/-- What At answers. -/
def AtF (w : World) (t : T) (p : List Int) (e : Ending) (w' : World) : Prop :=
  Ext w w' ∧ ((¬ t.small ∧ e = .returned (.tuple #[zeroTree, .int .i64 2])) ∨ (t.small ∧ T.at? t p = none ∧ e = .returned (.tuple #[zeroTree, .int .i64 23])) ∨ (t.small ∧ ∃ u d, T.at? t p = some u ∧ GivenR w d u e w'))
set_option maxRecDepth 100000 in
set_option maxHeartbeats 1000000 in
theorem at_face {K : Nat → Prop} {d : Nat} {v : Value} {t : T} (w : World) (pa : Option Addr) (pc : Nat) (p : List Int) (hr : Rd K w d v t) (hI : Ints w (.slice pa p.length pc) p) (hb : p.length * 8 ≤ 140737488355328) : Calls Try.prog 16 #[v, .slice pa p.length pc] w (AtF w t p) := by
  obtain ⟨u0, u1, u2, u3, rfl⟩ := hr.agg
  obtain ⟨k, n, x, a, c, rfl, rfl, rfl, rfl⟩ := hr.shape
  have C1 := hid (fun w1 (h : Ext w w1) => great_any w1 (hr.later h))
  have HR := hid hr.low
  have HI := hid hI
  clear hr hI
  generalize (T.kids t).length = kt at *
  by_cases h1 : t.small
  · rw [decide_eq_true h1] at C1
    have HS := hid h1
    clear h1
    go_enter Try.func16, Try.ntmps16
    go_wp2_with fail
    refine (C1.out _ (Ext.alloc2 _ _ _)).mono ?_
    rintro e w1 ⟨rfl, hx1⟩
    have hbt := hx1.block (blkOld _ (blk0 w _))
    have hx01 : Ext w w1 := (Ext.alloc2 w _ _).trans hx1
    have hra : RdAt (fun q => q < w.heap.size + 1) w1 d ⟨w.heap.size, 0, none⟩ t := by
      obtain ⟨p0, p1, p2, p3⟩ := four_of hbt
      exact ⟨rfl, Nat.lt_succ_self _, _, _, _, _, ⟨p0, p1, p2, p3⟩, (HR.out.later hx01).mono (fun q _ hq => by have hq' : q < _ := hq; show q < _; omega)⟩
    have HF := hid (follow_any w1 pa pc p hra (HI.out.later hx01) hb)
    have hb2 := hx1.block (blk1 w _ _)
    have HB := hid hb2
    have HX := hid hx01
    have hsz := hx1.size
    simp only [World.size_alloc] at hsz
    clear hra hx1 hbt hx01
    go_wp2_with fail
    refine HF.out.mono ?_
    rintro e w2 ⟨hw, hcase⟩
    obtain rfl := hw
    rcases hcase with ⟨hnone, rfl⟩ | ⟨u, d', hsome, rfl, hsp, hK, u0, u1, u2, u3, h4, hrd⟩
    · have HN := hid hnone
      obtain ⟨q0, q1, q2, q3⟩ := four_of hb2
      obtain ⟨f0, f1, f2, f3⟩ := four_free hb2
      clear hb2 hnone
      go_wp2_with fail
      have hk4 := Kp.set4 w2 (w.heap.size + 1) 0 (.string ⟨#[]⟩) (.int .i64 0) (.string ⟨#[]⟩) (.slice none 0 0)
      obtain ⟨z0, z1, z2, z3⟩ := four_of (four_set (u0 := .string ⟨#[]⟩) (u1 := .int .i64 0) (u2 := .string ⟨#[]⟩) (u3 := .slice none 0 0) HB.out)
      refine bodyPost_ret (v := .tuple #[zeroTree, .int .i64 23]) (by simp [results, Try.results16, go_sem, z0, z1, z2, z3]) rfl ?_
      exact ⟨Kp.extOf HX.out hk4 (Nat.le_succ _), .inr (.inl ⟨HS.out, HN.out, rfl⟩)⟩
    · have HU := hid hsome
      generalize hpl : place w2 ⟨w.heap.size, 0, none⟩ p = pl at hsp hK h4
      obtain ⟨gb, go, gs⟩ := pl
      obtain rfl : gs = none := hsp
      obtain ⟨k2, n2, x2, a2, c2, rfl, rfl, rfl, rfl⟩ := hrd.shape
      have C2 := hid (fun w3 (h : Ext w2 w3) => copied_any d' _ u _ w3 (hrd.later h))
      obtain ⟨m0, m1, m2, m3⟩ := h4
      clear hb2 hsome hrd hpl
      generalize (T.kids u).length = ku at *
      go_wp2_with fail
      refine (C2.out _ (Ext.refl _)).mono ?_
      rintro e w3 ⟨v', bs, rfl, hx2, hown, hge, hnd⟩
      obtain ⟨u0, u1, u2, u3, rfl⟩ := hown.rd.agg
      obtain ⟨k3, n3, x3, a3, c3, rfl, rfl, rfl, rfl⟩ := hown.rd.shape
      have hb := hx2.block HB.out
      have HB3 := hid hb
      obtain ⟨q0, q1, q2, q3⟩ := four_of hb
      obtain ⟨f0, f1, f2, f3⟩ := four_free hb
      have HO := hid hown
      have HX2 := hid (HX.out.trans hx2)
      have HG := hid (show ∀ b ∈ bs, w.heap.size + 1 < b from fun b hb => by have := hge b hb; omega)
      clear hb hown hge hx2 m0 m1 m2 m3
      generalize (T.kids u).length = kt2 at HO
      go_wp2_with fail
      have hk4 := Kp.set4 w3 (w.heap.size + 1) 0 (.string k3) (.int .i64 n3) (.string x3) (.slice a3 kt2 c3)
      obtain ⟨z0, z1, z2, z3⟩ := four_of (four_set (u0 := .string k3) (u1 := .int .i64 n3) (u2 := .string x3) (u3 := .slice a3 kt2 c3) HB3.out)
      refine bodyPost_ret (v := .tuple #[.agg #[.string k3, .int .i64 n3, .string x3, .slice a3 kt2 c3], .int .i64 0]) (by simp [results, Try.results16, go_sem, z0, z1, z2, z3]) rfl ?_
      exact ⟨Kp.extOf HX2.out hk4 (Nat.le_succ _), .inr (.inr ⟨HS.out, u, d', HU.out, _, bs, rfl, HO.out.keep (hk4.mono (fun q _ hq e => by have := HG.out q hq; have e' : q = _ := e; omega)), fun b hb => by have := HG.out b hb; omega, hnd⟩)⟩
  · rw [decide_eq_false h1] at C1
    have HS := hid h1
    clear h1
    go_enter Try.func16, Try.ntmps16
    go_wp2_with fail
    refine (C1.out _ (Ext.alloc2 _ _ _)).mono ?_
    rintro e w1 ⟨rfl, hx1⟩
    have hb := hx1.block (blk1 w _ _)
    have HB := hid hb
    obtain ⟨q0, q1, q2, q3⟩ := four_of hb
    obtain ⟨f0, f1, f2, f3⟩ := four_free hb
    have HX := hid ((Ext.alloc2 w _ _).trans hx1)
    clear hb hx1
    go_wp2_with fail
    have hk4 := Kp.set4 w1 (w.heap.size + 1) 0 (.string ⟨#[]⟩) (.int .i64 0) (.string ⟨#[]⟩) (.slice none 0 0)
    obtain ⟨z0, z1, z2, z3⟩ := four_of (four_set (u0 := .string ⟨#[]⟩) (u1 := .int .i64 0) (u2 := .string ⟨#[]⟩) (u3 := .slice none 0 0) HB.out)
    refine bodyPost_ret (v := .tuple #[zeroTree, .int .i64 2]) (by simp [results, Try.results16, go_sem, z0, z1, z2, z3]) rfl ?_
    exact ⟨Kp.extOf HX.out hk4 (Nat.le_succ _), .inl ⟨HS.out, rfl⟩⟩
/-- What Each answers: the iterator, what it holds. -/
def EachF (w : World) (d : Nat) (t : T) (e : Ending) (w' : World) : Prop :=
  Ext w w' ∧ ∃ eb ob k n x a l c, e = .returned (.func (.func 45) #[] #[.pointer (some ⟨eb, 0, none⟩), .pointer (some ⟨ob, 0, none⟩)]) ∧ w.heap.size ≤ eb ∧ w.heap.size ≤ ob ∧ w'.heap[ob]? = some (.cells #[.string k, .int .i64 n, .string x, .slice a l c] 26) ∧
    ((t.small ∧ w'.heap[eb]? = some (.cells #[.int .i64 0] 42) ∧ ∃ bs, Own w' d (.agg #[.string k, .int .i64 n, .string x, .slice a l c]) t bs ∧ ∀ b ∈ bs, w.heap.size ≤ b) ∨ (¬ t.small ∧ w'.heap[eb]? = some (.cells #[.int .i64 2] 42)))
set_option maxRecDepth 100000 in
set_option maxHeartbeats 1000000 in
theorem each_face {K : Nat → Prop} {d : Nat} {v : Value} {t : T} (w : World) (hr : Rd K w d v t) : Calls Try.prog 15 #[v] w (EachF w d t) := by
  obtain ⟨u0, u1, u2, u3, rfl⟩ := hr.agg
  obtain ⟨k, n, x, a, c, rfl, rfl, rfl, rfl⟩ := hr.shape
  have hmf : ∀ (fn : Fn) (first cap : Array Value) (w : World), (Instr.makeFunc fn first cap).run Try.prog w = .ok (.func fn first cap) w := fun _ _ _ _ => rfl
  have C1 := hid (fun w1 (h : Ext w w1) => copy_face w1 (hr.later h))
  clear hr
  generalize (T.kids t).length = kt at *
  go_enter Try.func15, Try.ntmps15
  go_wp2_with fail
  refine (C1.out _ (Ext.alloc _ _)).mono ?_
  rintro e w1 ⟨hx, (⟨hs, v', bs, rfl, hown, hge, hnd⟩ | ⟨hs, rfl⟩)⟩
  · obtain ⟨u0, u1, u2, u3, rfl⟩ := hown.rd.agg
    obtain ⟨k2, n2, x2, a2, c2, rfl, rfl, rfl, rfl⟩ := hown.rd.shape
    have HO := hid hown
    have HG := hid hge
    have HX := hid ((Ext.alloc w _).trans hx)
    have hsz := hx.size
    simp only [World.size_alloc] at hsz
    clear hown hge hx
    generalize (T.kids t).length = kt2 at HO
    go_wp2_with fail
    go_ret
    exact ⟨HX.out.trans (Ext.alloc2 _ _ _), w1.heap.size + 1, w1.heap.size, k2, n2, x2, a2, kt2, c2, rfl, by omega, by omega, blkOld _ (blk0 _ _), .inl ⟨hs, blk1 _ _ _, bs, HO.out.keep ((Ext.alloc2 _ _ _).kp _), fun b hb => by have := HG.out b hb; simp at this; omega⟩⟩
  · have HX := hid ((Ext.alloc w _).trans hx)
    have hsz := hx.size
    simp only [World.size_alloc] at hsz
    clear hx
    go_wp2_with fail
    go_ret
    exact ⟨HX.out.trans (Ext.alloc2 _ _ _), w1.heap.size + 1, w1.heap.size, ⟨#[]⟩, 0, ⟨#[]⟩, none, 0, 0, rfl, by omega, by omega, blkOld _ (blk0 _ _), .inr ⟨hs, blk1 _ _ _⟩⟩
end Go.Proofs.Ythdmoghooaccgaa
