/-
  The walk of espalierlaw4.TreePaths: it returns true, whatever the trees and the number.
-/
import Derived.Test.YthdmoghooaccgaaBegun
import Derived.Test.YthdmoghooaccgaaAhead
import Derived.WalkMore
import Derived.Deep.Cut
import Derived.Deep.CutRange
import Derived.Deep.Light
import Derived.Deep.RegionHeld3
namespace Go.Proofs.Ythdmoghooaccgaa
open Go.RowKit Go.Shelf
attribute [local go_sem] Oper.semAt_some
theorem siInfo : (Try.prog.info? 27).map (fun i => (i.zero, i.size, i.bytes)) = some (some (.slice none 0 0), 1, 24) := by kernel_rfl
/-- The iterator of Each where the tree is too great: it hands out nothing. -/
theorem each_none {t : T} {eb ob : Nat} {w : World} {M0 : Nat → Prop} (he : w.heap[eb]? = some (.cells #[.int .i64 2] 42)) :
    IterOk 45 #[.pointer (some ⟨eb, 0, none⟩), .pointer (some ⟨ob, 0, none⟩)] 0 M0 w (eachX t w.heap.size) := by
  intro l J Jx W M hlt hst hxlt hxst hY hx hM hJ
  have z0 := cell_of (i := 0) (hx.block he) rfl
  simp only [List.getElem_toArray, List.getElem_cons_zero] at z0
  have hl1 := lt_of_block (hx.block he)
  have HJ := hid hJ
  have HST := hid hst
  clear hlt hst hxlt hxst hY hx hM hJ
  refine callsIn_of_wp_marks Try.func45 rfl trivial ?_ rfl
  show Code.wpIn _ _ _ _ _ _ _
  simp only [Try.ntmps45, List.size_toArray, List.length_cons, List.length_nil, Nat.reduceAdd, Nat.reduceSub, Array.replicate_succ, Array.replicate_zero, List.push_toArray, List.append_toArray, List.nil_append, List.cons_append]
  gi_wp2_with fail
  refine ⟨_, results_none rfl _ _ _, ⟨_, rfl⟩, (Ext.alloc _ _).kp _, .inl ⟨M, HST.out _ _ _ _ HJ.out ((Ext.alloc _ _).kp _), fun k hk => .inl hk⟩⟩
theorem rem_nat (pick : Int) (S : Nat) (h : 0 < S) : ∃ m : Nat, m < S ∧ (pick.tmod S = (m : Int) ∨ (pick.tmod S = -(m : Int) ∧ 0 < m)) := by
  refine ⟨(pick.tmod S).natAbs, ?_, ?_⟩
  · rw [Int.natAbs_tmod, Int.natAbs_natCast]
    exact Nat.mod_lt _ h
  · omega
theorem wrap64_small {v : Int} (h1 : 0 ≤ v) (h2 : v < 1024) : wrap64 v = v := by
  unfold wrap64
  omega
theorem at_given {K : Nat → Prop} {d : Nat} {v : Value} {t y : T} (w : World) (pa : Option Addr) (pc : Nat) (p : List Int) (hr : Rd K w d v t) (hI : Ints w (.slice pa p.length pc) p) (hb : p.length * 8 ≤ 140737488355328) (hs : t.small) (hy : T.at? t p = some y) :
    Calls Try.prog 16 #[v, .slice pa p.length pc] w fun e w' => ∃ k1 n1 x1 a1 l1 c1 d1, e = .returned (.tuple #[.agg #[.string k1, .int .i64 n1, .string x1, .slice a1 l1 c1], .int .i64 0]) ∧ Rd (fun q => w.heap.size ≤ q) w' d1 (.agg #[.string k1, .int .i64 n1, .string x1, .slice a1 l1 c1]) y ∧ Ext w w' := by
  refine (at_face w pa pc p hr hI hb).mono ?_
  rintro e w' ⟨hx, hc⟩
  rcases hc with ⟨hn, _⟩ | ⟨_, hn, _⟩ | ⟨_, u6, d6, hu6, v6, bs6, rfl, ho6, hg, _⟩
  · exact absurd hs hn
  · rw [hy] at hn; cases hn
  obtain rfl : y = u6 := by rw [hy] at hu6; exact Option.some.inj hu6
  obtain ⟨u0, u1, u2, u3, rfl⟩ := ho6.rd.agg
  obtain ⟨k6, n6, x6, a6, c6, rfl, rfl, rfl, rfl⟩ := ho6.rd.shape
  exact ⟨_, _, _, _, _, _, d6, rfl, ho6.rd.mono (fun q _ hq => hg q hq), hx⟩
theorem put_given {K K' : Nat → Prop} {d d' : Nat} {v v' : Value} {t u y : T} (w : World) (pa : Option Addr) (pc : Nat) (p : List Int) (hr : Rd K w d v t) (hr' : Rd K' w d' v' u) (hI : Ints w (.slice pa p.length pc) p) (hb : p.length * 8 ≤ 140737488355328) (hs : t.small) (hs' : u.small) (hy : T.at? t p = some y) (hp : (T.put t p u).small) :
    Calls Try.prog 19 #[v, .slice pa p.length pc, v'] w fun e w' => ∃ k1 n1 x1 a1 l1 c1 d1, e = .returned (.tuple #[.agg #[.string k1, .int .i64 n1, .string x1, .slice a1 l1 c1], .int .i64 0]) ∧ Rd (fun q => w.heap.size ≤ q) w' d1 (.agg #[.string k1, .int .i64 n1, .string x1, .slice a1 l1 c1]) (T.put t p u) ∧ Ext w w' := by
  refine (put_any w pa pc p hr hr' hI hb).mono ?_
  rintro e w' ⟨hx, hc⟩
  rcases hc with ⟨hn, _⟩ | ⟨_, _, hn, _⟩ | ⟨_, _, _, (⟨hn, _⟩ | ⟨_, d6, v6, bs6, rfl, ho6, hg, _⟩)⟩
  · exact absurd ⟨hs, hs'⟩ hn
  · rw [hy] at hn; cases hn
  · exact absurd hp hn
  obtain ⟨u0, u1, u2, u3, rfl⟩ := ho6.rd.agg
  obtain ⟨k6, n6, x6, a6, c6, rfl, rfl, rfl, rfl⟩ := ho6.rd.shape
  exact ⟨_, _, _, _, _, _, d6, rfl, ho6.rd.mono (fun q _ hq => hg q hq), hx⟩
def tZero : T := .node ⟨#[]⟩ 0 ⟨#[]⟩ []
theorem put_over {K K' : Nat → Prop} {d d' : Nat} {v v' : Value} {t u y : T} (w : World) (pa : Option Addr) (pc : Nat) (p : List Int) (hr : Rd K w d v t) (hr' : Rd K' w d' v' u) (hI : Ints w (.slice pa p.length pc) p) (hb : p.length * 8 ≤ 140737488355328) (hs : t.small) (hs' : u.small) (hy : T.at? t p = some y) (hp : ¬ (T.put t p u).small) :
    Calls Try.prog 19 #[v, .slice pa p.length pc, v'] w fun e w' => e = .returned (.tuple #[zeroTree, .int .i64 2]) ∧ Ext w w' := by
  refine (put_any w pa pc p hr hr' hI hb).mono ?_
  rintro e w' ⟨hx, hc⟩
  rcases hc with ⟨hn, _⟩ | ⟨_, _, hn, _⟩ | ⟨_, _, _, (⟨_, rfl⟩ | ⟨hn, _⟩)⟩
  · exact absurd ⟨hs, hs'⟩ hn
  · rw [hy] at hn; cases hn
  · exact ⟨rfl, hx⟩
  · exact absurd hn hp
/-- What the loop over the paths holds. -/
def paI (t : T) (B0 Pb : Nat) (M' : Nat → Prop) (i : Nat) (Z : World) : Prop :=
  ∃ (v : Value) (vs : List Value), (M' = fun q => q = Pb ∨ v.ownBlock = some q ∨ ∃ y ∈ vs, y.ownBlock = some q) ∧ Z.heap[Pb]? = some (.cells #[v] 41) ∧ Z.ownsRow B0 27 1 v i vs ∧ vs.length = i ∧
    ∀ (j : Nat) (y : Value), vs[j]? = some y → ∃ e : List Int × T, (T.all [] t)[j]? = some e ∧ PathW Z B0 y e.1
theorem paI_lt {t : T} {B0 Pb : Nat} {M' : Nat → Prop} {i : Nat} {Z : World} (h : paI t B0 Pb M' i Z) : ∀ q, M' q → q < Z.heap.size := by
  obtain ⟨v, vs, rfl, h1, h2, h3, h4⟩ := h
  rintro q (rfl | hq | ⟨y, hy, hq⟩)
  · exact lt_of_block h1
  · obtain ⟨_, cur, hc⟩ := ownsRow_block h2 hq; exact lt_of_block hc
  · obtain ⟨j, hj⟩ := List.getElem?_of_mem hy
    obtain ⟨e, _, hp⟩ := h4 j y hj
    obtain ⟨_, cur, hc⟩ := hp.block hq
    exact lt_of_block hc
theorem paI_keep {t : T} {B0 Pb : Nat} {M' K : Nat → Prop} {i : Nat} {Z Z' : World} (h : paI t B0 Pb M' i Z) (hk : Kp K Z Z') (hm : ∀ q, M' q → K q) : paI t B0 Pb M' i Z' := by
  obtain ⟨v, vs, rfl, h1, h2, h3, h4⟩ := h
  exact ⟨v, vs, rfl, hk.block' h1 (hm _ (.inl rfl)), ownsRow_keep h2 hk (fun b hb => hm _ (.inr (.inl hb))), h3, fun j y hj => by
    obtain ⟨e, he, hp⟩ := h4 j y hj
    exact ⟨e, he, hp.keep hk (fun b hb => hm _ (.inr (.inr ⟨y, List.mem_of_getElem? hj, hb⟩)))⟩⟩
set_option maxRecDepth 100000 in
set_option maxHeartbeats 60000000 in
theorem paths_big {d d' : Nat} {v v' : Value} {t u : T} (pick : Int) (w : World) (hr : Rd (fun _ => True) w d v t) (hr' : Rd (fun _ => True) w d' v' u) (hs : ¬ t.small) : CallsIn Fence.wide 0 Try.prog 4 #[v, v', .int .i64 pick] w fun e w' => e = .returned (.bool true) ∧ Ext w w' := by
  have hsH := hid hs
  clear hs
  obtain ⟨u0, u1, u2, u3, rfl⟩ := hr.agg
  obtain ⟨k, n, x, a, c, rfl, rfl, rfl, rfl⟩ := hr.shape
  obtain ⟨u0, u1, u2, u3, rfl⟩ := hr'.agg
  obtain ⟨k', n', x', a', c', rfl, rfl, rfl, rfl⟩ := hr'.shape
  have HR := hid hr
  have HR' := hid hr'
  clear hr hr'
  generalize (T.kids t).length = kt at *
  generalize (T.kids u).length = ku at *
  refine callsIn_of_wp_marks Try.func4 rfl trivial ?_ rfl
  show Code.wpIn _ _ _ _ _ _ _
  simp only [Try.ntmps4, List.size_toArray, List.length_cons, List.length_nil, Nat.reduceAdd, Nat.reduceSub, Array.replicate_succ, Array.replicate_zero, List.push_toArray, List.append_toArray, List.nil_append, List.cons_append]
  gi_wp2_with fail
  refine ⟨trivial, rfl, (begun_true _).mono ?_⟩
  rintro e V ⟨rfl, hx⟩
  have HV := hid ((Ext.alloc3 w _ _ _).trans hx)
  have HB := hid (And.intro (hx.block (blkOld _ (blkOld _ (blk0 w _)))) (And.intro (hx.block (blkOld _ (blk1 w _ _))) (hx.block (blk2 w _ _ _))))
  clear hx
  obtain ⟨p0, p1, p2, p3⟩ := four_of HB.out.1
  gi_wp2_with fail
  refine ⟨trivial, rfl, (callsIn_wide.2 (size_any V (HR.out.later HV.out))).mono ?_⟩
  rintro e w1 ⟨rfl, hx1⟩
  have HX1 := hid hx1
  clear p0 p1 p2 p3 hx1
  have hs := hsH.out
  rw [show sizeV t = .tuple #[.int .i64 1025, .int .i64 65, .int .i64 16385] from if_neg hs]
  have HA1 := hid (HX1.out.trans (Ext.alloc w1 (.cells #[.int .i64 1025] 3)))
  obtain ⟨p0, p1, p2, p3⟩ := four_of (HA1.out.block HB.out.2.1)
  have HS := hid hs
  clear hs
  gi_wp2_with fail
  refine ⟨trivial, rfl, (callsIn_wide.2 (size_any _ (HR'.out.later (HV.out.trans HA1.out)))).mono ?_⟩
  rintro e w2 ⟨rfl, hx2⟩
  obtain ⟨s1, s2, s3, hsv⟩ : ∃ s1 s2 s3, sizeV u = .tuple #[.int .i64 s1, .int .i64 s2, .int .i64 s3] := by unfold sizeV; split <;> exact ⟨_, _, _, rfl⟩
  rw [hsv]
  have HN2 := hid (hx2.block (blk0 w1 (.cells #[.int .i64 1025] 3)))
  have HX2 := hid (HA1.out.trans hx2)
  clear p0 p1 p2 p3 hsv hx2
  obtain ⟨p0, p1, p2, p3⟩ := four_of (HX2.out.block HB.out.1)
  have c0 := cell_of (i := 0) HN2.out rfl
  simp only [List.getElem_toArray, List.getElem_cons_zero] at c0
  gi_wp2_with fail
  refine ⟨trivial, rfl, (callsIn_wide.2 (each_face _ (HR.out.later (HV.out.trans HX2.out)))).mono ?_⟩
  rintro e w3 ⟨hx3, eb, ob, kk, nn, xx, aa, ll, cc, rfl, heb, hob, hbo, (⟨hn, _⟩ | ⟨_, hbe⟩)⟩
  · exact absurd hn HS.out
  have HX3 := hid ((HV.out.trans HX2.out).trans hx3)
  have HR3 := hid (hx3.block (HX2.out.block HB.out.2.2))
  have hsv := HV.out.size
  have hsw : w.heap.size + 1 + 1 < w3.heap.size := lt_of_block HR3.out
  have hnil : ∀ w, (binOp .eql 39 (.func (.func 45) #[] #[.pointer (some ⟨eb, 0, none⟩), .pointer (some ⟨ob, 0, none⟩)]) .nilFunc).run Try.prog w = .ok (.bool false) w := fun w => by as_aux_lemma => kernel_rfl
  clear p0 p1 p2 p3 c0 hx3 heb hob hbo
  gi_wp2_with fail
  refine rangeM rfl (enters_of Try.func45 (by kernel_rfl) rfl) 0 (fun _ => False) (eachX t w3.heap.size) (each_none hbe) eachX_size eachX_mono eachX_new
    (fun M' _ _ => M' = fun _ => False) (fun _ _ _ => False)
    (fun M' i Z h q hq => by rw [h] at hq; exact hq.elim) (fun M' i Z Z' h hk => h)
    (fun c M' Z h => h.elim) (fun c M' Z Z' h => h.elim) rfl ?_ ?_ ?_
  · intro l2 M' i Z args E _ _ _ _ hi
    exact absurd hi (Nat.not_lt_zero _)
  · rintro D Z M' hD rfl hd hmd hsub hk
    have hXZ : Ext w3 Z := hk.ext (fun q _ h => h)
    have hcb := hXZ.block HR3.out
    have c0 := cell_of (i := 0) hcb rfl
    have f0 := frozen_of (i := 0) hcb
    simp only [List.getElem_toArray, List.getElem_cons_zero] at c0
    have hne : D ≠ w.heap.size + 1 + 1 := by omega
    have hd2 := set_other (i := 0) hd hne (.bool true)
    have hk6 := Kp.putObj (Z.setCell ⟨w.heap.size + 1 + 1, 0, none⟩ (.bool true)) D (.deferred none)
    have hb6 := hk6.block' (set_one (u := .bool true) hcb) (Ne.symm hne)
    have z0 := cell_of (i := 0) hb6 rfl
    simp only [List.getElem_toArray, List.getElem_cons_zero] at z0
    have HE := hid (show Ext w ((Z.setCell ⟨w.heap.size + 1 + 1, 0, none⟩ (.bool true)).putObj D (.deferred none)) from
      Kp.extOf (Kp.extOf (HX3.out.trans hXZ) (Kp.set Z (w.heap.size + 1 + 1) 0 (.bool true) (fun h => h rfl)) (by omega)) hk6 (by omega))
    clear hcb hb6 hk6
    gi_wp2_with fail
    refine ⟨by simp, .inl ⟨_, _, rfl, run_takeDeferred hd2, ?_⟩⟩
    exact ⟨.bool true, by simp [results, Try.results4, go_sem, z0], rfl, HE.out⟩
  · intro D Z c' M' hD h
    exact h.elim
set_option maxRecDepth 100000 in
set_option maxHeartbeats 60000000 in
theorem paths_over {d d' : Nat} {v v' : Value} {t u : T} (pick : Int) (w : World) (hr : Rd (fun _ => True) w d v t) (hr' : Rd (fun _ => True) w d' v' u) (hs : t.small) (hs' : ¬ u.small) : CallsIn Fence.wide 0 Try.prog 4 #[v, v', .int .i64 pick] w fun e w' => e = .returned (.bool true) ∧ Ext w w' := by
  have hsH := hid hs
  have hs'H := hid hs'
  clear hs hs'
  obtain ⟨u0, u1, u2, u3, rfl⟩ := hr.agg
  obtain ⟨k, n, x, a, c, rfl, rfl, rfl, rfl⟩ := hr.shape
  obtain ⟨u0, u1, u2, u3, rfl⟩ := hr'.agg
  obtain ⟨k', n', x', a', c', rfl, rfl, rfl, rfl⟩ := hr'.shape
  have HR := hid hr
  have HR' := hid hr'
  clear hr hr'
  generalize (T.kids t).length = kt at *
  generalize (T.kids u).length = ku at *
  refine callsIn_of_wp_marks Try.func4 rfl trivial ?_ rfl
  show Code.wpIn _ _ _ _ _ _ _
  simp only [Try.ntmps4, List.size_toArray, List.length_cons, List.length_nil, Nat.reduceAdd, Nat.reduceSub, Array.replicate_succ, Array.replicate_zero, List.push_toArray, List.append_toArray, List.nil_append, List.cons_append]
  gi_wp2_with fail
  refine ⟨trivial, rfl, (begun_true _).mono ?_⟩
  rintro e V ⟨rfl, hx⟩
  have HV := hid ((Ext.alloc3 w _ _ _).trans hx)
  have HB := hid (And.intro (hx.block (blkOld _ (blkOld _ (blk0 w _)))) (And.intro (hx.block (blkOld _ (blk1 w _ _))) (hx.block (blk2 w _ _ _))))
  clear hx
  obtain ⟨p0, p1, p2, p3⟩ := four_of HB.out.1
  gi_wp2_with fail
  refine ⟨trivial, rfl, (callsIn_wide.2 (size_any V (HR.out.later HV.out))).mono ?_⟩
  rintro e w1 ⟨rfl, hx1⟩
  have HX1 := hid hx1
  clear p0 p1 p2 p3 hx1
  have hs := hsH.out
  have hsT : sizeV t = .tuple #[.int .i64 (t.size : Int), .int .i64 (t.height : Int), .int .i64 (t.bytes : Int)] := if_pos hs
  rw [hsT]
  have HS := hid hs
  have l1 : (t.size : Int) ≤ 1024 := by have := hs.1; omega
  have g1 : 1 ≤ (t.size : Int) := by have := T.size_pos t; omega
  clear hsT hs
  generalize hSt : t.size = S at l1 g1
  have HST := hid hSt
  generalize t.height = tH at *
  generalize t.bytes = tB at *
  clear hSt
  have HA1 := hid (HX1.out.trans (Ext.alloc w1 (.cells #[.int .i64 (S : Int)] 3)))
  obtain ⟨p0, p1, p2, p3⟩ := four_of (HA1.out.block HB.out.2.1)
  have n1 : decide ((1024 : Int) < (S : Int)) = false := decide_eq_false (by omega)
  gi_wp2_with fail
  refine ⟨trivial, rfl, (callsIn_wide.2 (size_any _ (HR'.out.later (HV.out.trans HA1.out)))).mono ?_⟩
  rintro e w2 ⟨rfl, hx2⟩
  have HN2 := hid (hx2.block (blk0 w1 (.cells #[.int .i64 (S : Int)] 3)))
  have HX2 := hid (HA1.out.trans hx2)
  clear p0 p1 p2 p3 hx2
  have c0 := cell_of (i := 0) HN2.out rfl
  simp only [List.getElem_toArray, List.getElem_cons_zero] at c0
  have hs' := hs'H.out
  rw [show sizeV u = .tuple #[.int .i64 1025, .int .i64 65, .int .i64 16385] from if_neg hs']
  obtain ⟨p0, p1, p2, p3⟩ := four_of (HX2.out.block HB.out.1)
  clear hs'
  gi_wp2_with fail
  refine ⟨trivial, rfl, (callsIn_wide.2 (each_face _ (HR.out.later (HV.out.trans HX2.out)))).mono ?_⟩
  rintro e w3 ⟨hx3, eb, ob, kk, nn, xx, aa, ll, cc, rfl, heb, hob, hbo, (⟨_, hbe, bs, hown, hbs⟩ | ⟨hn, _⟩)⟩
  rotate_left
  · exact absurd HS.out hn
  have HX3 := hid ((HV.out.trans HX2.out).trans hx3)
  have HR3 := hid (hx3.block (HX2.out.block HB.out.2.2))
  have HN3 := hid (hx3.block HN2.out)
  have hsv := HV.out.size
  have hsw : w.heap.size + 1 + 1 < w3.heap.size := lt_of_block HR3.out
  have hs23 : w.heap.size + 1 + 1 < w2.heap.size := lt_of_block (HX2.out.block HB.out.2.2)
  have hn3 : w1.heap.size < w3.heap.size := lt_of_block HN3.out
  have hnr : w1.heap.size ≠ w.heap.size + 1 + 1 := by have := lt_of_block (HX1.out.block HB.out.2.2); omega
  have hnil : ∀ w, (binOp .eql 39 (.func (.func 45) #[] #[.pointer (some ⟨eb, 0, none⟩), .pointer (some ⟨ob, 0, none⟩)]) .nilFunc).run Try.prog w = .ok (.bool false) w := fun w => by as_aux_lemma => kernel_rfl
  clear p0 p1 p2 p3 c0 hx3
  gi_wp2_with fail
  refine rangeM rfl (enters_of Try.func45 (by kernel_rfl) rfl) t.size (fun q => q = w.heap.size + 1 + 1) (eachX t w3.heap.size) (each_iter (d := d) hbe hbo (hown.rd.mono (fun q _ hq e => by have := hbs q hq; have e' : q = _ := e; omega)) HS.out.2.1 (fun i y h => by have := path_len HS.out h; omega)) eachX_size eachX_mono eachX_new
    (fun M' i Z => i = 0 ∧ (M' = fun q => q = w.heap.size + 1 + 1) ∧ Z.heap[w.heap.size + 1 + 1]? = some (.cells #[.bool false] 4))
    (fun c M' Z => c = .ret ∧ (M' = fun q => q = w.heap.size + 1 + 1) ∧ Z.heap[w.heap.size + 1 + 1]? = some (.cells #[.bool true] 4))
    (fun M' i Z h q hq => by rw [h.2.1] at hq; subst hq; exact lt_of_block h.2.2) (fun M' i Z Z' h hk => ⟨h.1, h.2.1, hk.block' h.2.2 (.inl hsw)⟩)
    (fun c M' Z h q hq => by rw [h.2.1] at hq; subst hq; exact lt_of_block h.2.2) (fun c M' Z Z' h hk => ⟨h.1, h.2.1, hk.block' h.2.2 (.inl hsw)⟩) ⟨rfl, rfl, HR3.out⟩ ?round ?done ?stop
  case round =>
    rintro l2 M' i Z args E hl2 ⟨r2, hr2⟩ hml hel hi ⟨rfl, rfl, hcb⟩ hX hk5 h4
    have hn5 := hk5.block' HN3.out (show ¬ w1.heap.size = w.heap.size + 1 + 1 from hnr)
    obtain ⟨pv, tv, p, uu, d2, bs2, rfl, _⟩ := hX
    gi_wp2_with fail
    refine ⟨Ext.refl _, fun W₂ hk2 r3 hr3 => ?_⟩
    have hcb2 := hk2.block' hcb (show w.heap.size + 1 + 1 ≠ l2 by omega)
    have HCB := hid hcb2
    have hn2 := hk2.block' hn5 (show w1.heap.size ≠ l2 by omega)
    have c0 := cell_of (i := 0) hcb2 rfl
    have f0 := frozen_of (i := 0) hcb2
    have c1 := cell_of (i := 0) hn2 rfl
    simp only [List.getElem_toArray, List.getElem_cons_zero] at c0 c1
    have n2 : decide ((S : Int) ≤ 1024) = true := decide_eq_true l1
    clear hcb2 hn2 hk2 hr3
    gi_wp2_with fail
    refine ⟨Kp.set _ _ _ _ (fun h => h (.inl rfl)), fun q => q = w.heap.size + 1 + 1, ⟨rfl, rfl, set_one HCB.out⟩, fun q hq => .inl hq⟩
  case done =>
    rintro D Z M' hD ⟨h0, _⟩
    have := HST.out
    omega
  case stop =>
    rintro D Z c' M' hD ⟨rfl, rfl, hcb⟩ hd hmd hsub hk
    have hne : D ≠ w.heap.size + 1 + 1 := by omega
    have hk6 := Kp.putObj Z D (.deferred none)
    have hb6 := hk6.block' hcb (Ne.symm hne)
    have z0 := cell_of (i := 0) hb6 rfl
    simp only [List.getElem_toArray, List.getElem_cons_zero] at z0
    have HE := hid (show Ext w (Z.putObj D (.deferred none)) from
      Kp.extOf (Kp.ext ((HX3.out.kp _).trans (hk.mono (fun q _ hq => hq))) (fun q hq e => by have e' : q = _ := e; omega)) hk6 (by omega))
    clear hcb hb6 hk6
    gi_wp2_with fail
    refine ⟨by simp, .inl ⟨_, _, rfl, run_takeDeferred hd, ?_⟩⟩
    exact ⟨.bool true, by simp [results, Try.results4, go_sem, z0], rfl, HE.out⟩
end Go.Proofs.Ythdmoghooaccgaa
