/-
  The iterator of Each: each node's path and tree, in memory of their own.
-/
import Derived.Test.YthdmoghooaccgaaNodesIt
import Derived.Shelf.RegionOpen
import Derived.RangeFuncCalls
namespace Go.Proofs.Ythdmoghooaccgaa
open Go.RowKit Go.Shelf
attribute [local go_sem] Oper.semAt_some
/-- What Each hands out: a path and a tree, each in memory of its own. -/
def eachX (t : T) (n0 : Nat) (M : Nat → Prop) (i : Nat) (W : World) (args : Array Value) (E : Nat → Prop) : Prop :=
  ∃ pv tv p u d bs, args = #[pv, tv] ∧ (T.all [] t)[i]? = some (p, u) ∧ PathW W n0 pv p ∧ Own W d tv u bs ∧ bs.Nodup ∧ (∀ b ∈ bs, pv.ownBlock ≠ some b) ∧ (E = fun k => pv.ownBlock = some k ∨ k ∈ bs) ∧ ∀ k, E k → ¬ M k ∧ k < W.heap.size ∧ n0 ≤ k
theorem eachX_size {t : T} {n0 : Nat} {M : Nat → Prop} {i : Nat} {W : World} {args : Array Value} {E : Nat → Prop} (h : eachX t n0 M i W args E) : args.size = 2 := by
  obtain ⟨pv, tv, p, u, d, bs, rfl, _⟩ := h; rfl
theorem eachX_mono {t : T} {n0 : Nat} {M M' : Nat → Prop} {i : Nat} {W : World} {args : Array Value} {E : Nat → Prop} (h : eachX t n0 M i W args E) (hm : ∀ k, M' k → M k) : eachX t n0 M' i W args E := by
  obtain ⟨pv, tv, p, u, d, bs, h1, h2, h3, h4, h5, h6, h7, h8⟩ := h
  exact ⟨pv, tv, p, u, d, bs, h1, h2, h3, h4, h5, h6, h7, fun k hk => ⟨fun h => (h8 k hk).1 (hm k h), (h8 k hk).2⟩⟩
theorem eachX_new {t : T} {n0 : Nat} {M : Nat → Prop} {i : Nat} {W : World} {args : Array Value} {E : Nat → Prop} (h : eachX t n0 M i W args E) : ∀ k, E k → ¬ M k ∧ k < W.heap.size ∧ n0 ≤ k := by
  obtain ⟨pv, tv, p, u, d, bs, h1, h2, h3, h4, h5, h6, h7, h8⟩ := h
  exact h8
set_option maxRecDepth 100000 in
set_option maxHeartbeats 4000000 in
theorem each_iter {t : T} {d eb ob : Nat} {w : World} {M0 : Nat → Prop} {k : ByteArray} {n : Int} {x : ByteArray} {a : Option Addr} {len c : Nat} (he : w.heap[eb]? = some (.cells #[.int .i64 0] 42)) (hb : w.heap[ob]? = some (.cells #[.string k, .int .i64 n, .string x, .slice a len c] 26))
    (hr : Rd (fun k => ¬ M0 k) w d (.agg #[.string k, .int .i64 n, .string x, .slice a len c]) t) (hh : t.height ≤ 64) (hpl : ∀ (i : Nat) y, (T.all [] t)[i]? = some y → y.1.length * 8 ≤ 140737488355328) :
    IterOk 45 #[.pointer (some ⟨eb, 0, none⟩), .pointer (some ⟨ob, 0, none⟩)] t.size M0 w (eachX t w.heap.size) := by
  intro l J Jx W M hlt hst hxlt hxst hY hx hM hJ
  have hEB := hx.block he
  have hOB := hx.block hb
  have hnm : ∀ q, q < w.heap.size → ¬ M0 q → ¬ M q := fun q hq h hm => (hM q hm).elim h (fun h' => by omega)
  have hrW : Rd (fun k => ¬ M k) W d (.agg #[.string k, .int .i64 n, .string x, .slice a len c]) t := (hr.mono (fun q hq h => hnm q hq h)).later hx
  have HRW := hid hrW
  have HLT := hid hlt
  have HST := hid hst
  have HXLT := hid hxlt
  have HXST := hid hxst
  have HY := hid hY
  have HX := hid hx
  have HJ := hid hJ
  have hmn : ¬ M W.heap.size := fun h => Nat.lt_irrefl _ (hlt _ _ _ hJ _ h)
  have HMN := hid hmn
  have HPL := hid hpl
  have HM := hid hM
  have z0 := cell_of (i := 0) hEB rfl
  have e0 := cell_of (i := 0) hOB rfl
  have e1 := cell_of (i := 1) hOB rfl
  have e2 := cell_of (i := 2) hOB rfl
  have e3 := cell_of (i := 3) hOB rfl
  simp only [List.getElem_toArray, List.getElem_cons_zero, List.getElem_cons_succ] at e0 e1 e2 e3 z0
  have hl1 := lt_of_block hEB
  have hl2 := lt_of_block hOB
  clear hEB hOB hnm hrW hlt hst hxlt hxst hY hx hJ hmn hpl hM he hb hr
  refine callsIn_of_wp_marks Try.func45 rfl trivial ?_ rfl
  show Code.wpIn _ _ _ _ _ _ _
  simp only [Try.ntmps45, List.size_toArray, List.length_cons, List.length_nil, Nat.reduceAdd, Nat.reduceSub, Array.replicate_succ, Array.replicate_zero, List.push_toArray, List.append_toArray, List.nil_append, List.cons_append]
  gi_wp2_with fail
  refine ⟨trivial, rfl, ?_⟩
  refine (callsIn_wide.2 (nodes_any k n x a len c _)).mono ?_
  rintro e w' ⟨rfl, rfl⟩
  gi_wp2_with fail
  obtain ⟨V, hV⟩ : ∃ V, (W.alloc (.cells #[.func (.yield l) #[] #[]] 75)).alloc (.cells #[.string k, .int .i64 n, .string x, .slice a len c] 26) = V := ⟨_, rfl⟩
  have hyb : V.heap[W.heap.size]? = some (.cells #[.func (.yield l) #[] #[]] 75) := hV ▸ blkOld _ (blk0 _ _)
  have htb : V.heap[W.heap.size + 1]? = some (.cells #[.string k, .int .i64 n, .string x, .slice a len c] 26) := hV ▸ blk1 _ _ _
  have hXV : Ext W V := hV ▸ Ext.alloc2 _ _ _
  have hsv : W.heap.size + 2 = V.heap.size := by rw [← hV]; simp
  rw [show (W.alloc (.cells #[.func (.yield l) #[] #[]] 75)).alloc (.cells #[.string k, .int .i64 n, .string x, .slice a len c] 26) = V from hV]
  clear e0 e1 e2 e3 z0 hV
  have hsw : w.heap.size ≤ V.heap.size := Nat.le_trans HX.out.size hXV.size
  refine rangeM rfl (enters_of Try.func63 (by kernel_rfl) rfl) t.size M (nodesX t V.heap.size) (nodes_iter (d := d) htb (HRW.out.later hXV) hh) nodesX_size nodesX_mono nodesX_new
    (fun M' i Z => J M' i Z ∧ Z.heap[W.heap.size]? = some (.cells #[.func (.yield l) #[] #[]] 75) ∧ ¬ M' W.heap.size) (fun c M' Z => c = .ret ∧ Jx M' Z)
    (fun M' i Z h => HLT.out _ _ _ h.1) (fun M' i Z Z' h hk => ⟨HST.out _ _ _ _ h.1 (hk.mono (fun q _ hq => hq.imp (fun h => by omega) id)), hk.block' h.2.1 (.inl (by omega)), h.2.2⟩)
    (fun c M' Z h => HXLT.out _ _ h.2) (fun c M' Z Z' h hk => ⟨h.1, HXST.out _ _ _ h.2 (hk.mono (fun q _ hq => hq.imp (fun h => by omega) id))⟩)
    ⟨HST.out _ _ _ _ HJ.out (hXV.kp _), hyb, HMN.out⟩ ?round ?done ?stop
  case round =>
    rintro l2 M' i Z args E hl2 ⟨r2, hr2⟩ hml hel hi ⟨hJ', hyc, hmy⟩ ⟨pv, tv, p, u, d', rfl, hL, hI, hpm, hrd, rfl⟩ hk5 h4
    obtain ⟨u0, u1, u2, u3, rfl⟩ := hrd.agg
    obtain ⟨k', n', x', a', c', rfl, rfl, rfl, rfl⟩ := hrd.shape
    generalize hkl : u.kids.length = kl at hrd
    gi_wp2
    refine ⟨Ext.alloc _ _, fun W₂ hk2 r3 hr3 => ?_⟩
    have hbx0 := blk0 Z (.cells #[.string k', .int .i64 n', .string x', .slice a' kl c'] 26)
    have hzl : Z.heap.size ≠ l2 := by have := lt_of_block hr2; omega
    have hbx := hk2.block' hbx0 hzl
    have hyl : W.heap.size ≠ l2 := by omega
    have hyc2 := hk2.block' (blkOld _ hyc) hyl
    have hkz : Kp (· ≠ l2) Z W₂ := ((Ext.alloc Z _).kp _).trans hk2
    have HI2 := hid (show Ints W₂ pv p from hI.keep hkz (fun g hg => by obtain ⟨v, hv⟩ := hg; exact cell_loop hr2 hv))
    have HR2 := hid (show Rd (fun k => k < V.heap.size ∧ ¬ M' k) W₂ d' (.agg #[.string k', .int .i64 n', .string x', .slice a' kl c']) u from hrd.keep (hkz.mono (fun q _ hq e => by have e' : q = _ := e; omega)))
    have HJ2 := hid (show J M' i W₂ from HST.out _ _ _ _ hJ' (hkz.mono (fun q _ hq e => by
      have e' : q = _ := e
      subst e'
      rcases hq with h | h
      · omega
      · exact hml h)))
    have HYC2 := hid hyc2
    have hs2 : Z.heap.size < W₂.heap.size := lt_of_block hbx
    have hsV : V.heap.size ≤ Z.heap.size := hk5.size
    have hM2 : ∀ q, M' q → q < Z.heap.size := HLT.out _ _ _ hJ'
    have HM2 := hid hM2
    have HPP := hid (HPL.out i _ hL)
    have HLL := hid hL
    have HH4 := hid h4
    have HMY := hid hmy
    have q0 := cell_of (i := 0) hbx rfl
    have q1 := cell_of (i := 1) hbx rfl
    have q2 := cell_of (i := 2) hbx rfl
    have q3 := cell_of (i := 3) hbx rfl
    have q4 := cell_of (i := 0) hyc2 rfl
    simp only [List.getElem_toArray, List.getElem_cons_zero, List.getElem_cons_succ] at q0 q1 q2 q3 q4
    have hzl2 : Z.heap.size < W₂.heap.size := hs2
    have hyl2 : W.heap.size < W₂.heap.size := lt_of_block hyc2
    have HYD := hid (show ∀ (wa wb : World) (a1 : Option Addr) (c1 : Nat) (tv' : Value) (bs : List Nat), Ext W₂ wa → Ext wa wb → PathW wa W₂.heap.size (.slice a1 p.length c1) p → Own wb d' tv' u bs → (∀ b ∈ bs, wa.heap.size ≤ b) → bs.Nodup →
        YieldAt Fence.wide 0 Try.prog l #[.slice a1 p.length c1, tv'] wb (YieldR J Jx (fun q => M' q ∨ ((Value.slice a1 p.length c1).ownBlock = some q ∨ q ∈ bs)) i wb) from fun wa wb a1 c1 tv' bs hxa hxb hpw hown hge hnd => by
      have hpb : ∀ q, (Value.slice a1 p.length c1).ownBlock = some q → W₂.heap.size ≤ q ∧ q < wa.heap.size := fun q hq => by
        obtain ⟨h1, cur, h2⟩ := hpw.block hq
        exact ⟨h1, lt_of_block h2⟩
      refine HY.out M' i wb _ _ (HST.out _ _ _ _ HJ2.out ((hxa.trans hxb).kp _)) hi ⟨_, tv', p, u, d', bs, rfl, HLL.out, ?_, hown, hnd, fun b hb e => ?_, rfl, fun q hq => ?_⟩
      · exact row_mono (hpw.keep (hxb.kp (fun _ => True)) (fun _ _ => trivial)) (by omega)
      · have := hge b hb
        have := (hpb b e).2
        omega
      · have hz := hxa.size
        have hz2 := hxb.size
        have hz1 := HX.out.size
        rcases hq with h | h
        · have := hpb q h
          exact ⟨fun hm => by have := HM2.out q hm; omega, by omega, by omega⟩
        · have := hge q h
          exact ⟨fun hm => by have := HM2.out q hm; omega, hown.lt q h, by omega⟩)
    clear hbx0 hbx hyc2 hkz hI hrd hJ' hyc hmy h4 hL hM2 hk2 hr3 hr2
    have FIN := hid (show ∀ (wa wb w3 : World) (a1 : Option Addr) (c1 : Nat) (bs : List Nat), Ext W₂ wa → Ext wa wb → PathW wa W₂.heap.size (.slice a1 p.length c1) p → (∀ b ∈ bs, wa.heap.size ≤ b) → Kp (fun q => ¬ (M' q ∨ ((Value.slice a1 p.length c1).ownBlock = some q ∨ q ∈ bs))) wb w3 →
        Kp (fun q => ¬ (M' q ∨ False)) W₂ w3 ∧ w3.heap[W.heap.size]? = some (.cells #[.func (.yield l) #[] #[]] 75) ∧ ∀ M3 : Nat → Prop, (∀ q, M3 q → (M' q ∨ ((Value.slice a1 p.length c1).ownBlock = some q ∨ q ∈ bs)) ∨ wb.heap.size ≤ q) → ¬ M3 W.heap.size ∧ ∀ q, M3 q → M' q ∨ False ∨ Z.heap.size ≤ q from fun wa wb w3 a1 c1 bs hxa hxb hpw hge hk3 => by
      have hE : ∀ q, ((Value.slice a1 p.length c1).ownBlock = some q ∨ q ∈ bs) → W₂.heap.size ≤ q := fun q hq => by
        rcases hq with h | h
        · exact (hpw.block h).1
        · have := hge q h; have := hxa.size; omega
      have hk : Kp (fun q => q < W₂.heap.size ∧ ¬ M' q) W₂ w3 := (((hxa.trans hxb).kp _).trans (hk3.mono (fun q _ hq h => by
        rcases h with h | h
        · exact hq.2 h
        · have := hE q h; omega)))
      refine ⟨hk.mono (fun q hq h => ⟨hq, fun hm => h (.inl hm)⟩), hk.block' HYC2.out ⟨hyl2, HMY.out⟩, fun M3 hM3 => ⟨fun h => ?_, fun q hq => ?_⟩⟩
      · rcases hM3 _ h with (h | h) | h
        · exact HMY.out h
        · have := hE _ h; omega
        · have := hxa.size; have := hxb.size; omega
      · rcases hM3 _ hq with (h | h) | h
        · exact .inl h
        · have := hE _ h; exact .inr (.inr (by omega))
        · have := hxa.size; have := hxb.size; exact .inr (.inr (by omega)))
    have hmx : Try.prog.follows Departure.mixedOrders = true := by kernel_rfl
    have wf : ∀ f, Fence.wide.fn f := fun _ => trivial
    have wd : Fence.wide.depth = none := rfl
    gi_wp2
    gi_region_with_o (first
      | (gi_at_call 47; refine (CallsIn.inRound l2 (callsIn_wide.2 (clone_any pv p _ (HI2.out.later (by repeat (first | with_reducible exact Ext.refl _ | with_reducible refine Ext.drew ?_ | with_reducible refine Ext.more ?_ _))) HPP.out))).mono ?_; rintro r wa ⟨a1, c1, rfl, hpw, hxa⟩; have XA : Ext W₂ wa := Ext.trans (by repeat (first | with_reducible exact Ext.refl _ | with_reducible refine Ext.drew ?_ | with_reducible refine Ext.more ?_ _)) hxa; have s0 := (Below.cell XA hzl2 (p := ⟨Z.heap.size, 0, none⟩)).trans q0; have s1 := (Below.cell XA hzl2 (p := ⟨Z.heap.size, 1, none⟩)).trans q1; have s2 := (Below.cell XA hzl2 (p := ⟨Z.heap.size, 2, none⟩)).trans q2; have s3 := (Below.cell XA hzl2 (p := ⟨Z.heap.size, 3, none⟩)).trans q3; have s4 := (Below.cell XA hyl2 (p := ⟨W.heap.size, 0, none⟩)).trans q4)
      | (gi_at_call 48; refine (CallsIn.inRound l2 (callsIn_wide.2 (copied_any d' _ u _ wa (HR2.out.later XA)))).mono ?_; rintro r wb ⟨tv', bs, rfl, hxb, hown, hge, hnd⟩; obtain ⟨u0, u1, u2, u3, rfl⟩ := hown.rd.agg; have XB : Ext W₂ wb := Ext.trans XA hxb; have t4 := (Below.cell XB hyl2 (p := ⟨W.heap.size, 0, none⟩)).trans q4; obtain ⟨fn, tmps, assign, body, hy, hR⟩ := HYD.out wa wb a1 c1 _ bs XA hxb (row_mono hpw (Below.size (by repeat (first | with_reducible exact Ext.refl _ | with_reducible refine Ext.drew ?_ | with_reducible refine Ext.more ?_ _) : Ext W₂ _))) hown hge hnd)
      | (refine RoundIn.mono (show RoundIn (Fence.wide.inRound l2) 0 Try.prog l fn tmps assign body wb _ from hR) ?_; intro r w3 hyr; obtain ⟨o, rfl, hk3, hv⟩ := hyr.bool))
    all_goals
      have HF := hid (FIN.out wa wb w3 a1 c1 bs XA hxb (row_mono hpw (Below.size (by repeat (first | with_reducible exact Ext.refl _ | with_reducible refine Ext.drew ?_ | with_reducible refine Ext.more ?_ _) : Ext W₂ _))) hge hk3)
      have HV := hid hv
      clear hv hk3 hR hy s0 s1 s2 s3 s4 t4 q0 q1 q2 q3 q4
      rcases HV.out with ⟨rfl, M3, hJ3, hM3⟩ | ⟨rfl, M3, hJ3, hM3⟩
      · gi_wp2
        exact ⟨HF.out.1, M3, ⟨hJ3, HF.out.2.1, (HF.out.2.2 M3 hM3).1⟩, (HF.out.2.2 M3 hM3).2⟩
      · gi_wp2
        exact ⟨HF.out.1, M3, ⟨rfl, hJ3⟩, (HF.out.2.2 M3 hM3).2⟩
  case done =>
    rintro D Z M' hD ⟨hJ', _, _⟩ hd hmd hsub hk
    have hk6 := Kp.putObj Z D (.deferred none)
    have HF := hid (show Kp (fun q => ¬ M q) W (Z.putObj D (.deferred none)) ∧ J M' t.size (Z.putObj D (.deferred none)) ∧ (∀ q, M' q → M q ∨ W.heap.size ≤ q) from ⟨((((hXV.kp (fun q => q < W.heap.size ∧ ¬ M q)).trans (hk.mono (fun q _ hq => hq.2))).trans (hk6.mono (fun q _ hq e => by have e' : q = _ := e; omega)))).mono (fun q hq h => ⟨hq, h⟩), HST.out _ _ _ _ hJ' (hk6.mono (fun q _ hq e => by
      have e' : q = _ := e
      subst e'
      rcases hq with h | h
      · omega
      · exact hmd h)), fun q hq => (hsub q hq).imp id (fun h => by omega)⟩)
    gi_wp2
    refine ⟨by simp, .inl ⟨_, _, rfl, run_takeDeferred hd, ?_⟩⟩
    exact ⟨_, results_none rfl _ _ _, ⟨_, rfl⟩, HF.out.1, .inl ⟨M', HF.out.2.1, HF.out.2.2⟩⟩
  case stop =>
    rintro D Z c' M' hD ⟨rfl, hJx⟩ hd hmd hsub hk
    have hk6 := Kp.putObj Z D (.deferred none)
    have HF := hid (show Kp (fun q => ¬ M q) W (Z.putObj D (.deferred none)) ∧ Jx M' (Z.putObj D (.deferred none)) ∧ (∀ q, M' q → M q ∨ W.heap.size ≤ q) from ⟨((((hXV.kp (fun q => q < W.heap.size ∧ ¬ M q)).trans (hk.mono (fun q _ hq => hq.2))).trans (hk6.mono (fun q _ hq e => by have e' : q = _ := e; omega)))).mono (fun q hq h => ⟨hq, h⟩), HXST.out _ _ _ hJx (hk6.mono (fun q _ hq e => by
      have e' : q = _ := e
      subst e'
      rcases hq with h | h
      · omega
      · exact hmd h)), fun q hq => (hsub q hq).imp id (fun h => by omega)⟩)
    gi_wp2
    refine ⟨by simp, .inl ⟨_, _, rfl, run_takeDeferred hd, ?_⟩⟩
    exact ⟨_, results_none rfl _ _ _, ⟨_, rfl⟩, HF.out.1, .inr ⟨M', HF.out.2.1, HF.out.2.2⟩⟩
end Go.Proofs.Ythdmoghooaccgaa
