/-
  The walk of WorthApart: it tells yes, and what lay there lies as it lay.
-/
import Derived.Test.YtbpbkihcfdnphaaDoorBegun
import Derived.Test.YtbpbkihcfdnphaaDoorIsF
import Derived.Test.YtbpbkihcfdnphaaDoorJoin
import Derived.Test.YtbpbkihcfdnphaaDoorRLeft
import Derived.Test.YtbpbkihcfdnphaaDoorBookF
import Derived.Test.YtbpbkihcfdnphaaDoorBackBad
import Derived.Test.YtbpbkihcfdnphaaDoorEnvF
namespace Go.Proofs.YtbpbkihcfdnphaaDoor
open Go.RowKit
theorem is_self {K K' : Nat → Prop} {d d' : Nat} {v v' : Value} {t : T} (w : World) (hr : VRd K w d v t) (hr' : Rd K' w d' v' t) (hm : t.may) : Calls Tryd.prog 11 #[v, v'] w fun e w' => e = .returned (.bool true) ∧ Ext w w' := by
  have e := is_any w hr hr' (Nat.le_trans (T.nodes_size _) (Nat.le_trans hm.2.1 (by decide))) (Nat.le_trans hm.2.2 (by decide))
  rw [(T.beq_eq _ _).2 rfl] at e
  exact e
theorem leaf1 : (T.node 1 0 ⟨#[]⟩ []).size = 1 := rfl
/-- What a join of three answers. -/
def JoinG (w : World) (t : T) (e : Ending) (w' : World) : Prop := Ext w w' ∧ ∃ jv ec t3 d3 bs, e = .returned (.tuple #[jv, .int .i64 ec]) ∧ VOwn0 w' d3 jv t3 bs ∧ t3.size ≤ 65536 ∧ t3.size ≤ 1 + 3 * t.size ∧ bs.Nodup ∧ ∀ q ∈ bs, w.heap.size ≤ q
theorem join_three {K : Nat → Prop} {d g : Nat} {k n : Int} {x : ByteArray} {al : Option Addr} {ll cl : Nat} {t : T} (W : World) (hb : W.heap[g]? = some (.cells #[.int .i64 k, .int .i64 n, .string x, .slice al ll cl, .int .i64 k, .int .i64 n, .string x, .slice al ll cl, .int .i64 k, .int .i64 n, .string x, .slice al ll cl] 24)) (hr : Rd K W d (.agg #[.int .i64 k, .int .i64 n, .string x, .slice al ll cl]) t) :
    Calls Tryd.prog 17 #[.slice (some ⟨g, 0, none⟩) 3 3] W (JoinG W t) := by
  have hL : RdL (fun q => K q ∨ q = g) W d (some ⟨g, 0, none⟩) [t, t, t] := by
    refine ⟨by show 3 * 56 ≤ 140737488351232; omega, .inr ⟨g, 0, rfl, .inr rfl, fun j hj => ?_⟩⟩
    match j, hj with
    | 0, _ => exact ⟨_, _, _, _, ⟨cell_of (i := 0) hb rfl, cell_of (i := 1) hb rfl, cell_of (i := 2) hb rfl, cell_of (i := 3) hb rfl⟩, hr.mono (fun _ _ h => .inl h)⟩
    | 1, _ => exact ⟨_, _, _, _, ⟨cell_of (i := 4) hb rfl, cell_of (i := 5) hb rfl, cell_of (i := 6) hb rfl, cell_of (i := 7) hb rfl⟩, hr.mono (fun _ _ h => .inl h)⟩
    | 2, _ => exact ⟨_, _, _, _, ⟨cell_of (i := 8) hb rfl, cell_of (i := 9) hb rfl, cell_of (i := 10) hb rfl, cell_of (i := 11) hb rfl⟩, hr.mono (fun _ _ h => .inl h)⟩
  refine (show Calls Tryd.prog 17 #[.slice (some ⟨g, 0, none⟩) 3 3] W (JoinR W (d + 1) [t, t, t]) from join_any (c := 3) W hL).mono ?_
  rintro e w' ⟨hx, hcase⟩
  have hz : ∀ c : Int, JoinG W t (.returned (.tuple #[.nilIface, .int .i64 c])) w' := fun c => ⟨hx, .nilIface, c, .node 1 0 ⟨#[]⟩ [], 0, [], rfl, .inr ⟨rfl, rfl⟩, by rw [leaf1]; omega, by rw [leaf1]; omega, List.nodup_nil, fun q hq => absurd hq (by simp)⟩
  rcases hcase with ⟨_, rfl⟩ | ⟨_, _, rfl⟩ | ⟨_, hm, u, bs, rfl, ho, hge, hnd⟩
  · exact hz 1
  · exact hz 2
  · have h1 := hm.2.1
    simp only [T.size, T.sizeL] at h1
    refine ⟨hx, u, 0, _, _, bs, rfl, .inl ho, hm.2.1, ?_, hnd, hge⟩
    show 1 + 0 + (t.size + (t.size + (t.size + 0))) ≤ 1 + 3 * t.size
    omega
theorem VOwn0.form {w : World} {d : Nat} {v : Value} {t : T} {bs : List Nat} (h : VOwn0 w d v t bs) : (∃ τ p, v = .iface τ p) ∨ v = .nilIface := by
  rcases h with h | ⟨h, _⟩
  · exact .inl h.rd.iface
  · exact .inr h
theorem InRow.one {w : World} {d : Nat} {v : Value} {t : T} {bs : List Nat} (h : VOwn0 w d v t bs) : InRow w [v] [t] [bs] :=
  ⟨rfl, fun j hj => by match j, hj with | 0, _ => exact ⟨v, bs, d, rfl, rfl, h⟩⟩
theorem InRow.two {w : World} {d d' : Nat} {v v' : Value} {t t' : T} {bs bs' : List Nat} (h : VOwn0 w d v t bs) (h' : VOwn0 w d' v' t' bs') : InRow w [v, v'] [t, t'] [bs, bs'] :=
  ⟨rfl, fun j hj => by
    match j, hj with
    | 0, _ => exact ⟨v, bs, d, rfl, rfl, h⟩
    | 1, _ => exact ⟨v', bs', d', rfl, rfl, h'⟩⟩
theorem cells_of {w : World} {g : Nat} {cs : List Value} {ty : TypeId} (h : w.heap[g]? = some (.cells cs.toArray ty)) (e : Nat) (u : Value) (he : cs[e]? = some u) : w.cell? ⟨g, e, none⟩ = some u := cell_of h (by simpa using he)
theorem InRow.vals {w : World} {g : Nat} {ys : List Value} {ts : List T} {bss : List (List Nat)} (h : InRow w ys ts bss) (hg : w.heap[g]? = some (.cells ys.toArray 30)) (hn : g ∉ bss.flatten) : VVals w (some ⟨g, 0, none⟩) ts bss :=
  ⟨h.1, .inr ⟨g, ys.toArray, rfl, hg, hn, fun j hj => by
    obtain ⟨u, l, d, e0, hl, ho⟩ := h.2 j hj
    exact ⟨u, l, d, by simpa using e0, hl, ho⟩⟩⟩
theorem KeepF.pre {b base c m : Nat} {M : Nat → Prop} {ns ns' : List Nat} {w : World} {o : Obj} {e : Ending} {w' : World} (hn : ∀ q, q ∈ ns → q ∈ ns') (h : KeepF b base c m M ns (w.alloc o) e w') : KeepF b base c m M ns' w e w' := by
  obtain ⟨h1, M', h2, h3, h4⟩ := h
  exact ⟨h1, M', h2, ((Ext.alloc w o).kp _).trans h3, fun q hq => (h4 q hq).imp id (Or.imp (hn q) (fun h => by rw [blkS] at h; omega))⟩
theorem TakeF.pre {b base c m : Nat} {M : Nat → Prop} {ns ns' : List Nat} {w : World} {o : Obj} {e : Ending} {w' : World} (hn : ∀ q, q ∈ ns ↔ q ∈ ns') (h : TakeF b base c m M ns (w.alloc o) e w') : TakeF b base c m M ns' w e w' := by
  obtain ⟨h1, M', h2, h3, h4⟩ := h
  refine ⟨h1, M', h2, ((Ext.alloc w o).kp _).trans (Kp.mono h3 (fun q _ hq e => hq (e.imp id (hn q).1))), fun q hq => (h4 q hq).imp id (Or.imp (hn q).1 (fun h => by rw [blkS] at h; omega))⟩
theorem keep1 {b base c m d : Nat} {M : Nat → Prop} {w : World} {v : Value} {t : T} {bs : List Nat} (h : BS b base c m M w) (hbs : base ≤ w.heap.size) (hv : VOwn0 w d v t bs) (ht : t.size ≤ 65536) (hn : bs.Nodup) (hM : ∀ q ∈ bs, base ≤ q ∧ ¬ M q) (hm : m ≤ 1000000) :
    Calls Tryd.prog 22 #[.pointer (some ⟨b, 0, none⟩), .slice (some ⟨w.heap.size, 0, none⟩) 1 1] (w.alloc (.cells #[v] 30)) (KeepF b base c (m + t.size) M bs w) := by
  refine ((h.later (Ext.alloc w _)).keepc (Nat.le_trans hbs (Ext.alloc w _).size) (ts := [t]) (bss := [bs]) (ys := [v]) 1 (InRow.one (hv.keep ((Ext.alloc w _).kp _))) rfl (cells_of (cs := [v]) (blk0 w _)) (by simp) (by simpa using ht) (by simpa using hn) (by simpa using hM) hm).mono ?_
  intro e w' hk
  have := KeepF.pre (ns' := bs) (by simp) hk
  simpa [T.sizeL] using this
theorem keep2 {b base c m d d' : Nat} {M : Nat → Prop} {w : World} {v v' : Value} {t t' : T} {bs bs' : List Nat} (h : BS b base c m M w) (hbs : base ≤ w.heap.size) (hv : VOwn0 w d v t bs) (hv' : VOwn0 w d' v' t' bs') (ht : t.size ≤ 65536) (ht' : t'.size ≤ 65536) (hn : (bs ++ bs').Nodup) (hM : ∀ q ∈ bs ++ bs', base ≤ q ∧ ¬ M q) (hm : m ≤ 1000000) :
    Calls Tryd.prog 22 #[.pointer (some ⟨b, 0, none⟩), .slice (some ⟨w.heap.size, 0, none⟩) 2 2] (w.alloc (.cells #[v, v'] 30)) (KeepF b base c (m + (t.size + t'.size)) M (bs ++ bs') w) := by
  refine ((h.later (Ext.alloc w _)).keepc (Nat.le_trans hbs (Ext.alloc w _).size) (ts := [t, t']) (bss := [bs, bs']) (ys := [v, v']) 2 (InRow.two (hv.keep ((Ext.alloc w _).kp _)) (hv'.keep ((Ext.alloc w _).kp _))) rfl (cells_of (cs := [v, v']) (blk0 w _)) (by simp) (by simp [ht, ht']) (by simpa using hn) (by simpa using hM) hm).mono ?_
  intro e w' hk
  have := KeepF.pre (ns' := bs ++ bs') (by simp) hk
  simpa [T.sizeL] using this
theorem take1 {b base c m d : Nat} {M : Nat → Prop} {w : World} {v : Value} {t : T} {bs : List Nat} (h : BS b base c m M w) (hbs : base ≤ w.heap.size) (hv : VOwn0 w d v t bs) (ht : t.size ≤ 65536) (hn : bs.Nodup) (hM : ∀ q ∈ bs, base ≤ q ∧ ¬ M q) (hc : c ≤ 1000) :
    Calls Tryd.prog 23 #[.pointer (some ⟨b, 0, none⟩), .slice (some ⟨w.heap.size, 0, none⟩) 1 1] (w.alloc (.cells #[v] 30)) (TakeF b base (c + 1) m M bs w) := by
  refine ((h.later (Ext.alloc w _)).takec (Nat.le_trans hbs (Ext.alloc w _).size) (ts := [t]) (bss := [bs]) 1 ((InRow.one (hv.keep ((Ext.alloc w _).kp _))).vals (g := w.heap.size) (blk0 w _) (fun e => by have := hv.lt w.heap.size (by simpa using e); omega)) (by simp [T.sizeL]; omega) (by simpa using ht) (by simpa using hn) (by simpa using hM) hc).mono ?_
  intro e w' hk
  exact TakeF.pre (ns' := bs) (by simp) hk
theorem take2 {b base c m d d' : Nat} {M : Nat → Prop} {w : World} {v v' : Value} {t t' : T} {bs bs' : List Nat} (h : BS b base c m M w) (hbs : base ≤ w.heap.size) (hv : VOwn0 w d v t bs) (hv' : VOwn0 w d' v' t' bs') (ht : t.size ≤ 65536) (ht' : t'.size ≤ 65536) (hn : (bs ++ bs').Nodup) (hM : ∀ q ∈ bs ++ bs', base ≤ q ∧ ¬ M q) (hc : c ≤ 1000) :
    Calls Tryd.prog 23 #[.pointer (some ⟨b, 0, none⟩), .slice (some ⟨w.heap.size, 0, none⟩) 2 2] (w.alloc (.cells #[v, v'] 30)) (TakeF b base (c + 1) m M (bs ++ bs') w) := by
  refine ((h.later (Ext.alloc w _)).takec (Nat.le_trans hbs (Ext.alloc w _).size) (ts := [t, t']) (bss := [bs, bs']) 2 ((InRow.two (hv.keep ((Ext.alloc w _).kp _)) (hv'.keep ((Ext.alloc w _).kp _))).vals (g := w.heap.size) (blk0 w _) (fun e => by
    rw [List.flatten_cons, List.flatten_cons, List.flatten_nil, List.append_nil, List.mem_append] at e
    rcases e with e | e
    · have := hv.lt _ e; omega
    · have := hv'.lt _ e; omega)) (by simp [T.sizeL]; omega) (by simp [ht, ht']) (by simpa using hn) (by simpa using hM) hc).mono ?_
  intro e w' hk
  exact TakeF.pre (ns' := bs ++ bs') (by simp) hk
theorem LaidE.ext {w w' : World} (h : LaidE w) (hx : Ext w w') : LaidE w' := h.keep (hx.kp (fun _ => True)) trivial trivial
theorem LaidT.ext {w w' : World} (h : LaidT w) (hx : Ext w w') (h0 : 0 < w.heap.size) : LaidT w' := LaidT.below h hx h0
/-- What a value's own text is read as. -/
def ReadG (w : World) (t : T) (e : Ending) (w' : World) : Prop := Ext w w' ∧ ∃ τ p bs, e = .returned (.tuple #[.iface τ p, .int .i64 0, .int .i64 0]) ∧ VOwn w' 65 (.iface τ p) t bs ∧ (∀ q ∈ bs, w.heap.size ≤ q) ∧ bs.Nodup
theorem read_own {t : T} (w : World) (hm : t.may) (hf : t.fitI) (hl : t.wr.length ≤ 1048576) (hL : LaidE w) : Calls Tryd.prog 10 #[.string ⟨t.wr.toArray⟩] w (ReadG w t) := by
  have e := read_gen ⟨t.wr.toArray⟩ w (by show t.wr.toArray.size ≤ _; rw [List.size_toArray]; omega) hL
  rw [readR_text hm hf hl] at e
  refine e.mono ?_
  rintro r w' ⟨hx, u, bs, rfl, ho, hge, hnd⟩
  obtain ⟨τ, q, rfl⟩ := ho.rd.iface
  exact ⟨hx, τ, q, bs, rfl, ho, hge, hnd⟩
/-- What any text is read as. -/
def ReadH (w : World) (e : Ending) (w' : World) : Prop := Ext w w' ∧ ∃ u a c t d bs, e = .returned (.tuple #[u, .int .i64 a, .int .i64 c]) ∧ VOwn0 w' d u t bs ∧ t.size ≤ 65536 ∧ (∀ q ∈ bs, w.heap.size ≤ q) ∧ bs.Nodup
theorem read_all (s : ByteArray) (w : World) (hs : s.size ≤ 140737488351232) (hL : LaidE w) : Calls Tryd.prog 10 #[.string s] w (ReadH w) := by
  refine (read_gen s w hs hL).mono ?_
  rintro r w' ⟨hx, hr⟩
  cases hq : readR s (quoQ s) with
  | ok t a =>
    rw [hq] at hr
    obtain ⟨u, bs, rfl, ho, hge, hnd⟩ := hr
    exact ⟨hx, u, 0, 0, t, 65, bs, rfl, .inl ho, (readR_ok hq).1.2.1, hge, hnd⟩
  | bad c a =>
    rw [hq] at hr
    subst hr
    exact ⟨hx, .nilIface, a, c, .node 1 0 ⟨#[]⟩ [], 0, [], rfl, .inr ⟨rfl, rfl⟩, by rw [leaf1]; omega, fun q hq => absurd hq (by simp), List.nodup_nil⟩
theorem text_own {K : Nat → Prop} {d : Nat} {v : Value} {t : T} (w : World) (hr : Rd K w d v t) (hf : t.fitI) (hT : LaidT w) (h0 : 0 < w.heap.size) (hm : t.may) : Calls Tryd.prog 9 #[v] w fun e w' => Ext w w' ∧ ∃ sx ec, e = .returned (.tuple #[.string sx, .int .i64 ec]) ∧ ((ec = 0 ∧ sx = ⟨t.wr.toArray⟩ ∧ t.wr.length ≤ 1048576) ∨ ec = 2) := by
  refine (text_gen w hr hf hT h0).mono ?_
  rintro e w' ⟨rfl, hx⟩
  unfold textV
  rw [if_pos hm]
  by_cases hl : t.wr.length ≤ 1048576
  · rw [if_pos hl]; exact ⟨hx, _, 0, rfl, .inl ⟨rfl, rfl, hl⟩⟩
  · rw [if_neg hl]; exact ⟨hx, _, 2, rfl, .inr rfl⟩
/-- The loop's state. -/
def AI (w : World) (b j : Nat) (N : Int) (wr : World) : Prop := ∃ (M : Nat → Prop) (A : Nat), j ≤ 20 ∧ 0 ≤ N ∧ N ≤ 65536 * (j : Int) ∧ (A : Int) ≤ N ∧ A ≤ 100000 ∧ Ext w wr ∧ BS b w.heap.size (2 * j) (8 * A) M wr
theorem AI.later {w wr w' : World} {b j : Nat} {N N' : Int} (h : AI w b j N wr) (hx : Ext wr w') (h5 : j < 20) (h0 : N ≤ N') (h1 : N' ≤ N + 65536) : AI w b (j + 1) N' w' := by
  obtain ⟨M, A, a1, a2, a3, a4, a5, a6, a7⟩ := h
  exact ⟨M, A, by omega, by omega, by omega, by omega, a5, a6.trans hx, (a7.later hx).more (by omega) (Nat.le_refl _)⟩
theorem KpM.ext {b base c m : Nat} {M : Nat → Prop} {w x x' : World} (h : BS b base c m M x) (hx : Ext w x) (hb : w.heap.size ≤ base) (hk : KpM M x x') : Ext w x' :=
  Kp.ext (K := fun q => q < w.heap.size) ((hx.kp _).chain hk (fun q hq _ e => by have := (h.low e).1; omega)) (fun q hq => hq)
set_option maxRecDepth 100000 in
set_option maxHeartbeats 16000000 in
theorem apart_walk {K : Nat → Prop} {d : Nat} {a : Option Addr} {c : Nat} {ks : List T} {sx : ByteArray} (w : World) (h : RdL K w d a ks) (hfit : ∀ t ∈ ks, t.fitI) (hsx : sx.size ≤ 140737488351232) (hE : LaidE w) (hT : LaidT w) :
    Calls Tryd.prog 6 #[.slice a ks.length c, .string sx] w fun e w' => e = .returned (.bool true) ∧ Ext w w' := by
  have HA := hid h
  have HFIT := hid hfit
  have HE := hid hE
  have HT := hid hT
  have HSX := hid hsx
  have h0 : 0 < w.heap.size := by have := hE.size; omega
  have hl : (ks.length : Int) ≤ 140737488355328 := by have := h.1; omega
  have hsx' : (sx.size : Int) ≤ 140737488355328 := by omega
  clear h hfit hE hT hsx
  go_enter Tryd.func6, Tryd.ntmps6
  go_wp2_with fail
  refine (begun_any _).mono ?_
  rintro e V ⟨rfl, hx⟩
  have HV := hid hx
  have hVs := hx.size
  clear hx
  obtain ⟨b, hb⟩ : ∃ b, b = V.heap.size := ⟨_, rfl⟩
  have HAI := hid (show AI w b 0 0 (V.alloc (.cells #[.slice none 0 0, .slice none 0 0, .int .i64 0, .slice none 0 0] 51)) from ⟨_, 0, by omega, by omega, by omega, by omega, by omega, HV.out.trans (Ext.alloc _ _), BS.start (by rw [hb]; exact blk0 V _) (by omega)⟩)
  go_wp2_with fail
  rw [← hb]
  go_loopw [6, 7] (fun s i wr => ∃ (j : Nat) (N : Int), j ≤ ks.length ∧ i = .int .i64 j ∧ s = .int .i64 N ∧ AI w b j N wr) (fun _ i _ => ks.length - (intOf i).toNat)
  case atStart => exact ⟨0, 0, Nat.zero_le _, rfl, rfl, HAI.out⟩
  case round =>
    obtain ⟨j, N, hj, rfl, rfl, hai⟩ := hrel
    have HAJ := hid hai
    obtain ⟨M0, Ac, hj5, hN0, hN1, hA1, hA2, hx, hbs⟩ := hai
    have HX := hid hx
    have HBS := hid hbs
    have hNb : N ≤ 1310720 := by omega
    have hsw := hx.size
    clear hx hbs HAI hb
    by_cases hend : j < ks.length ∧ j < 20
    · obtain ⟨hlt, h5⟩ := hend
      have hlt' : (j : Int) < ks.length := by omega
      have h5' : (j : Int) < 20 := by omega
      obtain ⟨gl, off, k, n, x, al, ll, cl, rfl, hg, h4, hrd⟩ := HA.out.kid hlt
      have hgl : gl < w.heap.size := lt_of_cell h4.1
      have HGL := hid hgl
      have H4 := hid h4
      have HRD := hid hrd.low
      have HF := hid (HFIT.out ks[j] (List.getElem_mem hlt))
      obtain ⟨m0, m1, m2, m3⟩ := h4.keep (HX.out.kp K) hg
      have hgr : gl < wr.heap.size := Nat.lt_of_lt_of_le hgl HX.out.size
      clear h4 hrd hg hgl
      obtain ⟨t, ht⟩ : ∃ t, ks[j] = t := ⟨_, rfl⟩
      rw [ht] at HRD HF
      clear ht
      by_cases hm : t.may
      · have HM := hid hm
        have hz := t.size_pos
        have hz1 := hm.2.1
        obtain ⟨S, hS⟩ : ∃ S : Int, (t.size : Int) = S := ⟨_, rfl⟩
        have HS := hid hS
        have hS1 : 1 ≤ S := by omega
        have hS2 : S ≤ 65536 := by omega
        have HZ := hid (show Calls Tryd.prog 19 #[.agg #[.int .i64 k, .int .i64 n, .string x, .slice al ll cl]] wr fun r w' => r = .returned (.int .i64 S) ∧ Ext wr w' from by
          have e := rsize_any wr (HRD.out.later HX.out)
          rw [show sizeN t = S by rw [sizeN, if_pos hm, hS]] at e
          exact e)
        have HMY := hid (show ∀ W', Ext wr W' → Calls Tryd.prog 20 #[.agg #[.int .i64 k, .int .i64 n, .string x, .slice al ll cl]] W' fun r w' => r = .returned (.bool true) ∧ Ext W' w' from fun W' hx => by
          have e := rmay_any W' (HRD.out.later (HX.out.trans hx))
          rw [decide_eq_true hm] at e
          exact e)
        clear hm hz hz1 hS
        go_wp2_with fail
        refine HZ.out.mono ?_
        rintro e w1 ⟨rfl, hx1⟩
        have HX1 := hid hx1
        obtain ⟨o0, o1, o2, o3⟩ := H4.out.keep ((HX.out.trans hx1).kp (· < w.heap.size)) HGL.out
        clear hx1 m0 m1 m2 m3 HZ
        by_cases hbig : 100000 < N + S
        · have hbig' : decide (100000 < N + S) = true := decide_eq_true hbig
          go_wp2_with fail
          go_roundw
          case rel => exact ⟨j + 1, N + S, hlt, by go_num, rfl, HAJ.out.later HX1.out h5 (by omega) (by omega)⟩
          case measure => simp [intOf]; omega
        have hbig' : decide (100000 < N + S) = false := decide_eq_false hbig
        go_wp2_with fail
        refine (HMY.out _ HX1.out).mono ?_
        rintro e w2 ⟨rfl, hx2⟩
        have HX2 := hid (HX.out.trans (HX1.out.trans hx2))
        have HXr2 := hid (HX1.out.trans hx2)
        have hs2 := (HX1.out.trans hx2).size
        clear hx2 o0 o1 o2 o3 HX1 HMY
        obtain ⟨o0, o1, o2, o3⟩ := H4.out.keep (HX2.out.kp (· < w.heap.size)) HGL.out
        go_wp2_with fail
        refine (of_any w2 (HRD.out.later HX2.out)).mono ?_
        rintro e w3 ⟨hx3, hcase⟩
        rcases hcase with ⟨_, uv, bsv, rfl, hov, hgv, hnv⟩ | ⟨hno, _⟩
        rotate_left
        · exact absurd HM.out hno
        obtain ⟨τv, pv, rfl⟩ := hov.rd.iface
        have HOV := hid hov
        have HGV := hid (show ∀ q ∈ bsv, w2.heap.size ≤ q ∧ q < w3.heap.size from fun q hq => ⟨hgv q hq, hov.lt q hq⟩)
        have HNV := hid hnv
        have hs3 := hx3.size
        have HX3 := hid (HX2.out.trans hx3)
        have HXr3 := hid (HXr2.out.trans hx3)
        clear hov hgv hnv hx3 o0 o1 o2 o3
        obtain ⟨o0, o1, o2, o3⟩ := H4.out.keep (HX3.out.kp (· < w.heap.size)) HGL.out
        have hg3 : gl < w3.heap.size := lt_of_cell o0
        have HSK := hid (show ∀ W', Ext w3 W' → W'.cell? ⟨gl, off + j * 4, none⟩ = some (.int .i64 k) ∧ W'.cell? ⟨gl, off + j * 4 + 1, none⟩ = some (.int .i64 n) ∧ W'.cell? ⟨gl, off + j * 4 + 2, none⟩ = some (.string x) ∧ W'.cell? ⟨gl, off + j * 4 + 3, none⟩ = some (.slice al ll cl) from fun W' Y => H4.out.keep ((HX3.out.trans Y).kp (· < w.heap.size)) HGL.out)
        have HJ := hid (show ∀ W', Ext (w3.alloc (.cells #[.int .i64 k, .int .i64 n, .string x, .slice al ll cl, .int .i64 k, .int .i64 n, .string x, .slice al ll cl, .int .i64 k, .int .i64 n, .string x, .slice al ll cl] 24)) W' → Calls Tryd.prog 17 #[.slice (some ⟨w3.heap.size, 0, none⟩) 3 3] W' (JoinG W' t) from fun W' Y => join_three W' (Y.block (blk0 w3 _)) (HRD.out.later (HX3.out.trans ((Ext.alloc w3 _).trans Y))))
        go_upto_region 11 with fail
        go_cut [10, 11] from 71 to 87 (fun sa sb wx => ∃ jv ec t3 d3 bs, sa = jv ∧ sb = .int .i64 ec ∧ Ext w3 wx ∧ VOwn0 wx d3 jv t3 bs ∧ t3.size ≤ 65536 ∧ t3.size ≤ 1 + 3 * t.size ∧ bs.Nodup ∧ ∀ q ∈ bs, w3.heap.size ≤ q)
        case first =>
          go_region_held3 (fun W' => W'.cell? ⟨gl, off + j * 4, none⟩ = some (.int .i64 k) ∧ W'.cell? ⟨gl, off + j * 4 + 1, none⟩ = some (.int .i64 n) ∧ W'.cell? ⟨gl, off + j * 4 + 2, none⟩ = some (.string x) ∧ W'.cell? ⟨gl, off + j * 4 + 3, none⟩ = some (.slice al ll cl)) (first | exact SK | exact ⟨o0, o1, o2, o3⟩ | go_keep) (first | (go_at_call 17; refine (HJ.out _ ((Ext.refl _).drew)).mono ?_; rintro r v3 ⟨hy, jv, ec, t3, d3, bs, rfl, j1, j2, j3, j4, j5⟩; have Y : Ext w3 v3 := Ext.trans ((Ext.alloc w3 _).trans (Ext.refl _).drew) hy; have SK := HSK.out v3 Y))
          all_goals
            go_wp2_with fail
            go_meet
            case rel => exact ⟨jv, ec, t3, d3, bs, rfl, rfl, Y, j1, j2, j3, j4, fun q hq => by have := j5 q hq; have h2 : (w3.alloc (.cells #[.int .i64 k, .int .i64 n, .string x, .slice al ll cl, .int .i64 k, .int .i64 n, .string x, .slice al ll cl, .int .i64 k, .int .i64 n, .string x, .slice al ll cl] 24)).heap.size ≤ q := this; rw [blkS] at h2; omega⟩
        case rest =>
        obtain ⟨jv, ec3, t3, d3, bsw, rfl, rfl, hxj, hoj, hz1j, hz2j, hnj, hgj⟩ := hcut
        obtain ⟨w4, rfl⟩ : ∃ w4, w4 = wc := ⟨wc, rfl⟩
        have HOW := hid hoj
        have HGW := hid (show ∀ q ∈ bsw, w3.heap.size ≤ q ∧ q < w4.heap.size from fun q hq => ⟨hgj q hq, hoj.lt q hq⟩)
        have HNW := hid hnj
        have HZW := hid hz1j
        have HOV4 := hid (HOV.out.later hxj)
        have hs4 := hxj.size
        have HX4 := hid (HX3.out.trans hxj)
        have HXr4 := hid (HXr3.out.trans hxj)
        clear hoj hgj hnj hz1j hz2j hxj o0 o1 o2 o3 HSK HJ HX3 HOV HXr3
        obtain ⟨o0, o1, o2, o3⟩ := H4.out.keep (HX4.out.kp (· < w.heap.size)) HGL.out
        go_wp2_with fail
        refine (is_self w4 HOV4.out.rd (HRD.out.later HX4.out) HM.out).mono ?_
        rintro e w5 ⟨rfl, hx5⟩
        have HX5 := hid (HX4.out.trans hx5)
        have HX45 := hid hx5
        have HXr5 := hid (HXr4.out.trans hx5)
        have hs5 := hx5.size
        clear hx5 o0 o1 o2 o3
        obtain ⟨o0, o1, o2, o3⟩ := H4.out.keep (HX5.out.kp (· < w.heap.size)) HGL.out
        have HTX := hid (text_own w5 (HRD.out.later HX5.out) HF.out (HT.out.ext HX5.out h0) (Nat.lt_of_lt_of_le h0 HX5.out.size) HM.out)
        go_wp2_with fail
        refine HTX.out.mono ?_
        rintro e w6 ⟨hx6, sx6, ec6, rfl, hcase⟩
        have HCASE := hid hcase
        have HX6 := hid (HX5.out.trans hx6)
        have HX46 := hid (HX45.out.trans hx6)
        have HXr6 := hid (HXr5.out.trans hx6)
        have hs6 := hx6.size
        have HBS6 := hid (HBS.out.later HXr6.out)
        have HM0 := hid (show ∀ q, M0 q → w.heap.size ≤ q ∧ q < wr.heap.size from fun q hq => HBS.out.low hq)
        have HOV6 := hid (HOV4.out.later HX46.out)
        have HOW6 := hid (HOW.out.keep (HX46.out.kp _))
        clear hx6 hcase o0 o1 o2 o3 HTX HX45 HX4 HX5 HXr4 HXr5 HOV4 HOW HX46
        go_upto_if 104 with fail
        go_cut [14, 15, 16, 17, 18, 19, 20, 21, 22] from 105 to 131 (fun _ _ _ _ _ _ _ _ _ wx => ∃ M1, BS b w.heap.size (2 * j + 1) (8 * Ac + 2 * t.size) M1 wx ∧ KpM M0 w6 wx ∧ ∀ q, M1 q → M0 q ∨ w6.heap.size ≤ q)
        case first =>
          rcases HCASE.out with ⟨rfl, hst, hlen⟩ | rfl
          · have HLEN := hid hlen
            clear hlen
            have HTS := hid (show t.size ≤ 65536 from HM.out.2.1)
            have HRE := hid (show ∀ W', Ext w W' → Calls Tryd.prog 10 #[.string sx6] W' (ReadG W' t) from fun W' Y => by rw [hst]; exact read_own W' HM.out HF.out HLEN.out (HE.out.ext Y))
            clear hst
            go_wp2_with fail
            refine (HRE.out _ HX6.out).mono ?_
            rintro e w7 ⟨hx7, τx, px, bsx, rfl, hox, hgx, hnx⟩
            have HOX := hid hox
            have HGX := hid (show ∀ q ∈ bsx, w6.heap.size ≤ q ∧ q < w7.heap.size from fun q hq => ⟨hgx q hq, hox.lt q hq⟩)
            have HNX := hid hnx
            have HX67 := hid hx7
            have hs7 := hx7.size
            clear hox hgx hnx hx7
            go_wp2_with fail
            refine (HRE.out _ (HX6.out.trans HX67.out)).mono ?_
            rintro e w8 ⟨hx8, τy, py, bsy, rfl, hoy, hgy, hny⟩
            have HOY := hid hoy
            have HGY := hid (show ∀ q ∈ bsy, w7.heap.size ≤ q ∧ q < w8.heap.size from fun q hq => ⟨hgy q hq, hoy.lt q hq⟩)
            have HNY := hid hny
            have HX78 := hid hx8
            have HX68 := hid (HX67.out.trans hx8)
            have hs8 := hx8.size
            clear hoy hgy hny hx8
            go_wp2_with fail
            refine (HRE.out _ (HX6.out.trans HX68.out)).mono ?_
            rintro e w9 ⟨hx9, τz, pz, bsz, rfl, hoz, hgz, hnz⟩
            have HOZ := hid hoz
            have HGZ := hid (show ∀ q ∈ bsz, w8.heap.size ≤ q ∧ q < w9.heap.size from fun q hq => ⟨hgz q hq, hoz.lt q hq⟩)
            have HNZ := hid hnz
            have HX89 := hid hx9
            have HX69 := hid (HX68.out.trans hx9)
            have hs9 := hx9.size
            have HK1 := hid (keep2 (HBS6.out.later HX69.out) (by omega) (.inl (HOX.out.later (HX78.out.trans HX89.out))) (.inl (HOY.out.later HX89.out)) HTS.out HTS.out (List.nodup_append.2 ⟨HNX.out, HNY.out, fun p hp q hq e => by have h1 := HGX.out p hp; have h2 := HGY.out q hq; omega⟩) (fun q hq => by
              rcases List.mem_append.1 hq with hq | hq
              · have h1 := HGX.out q hq; exact ⟨by omega, fun e => by have := HM0.out q e; omega⟩
              · have h1 := HGY.out q hq; exact ⟨by omega, fun e => by have := HM0.out q e; omega⟩) (by omega))
            clear hoz hgz hnz hx9
            go_wp2_with fail
            refine HK1.out.mono ?_
            rintro e w10 ⟨⟨u10, rfl⟩, M1, hb10, hk10, hm10⟩
            have HB10 := hid hb10
            have HKM10 := hid hk10
            have HM10 := hid hm10
            have hs10 : w9.heap.size ≤ w10.heap.size := Kp.size hk10
            have HT1 := hid (take1 hb10 (by omega) (.inl (HOZ.out.keep (Kp.mono hk10 (fun q _ hq e => by have h1 := HGZ.out q hq; have h2 := HM0.out q e; omega)))) HTS.out HNZ.out (fun q hq => by
              have h1 := HGZ.out q hq
              refine ⟨by omega, fun e => ?_⟩
              rcases hm10 q e with h | h | h
              · have := HM0.out q h; omega
              · rcases List.mem_append.1 h with h | h
                · have := HGX.out q h; omega
                · have := HGY.out q h; omega
              · omega) (by omega))
            clear hb10 hk10 hm10 HK1
            go_wp2_with fail
            refine HT1.out.mono ?_
            rintro e w11 ⟨⟨u11, rfl⟩, M2, hb11, hk11, hm11⟩
            have HB11 := hid hb11
            have HKM11 := hid hk11
            have HM11 := hid hm11
            clear hb11 hk11 hm11 HT1
            go_wp2_with fail
            go_meet
            case rel =>
              refine ⟨M2, HB11.out.more (by omega) (by omega), ?_, fun q hq => ?_⟩
              · refine ((HX69.out.kp _).trans HKM10.out).chain HKM11.out (fun q hq h e => ?_)
                rcases e with e | e
                · rcases HM10.out q e with h2 | h2 | h2
                  · exact h h2
                  · rcases List.mem_append.1 h2 with h2 | h2
                    · have := HGX.out q h2; omega
                    · have := HGY.out q h2; omega
                  · omega
                · have := HGZ.out q e; omega
              · rcases HM11.out q hq with h | h | h
                · rcases HM10.out q h with h2 | h2 | h2
                  · exact .inl h2
                  · rcases List.mem_append.1 h2 with h2 | h2
                    · have := HGX.out q h2; exact .inr (by omega)
                    · have := HGY.out q h2; exact .inr (by omega)
                  · exact .inr (by omega)
                · have := HGZ.out q h; exact .inr (by omega)
                · exact .inr (by omega)
          · go_wp2_with fail
            go_meet
            case rel => exact ⟨M0, HBS6.out.more (by omega) (by omega), Kp.refl _ _, fun q hq => .inl hq⟩
        case rest =>
        obtain ⟨M1, hb11, hk11, hm11⟩ := hcut
        obtain ⟨w11, rfl⟩ : ∃ w11, w11 = wc := ⟨wc, rfl⟩
        have HX11 := hid (KpM.ext HBS6.out HX6.out (Nat.le_refl _) hk11)
        have HB11 := hid hb11
        have HM11 := hid hm11
        have HOV11 := hid (HOV6.out.keep (Kp.mono hk11 (fun q _ hq e => by have h1 := HGV.out q hq; have h2 := HM0.out q e; omega)))
        have HOW11 := hid (HOW6.out.keep (Kp.mono hk11 (fun q _ hq e => by have h1 := HGW.out q hq; have h2 := HM0.out q e; omega)))
        have hs11 : w6.heap.size ≤ w11.heap.size := Kp.size hk11
        clear hb11 hk11 hm11 HBS6 HOV6 HOW6 HCASE HX6 HXr6
        obtain ⟨o0, o1, o2, o3⟩ := H4.out.keep (HX11.out.kp (· < w.heap.size)) HGL.out
        go_wp2_with fail
        refine (of_any w11 (HRD.out.later HX11.out)).mono ?_
        rintro e w12 ⟨hx12, hcase⟩
        rcases hcase with ⟨_, ug, bsg, rfl, hog, hgg, hng⟩ | ⟨hno, _⟩
        rotate_left
        · exact absurd HM.out hno
        obtain ⟨τg, pg, rfl⟩ := hog.rd.iface
        have HOG := hid hog
        have HGG := hid (show ∀ q ∈ bsg, w11.heap.size ≤ q ∧ q < w12.heap.size from fun q hq => ⟨hgg q hq, hog.lt q hq⟩)
        have HNG := hid hng
        have hs12 := hx12.size
        have HX12 := hid (HX11.out.trans hx12)
        have HXb12 := hid hx12
        clear hog hgg hng hx12 o0 o1 o2 o3 HX11
        obtain ⟨o0, o1, o2, o3⟩ := H4.out.keep (HX12.out.kp (· < w.heap.size)) HGL.out
        have hg12 : gl < w12.heap.size := lt_of_cell o0
        have HSK := hid (show ∀ W', Ext w12 W' → W'.cell? ⟨gl, off + j * 4, none⟩ = some (.int .i64 k) ∧ W'.cell? ⟨gl, off + j * 4 + 1, none⟩ = some (.int .i64 n) ∧ W'.cell? ⟨gl, off + j * 4 + 2, none⟩ = some (.string x) ∧ W'.cell? ⟨gl, off + j * 4 + 3, none⟩ = some (.slice al ll cl) from fun W' Y => H4.out.keep ((HX12.out.trans Y).kp (· < w.heap.size)) HGL.out)
        have HJ := hid (show ∀ W', Ext (w12.alloc (.cells #[.int .i64 k, .int .i64 n, .string x, .slice al ll cl, .int .i64 k, .int .i64 n, .string x, .slice al ll cl, .int .i64 k, .int .i64 n, .string x, .slice al ll cl] 24)) W' → Calls Tryd.prog 17 #[.slice (some ⟨w12.heap.size, 0, none⟩) 3 3] W' (JoinG W' t) from fun W' Y => join_three W' (Y.block (blk0 w12 _)) (HRD.out.later (HX12.out.trans ((Ext.alloc w12 _).trans Y))))
        go_upto_region 22 with fail
        go_cut [25, 26] from 140 to 156 (fun sa sb wx => ∃ jv ec t3 d3 bs, sa = jv ∧ sb = .int .i64 ec ∧ Ext w12 wx ∧ VOwn0 wx d3 jv t3 bs ∧ t3.size ≤ 65536 ∧ t3.size ≤ 1 + 3 * t.size ∧ bs.Nodup ∧ ∀ q ∈ bs, w12.heap.size ≤ q)
        case first =>
          go_region_held3 (fun W' => W'.cell? ⟨gl, off + j * 4, none⟩ = some (.int .i64 k) ∧ W'.cell? ⟨gl, off + j * 4 + 1, none⟩ = some (.int .i64 n) ∧ W'.cell? ⟨gl, off + j * 4 + 2, none⟩ = some (.string x) ∧ W'.cell? ⟨gl, off + j * 4 + 3, none⟩ = some (.slice al ll cl)) (first | exact SK | exact ⟨o0, o1, o2, o3⟩ | go_keep) (first | (go_at_call 17; refine (HJ.out _ ((Ext.refl _).drew)).mono ?_; rintro r v3 ⟨hy, jv, ec, t3, d3, bs, rfl, j1, j2, j3, j4, j5⟩; have Y : Ext w12 v3 := Ext.trans ((Ext.alloc w12 _).trans (Ext.refl _).drew) hy; have SK := HSK.out v3 Y))
          all_goals
            go_wp2_with fail
            go_meet
            case rel => exact ⟨jv, ec, t3, d3, bs, rfl, rfl, Y, j1, j2, j3, j4, fun q hq => by have := j5 q hq; have h2 : (w12.alloc (.cells #[.int .i64 k, .int .i64 n, .string x, .slice al ll cl, .int .i64 k, .int .i64 n, .string x, .slice al ll cl, .int .i64 k, .int .i64 n, .string x, .slice al ll cl] 24)).heap.size ≤ q := this; rw [blkS] at h2; omega⟩
        case rest =>
        obtain ⟨jm, ecm, tm, dm, bsm, rfl, rfl, hxj, hoj, hz1j, hz2j, hnj, hgj⟩ := hcut
        obtain ⟨w13, rfl⟩ : ∃ w13, w13 = wc := ⟨wc, rfl⟩
        rcases hoj.form with ⟨τm, pm, rfl⟩ | rfl
        all_goals
          have hs13 := hxj.size
          have HX13 := hid (HX12.out.trans hxj)
          have HXb13 := hid (HXb12.out.trans hxj)
          have HZM := hid (And.intro hz1j hz2j)
          have HGM := hid (show ∀ q ∈ bsm, w12.heap.size ≤ q ∧ q < w13.heap.size from fun q hq => ⟨hgj q hq, hoj.lt q hq⟩)
          have HM1 := hid (show ∀ q, M1 q → w.heap.size ≤ q ∧ q < w11.heap.size from fun q hq => HB11.out.low hq)
          have HTS := hid (show t.size ≤ 65536 from HM.out.2.1)
          have HK2 := hid (keep2 (HB11.out.later HXb13.out) (by omega) (.inl (HOG.out.later hxj)) hoj HTS.out hz1j (List.nodup_append.2 ⟨HNG.out, hnj, fun p hp q hq e => by have h1 := HGG.out p hp; have h2 := HGM.out q hq; omega⟩) (fun q hq => by
            rcases List.mem_append.1 hq with hq | hq
            · have h1 := HGG.out q hq; exact ⟨by omega, fun e => by have := HM1.out q e; omega⟩
            · have h1 := HGM.out q hq; exact ⟨by omega, fun e => by have := HM1.out q e; omega⟩) (by have := HTS.out; omega))
          have HOV13 := hid (HOV11.out.later HXb13.out)
          have HOW13 := hid (HOW11.out.keep (HXb13.out.kp _))
          clear hoj hgj hnj hz1j hz2j hxj o0 o1 o2 o3 HSK HJ HX12 HXb12 HOV11 HOW11 HOG
          go_wp2_with fail
          refine HK2.out.mono ?_
          rintro e w14 ⟨⟨u14, rfl⟩, M3, hb14, hk14, hm14⟩
          have HB14 := hid hb14
          have HX14 := hid (KpM.ext (HB11.out.later HXb13.out) HX13.out (Nat.le_refl _) hk14)
          have HM14 := hid (show ∀ q, M3 q → M0 q ∨ w6.heap.size ≤ q from fun q hq => by
            rcases hm14 q hq with h | h | h
            · exact HM11.out q h
            · rcases List.mem_append.1 h with h | h
              · have := HGG.out q h; exact .inr (by omega)
              · have := HGM.out q h; exact .inr (by omega)
            · exact .inr (by omega))
          have HNV1 := hid (show ∀ q, (q ∈ bsv ∨ q ∈ bsw) → ¬ M1 q from fun q hq e => by
            have h1 := HM11.out q e
            rcases h1 with h1 | h1
            · have h3 := HM0.out q h1
              rcases hq with hq | hq
              · have h2 := HGV.out q hq; omega
              · have h2 := HGW.out q hq; omega
            · rcases hq with hq | hq
              · have h2 := HGV.out q hq; omega
              · have h2 := HGW.out q hq; omega)
          have HOV14 := hid (HOV13.out.keep (Kp.mono hk14 (fun q _ hq => HNV1.out q (.inl hq))))
          have HOW14 := hid (HOW13.out.keep (Kp.mono hk14 (fun q _ hq => HNV1.out q (.inr hq))))
          have hs14 : w13.heap.size ≤ w14.heap.size := Kp.size hk14
          clear hb14 hk14 hm14 HK2 HOV13 HOW13 HX13 HXb13 HB11 HNV1
          obtain ⟨o0, o1, o2, o3⟩ := H4.out.keep (HX14.out.kp (· < w.heap.size)) HGL.out
          go_wp2_with fail
          refine (of_any w14 (HRD.out.later HX14.out)).mono ?_
          rintro e w15 ⟨hx15, hcase⟩
          rcases hcase with ⟨_, ut, bst, rfl, hot, hgt, hnt⟩ | ⟨hno, _⟩
          rotate_left
          · exact absurd HM.out hno
          obtain ⟨τt, pt, rfl⟩ := hot.rd.iface
          have HGT := hid (show ∀ q ∈ bst, w14.heap.size ≤ q ∧ q < w15.heap.size from fun q hq => ⟨hgt q hq, hot.lt q hq⟩)
          have hs15 := hx15.size
          have HX15 := hid (HX14.out.trans hx15)
          have HB15 := hid (HB14.out.later hx15)
          have HM3 := hid (show ∀ q, M3 q → w.heap.size ≤ q ∧ q < w14.heap.size from fun q hq => HB14.out.low hq)
          have HK3 := hid (keep1 HB15.out (by omega) (.inl hot) HTS.out hnt (fun q hq => by have h1 := HGT.out q hq; exact ⟨by omega, fun e => by have := HM3.out q e; omega⟩) (by have := HZM.out.2; have := HS.out; omega))
          have HNV3 := hid (show ∀ q, (q ∈ bsv ∨ q ∈ bsw) → ¬ M3 q from fun q hq e => by
            have h1 := HM14.out q e
            rcases h1 with h1 | h1
            · have h3 := HM0.out q h1
              rcases hq with hq | hq
              · have h2 := HGV.out q hq; omega
              · have h2 := HGW.out q hq; omega
            · rcases hq with hq | hq
              · have h2 := HGV.out q hq; omega
              · have h2 := HGW.out q hq; omega)
          have HOV15 := hid (HOV14.out.later hx15)
          have HOW15 := hid (HOW14.out.keep (hx15.kp _))
          clear hot hgt hnt hx15 o0 o1 o2 o3 HX14 HOV14 HOW14 HB14
          go_wp2_with fail
          refine HK3.out.mono ?_
          rintro e w16 ⟨⟨u16, rfl⟩, M4, hb16, hk16, hm16⟩
          have HX16 := hid (KpM.ext HB15.out HX15.out (Nat.le_refl _) hk16)
          have hs16 : w15.heap.size ≤ w16.heap.size := Kp.size hk16
          have HNV4 := hid (show ∀ q, (q ∈ bsv ∨ q ∈ bsw) → ¬ M4 q from fun q hq e => by
            rcases hm16 q e with h1 | h1 | h1
            · exact HNV3.out q hq h1
            · have h3 := HGT.out q h1
              rcases hq with hq | hq
              · have h2 := HGV.out q hq; omega
              · have h2 := HGW.out q hq; omega
            · rcases hq with hq | hq
              · have h2 := HGV.out q hq; omega
              · have h2 := HGW.out q hq; omega)
          have HT2 := hid (take2 hb16 (by omega) (.inl (HOV15.out.keep (Kp.mono hk16 (fun q _ hq => HNV3.out q (.inl hq))))) (HOW15.out.keep (Kp.mono hk16 (fun q _ hq => HNV3.out q (.inr hq)))) HTS.out HZW.out (List.nodup_append.2 ⟨HNV.out, HNW.out, fun p hp q hq e => by have h1 := HGV.out p hp; have h2 := HGW.out q hq; omega⟩) (fun q hq => by
            rcases List.mem_append.1 hq with hq | hq
            · have h1 := HGV.out q hq; exact ⟨by omega, HNV4.out q (.inl hq)⟩
            · have h1 := HGW.out q hq; exact ⟨by omega, HNV4.out q (.inr hq)⟩) (by omega))
          rcases HOW15.out.form with ⟨τw, pw, rfl⟩ | rfl
          all_goals
            have HB16 := hid hb16
            clear hb16 hk16 hm16 HK3 HOV15 HOW15 HX15 HB15
            go_wp2_with fail
            refine HT2.out.mono ?_
            rintro e w17 ⟨⟨u17, rfl⟩, M5, hb17, hk17, hm17⟩
            have HNX := hid (show AI w b (j + 1) (N + S) w17 from ⟨M5, Ac + t.size, by omega, by omega, by push_cast; omega, by have := HS.out; push_cast; omega, by have := HS.out; omega, Kp.ext (K := fun q => q < w.heap.size) ((HX16.out.kp _).chain hk17 (fun q hq _ e => by
              rcases e with e | e
              · have := (HB16.out.low e).1; omega
              · rcases List.mem_append.1 e with e | e
                · have := HGV.out q e; omega
                · have := HGW.out q e; omega)) (fun q hq => hq), hb17.more (by omega) (by have := HZM.out.2; have := HS.out; omega)⟩)
            clear hb17 hk17 hm17 HT2
            go_wp2_with fail
            go_roundw
            case rel => exact ⟨j + 1, N + S, hlt, by go_num, rfl, HNX.out⟩
            case measure => simp [intOf]; omega
      · have HM := hid hm
        have HZ := hid (show Calls Tryd.prog 19 #[.agg #[.int .i64 k, .int .i64 n, .string x, .slice al ll cl]] wr fun r w' => r = .returned (.int .i64 0) ∧ Ext wr w' from by
          have e := rsize_any wr (HRD.out.later HX.out)
          rw [show sizeN t = 0 by rw [sizeN, if_neg hm]] at e
          exact e)
        have HMY := hid (show ∀ W', Ext wr W' → Calls Tryd.prog 20 #[.agg #[.int .i64 k, .int .i64 n, .string x, .slice al ll cl]] W' fun r w' => r = .returned (.bool false) ∧ Ext W' w' from fun W' hx => by
          have e := rmay_any W' (HRD.out.later (HX.out.trans hx))
          rw [decide_eq_false hm] at e
          exact e)
        clear hm
        go_wp2_with fail
        refine HZ.out.mono ?_
        rintro e w1 ⟨rfl, hx1⟩
        have HX1 := hid hx1
        obtain ⟨o0, o1, o2, o3⟩ := H4.out.keep ((HX.out.trans hx1).kp (· < w.heap.size)) HGL.out
        clear hx1 m0 m1 m2 m3 HZ
        by_cases hbig : 100000 < N
        · have hbig' : decide (100000 < N) = true := decide_eq_true hbig
          go_wp2_with fail
          go_roundw
          case rel => exact ⟨j + 1, N, hlt, by go_num, rfl, HAJ.out.later HX1.out h5 (by omega) (by omega)⟩
          case measure => simp [intOf]; omega
        · have hbig' : decide (100000 < N) = false := decide_eq_false hbig
          go_wp2_with fail
          refine (HMY.out _ HX1.out).mono ?_
          rintro e w2 ⟨rfl, hx2⟩
          have HX2 := hid (HX1.out.trans hx2)
          clear hx2 o0 o1 o2 o3 HX1 HMY
          go_wp2_with fail
          go_roundw
          case rel => exact ⟨j + 1, N, hlt, by go_num, rfl, HAJ.out.later HX2.out h5 (by omega) (by omega)⟩
          case measure => simp [intOf]; omega
    · by_cases hlt : j < ks.length
      · have hlt' : (j : Int) < ks.length := by omega
        have h5 : decide ((j : Int) < 20) = false := decide_eq_false (by omega)
        clear hend
        by_cases hsz : (sx.size : Int) < 262144
        · have HRS := hid (read_all sx wr HSX.out (HE.out.ext HX.out))
          go_wp2_with fail
          refine HRS.out.mono ?_
          rintro e w2 ⟨hx2, u2, a2, c2, t2, d2, bs2, rfl, ho2, hz2, hge2, hnd2⟩
          rcases ho2.form with ⟨τu, pu, rfl⟩ | rfl
          all_goals
            have HT1 := hid (take1 (HBS.out.later hx2) (by have := hx2.size; omega) ho2 hz2 hnd2 (fun q hq => by have h1 := hge2 q hq; exact ⟨by omega, fun e => by have := (HBS.out.low e).2; omega⟩) (by omega))
            have HX2 := hid (HX.out.trans hx2)
            have HGE := hid hge2
            have HB2 := hid (HBS.out.later hx2)
            clear hx2 ho2 hz2 hge2 hnd2 HRS
            go_wp2_with fail
            refine HT1.out.mono ?_
            rintro e w3 ⟨⟨u3, rfl⟩, M3, hb3, hk3, _⟩
            have HX3 := hid (show Ext w w3 from Kp.ext (K := fun q => q < w.heap.size) ((HX2.out.kp _).chain hk3 (fun q hq _ e => by
              rcases e with e | e
              · have := (HB2.out.low e).1; omega
              · have := HGE.out q e; omega)) (fun q hq => hq))
            have HB3 := hid hb3
            have HW := hid (hb3.wholec (by have := HX3.out.size; omega) (by omega) (by omega))
            clear hb3 hk3 HT1
            go_wp2_with fail
            refine HW.out.mono ?_
            rintro e w4 ⟨rfl, hk4⟩
            have HX4 := hid (KpM.ext HB3.out HX3.out (Nat.le_refl _) hk4)
            clear hk4
            go_wp2_with fail
            go_ret
            exact ⟨rfl, HX4.out⟩
        · have HW := hid (HBS.out.wholec (by omega) (by omega) (by omega))
          go_wp2_with fail
          refine HW.out.mono ?_
          rintro e w4 ⟨rfl, hk4⟩
          have HX4 := hid (KpM.ext HBS.out HX.out (Nat.le_refl _) hk4)
          clear hk4
          go_wp2_with fail
          go_ret
          exact ⟨rfl, HX4.out⟩
      · have hlt' : decide ((j : Int) < ks.length) = false := decide_eq_false (by omega)
        clear hend
        by_cases hsz : (sx.size : Int) < 262144
        · have HRS := hid (read_all sx wr HSX.out (HE.out.ext HX.out))
          go_wp2_with fail
          refine HRS.out.mono ?_
          rintro e w2 ⟨hx2, u2, a2, c2, t2, d2, bs2, rfl, ho2, hz2, hge2, hnd2⟩
          rcases ho2.form with ⟨τu, pu, rfl⟩ | rfl
          all_goals
            have HT1 := hid (take1 (HBS.out.later hx2) (by have := hx2.size; omega) ho2 hz2 hnd2 (fun q hq => by have h1 := hge2 q hq; exact ⟨by omega, fun e => by have := (HBS.out.low e).2; omega⟩) (by omega))
            have HX2 := hid (HX.out.trans hx2)
            have HGE := hid hge2
            have HB2 := hid (HBS.out.later hx2)
            clear hx2 ho2 hz2 hge2 hnd2 HRS
            go_wp2_with fail
            refine HT1.out.mono ?_
            rintro e w3 ⟨⟨u3, rfl⟩, M3, hb3, hk3, _⟩
            have HX3 := hid (show Ext w w3 from Kp.ext (K := fun q => q < w.heap.size) ((HX2.out.kp _).chain hk3 (fun q hq _ e => by
              rcases e with e | e
              · have := (HB2.out.low e).1; omega
              · have := HGE.out q e; omega)) (fun q hq => hq))
            have HB3 := hid hb3
            have HW := hid (hb3.wholec (by have := HX3.out.size; omega) (by omega) (by omega))
            clear hb3 hk3 HT1
            go_wp2_with fail
            refine HW.out.mono ?_
            rintro e w4 ⟨rfl, hk4⟩
            have HX4 := hid (KpM.ext HB3.out HX3.out (Nat.le_refl _) hk4)
            clear hk4
            go_wp2_with fail
            go_ret
            exact ⟨rfl, HX4.out⟩
        · have HW := hid (HBS.out.wholec (by omega) (by omega) (by omega))
          go_wp2_with fail
          refine HW.out.mono ?_
          rintro e w4 ⟨rfl, hk4⟩
          have HX4 := hid (KpM.ext HBS.out HX.out (Nat.le_refl _) hk4)
          clear hk4
          go_wp2_with fail
          go_ret
          exact ⟨rfl, HX4.out⟩
end Go.Proofs.YtbpbkihcfdnphaaDoor
