/-
  What the walk of TreeFresh holds: both books as one, with the set of their blocks; the calls that answer trees.
-/
import Derived.Test.YthdmoghooaccgaaBWhole
import Derived.Test.YthdmoghooaccgaaLApart
import Derived.Test.YthdmoghooaccgaaFaceAt
import Derived.Test.YthdmoghooaccgaaPutAny
import Derived.Test.YthdmoghooaccgaaPathsMath
import Derived.Test.YthdmoghooaccgaaOpsIn
import Derived.Test.YthdmoghooaccgaaRangeM
import Derived.Test.YthdmoghooaccgaaMarks
import Derived.RangeFuncLeaves
import Derived.Test.YthdmoghooaccgaaEachIt
namespace Go.Proofs.Ythdmoghooaccgaa
open Go.RowKit
/-- No more levels than a tree is high. -/
theorem Own.fit {w : World} : ∀ {d e : Nat} {v : Value} {t : T} {bs : List Nat}, Own w d v t bs → t.height ≤ e → Own w e v t bs
  | 0, _, _, _, _, h, _ => h.elim
  | d + 1, 0, v, .node k n x ks, bs, _, he => by have := T.height_pos (.node k n x ks); omega
  | d + 1, e + 1, v, .node k n x ks, bs, ⟨a, h1, h2, h3, h4, h5⟩, he => ⟨a, h1, h2, h3, h4, by
      rcases h5 with h5 | ⟨g, cs, bss, rfl, hp, hg, hs, rfl, hbl, hc⟩
      · exact .inl h5
      · refine .inr ⟨g, cs, bss, rfl, hp, hg, hs, rfl, hbl, fun j hj => ?_⟩
        obtain ⟨u0, u1, u2, u3, b, c0, c1, c2, c3, hb, ho⟩ := hc j hj
        have hm := T.heightL_mem (List.getElem_mem hj)
        simp only [T.height] at he
        exact ⟨u0, u1, u2, u3, b, c0, c1, c2, c3, hb, Own.fit ho (by omega)⟩⟩
/-- A tree that was answered: of its own memory, that was not there before. -/
def Gv (w w' : World) (v : Value) : Prop := ∃ t bs k n x a l, v = .agg #[.string k, .int .i64 n, .string x, .slice a l l] ∧ Own w' 64 v t bs ∧ t.size ≤ 1024 ∧ (∀ b ∈ bs, w.heap.size ≤ b) ∧ bs.Nodup
theorem Own.gv {w w' : World} {d : Nat} {v : Value} {t : T} {bs : List Nat} (h : Own w' d v t bs) (hs : t.size ≤ 1024 ∧ t.height ≤ 64) (hb : ∀ b ∈ bs, w.heap.size ≤ b) (hn : bs.Nodup) : Gv w w' v := by
  have h' := h.fit hs.2
  obtain ⟨k, n, x, ks⟩ := t
  obtain ⟨a, rfl, _⟩ := id h'
  exact ⟨_, bs, k, n, x, a, _, rfl, h', hs.1, hb, hn⟩
theorem zero_gv (w w' : World) : Gv w w' zeroTree :=
  ⟨.node ⟨#[]⟩ 0 ⟨#[]⟩ [], [], ⟨#[]⟩, 0, ⟨#[]⟩, none, 0, rfl, ⟨none, rfl, by decide, by decide, by decide, .inl ⟨rfl, rfl, rfl⟩⟩, by decide, fun b hb => absurd hb (by simp), List.nodup_nil⟩
/-- What the three calls answer. -/
def GvF (w : World) (e : Ending) (w' : World) : Prop := Ext w w' ∧ ∃ v er, e = .returned (.tuple #[v, .int .i64 er]) ∧ Gv w w' v
theorem GivenR.gvF {w w' : World} {d : Nat} {t : T} {e : Ending} (h : GivenR w d t e w') (hx : Ext w w') (hs : t.small) : GvF w e w' := by
  obtain ⟨v', bs, rfl, h1, h2, h3⟩ := h
  exact ⟨hx, v', 0, rfl, h1.gv ⟨hs.1, hs.2.1⟩ h2 h3⟩
theorem copyG {K : Nat → Prop} {d : Nat} {v : Value} {t : T} (w : World) (hr : Rd K w d v t) : Calls Try.prog 20 #[v] w (GvF w) :=
  (copy_face w hr).mono fun e w' h => by
    obtain ⟨hx, ⟨hs, hg⟩ | ⟨_, rfl⟩⟩ := h
    · exact hg.gvF hx hs
    · exact ⟨hx, _, _, rfl, zero_gv _ _⟩
theorem atG {K : Nat → Prop} {d : Nat} {v : Value} {t : T} (w : World) (pa : Option Addr) (pc : Nat) (p : List Int) (hr : Rd K w d v t) (hI : Ints w (.slice pa p.length pc) p) (hb : p.length * 8 ≤ 140737488355328) : Calls Try.prog 16 #[v, .slice pa p.length pc] w (GvF w) :=
  (at_face w pa pc p hr hI hb).mono fun e w' h => by
    obtain ⟨hx, ⟨_, rfl⟩ | ⟨_, _, rfl⟩ | ⟨hs, u, d', hu, hg⟩⟩ := h
    · exact ⟨hx, _, _, rfl, zero_gv _ _⟩
    · exact ⟨hx, _, _, rfl, zero_gv _ _⟩
    · exact hg.gvF hx (T.at_small hs hu)
theorem putG {K K' : Nat → Prop} {d d' : Nat} {v v' : Value} {t u : T} (w : World) (pa : Option Addr) (pc : Nat) (p : List Int) (hr : Rd K w d v t) (hr' : Rd K' w d' v' u) (hI : Ints w (.slice pa p.length pc) p) (hb : p.length * 8 ≤ 140737488355328) : Calls Try.prog 19 #[v, .slice pa p.length pc, v'] w (GvF w) :=
  (put_any w pa pc p hr hr' hI hb).mono fun e w' h => by
    obtain ⟨hx, ⟨_, rfl⟩ | ⟨_, _, _, rfl⟩ | ⟨_, _, _, ⟨_, rfl⟩ | ⟨hs, d'', hg⟩⟩⟩ := h
    · exact ⟨hx, _, _, rfl, zero_gv _ _⟩
    · exact ⟨hx, _, _, rfl, zero_gv _ _⟩
    · exact ⟨hx, _, _, rfl, zero_gv _ _⟩
    · exact hg.gvF hx hs
/-- Both books: M is the set of their blocks. -/
def FS (b kb base c m : Nat) (M : Nat → Prop) (w : World) : Prop :=
  ∃ lv nv kv rs sz kts kbss ll lrs lsz, (M = fun q => TBk b lv nv rs q ∨ kv.ownBlock = some q ∨ q ∈ kbss.flatten ∨ LBk kb ll lrs q) ∧ TB w b base lv nv kv rs sz ∧ (0 ≤ sz ∧ sz ≤ 1000000000000000 * (c : Int)) ∧
    Keeps w base 64 kv kts kbss ∧ kbss.flatten.Nodup ∧ (∀ q, kv.ownBlock = some q ∨ q ∈ kbss.flatten → base ≤ q ∧ ¬ TBk b lv nv rs q) ∧ (T.sizeL kts ≤ 1024 * kts.length ∧ kts.length ≤ 3 * m) ∧
    LB w kb base ll lrs lsz ∧ (0 ≤ lsz ∧ lsz ≤ 2000000 * (m : Int)) ∧ lrs.length ≤ m ∧ ∀ q, LBk kb ll lrs q → ¬ (TBk b lv nv rs q ∨ kv.ownBlock = some q ∨ q ∈ kbss.flatten)
theorem FS.keep {b kb base c m : Nat} {M : Nat → Prop} {w w' : World} {K : Nat → Prop} (h : FS b kb base c m M w) (hk : Kp K w w') (hK : ∀ q, M q → K q) : FS b kb base c m M w' := by
  obtain ⟨lv, nv, kv, rs, sz, kts, kbss, ll, lrs, lsz, rfl, h1, h2, h3, h4, h5, h6, h7, h8⟩ := h
  exact ⟨lv, nv, kv, rs, sz, kts, kbss, ll, lrs, lsz, rfl, h1.keep hk (fun q hq => hK q (.inl hq)), h2, h3.keep hk (fun q hq => hK q (.inr (hq.imp id .inl))), h4, h5, h6, h7.keep hk (fun q hq => hK q (.inr (.inr (.inr hq)))), h8⟩
theorem FS.lt {b kb base c m : Nat} {M : Nat → Prop} {w : World} (h : FS b kb base c m M w) : ∀ q, M q → q < w.heap.size := by
  obtain ⟨lv, nv, kv, rs, sz, kts, kbss, ll, lrs, lsz, rfl, h1, h2, h3, h4, h5, h6, h7, h8⟩ := h
  rintro q (hq | hq | hq | hq)
  · exact h1.lt q hq
  · exact h3.lt (.inl hq)
  · exact h3.lt (.inr hq)
  · exact h7.lt q hq
theorem FS.in {b kb base c m : Nat} {M : Nat → Prop} {w : World} (h : FS b kb base c m M w) : M b ∧ M kb := by
  obtain ⟨lv, nv, kv, rs, sz, kts, kbss, ll, lrs, lsz, rfl, _⟩ := h
  exact ⟨.inl (.inl rfl), .inr (.inr (.inr (.inl rfl)))⟩
theorem FS.more {b kb base c c' m : Nat} {M : Nat → Prop} {w : World} (h : FS b kb base c m M w) (hc : c ≤ c') : FS b kb base c' m M w := by
  obtain ⟨lv, nv, kv, rs, sz, kts, kbss, ll, lrs, lsz, hM, h1, h2, h3⟩ := h
  exact ⟨lv, nv, kv, rs, sz, kts, kbss, ll, lrs, lsz, hM, h1, ⟨h2.1, by omega⟩, h3⟩
theorem FS.start {b kb base : Nat} {w : World} (h : w.heap[b]? = some (.cells #[.slice none 0 0, .slice none 0 0, .int .i64 0, .slice none 0 0] 63)) (h' : w.heap[kb]? = some (.cells #[.slice none 0 0, .int .i64 0] 67)) : FS b kb base 0 0 (fun q => q = b ∨ q = kb) w := by
  have hne : kb ≠ b := fun e => by rw [e, h] at h'; injection h' with h'; injection h' with _ h2; revert h2; decide
  refine ⟨_, _, _, [], 0, [], [], _, [], 0, ?_, ⟨h, World.ownsRow_nil _ _ _ _, World.ownsRow_nil _ _ _ _, fun i hi => absurd hi (by simp), List.nodup_nil, by simp, by simp⟩, ⟨by omega, by omega⟩, ⟨[], World.ownsRow_nil _ _ _ _, ⟨rfl, fun j hj => absurd hj (by simp)⟩, fun q hq => by cases hq⟩, List.nodup_nil, fun q hq => ?_, ⟨by simp [T.sizeL], by simp⟩, ⟨h', World.ownsRow_nil _ _ _ _, fun r hr => absurd hr (by simp), List.nodup_nil⟩, ⟨by omega, by omega⟩, by simp, fun q hq => ?_⟩
  · funext q
    simp [TBk, LBk, Value.ownBlock]
  · rcases hq with hq | hq
    · cases hq
    · simp at hq
  · simp only [LBk, Value.ownBlock, List.map_nil, List.not_mem_nil, or_false] at hq
    simp only [TBk, Value.ownBlock, List.map_nil, List.not_mem_nil, or_false, List.flatten_nil]
    rcases hq with rfl | hq
    · simpa using hne
    · cases hq
theorem sizeL_le : ∀ (ts : List T), (∀ t ∈ ts, t.size ≤ 1024) → T.sizeL ts ≤ 1024 * ts.length
  | [], _ => Nat.zero_le _
  | t :: r, h => by
    have h1 := sizeL_le r (fun u hu => h u (List.mem_cons_of_mem _ hu))
    have h2 := h t List.mem_cons_self
    simp only [T.sizeL, List.length_cons]; omega
/-- Keep of some trees. -/
theorem FS.bkeep {b kb base c m pb : Nat} {M : Nat → Prop} {w : World} (h : FS b kb base c m M w) (hbs : base ≤ w.heap.size) {ts : List T} {bss : List (List Nat)} {ys : List Value} (cc : Nat) (hI : InRow w 64 ys ts bss) (hyl : ys.length = ts.length * 4) (hyc : ∀ e u, ys[e]? = some u → w.cell? ⟨pb, e, none⟩ = some u) (hl : ts.length ≤ 3) (hts : ∀ t ∈ ts, t.size ≤ 1024) (hnd : bss.flatten.Nodup) (hM : ∀ q ∈ bss.flatten, base ≤ q ∧ ¬ M q) (hm : m ≤ 1000) :
    Calls Try.prog 27 #[.pointer (some ⟨b, 0, none⟩), .slice (some ⟨pb, 0, none⟩) ts.length cc] w fun e w' => (∃ v, e = .returned v) ∧ ∃ M', FS b kb base c (m + 1) M' w' ∧ Kp (fun q => ¬ M q) w w' ∧ ∀ q, M' q → M q ∨ q ∈ bss.flatten ∨ w.heap.size ≤ q := by
  obtain ⟨lv, nv, kv, rs, sz, kts, kbss, ll, lrs, lsz, rfl, h1, h2, h3, h4, h5, h6, h7, h8, h9, h10⟩ := h
  have hkb : ∀ q, kv.ownBlock = some q → ¬ TBk b lv nv rs q ∧ q ∉ bss.flatten := fun q hq => ⟨(h5 q (.inl hq)).2, fun e => (hM q e).2 (.inr (.inl hq))⟩
  refine (bkeep_any w b base 64 lv nv kv rs sz kts kbss pb cc ts bss ys h1 h3 hbs hI hyl hyc (by omega) (by omega) hkb).mono ?_
  rintro e w' ⟨he, kv', hT, hK, hk, ho⟩
  have hown : ∀ q, kv'.ownBlock = some q → kv.ownBlock = some q ∨ w.heap.size ≤ q := fun q hq => by
    rcases ho with ho | ⟨q', ho, hq'⟩
    · rw [ho] at hq; exact .inl hq
    · rw [ho] at hq; cases hq; exact .inr hq'
  refine ⟨he, _, ⟨lv, nv, kv', rs, sz, kts ++ ts, kbss ++ bss, ll, lrs, lsz, rfl, hT, h2, hK, ?_, fun q hq => ?_, ⟨?_, ?_⟩, h7.keep hk (fun q hq => ⟨fun e => h10 q hq (.inl (.inl e)), fun e => h10 q hq (.inr (.inl e))⟩), ⟨h8.1, by push_cast; omega⟩, by omega, fun q hq => ?_⟩, hk.mono (fun q _ hq => ⟨fun e => hq (.inl (.inl e)), fun e => hq (.inr (.inl e))⟩), fun q hq => ?_⟩
  · rw [List.flatten_append, List.nodup_append]
    exact ⟨h4, hnd, fun a ha c hc e => (hM c hc).2 (.inr (.inr (.inl (e ▸ ha))))⟩
  · rw [List.flatten_append, List.mem_append] at hq
    rcases hq with hq | hq | hq
    · rcases hown q hq with h | h
      · exact h5 q (.inl h)
      · exact ⟨by omega, fun e => by have := h1.lt q e; omega⟩
    · exact h5 q (.inr hq)
    · exact ⟨(hM q hq).1, fun e => (hM q hq).2 (.inl e)⟩
  · rw [T.sizeL_append, List.length_append]
    have := sizeL_le ts hts
    omega
  · rw [List.length_append]; omega
  · rw [List.flatten_append, List.mem_append]
    rintro (h | h | h | h)
    · exact h10 q hq (.inl h)
    · rcases hown q h with h | h
      · exact h10 q hq (.inr (.inl h))
      · have := h7.lt q hq; omega
    · exact h10 q hq (.inr (.inr h))
    · exact (hM q h).2 (.inr (.inr (.inr hq)))
  · rw [List.flatten_append, List.mem_append] at hq
    rcases hq with h | h | (h | h) | h
    · exact .inl (.inl h)
    · rcases hown q h with h | h
      · exact .inl (.inr (.inl h))
      · exact .inr (.inr h)
    · exact .inl (.inr (.inr (.inl h)))
    · exact .inr (.inl h)
    · exact .inl (.inr (.inr (.inr h)))
/-- Take of some trees. -/
theorem FS.take {b kb base c m : Nat} {M : Nat → Prop} {w : World} (h : FS b kb base c m M w) (hbs : base ≤ w.heap.size) {ts : List T} {bss : List (List Nat)} {a : Option Addr} (cc : Nat) (hT : Trees w 64 a ts bss) (hl : ts.length ≤ 3) (hts : ∀ t ∈ ts, t.size ≤ 1024) (hnd : bss.flatten.Nodup) (hM : ∀ q ∈ bss.flatten, base ≤ q ∧ ¬ M q) (hc : c ≤ 7000) :
    Calls Try.prog 29 #[.pointer (some ⟨b, 0, none⟩), .slice a ts.length cc] w fun e w' => (∃ v, e = .returned v) ∧ ∃ M', FS b kb base (c + 1) m M' w' ∧ Kp (fun q => ¬ M q ∧ q ∉ bss.flatten) w w' ∧ ∀ q, M' q → M q ∨ q ∈ bss.flatten ∨ w.heap.size ≤ q := by
  obtain ⟨lv, nv, kv, rs, sz, kts, kbss, ll, lrs, lsz, rfl, h1, h2, h3, h4, h5, h6, h7, h8, h9, h10⟩ := h
  refine (btake_any w b base lv nv kv rs sz 64 a cc ts bss h1 hbs hT hnd (fun q hq => ⟨(hM q hq).1, fun e => (hM q hq).2 (.inl e)⟩) (by have := sizeL_le ts hts; omega) h2.1 (by omega)).mono ?_
  rintro e w' ⟨he, lv', nv', rs', sz', hT', hs1, hs2, hk, hq'⟩
  refine ⟨he, _, ⟨lv', nv', kv, rs', sz', kts, kbss, ll, lrs, lsz, rfl, hT', ⟨by omega, by push_cast; omega⟩, h3.keep hk (fun q hq => ⟨(h5 q hq).2, fun e => (hM q e).2 (.inr (hq.imp id .inl))⟩), h4, fun q hq => ⟨(h5 q hq).1, fun e => ?_⟩, h6, h7.keep hk (fun q hq => ⟨fun e => h10 q hq (.inl e), fun e => (hM q e).2 (.inr (.inr (.inr hq)))⟩), h8, h9, fun q hq => ?_⟩, hk.mono (fun q _ hq => ⟨fun e => hq.1 (.inl e), hq.2⟩), fun q hq => ?_⟩
  · rcases hq' q e with h | h | h
    · exact (h5 q hq).2 h
    · exact (hM q h).2 (.inr (hq.imp id .inl))
    · have := h3.lt hq; omega
  · rintro (h | h)
    · rcases hq' q h with h | h | h
      · exact h10 q hq (.inl h)
      · exact (hM q h).2 (.inr (.inr (.inr hq)))
      · have := h7.lt q hq; omega
    · exact h10 q hq (.inr h)
  · rcases hq with h | h
    · exact (hq' q h).imp .inl id
    · exact .inl (.inr h)
/-- Keep of a list of names. -/
theorem FS.lkeep {b kb base c m pb : Nat} {M : Nat → Prop} {w : World} (h : FS b kb base c m M w) (hbs : base ≤ w.heap.size) {v : Value} (cc : Nat) (hpb : w.heap[pb]? = some (.cells #[v] 49)) (hv : NRow w base v) (hvM : ∀ q, v.ownBlock = some q → ¬ M q) (hpM : ¬ M pb) (hm : m ≤ 1000) :
    Calls Try.prog 28 #[.pointer (some ⟨kb, 0, none⟩), .slice (some ⟨pb, 0, none⟩) 1 cc] w fun e w' => (∃ v, e = .returned v) ∧ ∃ M', FS b kb base c (m + 1) M' w' ∧ Kp (fun q => ¬ M q) w w' ∧ ∀ q, M' q → M q ∨ v.ownBlock = some q ∨ w.heap.size ≤ q := by
  obtain ⟨lv, nv, kv, rs, sz, kts, kbss, ll, lrs, lsz, rfl, h1, h2, h3, h4, h5, h6, h7, h8, h9, h10⟩ := h
  refine (lkeep_any w kb base pb cc ll lrs lsz [v] h7 hbs hpb (fun u hu => by rw [List.mem_singleton.1 hu]; exact hv) (List.pairwise_singleton _ _) (fun u hu q hq e => by rw [List.mem_singleton.1 hu] at hq; exact hvM q hq (.inr (.inr (.inr e)))) (fun e => hpM (.inr (.inr (.inr e)))) (by simp; omega) h8.1 (by omega)).mono ?_
  rintro e w' ⟨he, ll', lrs', lsz', hL, hs1, hs2, hs3, hk, ho, hq'⟩
  have hnk : ∀ q, TBk b lv nv rs q ∨ kv.ownBlock = some q ∨ q ∈ kbss.flatten → q ≠ kb ∧ ll.ownBlock ≠ some q := fun q hq => ⟨fun e => h10 q (.inl e) hq, fun e => h10 q (.inr (.inl e)) hq⟩
  have hls : ∀ q, LBk kb ll' lrs' q → LBk kb ll lrs q ∨ v.ownBlock = some q ∨ w.heap.size ≤ q := fun q hq => (hq' q hq).imp id (Or.imp (fun ⟨u, hu, e⟩ => by
    rw [List.length_singleton, List.take_of_length_le (by simp)] at hu
    rw [← List.mem_singleton.1 hu]; exact e) id)
  refine ⟨he, _, ⟨lv, nv, kv, rs, sz, kts, kbss, ll', lrs', lsz', rfl, h1.keep hk (fun q hq => hnk q (.inl hq)), h2, h3.keep hk (fun q hq => hnk q (.inr hq)), h4, h5, ⟨h6.1, by omega⟩, hL, ⟨by omega, by push_cast at hs2 ⊢; simp at hs2; omega⟩, by simp at hs3; omega, fun q hq hn => ?_⟩, hk.mono (fun q _ hq => ⟨fun e => hq (.inr (.inr (.inr (.inl e)))), fun e => hq (.inr (.inr (.inr (.inr (.inl e)))))⟩), fun q hq => ?_⟩
  · rcases hls q hq with h | h | h
    · exact h10 q h hn
    · exact hvM q h (hn.imp id (Or.imp id .inl))
    · have : q < w.heap.size := by
        rcases hn with hn | hn | hn
        · exact h1.lt q hn
        · exact h3.lt (.inl hn)
        · exact h3.lt (.inr hn)
      omega
  · rcases hq with h | h | h | h
    · exact .inl (.inl h)
    · exact .inl (.inr (.inl h))
    · exact .inl (.inr (.inr (.inl h)))
    · exact (hls q h).imp (fun h => .inr (.inr (.inr h))) id
/-- Whole, and Apart behind it. -/
theorem FS.whole {b kb base c m : Nat} {M : Nat → Prop} {w : World} (h : FS b kb base c m M w) (hbs : base ≤ w.heap.size) (hm : m ≤ 300) (hc : c ≤ 7000) :
    Calls Try.prog 30 #[.pointer (some ⟨b, 0, none⟩)] w fun e w' => e = .returned (.bool true) ∧ Kp (fun q => ¬ M q) w w' ∧ Calls Try.prog 31 #[.pointer (some ⟨kb, 0, none⟩)] w' fun e w'' => e = .returned (.bool true) ∧ Kp (fun q => ¬ M q) w' w'' := by
  obtain ⟨lv, nv, kv, rs, sz, kts, kbss, ll, lrs, lsz, rfl, h1, h2, h3, h4, h5, h6, h7, h8, h9, h10⟩ := h
  refine (bwhole_any w b base 64 lv nv kv rs sz kts kbss h1 h3 hbs h4 (fun q hq => h5 q (.inr hq)) (by omega) h2.1 (by omega)).mono ?_
  rintro e w' ⟨he, hk⟩
  have h7' := h7.keep hk (fun q hq => ⟨fun e => h10 q hq (.inl e), fun e => h10 q hq (.inr (.inr e))⟩)
  refine ⟨he, hk.mono (fun q _ hq => ⟨fun e => hq (.inl e), fun e => hq (.inr (.inr (.inl e)))⟩), ?_⟩
  exact (lapart_any w' kb base ll lrs lsz h7' (by omega)).mono (fun e w'' hh => ⟨hh.1, hh.2.mono (fun q _ hq e => hq (.inr (.inr (.inr e))))⟩)
end Go.Proofs.Ythdmoghooaccgaa
/-
  What the walk of TreeFresh wants besides: a loop whose frame is told by some slots alone; a frame written out; deferred that were collected.
-/
namespace Go.Proofs.Ythdmoghooaccgaa
open Go.RowKit
theorem wp_loop_k {P : Program} {Q : Exit → Act → World → Prop} {a : Act} {w : World} {c : Code} (I : Act → World → Prop) (μ : Act → World → Nat) (h₀ : I a w)
    (round : ∀ a w, I a w → ∀ K : Act → World → Prop, (∀ a' w', I a' w' → μ a' w' < μ a w → K a' w') → c.wp P (Exit.then K Q) a w) : (Code.loop c).wp P Q a w :=
  wp_loop I μ h₀ fun a w h => round a w h _ (fun _ _ h1 h2 => ⟨h1, h2⟩)
/-- Where nothing is left but in order. -/
theorem wp_calm {P : Program} {Q : Exit → Act → World → Prop} {K : Act → World → Prop} {a : Act} {w : World} {c : Code} (h : c.wp P (Exit.then K (fun _ _ _ => False)) a w) : c.wp P (Exit.then K Q) a w :=
  wp_mono h (by intro e a w h; cases e <;> first | exact h | exact h.elim)
theorem arr_fn (tm : Array Value) : tm = ((List.range tm.size).map (fun k => tm.getD k (.bool false))).toArray := by
  apply Array.ext
  · simp
  · intro i h1 h2
    simp [h1]
set_option maxRecDepth 100000 in
theorem frame240 {tm : Array Value} (h : tm.size = 240) : ∃ u : Nat → Value, tm = #[u 0, u 1, u 2, u 3, u 4, u 5, u 6, u 7, u 8, u 9, u 10, u 11, u 12, u 13, u 14, u 15, u 16, u 17, u 18, u 19, u 20, u 21, u 22, u 23, u 24, u 25, u 26, u 27, u 28, u 29, u 30, u 31, u 32, u 33, u 34, u 35, u 36, u 37, u 38, u 39, u 40, u 41, u 42, u 43, u 44, u 45, u 46, u 47, u 48, u 49, u 50, u 51, u 52, u 53, u 54, u 55, u 56, u 57, u 58, u 59, u 60, u 61, u 62, u 63, u 64, u 65, u 66, u 67, u 68, u 69, u 70, u 71, u 72, u 73, u 74, u 75, u 76, u 77, u 78, u 79, u 80, u 81, u 82, u 83, u 84, u 85, u 86, u 87, u 88, u 89, u 90, u 91, u 92, u 93, u 94, u 95, u 96, u 97, u 98, u 99, u 100, u 101, u 102, u 103, u 104, u 105, u 106, u 107, u 108, u 109, u 110, u 111, u 112, u 113, u 114, u 115, u 116, u 117, u 118, u 119, u 120, u 121, u 122, u 123, u 124, u 125, u 126, u 127, u 128, u 129, u 130, u 131, u 132, u 133, u 134, u 135, u 136, u 137, u 138, u 139, u 140, u 141, u 142, u 143, u 144, u 145, u 146, u 147, u 148, u 149, u 150, u 151, u 152, u 153, u 154, u 155, u 156, u 157, u 158, u 159, u 160, u 161, u 162, u 163, u 164, u 165, u 166, u 167, u 168, u 169, u 170, u 171, u 172, u 173, u 174, u 175, u 176, u 177, u 178, u 179, u 180, u 181, u 182, u 183, u 184, u 185, u 186, u 187, u 188, u 189, u 190, u 191, u 192, u 193, u 194, u 195, u 196, u 197, u 198, u 199, u 200, u 201, u 202, u 203, u 204, u 205, u 206, u 207, u 208, u 209, u 210, u 211, u 212, u 213, u 214, u 215, u 216, u 217, u 218, u 219, u 220, u 221, u 222, u 223, u 224, u 225, u 226, u 227, u 228, u 229, u 230, u 231, u 232, u 233, u 234, u 235, u 236, u 237, u 238, u 239] := by
  refine ⟨fun k => tm.getD k (.bool false), ?_⟩
  have h1 := arr_fn tm
  rw [h] at h1
  exact h1
set_option maxRecDepth 100000 in
theorem frame_at {tm : Array Value} {v0 v2 v3 v4 v5 : Value} (h : tm.size = 240) (h0 : tm[0]? = some v0) (h2 : tm[2]? = some v2) (h3 : tm[3]? = some v3) (h4 : tm[4]? = some v4) (h5 : tm[5]? = some v5) : ∃ u : Nat → Value, tm = #[v0, u 1, v2, v3, v4, v5, u 6, u 7, u 8, u 9, u 10, u 11, u 12, u 13, u 14, u 15, u 16, u 17, u 18, u 19, u 20, u 21, u 22, u 23, u 24, u 25, u 26, u 27, u 28, u 29, u 30, u 31, u 32, u 33, u 34, u 35, u 36, u 37, u 38, u 39, u 40, u 41, u 42, u 43, u 44, u 45, u 46, u 47, u 48, u 49, u 50, u 51, u 52, u 53, u 54, u 55, u 56, u 57, u 58, u 59, u 60, u 61, u 62, u 63, u 64, u 65, u 66, u 67, u 68, u 69, u 70, u 71, u 72, u 73, u 74, u 75, u 76, u 77, u 78, u 79, u 80, u 81, u 82, u 83, u 84, u 85, u 86, u 87, u 88, u 89, u 90, u 91, u 92, u 93, u 94, u 95, u 96, u 97, u 98, u 99, u 100, u 101, u 102, u 103, u 104, u 105, u 106, u 107, u 108, u 109, u 110, u 111, u 112, u 113, u 114, u 115, u 116, u 117, u 118, u 119, u 120, u 121, u 122, u 123, u 124, u 125, u 126, u 127, u 128, u 129, u 130, u 131, u 132, u 133, u 134, u 135, u 136, u 137, u 138, u 139, u 140, u 141, u 142, u 143, u 144, u 145, u 146, u 147, u 148, u 149, u 150, u 151, u 152, u 153, u 154, u 155, u 156, u 157, u 158, u 159, u 160, u 161, u 162, u 163, u 164, u 165, u 166, u 167, u 168, u 169, u 170, u 171, u 172, u 173, u 174, u 175, u 176, u 177, u 178, u 179, u 180, u 181, u 182, u 183, u 184, u 185, u 186, u 187, u 188, u 189, u 190, u 191, u 192, u 193, u 194, u 195, u 196, u 197, u 198, u 199, u 200, u 201, u 202, u 203, u 204, u 205, u 206, u 207, u 208, u 209, u 210, u 211, u 212, u 213, u 214, u 215, u 216, u 217, u 218, u 219, u 220, u 221, u 222, u 223, u 224, u 225, u 226, u 227, u 228, u 229, u 230, u 231, u 232, u 233, u 234, u 235, u 236, u 237, u 238, u 239] := by
  obtain ⟨u, hu⟩ := frame240 h
  have e0 : u 0 = v0 := by rw [hu] at h0; exact Option.some.inj h0
  have e2 : u 2 = v2 := by rw [hu] at h2; exact Option.some.inj h2
  have e3 : u 3 = v3 := by rw [hu] at h3; exact Option.some.inj h3
  have e4 : u 4 = v4 := by rw [hu] at h4; exact Option.some.inj h4
  have e5 : u 5 = v5 := by rw [hu] at h5; exact Option.some.inj h5
  subst e0 e2 e3 e4 e5
  exact ⟨u, hu⟩
/-- A deferred that was collected. -/
def col (D : Nat) : Deferred := { target := .collected D, args := #[] }
theorem leaves_marks {F : Fence} {n : Nat} {P : Program} {fn : Func} {tmps : Array Value} {R : Ending → World → Prop} : ∀ (ds : List Nat) (w : World), (∀ D ∈ ds, w.heap[D]? = some (.deferred (some []))) → ds.Nodup → (∀ w', Kp (fun q => q ∉ ds) w w' → LeavesInM F n P fn tmps R [] .returning w') → LeavesInM F n P fn tmps R (ds.map col) .returning w
  | [], w, _, _, h => h w (Kp.refl _ _)
  | D :: ds, w, hd, hn, h => by
    have hk := Kp.putObj w D (.deferred none)
    refine ⟨by simp, .inl ⟨_, _, rfl, run_takeDeferred (hd D List.mem_cons_self), ?_⟩⟩
    refine leaves_marks ds _ (fun D' hD' => hk.block' (hd D' (List.mem_cons_of_mem _ hD')) (fun e => by have e' : D' = D := e; exact (List.nodup_cons.1 hn).1 (e' ▸ hD'))) (List.nodup_cons.1 hn).2 (fun w' hw' => h w' ?_)
    exact (hk.mono (fun q _ hq e => hq (by have e' : q = D := e; rw [e']; exact List.mem_cons_self))).trans (hw'.mono (fun q _ hq e => hq (List.mem_cons_of_mem _ e)))
/-- A call of the list, in a block of its own. -/
abbrev opW (kd : Int) (k : ByteArray) (n : Int) (x : ByteArray) (a : Option Addr) (kl c : Nat) (k' : ByteArray) (n' : Int) (x' : ByteArray) (a' : Option Addr) (kl' c' : Nat) (pv : Value) (st : Int) : Array Value := #[.int .i64 kd, .string k, .int .i64 n, .string x, .slice a kl c, .string k', .int .i64 n', .string x', .slice a' kl' c', pv, .int .i64 st]
theorem eleven_of {w : World} {b : Nat} {v0 v1 v2 v3 v4 v5 v6 v7 v8 v9 v10 : Value} {t : TypeId} (h : w.heap[b]? = some (.cells #[v0, v1, v2, v3, v4, v5, v6, v7, v8, v9, v10] t)) :
    w.cell? ⟨b, 1, none⟩ = some v1 ∧ w.cell? ⟨b, 2, none⟩ = some v2 ∧ w.cell? ⟨b, 3, none⟩ = some v3 ∧ w.cell? ⟨b, 4, none⟩ = some v4 ∧ w.cell? ⟨b, 5, none⟩ = some v5 ∧ w.cell? ⟨b, 6, none⟩ = some v6 ∧ w.cell? ⟨b, 7, none⟩ = some v7 ∧ w.cell? ⟨b, 8, none⟩ = some v8 ∧ w.cell? ⟨b, 9, none⟩ = some v9 :=
  ⟨cell_of h rfl, cell_of h rfl, cell_of h rfl, cell_of h rfl, cell_of h rfl, cell_of h rfl, cell_of h rfl, cell_of h rfl, cell_of h rfl⟩
/-- How the books stand against an earlier world: what is not theirs is as it was. -/
def FA (b kb base : Nat) (V : World) (M : Nat → Prop) (c m : Nat) (M' : Nat → Prop) (W : World) : Prop := FS b kb base c m M' W ∧ Kp (fun q => ¬ M q) V W ∧ ∀ q, M' q → M q ∨ V.heap.size ≤ q
theorem FA.refl {b kb base c m : Nat} {V : World} {M : Nat → Prop} (h : FS b kb base c m M V) : FA b kb base V M c m M V := ⟨h, Kp.refl _ _, fun _ hq => .inl hq⟩
theorem FA.ext {b kb base c m : Nat} {V W W' : World} {M M' : Nat → Prop} (h : FA b kb base V M c m M' W) (hx : Ext W W') : FA b kb base V M c m M' W' := ⟨h.1.keep (hx.kp (fun _ => True)) (fun _ _ => trivial), h.2.1.trans (hx.kp _), h.2.2⟩
theorem FA.step {b kb base c m c' m' : Nat} {V W W' : World} {M M' M'' : Nat → Prop} (h : FA b kb base V M c m M' W) (h1 : FS b kb base c' m' M'' W') (hk : Kp (fun q => ¬ M' q ∧ q < V.heap.size) W W') (hq : ∀ q, M'' q → M' q ∨ V.heap.size ≤ q) : FA b kb base V M c' m' M'' W' :=
  ⟨h1, h.2.1.chain hk (fun q hq hn => ⟨fun e => (h.2.2 q e).elim hn (fun e => by omega), hq⟩), fun q e => (hq q e).elim (h.2.2 q) .inr⟩
theorem cell_in {w : World} {g i : Nat} {cs : Array Value} {t : TypeId} {v : Value} (h : w.heap[g]? = some (.cells cs t)) (hc : w.cell? ⟨g, i, none⟩ = some v) : i < cs.size := by
  rcases Nat.lt_or_ge i cs.size with hl | hl
  · exact hl
  · simp [World.cell?, h, Array.getElem?_eq_none hl] at hc
/-- The list of a twin's kids, to be written over. -/
theorem MRd.root {K : Nat → Prop} {w : World} {d : Nat} {k : ByteArray} {n : Int} {x : ByteArray} {a : Option Addr} {l c : Nat} {t : T} (h : MRd K w d (.agg #[.string k, .int .i64 n, .string x, .slice a l c]) t) : l ≤ 2199023255488 ∧ (l = 0 ∨ ∃ g off cs, a = some ⟨g, off, none⟩ ∧ K g ∧ w.heap[g]? = some (.cells cs 26) ∧ off + l * 4 ≤ cs.size) := by
  cases d with
  | zero => exact h.elim
  | succ d =>
    obtain ⟨k', n', x', ks⟩ := t
    obtain ⟨a', c', e, _, _, hl, hm⟩ := h
    simp only [Value.agg.injEq, Array.mk.injEq, List.cons.injEq, Value.slice.injEq, and_true] at e
    obtain ⟨_, _, _, rfl, rfl, rfl⟩ := e
    refine ⟨by omega, ?_⟩
    rcases hm with ⟨_, h0⟩ | ⟨g, off, rfl, hg, ⟨cs, hcs⟩, _, ⟨u1, u2, u3, hf⟩, _⟩
    · left; rw [h0]; rfl
    · exact .inr ⟨g, off, cs, rfl, hg, hcs, by have := cell_in hcs hf.1; omega⟩
theorem range_cut {P : Program} {Q : Exit → Act → World → Prop} {a : Act} {w : World} {cd : Code} (AFT : Nat → World → Prop) (h2 : ∀ D Z, AFT D Z → Q .normal { a with defers := { target := .collected D, args := #[] } :: a.defers } Z) (h1 : (∀ D Z, AFT D Z → Q .normal { a with defers := { target := .collected D, args := #[] } :: a.defers } Z) → cd.wpIn Fence.wide 0 P Q a w) : cd.wpIn Fence.wide 0 P Q a w := h1 h2
theorem FS.up {b kb base c c' m m' : Nat} {M : Nat → Prop} {w : World} (h : FS b kb base c m M w) (hc : c ≤ c') (hm : m ≤ m') : FS b kb base c' m' M w := by
  obtain ⟨lv, nv, kv, rs, sz, kts, kbss, ll, lrs, lsz, hM, h1, h2, h3, h4, h5, h6, h7, h8, h9, h10⟩ := h
  exact ⟨lv, nv, kv, rs, sz, kts, kbss, ll, lrs, lsz, hM, h1, ⟨h2.1, by omega⟩, h3, h4, h5, ⟨h6.1, by omega⟩, h7, ⟨h8.1, by omega⟩, by omega, h10⟩
/-- Two twins, each in a box of its own. -/
def TwJ (V : World) (m m' : Nat) (t v : T) (T7 T8 : Nat) (k1 : ByteArray) (n1 : Int) (x1 : ByteArray) (a1 : Option Addr) (l1 c1 : Nat) (k2 : ByteArray) (n2 : Int) (x2 : ByteArray) (a2 : Option Addr) (l2 c2 : Nat) (W : World) : Prop :=
  Ext V W ∧ V.heap.size ≤ T7 ∧ V.heap.size ≤ T8 ∧ T7 ≠ T8 ∧ W.heap[T7]? = some (.cells #[.string k1, .int .i64 n1, .string x1, .slice a1 l1 c1] 26) ∧ W.heap[T8]? = some (.cells #[.string k2, .int .i64 n2, .string x2, .slice a2 l2 c2] 26) ∧
    MRd (fun q => V.heap.size ≤ q ∧ q ≠ T7 ∧ q ≠ T8) W m (.agg #[.string k1, .int .i64 n1, .string x1, .slice a1 l1 c1]) t ∧ MRd (fun q => V.heap.size ≤ q ∧ q ≠ T7 ∧ q ≠ T8) W m' (.agg #[.string k2, .int .i64 n2, .string x2, .slice a2 l2 c2]) v
abbrev zero4 : Array Value := #[.string ⟨#[]⟩, .int .i64 0, .string ⟨#[]⟩, .slice none 0 0]
theorem twin_fin {V Z : World} {m m' : Nat} {t v : T} {T7 T8 lo1 hi1 lo2 hi2 : Nat} {k1 : ByteArray} {n1 : Int} {x1 : ByteArray} {a1 : Option Addr} {l1 c1 : Nat} {k2 : ByteArray} {n2 : Int} {x2 : ByteArray} {a2 : Option Addr} {l2 c2 : Nat} (hx : Ext V Z) (h7 : Z.heap[T7]? = some (.cells zero4 26)) (h8 : Z.heap[T8]? = some (.cells zero4 26))
    (hm1 : MRd (fun q => lo1 ≤ q ∧ q < hi1) Z m (.agg #[.string k1, .int .i64 n1, .string x1, .slice a1 l1 c1]) t) (hm2 : MRd (fun q => lo2 ≤ q ∧ q < hi2) Z m' (.agg #[.string k2, .int .i64 n2, .string x2, .slice a2 l2 c2]) v) (hV : V.heap.size ≤ T7 ∧ V.heap.size ≤ T8 ∧ T7 ≠ T8 ∧ V.heap.size ≤ lo1 ∧ V.heap.size ≤ lo2) (ha : (T7 < lo1 ∨ hi1 ≤ T7) ∧ (T7 < lo2 ∨ hi2 ≤ T7) ∧ (T8 < lo1 ∨ hi1 ≤ T8) ∧ (T8 < lo2 ∨ hi2 ≤ T8)) :
    TwJ V m m' t v T7 T8 k1 n1 x1 a1 l1 c1 k2 n2 x2 a2 l2 c2 ((((((((Z.setCell ⟨T7, 0, none⟩ (.string k1)).setCell ⟨T7, 0 + 1, none⟩ (.int .i64 n1)).setCell ⟨T7, 0 + 2, none⟩ (.string x1)).setCell ⟨T7, 0 + 3, none⟩ (.slice a1 l1 c1)).setCell ⟨T8, 0, none⟩ (.string k2)).setCell ⟨T8, 0 + 1, none⟩ (.int .i64 n2)).setCell ⟨T8, 0 + 2, none⟩ (.string x2)).setCell ⟨T8, 0 + 3, none⟩ (.slice a2 l2 c2)) := by
  have q1 := Kp.set4 Z T7 0 (.string k1) (.int .i64 n1) (.string x1) (.slice a1 l1 c1)
  have b1 := set4_block h7 0 (.string k1) (.int .i64 n1) (.string x1) (.slice a1 l1 c1)
  have b8 := q1.block' h8 (fun e => hV.2.2.1 e.symm)
  generalize ((((Z.setCell ⟨T7, 0, none⟩ (.string k1)).setCell ⟨T7, 0 + 1, none⟩ (.int .i64 n1)).setCell ⟨T7, 0 + 2, none⟩ (.string x1)).setCell ⟨T7, 0 + 3, none⟩ (.slice a1 l1 c1)) = Y at *
  have q2 := Kp.set4 Y T8 0 (.string k2) (.int .i64 n2) (.string x2) (.slice a2 l2 c2)
  have b2 := set4_block b8 0 (.string k2) (.int .i64 n2) (.string x2) (.slice a2 l2 c2)
  have b7 := q2.block' b1 hV.2.2.1
  refine ⟨Kp.extOf (Kp.extOf hx q1 hV.1) q2 hV.2.1, hV.1, hV.2.1, hV.2.2.1, ?_, ?_, ?_, ?_⟩
  · rw [b7]; rfl
  · rw [b2]; rfl
  · refine ((hm1.keep (q1.mono (fun q _ hq e => ?_))).keep (q2.mono (fun q _ hq e => ?_))).mono (fun q _ hq => ⟨?_, fun e => ?_, fun e => ?_⟩)
    · have e' : q = T7 := e
      have hq' : lo1 ≤ q ∧ q < hi1 := hq
      omega
    · have e' : q = T8 := e
      have hq' : lo1 ≤ q ∧ q < hi1 := hq
      omega
    · have hq' : lo1 ≤ q ∧ q < hi1 := hq
      omega
    · have hq' : lo1 ≤ q ∧ q < hi1 := hq
      omega
    · have hq' : lo1 ≤ q ∧ q < hi1 := hq
      omega
  · refine ((hm2.keep (q1.mono (fun q _ hq e => ?_))).keep (q2.mono (fun q _ hq e => ?_))).mono (fun q _ hq => ⟨?_, fun e => ?_, fun e => ?_⟩)
    · have e' : q = T7 := e
      have hq' : lo2 ≤ q ∧ q < hi2 := hq
      omega
    · have e' : q = T8 := e
      have hq' : lo2 ≤ q ∧ q < hi2 := hq
      omega
    · have hq' : lo2 ≤ q ∧ q < hi2 := hq
      omega
    · have hq' : lo2 ≤ q ∧ q < hi2 := hq
      omega
    · have hq' : lo2 ≤ q ∧ q < hi2 := hq
      omega
end Go.Proofs.Ythdmoghooaccgaa
/-
  Keep and Take of three trees, and Take of one, as the walk of TreeFresh calls them.
-/
namespace Go.Proofs.Ythdmoghooaccgaa
open Go.RowKit
theorem rowBase_mono {w : World} {base base' n : Nat} {e : TypeId} {v : Value} {xs : List Value} (h : w.ownsRow base e 1 v n xs) (hb : base' ≤ base) : w.ownsRow base' e 1 v n xs :=
  ⟨h.1, h.2.imp id (fun ⟨g, cap, cur, e, hb', r⟩ => ⟨g, cap, cur, e, Nat.le_trans hb hb', r⟩)⟩
section
variable {w : World} {k1 k2 k3 : ByteArray} {n1 n2 n3 : Int} {x1 x2 x3 : ByteArray} {a1 a2 a3 : Option Addr} {l1 l2 l3 : Nat} {t1 t2 t3 : T} {s1 s2 s3 : List Nat}
abbrev twelve (k1 : ByteArray) (n1 : Int) (x1 : ByteArray) (a1 : Option Addr) (l1 : Nat) (k2 : ByteArray) (n2 : Int) (x2 : ByteArray) (a2 : Option Addr) (l2 : Nat) (k3 : ByteArray) (n3 : Int) (x3 : ByteArray) (a3 : Option Addr) (l3 : Nat) : Array Value :=
  #[.string k1, .int .i64 n1, .string x1, .slice a1 l1 l1, .string k2, .int .i64 n2, .string x2, .slice a2 l2 l2, .string k3, .int .i64 n3, .string x3, .slice a3 l3 l3]
theorem inRow3 (o1 : Own w 64 (.agg #[.string k1, .int .i64 n1, .string x1, .slice a1 l1 l1]) t1 s1) (o2 : Own w 64 (.agg #[.string k2, .int .i64 n2, .string x2, .slice a2 l2 l2]) t2 s2) (o3 : Own w 64 (.agg #[.string k3, .int .i64 n3, .string x3, .slice a3 l3 l3]) t3 s3) : InRow w 64 (twelve k1 n1 x1 a1 l1 k2 n2 x2 a2 l2 k3 n3 x3 a3 l3).toList [t1, t2, t3] [s1, s2, s3] := by
  refine ⟨rfl, fun j hj => ?_⟩
  match j, hj with
  | 0, _ => exact ⟨_, _, _, _, s1, rfl, rfl, rfl, rfl, rfl, o1⟩
  | 1, _ => exact ⟨_, _, _, _, s2, rfl, rfl, rfl, rfl, rfl, o2⟩
  | 2, _ => exact ⟨_, _, _, _, s3, rfl, rfl, rfl, rfl, rfl, o3⟩
theorem trees3 {pb : Nat} (hb : w.heap[pb]? = some (.cells (twelve k1 n1 x1 a1 l1 k2 n2 x2 a2 l2 k3 n3 x3 a3 l3) 26)) (o1 : Own w 64 (.agg #[.string k1, .int .i64 n1, .string x1, .slice a1 l1 l1]) t1 s1) (o2 : Own w 64 (.agg #[.string k2, .int .i64 n2, .string x2, .slice a2 l2 l2]) t2 s2) (o3 : Own w 64 (.agg #[.string k3, .int .i64 n3, .string x3, .slice a3 l3 l3]) t3 s3) (hn : pb ∉ [s1, s2, s3].flatten) : Trees w 64 (some ⟨pb, 0, none⟩) [t1, t2, t3] [s1, s2, s3] := by
  refine ⟨rfl, .inr ⟨pb, _, rfl, hb, hn, fun j hj => ?_⟩⟩
  match j, hj with
  | 0, _ => exact ⟨_, _, _, _, s1, rfl, rfl, rfl, rfl, rfl, o1⟩
  | 1, _ => exact ⟨_, _, _, _, s2, rfl, rfl, rfl, rfl, rfl, o2⟩
  | 2, _ => exact ⟨_, _, _, _, s3, rfl, rfl, rfl, rfl, rfl, o3⟩
theorem three_nodup {c1 c2 : Nat} (d1 : s1.Nodup) (d2 : s2.Nodup) (d3 : s3.Nodup) (h1 : ∀ q ∈ s1, q < c1) (h2 : ∀ q ∈ s2, c1 ≤ q ∧ q < c2) (h3 : ∀ q ∈ s3, c2 ≤ q) (hc : c1 ≤ c2) : [s1, s2, s3].flatten.Nodup := by
  simp only [List.flatten_cons, List.flatten_nil, List.append_nil]
  rw [List.nodup_append, List.nodup_append]
  refine ⟨d1, ⟨d2, d3, fun a ha b hb e => ?_⟩, fun a ha b hb e => ?_⟩
  · have := h2 a ha; have := h3 b hb; omega
  · have := h1 a ha
    rcases List.mem_append.1 hb with hb | hb
    · have := h2 b hb; omega
    · have := h3 b hb; omega
theorem mem3 {P : Nat → Prop} (h1 : ∀ q ∈ s1, P q) (h2 : ∀ q ∈ s2, P q) (h3 : ∀ q ∈ s3, P q) : ∀ q ∈ [s1, s2, s3].flatten, P q := by
  intro q hq
  simp only [List.flatten_cons, List.flatten_nil, List.append_nil, List.mem_append] at hq
  rcases hq with hq | hq | hq
  · exact h1 q hq
  · exact h2 q hq
  · exact h3 q hq
theorem size3 (z1 : t1.size ≤ 1024) (z2 : t2.size ≤ 1024) (z3 : t3.size ≤ 1024) : ∀ t ∈ [t1, t2, t3], t.size ≤ 1024 := by
  intro t ht
  simp only [List.mem_cons, List.not_mem_nil, or_false] at ht
  rcases ht with rfl | rfl | rfl
  · exact z1
  · exact z2
  · exact z3
variable {b kb base c m pb : Nat} {V : World} {M M' : Nat → Prop}
/-- b.Keep(x, y, z), against an earlier world. -/
theorem FA.keep3 (h : FA b kb base V M c m M' w) (hbs : base ≤ V.heap.size) (hb : w.heap[pb]? = some (.cells (twelve k1 n1 x1 a1 l1 k2 n2 x2 a2 l2 k3 n3 x3 a3 l3) 26)) (o1 : Own w 64 (.agg #[.string k1, .int .i64 n1, .string x1, .slice a1 l1 l1]) t1 s1) (o2 : Own w 64 (.agg #[.string k2, .int .i64 n2, .string x2, .slice a2 l2 l2]) t2 s2) (o3 : Own w 64 (.agg #[.string k3, .int .i64 n3, .string x3, .slice a3 l3 l3]) t3 s3) (z1 : t1.size ≤ 1024) (z2 : t2.size ≤ 1024) (z3 : t3.size ≤ 1024) (d1 : s1.Nodup) (d2 : s2.Nodup) (d3 : s3.Nodup) {c1 c2 : Nat} (h1 : ∀ q ∈ s1, V.heap.size ≤ q ∧ ¬ M' q ∧ q < c1) (h2 : ∀ q ∈ s2, V.heap.size ≤ q ∧ ¬ M' q ∧ c1 ≤ q ∧ q < c2) (h3 : ∀ q ∈ s3, V.heap.size ≤ q ∧ ¬ M' q ∧ c2 ≤ q) (hc : c1 ≤ c2) (hm : m ≤ 1000) :
    Calls Try.prog 27 #[.pointer (some ⟨b, 0, none⟩), .slice (some ⟨pb, 0, none⟩) 3 3] w fun e w' => (∃ v, e = .returned v) ∧ ∃ M'', FA b kb base V M c (m + 1) M'' w' := by
  have hvw := h.2.1.size
  refine (h.1.bkeep (pb := pb) (by omega) 3 (inRow3 o1 o2 o3) rfl (fun e u he => cell_of hb (by simpa using he)) (by simp) (size3 z1 z2 z3) (three_nodup d1 d2 d3 (fun q hq => (h1 q hq).2.2) (fun q hq => (h2 q hq).2.2) (fun q hq => (h3 q hq).2.2) hc) (mem3 (fun q hq => ⟨by have := h1 q hq; omega, (h1 q hq).2.1⟩) (fun q hq => ⟨by have := h2 q hq; omega, (h2 q hq).2.1⟩) (fun q hq => ⟨by have := h3 q hq; omega, (h3 q hq).2.1⟩)) hm).mono ?_
  rintro e w' ⟨he, M'', hF, hk, hq⟩
  refine ⟨he, M'', h.step hF (hk.mono (fun q _ hq => hq.1)) (fun q e => (hq q e).imp id (fun e => e.elim (fun e => ?_) (fun e => by omega)))⟩
  exact mem3 (P := fun q => V.heap.size ≤ q) (fun q hq => (h1 q hq).1) (fun q hq => (h2 q hq).1) (fun q hq => (h3 q hq).1) q e
/-- b.Take(x, y, z). -/
theorem FA.take3 (h : FA b kb base V M c m M' w) (hbs : base ≤ V.heap.size) (hb : w.heap[pb]? = some (.cells (twelve k1 n1 x1 a1 l1 k2 n2 x2 a2 l2 k3 n3 x3 a3 l3) 26)) (o1 : Own w 64 (.agg #[.string k1, .int .i64 n1, .string x1, .slice a1 l1 l1]) t1 s1) (o2 : Own w 64 (.agg #[.string k2, .int .i64 n2, .string x2, .slice a2 l2 l2]) t2 s2) (o3 : Own w 64 (.agg #[.string k3, .int .i64 n3, .string x3, .slice a3 l3 l3]) t3 s3) (z1 : t1.size ≤ 1024) (z2 : t2.size ≤ 1024) (z3 : t3.size ≤ 1024) (d1 : s1.Nodup) (d2 : s2.Nodup) (d3 : s3.Nodup) {c1 c2 : Nat} (h1 : ∀ q ∈ s1, V.heap.size ≤ q ∧ ¬ M' q ∧ q < c1) (h2 : ∀ q ∈ s2, V.heap.size ≤ q ∧ ¬ M' q ∧ c1 ≤ q ∧ q < c2) (h3 : ∀ q ∈ s3, V.heap.size ≤ q ∧ ¬ M' q ∧ c2 ≤ q ∧ q < pb) (hc : c1 ≤ c2 ∧ c2 ≤ pb) (hcc : c ≤ 7000) :
    Calls Try.prog 29 #[.pointer (some ⟨b, 0, none⟩), .slice (some ⟨pb, 0, none⟩) 3 3] w fun e w' => (∃ v, e = .returned v) ∧ ∃ M'', FA b kb base V M (c + 1) m M'' w' := by
  have hvw := h.2.1.size
  have hpn : pb ∉ [s1, s2, s3].flatten := fun hp => by
    have := mem3 (P := fun q => q < pb) (fun q hq => by have := h1 q hq; omega) (fun q hq => by have := h2 q hq; omega) (fun q hq => by have := h3 q hq; omega) pb hp
    omega
  refine (h.1.take (by omega) 3 (trees3 hb o1 o2 o3 hpn) (by simp) (size3 z1 z2 z3) (three_nodup d1 d2 d3 (fun q hq => (h1 q hq).2.2) (fun q hq => (h2 q hq).2.2) (fun q hq => (h3 q hq).2.2.1) hc.1) (mem3 (fun q hq => ⟨by have := h1 q hq; omega, (h1 q hq).2.1⟩) (fun q hq => ⟨by have := h2 q hq; omega, (h2 q hq).2.1⟩) (fun q hq => ⟨by have := h3 q hq; omega, (h3 q hq).2.1⟩)) hcc).mono ?_
  rintro e w' ⟨he, M'', hF, hk, hq⟩
  have hm3 := mem3 (P := fun q => V.heap.size ≤ q) (fun q hq => (h1 q hq).1) (fun q hq => (h2 q hq).1) (fun q hq => (h3 q hq).1)
  exact ⟨he, M'', h.step hF (hk.mono (fun q _ hq => ⟨hq.1, fun e => by have h5 := hm3 q e; have h6 : V.heap.size ≤ q := h5; have := hq.2; omega⟩)) (fun q e => (hq q e).imp id (fun e => e.elim (fun e => hm3 q e) (fun e => by omega)))⟩
/-- kinds.Keep(tree.Kinds(t)). -/
theorem FA.lkeep (h : FA b kb base V M c m M' w) (hbs : base ≤ V.heap.size) {a : Option Addr} {cp : Nat} {ns : List (List UInt8)} {w0 : World} (hrow : w0.ownsRow V.heap.size 9 1 (.slice a ns.length cp) ns.length (strs ns)) (hx : Ext w0 w) (hpb : w.heap[pb]? = some (.cells #[.slice a ns.length cp] 49)) (hnl : ns.length ≤ 1000000) (hgM : ∀ q, (Value.slice a ns.length cp).ownBlock = some q → ¬ M' q) (hpM : ¬ M' pb) (hm : m ≤ 1000) :
    Calls Try.prog 28 #[.pointer (some ⟨kb, 0, none⟩), .slice (some ⟨pb, 0, none⟩) 1 1] w fun e w' => (∃ v, e = .returned v) ∧ ∃ M'', FA b kb base V M c (m + 1) M'' w' := by
  have hvw := h.2.1.size
  have hv : NRow w base (.slice a ns.length cp) := by
    rcases hrow.2 with ⟨e, _⟩ | ⟨g, cap, cur, e, h1, h2, h3, h4, h5, h6⟩
    · exact .inl ⟨none, by rw [e], fun q hq => by cases hq⟩
    · by_cases hc0 : cap = 0
      · have hn0 : ns.length = 0 := by omega
        subst hc0
        rw [hn0] at e
        exact .inl ⟨some ⟨g, 0, none⟩, by rw [hn0]; exact e, fun q hq => by cases hq; exact ⟨cur, hx.block h2⟩⟩
      · refine .inr ⟨(g, ns.length, cap), e, ⟨by show base ≤ g; omega, by show 0 < cap; omega, h3, h4, hnl, cur, hx.block h2, by simpa using h5⟩⟩
  refine (h.1.lkeep (by omega) 1 hpb hv hgM hpM hm).mono ?_
  rintro e w' ⟨he, M'', hF, hk, hq⟩
  refine ⟨he, M'', h.step hF (hk.mono (fun q _ hq => hq.1)) (fun q e => (hq q e).imp id (fun e => e.elim (fun e => ?_) (fun e => by omega)))⟩
  exact (ownsRow_block hrow e).1
end
end Go.Proofs.Ythdmoghooaccgaa
/-
  What the first loop over Each holds in the walk of TreeFresh: the books, and the counter's box.
-/
namespace Go.Proofs.Ythdmoghooaccgaa
open Go.RowKit
/-- The books and the counter. -/
def fkI (b kb base c m KB : Nat) (M' : Nat → Prop) (i : Nat) (Z : World) : Prop :=
  ∃ M1, FS b kb base (c + i) m M1 Z ∧ (M' = fun q => q = KB ∨ M1 q) ∧ ¬ M1 KB ∧ Z.heap[KB]? = some (.cells #[.int .i64 i] 3) ∧ i < 40
/-- Where it is left. -/
def fkX (b kb base c m KB ex : Nat) (cd : Code) (M' : Nat → Prop) (Z : World) : Prop :=
  cd = .exit ex ∧ ∃ M1, FS b kb base (c + 40) m M1 Z ∧ (M' = fun q => q = KB ∨ M1 q) ∧ ¬ M1 KB ∧ ∃ v : Value, Z.heap[KB]? = some (.cells #[v] 3)
section
variable {b kb base c m KB : Nat} {M' : Nat → Prop} {i : Nat} {Z Z' : World}
theorem fkI.lt (h : fkI b kb base c m KB M' i Z) : ∀ q, M' q → q < Z.heap.size := by
  obtain ⟨M1, h1, rfl, h2, h3, _⟩ := h
  rintro q (rfl | hq)
  · exact lt_of_block h3
  · exact h1.lt q hq
theorem fkI.keep {K : Nat → Prop} (h : fkI b kb base c m KB M' i Z) (hk : Kp K Z Z') (hK : ∀ q, M' q → K q) : fkI b kb base c m KB M' i Z' := by
  obtain ⟨M1, h1, rfl, h2, h3, h4⟩ := h
  exact ⟨M1, h1.keep hk (fun q hq => hK q (.inr hq)), rfl, h2, hk.block' h3 (hK _ (.inl rfl)), h4⟩
theorem fkX.lt {ex : Nat} {cd : Code} (h : fkX b kb base c m KB ex cd M' Z) : ∀ q, M' q → q < Z.heap.size := by
  obtain ⟨_, M1, h1, rfl, h2, v, h3⟩ := h
  rintro q (rfl | hq)
  · exact lt_of_block h3
  · exact h1.lt q hq
theorem fkX.keep {ex : Nat} {cd : Code} {K : Nat → Prop} (h : fkX b kb base c m KB ex cd M' Z) (hk : Kp K Z Z') (hK : ∀ q, M' q → K q) : fkX b kb base c m KB ex cd M' Z' := by
  obtain ⟨h0, M1, h1, rfl, h2, v, h3⟩ := h
  exact ⟨h0, M1, h1.keep hk (fun q hq => hK q (.inr hq)), rfl, h2, v, hk.block' h3 (hK _ (.inl rfl))⟩
/-- b.Take(s) within a round. -/
theorem fkI.take (h : fkI b kb base c m KB M' i Z) (hbs : base ≤ Z.heap.size) (hc : c + i ≤ 7000) {pb d : Nat} {k : ByteArray} {n : Int} {x : ByteArray} {a : Option Addr} {l cp : Nat} {u : T} {bs : List Nat} (hb : Z.heap[pb]? = some (.cells #[.string k, .int .i64 n, .string x, .slice a l cp] 26)) (ho : Own Z d (.agg #[.string k, .int .i64 n, .string x, .slice a l cp]) u bs) (hu : u.size ≤ 1024 ∧ u.height ≤ 64) (hd : bs.Nodup) (hM : ∀ q ∈ bs, base ≤ q ∧ ¬ M' q) (hp : pb ∉ bs) :
    Calls Try.prog 29 #[.pointer (some ⟨b, 0, none⟩), .slice (some ⟨pb, 0, none⟩) 1 1] Z fun e w' => (∃ v, e = .returned v) ∧ ∃ M1 M2 : Nat → Prop, FS b kb base (c + i + 1) m M2 w' ∧ (M' = fun q => q = KB ∨ M1 q) ∧ w'.heap[KB]? = some (.cells #[.int .i64 i] 3) ∧ ¬ M2 KB ∧ i < 40 ∧ Kp (fun q => ¬ M1 q ∧ q ∉ bs) Z w' ∧ ∀ q, M2 q → M1 q ∨ q ∈ bs ∨ Z.heap.size ≤ q := by
  obtain ⟨M1, h1, rfl, h2, h3, h4⟩ := h
  have hKb : KB ∉ bs := fun e => (hM KB e).2 (.inl rfl)
  have hT : Trees Z 64 (some ⟨pb, 0, none⟩) [u] [bs] := ⟨rfl, .inr ⟨pb, _, rfl, hb, by simpa using hp, fun j hj => by
    match j, hj with
    | 0, _ => exact ⟨_, _, _, _, bs, rfl, rfl, rfl, rfl, rfl, ho.fit hu.2⟩⟩⟩
  refine (h1.take hbs 1 hT (by simp) (fun t ht => by rw [List.mem_singleton.1 ht]; exact hu.1) (by simpa using hd) (fun q hq => by have hq' : q ∈ bs := by simpa using hq
                                                                                                                                   exact ⟨(hM q hq').1, fun e => (hM q hq').2 (.inr e)⟩) hc).mono ?_
  rintro e w' ⟨he, M2, hF, hk, hq⟩
  simp only [List.flatten_cons, List.flatten_nil, List.append_nil] at hk hq
  exact ⟨he, M1, M2, hF, rfl, hk.block' h3 ⟨h2, hKb⟩, fun e => (hq KB e).elim h2 (fun e => e.elim hKb (fun e => by have := lt_of_block h3; omega)), h4, hk, hq⟩
end
end Go.Proofs.Ythdmoghooaccgaa
