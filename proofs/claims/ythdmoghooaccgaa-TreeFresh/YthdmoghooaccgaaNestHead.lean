/-
  What the loops of espalierlaw4.TreeNest hold: the book and a number; the iterator, whatever became of the rest of memory.
-/
import Derived.Test.YthdmoghooaccgaaRegIn
import Derived.Test.YthdmoghooaccgaaWholeF
import Derived.Test.YthdmoghooaccgaaEachNone
import Derived.Test.YthdmoghooaccgaaPathsMath
namespace Go.Proofs.Ythdmoghooaccgaa
open Go.RowKit Go.Shelf
/-- The book and a number in a box of its own. -/
def nsB (ib b base m : Nat) (iv : Int) (M' : Nat → Prop) (Z : World) : Prop :=
  ∃ lv nv rs sz, (M' = fun q => q = ib ∨ Bk b lv nv rs q) ∧ Z.heap[ib]? = some (.cells #[.int .i64 iv] 3) ∧ PBook Z b base lv nv rs sz ∧ rs.length ≤ m ∧ 0 ≤ sz ∧ sz ≤ (m : Int) * 100000 ∧ (∀ r ∈ rs, r.2.1 ≤ 1000) ∧ ¬ Bk b lv nv rs ib
theorem nsB_lt {ib b base m : Nat} {iv : Int} {M' : Nat → Prop} {Z : World} (h : nsB ib b base m iv M' Z) : ∀ q, M' q → q < Z.heap.size := by
  obtain ⟨lv, nv, rs, sz, rfl, h1, h2, _⟩ := h
  rintro q (rfl | hq)
  · exact lt_of_block h1
  · exact h2.lt q hq
theorem nsB_keep {ib b base m : Nat} {iv : Int} {M' K : Nat → Prop} {Z Z' : World} (h : nsB ib b base m iv M' Z) (hk : Kp K Z Z') (hm : ∀ q, M' q → K q) : nsB ib b base m iv M' Z' := by
  obtain ⟨lv, nv, rs, sz, rfl, h1, h2, h3⟩ := h
  exact ⟨lv, nv, rs, sz, rfl, hk.block' h1 (hm _ (.inl rfl)), h2.keep hk (fun q hq => hm q (.inr hq)), h3⟩
theorem nsB_le {ib b base m m' : Nat} {iv : Int} {M' : Nat → Prop} {Z : World} (h : nsB ib b base m iv M' Z) (hm : m ≤ m') : nsB ib b base m' iv M' Z := by
  obtain ⟨lv, nv, rs, sz, rfl, h1, h2, h3, h4, h5, h6⟩ := h
  exact ⟨lv, nv, rs, sz, rfl, h1, h2, by omega, h4, by omega, h6⟩
theorem nsB_box {ib b base m : Nat} {iv : Int} {M' : Nat → Prop} {Z : World} (h : nsB ib b base m iv M' Z) : Z.heap[ib]? = some (.cells #[.int .i64 iv] 3) ∧ M' ib ∧ M' b ∧ ib ≠ b := by
  obtain ⟨lv, nv, rs, sz, rfl, h1, h2, h3, h4, h5, h6, h7⟩ := h
  exact ⟨h1, .inl rfl, .inr (.inl rfl), fun e => h7 (.inl e)⟩
theorem nsB_from {ib b base m : Nat} {iv : Int} {M' : Nat → Prop} {Z : World} (h : nsB ib b base m iv M' Z) : ∀ q, M' q → q = ib ∨ q = b ∨ base ≤ q := by
  obtain ⟨lv, nv, rs, sz, rfl, h1, h2, _⟩ := h
  rintro q (hq | hq | hq | hq | hq)
  · exact .inl hq
  · exact .inr (.inl hq)
  · exact .inr (.inr (ownsRow_block h2.rowL hq).1)
  · exact .inr (.inr (ownsRow_block h2.rowN hq).1)
  · obtain ⟨r, hr, rfl⟩ := List.mem_map.1 hq
    obtain ⟨i, hi, rfl⟩ := List.getElem_of_mem hr
    exact .inr (.inr (h2.full i hi).1)
theorem nsB_start {ib b base : Nat} {Z : World} (hi : Z.heap[ib]? = some (.cells #[.int .i64 0] 3)) (hb : Z.heap[b]? = some (.cells #[.slice none 0 0, .slice none 0 0, .int .i64 0, .slice none 0 0] 55)) (hne : ib ≠ b) : ∃ M, nsB ib b base 0 0 M Z ∧ ∀ q, M q → q = ib ∨ q = b := by
  refine ⟨_, ⟨.slice none 0 0, .slice none 0 0, [], 0, rfl, hi, ⟨hb, ⟨rfl, .inl ⟨rfl, rfl⟩⟩, ⟨rfl, .inl ⟨rfl, rfl⟩⟩, fun i hi => absurd hi (Nat.not_lt_zero _), List.nodup_nil, fun r hr => absurd hr (by simp)⟩, Nat.le_refl _, Int.le_refl _, by simp, fun r hr => absurd hr (by simp), ?_⟩, ?_⟩
  · rintro (h | h | h | h)
    · exact hne h
    · cases h
    · cases h
    · simp at h
  · rintro q (h | h | h | h | h)
    · exact .inl h
    · exact .inr h
    · cases h
    · cases h
    · simp at h
theorem nsB_swap {kb ib b base m : Nat} {iv kv : Int} {M' : Nat → Prop} {Z : World} (h : nsB kb b base m kv M' Z) (hi : Z.heap[ib]? = some (.cells #[.int .i64 iv] 3)) (hn : ¬ M' ib) : ∃ M, nsB ib b base m iv M Z ∧ (∀ q, M q → q = ib ∨ M' q) ∧ ¬ M kb := by
  obtain ⟨lv, nv, rs, sz, rfl, h1, h2, h3, h4, h5, h6, h7⟩ := h
  exact ⟨_, ⟨lv, nv, rs, sz, rfl, hi, h2, h3, h4, h5, h6, fun h => hn (.inr h)⟩, fun q hq => hq.imp id .inr, fun h => h.elim (fun e => hn (.inl e.symm)) h7⟩
theorem nsB_set {ib b base m : Nat} {iv iv' : Int} {M' : Nat → Prop} {Z : World} (h : nsB ib b base m iv M' Z) : nsB ib b base m iv' M' (Z.setCell ⟨ib, 0, none⟩ (.int .i64 iv')) := by
  obtain ⟨lv, nv, rs, sz, rfl, h1, h2, h3, h4, h5, h6, h7⟩ := h
  exact ⟨lv, nv, rs, sz, rfl, set_one h1, h2.keep (Kp.set (K := (· ≠ ib)) Z ib 0 _ (fun h => h rfl)) (fun q hq e => h7 (by have e' : q = ib := e; rw [← e']; exact hq)), h3, h4, h5, h6, h7⟩
theorem nsB_take {ib b base m n0 pb : Nat} {iv : Int} {M : Nat → Prop} {Z : World} {pv : Value} {p : List Int} (h : nsB ib b base m iv M Z) (hbs : base ≤ Z.heap.size) (hpb : Z.heap[pb]? = some (.cells #[pv] 27)) (hp : PathW Z n0 pv p) (hn0 : base ≤ n0) (hpl : p.length ≤ 1000) (hgn : ∀ q, pv.ownBlock = some q → ¬ M q) (hpn : ¬ M pb) (hm : m ≤ 4900) :
    Calls Try.prog 25 #[.pointer (some ⟨b, 0, none⟩), .slice (some ⟨pb, 0, none⟩) 1 1] Z fun e w' => (∃ v, e = .returned v) ∧ ∃ M', nsB ib b base (m + 1) iv M' w' ∧ Kp (fun q => ¬ (M q ∨ pv.ownBlock = some q)) Z w' ∧ ∀ q, M' q → M q ∨ pv.ownBlock = some q ∨ Z.heap.size ≤ q := by
  obtain ⟨lv, nv, rs, sz, rfl, h1, h2, h3, h4, h5, h6, h7⟩ := h
  have hp' : PathW Z base pv p := ⟨hp.1, hp.2.imp id (fun ⟨g, cap, cur, e, h, r⟩ => ⟨g, cap, cur, e, Nat.le_trans hn0 h, r⟩)⟩
  refine (take_path Z b base pb lv nv rs sz pv p h2 hbs hpb hp' hpl (fun q hq e => hgn q hq (.inr e)) (fun e => hpn (.inr e)) (by omega) h6 h4 (by omega)).mono ?_
  rintro e w' ⟨he, lv', nv', rs', sz', hb, h8, h9, h10, h11, hk, hq⟩
  have hkn : ¬ (Bk b lv nv rs ib ∨ pv.ownBlock = some ib) := fun h => h.elim h7 (fun e => hgn ib e (.inl rfl))
  refine ⟨he, _, ⟨lv', nv', rs', sz', rfl, hk.block' h1 hkn, hb, by omega, h9, by omega, h11, fun e => ?_⟩, hk.mono (fun q _ hq' e => hq' (e.imp .inr id)), ?_⟩
  · rcases hq ib e with h | h | h
    · exact hkn (.inl h)
    · exact hkn (.inr h)
    · have := lt_of_block h1; omega
  · rintro q (rfl | h)
    · exact .inl (.inl rfl)
    · exact (hq q h).imp .inr id
theorem nsB_whole {ib b base m : Nat} {iv : Int} {M : Nat → Prop} {Z : World} (h : nsB ib b base m iv M Z) (hm : m ≤ 5000) : Calls Try.prog 26 #[.pointer (some ⟨b, 0, none⟩)] Z fun e w' => e = .returned (.bool true) ∧ Kp (fun q => ¬ (M q ∧ q ≠ ib)) Z w' := by
  obtain ⟨lv, nv, rs, sz, rfl, h1, h2, h3, h4, h5, h6, h7⟩ := h
  refine (whole_any Z b base lv nv rs sz h2 (by omega) h6).mono ?_
  rintro e w' ⟨he, hk⟩
  exact ⟨he, hk.mono (fun q _ hq e => hq ⟨.inr e, fun e2 => h7 (e2 ▸ e)⟩)⟩
/-- The iterator of Each, whatever became of the memory that is not its own. -/
theorem nest_iter {t : T} {d eb ob : Nat} {w2 w3 : World} {k : ByteArray} {n : Int} {x : ByteArray} {a : Option Addr} {l c : Nat} (hbo : w3.heap[ob]? = some (.cells #[.string k, .int .i64 n, .string x, .slice a l c] 26))
    (hcase : (t.small ∧ w3.heap[eb]? = some (.cells #[.int .i64 0] 42) ∧ ∃ bs, Own w3 d (.agg #[.string k, .int .i64 n, .string x, .slice a l c]) t bs ∧ ∀ b ∈ bs, w2.heap.size ≤ b) ∨ (¬ t.small ∧ w3.heap[eb]? = some (.cells #[.int .i64 2] 42))) :
    ∃ bs : List Nat, (∀ b ∈ bs, w2.heap.size ≤ b ∧ b < w3.heap.size) ∧ ∀ (W : World) (M0 : Nat → Prop), Kp (fun q => q = eb ∨ q = ob ∨ q ∈ bs) w3 W → (∀ q, M0 q → q ∉ bs) →
      IterOk 45 #[.pointer (some ⟨eb, 0, none⟩), .pointer (some ⟨ob, 0, none⟩)] (if t.small then T.all [] t else []).length M0 W (eachX t W.heap.size) := by
  rcases hcase with ⟨hs, he, bs, hown, hbs⟩ | ⟨hs, he⟩
  · refine ⟨bs, fun b hb => ⟨hbs b hb, hown.lt b hb⟩, fun W M0 hk hM => ?_⟩
    rw [if_pos hs, T.all_length]
    exact each_iter (d := d) (hk.block' he (.inl rfl)) (hk.block' hbo (.inr (.inl rfl))) ((hown.rd.keep (hk.mono (fun q _ hq => .inr (.inr hq)))).mono (fun q _ hq e => hM q e hq)) hs.2.1 (fun i y h => by have := path_len hs h; omega)
  · refine ⟨[], by simp, fun W M0 hk _ => ?_⟩
    rw [if_neg hs]
    exact each_none (hk.block' he (.inl rfl))
end Go.Proofs.Ythdmoghooaccgaa
