/-
  The Book of values as one: its set of blocks; Keep, Take and Whole by contracts.
-/
import Derived.Test.YtbpbkihcfdnphaaDoorVWhole
namespace Go.Proofs.YtbpbkihcfdnphaaDoor
open Go.RowKit
/-- The book at b; M: its blocks, from base on. -/
def BS (b base c m : Nat) (M : Nat → Prop) (w : World) : Prop := ∃ lv nv kv rs sz kts kbss, VB w b base lv nv kv rs sz ∧ Keeps w base kv kts kbss ∧ kbss.flatten.Nodup ∧ (∀ q ∈ kbss.flatten, base ≤ q ∧ ¬ VBk b lv nv rs q) ∧ (∀ q, kv.ownBlock = some q → ¬ VBk b lv nv rs q) ∧ T.sizeL kts ≤ m ∧ (∀ t ∈ kts, t.size ≤ 65536) ∧ 0 ≤ sz ∧ sz ≤ (c : Int) * 1000000000000 ∧ base ≤ b ∧ (∀ q, M q ↔ (VBk b lv nv rs q ∨ kv.ownBlock = some q ∨ q ∈ kbss.flatten))
/-- But for the blocks of M what lay there lies as it lay. -/
def KpM (M : Nat → Prop) (w w' : World) : Prop := Kp (fun q => ¬ M q) w w'
theorem BS.keep {b base c m : Nat} {M : Nat → Prop} {w w' : World} {K : Nat → Prop} (h : BS b base c m M w) (hk : Kp K w w') (hK : ∀ q, M q → K q) : BS b base c m M w' := by
  obtain ⟨lv, nv, kv, rs, sz, kts, kbss, h1, h2, h3, h4, h5, h6, h7, h8, h9, h10, h11⟩ := h
  exact ⟨lv, nv, kv, rs, sz, kts, kbss, h1.keep hk (fun q hq => hK q ((h11 q).2 (.inl hq))), h2.keep hk (fun q hq => hK q ((h11 q).2 (.inr hq))), h3, h4, h5, h6, h7, h8, h9, h10, h11⟩
theorem BS.later {b base c m : Nat} {M : Nat → Prop} {w w' : World} (h : BS b base c m M w) (hx : Ext w w') : BS b base c m M w' := h.keep (hx.kp (fun _ => True)) (fun _ _ => trivial)
theorem BS.low {b base c m : Nat} {M : Nat → Prop} {w : World} (h : BS b base c m M w) {q : Nat} (hq : M q) : base ≤ q ∧ q < w.heap.size := by
  obtain ⟨lv, nv, kv, rs, sz, kts, kbss, h1, h2, h3, h4, h5, h6, h7, h8, h9, h10, h11⟩ := h
  rcases (h11 q).1 hq with h | h | h
  · refine ⟨?_, h1.lt q h⟩
    rcases h with rfl | h | h | h
    · exact h10
    · exact (ownsRow_block h1.rowL h).1
    · exact (ownsRow_block h1.rowN h).1
    · obtain ⟨r, hr, rfl⟩ := List.mem_map.1 h
      obtain ⟨i, hi, rfl⟩ := List.getElem_of_mem hr
      exact (h1.full i hi).1
  · obtain ⟨xs, hx, _⟩ := h2
    obtain ⟨hb, cur, hc⟩ := ownsRow_block hx h
    exact ⟨hb, lt_of_block hc⟩
  · exact ⟨(h4 q h).1, h2.lt (.inr h)⟩
theorem BS.more {b base c c' m m' : Nat} {M : Nat → Prop} {w : World} (h : BS b base c m M w) (hc : c ≤ c') (hm : m ≤ m') : BS b base c' m' M w := by
  obtain ⟨lv, nv, kv, rs, sz, kts, kbss, h1, h2, h3, h4, h5, h6, h7, h8, h9, h10, h11⟩ := h
  exact ⟨lv, nv, kv, rs, sz, kts, kbss, h1, h2, h3, h4, h5, Nat.le_trans h6 hm, h7, h8, by omega, h10, h11⟩
theorem BS.start {b base : Nat} {w : World} (h : w.heap[b]? = some (.cells #[.slice none 0 0, .slice none 0 0, .int .i64 0, .slice none 0 0] 51)) (hb : base ≤ b) : BS b base 0 0 (fun q => q = b) w := by
  refine ⟨.slice none 0 0, .slice none 0 0, .slice none 0 0, [], 0, [], [], ⟨h, World.ownsRow_nil _ _ _ _, World.ownsRow_nil _ _ _ _, fun i hi => absurd hi (Nat.not_lt_zero _), by simp, by simp, by simp⟩, ⟨[], World.ownsRow_nil _ _ _ _, ⟨rfl, fun j hj => absurd hj (Nat.not_lt_zero _)⟩, fun q hq => by simp [Value.ownBlock] at hq⟩, by simp, fun q hq => absurd hq (by simp), fun q hq => by simp [Value.ownBlock] at hq, Nat.le_refl _, fun t ht => absurd ht (by simp), by omega, by omega, hb, fun q => ?_⟩
  simp [VBk, Value.ownBlock]
theorem BS.box {b base c m : Nat} {M : Nat → Prop} {w : World} (h : BS b base c m M w) : M b := by
  obtain ⟨lv, nv, kv, rs, sz, kts, kbss, h1, h2, h3, h4, h5, h6, h7, h8, h9, h10, h11⟩ := h
  exact (h11 b).2 (.inl (.inl rfl))
/-- What Keep leaves. -/
def KeepF (b base c m : Nat) (M : Nat → Prop) (ns : List Nat) (w : World) (e : Ending) (w' : World) : Prop := (∃ v, e = .returned v) ∧ ∃ M', BS b base c m M' w' ∧ KpM M w w' ∧ ∀ q, M' q → M q ∨ q ∈ ns ∨ w.heap.size ≤ q
theorem BS.keepc {b base c m pb : Nat} {M : Nat → Prop} {w : World} (h : BS b base c m M w) (hbs : base ≤ w.heap.size) {ts : List T} {bss : List (List Nat)} {ys : List Value} (cc : Nat) (hI : InRow w ys ts bss) (hyl : ys.length = ts.length) (hyc : ∀ e u, ys[e]? = some u → w.cell? ⟨pb, e, none⟩ = some u) (hl : ts.length ≤ 3) (hts : ∀ t ∈ ts, t.size ≤ 65536) (hnd : bss.flatten.Nodup) (hM : ∀ q ∈ bss.flatten, base ≤ q ∧ ¬ M q) (hm : m ≤ 1000000) :
    Calls Tryd.prog 22 #[.pointer (some ⟨b, 0, none⟩), .slice (some ⟨pb, 0, none⟩) ts.length cc] w (KeepF b base c (m + T.sizeL ts) M bss.flatten w) := by
  obtain ⟨lv, nv, kv, rs, sz, kts, kbss, h1, h2, h3, h4, h5, h6, h7, h8, h9, h10, h11⟩ := h
  have hkv : ∀ q, kv.ownBlock = some q → ¬ VBk b lv nv rs q ∧ q ∉ bss.flatten := fun q hq => ⟨h5 q hq, fun e => (hM q e).2 ((h11 q).2 (.inr (.inl hq)))⟩
  refine (vkeep_any w b base lv nv kv rs sz kts kbss pb cc ts bss ys h1 h2 hbs hI hyl hyc (by omega) (by have := T.sizeL_len kts; omega) hkv).mono ?_
  rintro e w' ⟨hv, kv', k1, k2, k3, k4⟩
  refine ⟨hv, fun q => VBk b lv nv rs q ∨ kv'.ownBlock = some q ∨ q ∈ (kbss ++ bss).flatten, ⟨lv, nv, kv', rs, sz, kts ++ ts, kbss ++ bss, k1, k2, ?_, fun q hq => ?_, fun q hq e => ?_, ?_, fun t ht => ?_, h8, h9, h10, fun q => Iff.rfl⟩, ?_, fun q hq => ?_⟩
  · rw [List.flatten_append, List.nodup_append]
    exact ⟨h3, hnd, fun a ha c hc e => (hM c hc).2 ((h11 c).2 (.inr (.inr (e ▸ ha))))⟩
  · rw [List.flatten_append, List.mem_append] at hq
    rcases hq with hq | hq
    · exact h4 q hq
    · exact ⟨(hM q hq).1, fun e => (hM q hq).2 ((h11 q).2 (.inl e))⟩
  · rcases k4 with k4 | ⟨q', k4, k5⟩
    · rw [k4] at hq; exact h5 q hq e
    · rw [k4] at hq; cases hq; have := h1.lt _ e; omega
  · rw [T.sizeL_append]; omega
  · rcases List.mem_append.1 ht with ht | ht
    · exact h7 t ht
    · exact hts t ht
  · exact Kp.mono k3 (fun q _ hq => ⟨fun e => hq ((h11 q).2 (.inl (.inl e))), fun e => hq ((h11 q).2 (.inr (.inl e)))⟩)
  · rcases hq with hq | hq | hq
    · exact .inl ((h11 q).2 (.inl hq))
    · rcases k4 with k4 | ⟨q', k4, k5⟩
      · rw [k4] at hq; exact .inl ((h11 q).2 (.inr (.inl hq)))
      · rw [k4] at hq; cases hq; exact .inr (.inr k5)
    · rw [List.flatten_append, List.mem_append] at hq
      rcases hq with hq | hq
      · exact .inl ((h11 q).2 (.inr (.inr hq)))
      · exact .inr (.inl hq)
/-- What Take leaves. -/
def TakeF (b base c m : Nat) (M : Nat → Prop) (ns : List Nat) (w : World) (e : Ending) (w' : World) : Prop := (∃ v, e = .returned v) ∧ ∃ M', BS b base c m M' w' ∧ KpM (fun q => M q ∨ q ∈ ns) w w' ∧ ∀ q, M' q → M q ∨ q ∈ ns ∨ w.heap.size ≤ q
theorem BS.takec {b base c m : Nat} {M : Nat → Prop} {w : World} (h : BS b base c m M w) (hbs : base ≤ w.heap.size) {ts : List T} {bss : List (List Nat)} {a : Option Addr} (cc : Nat) (hV : VVals w a ts bss) (hl : T.sizeL ts ≤ 1000000) (hts : ∀ t ∈ ts, t.size ≤ 65536) (hnd : bss.flatten.Nodup) (hM : ∀ q ∈ bss.flatten, base ≤ q ∧ ¬ M q) (hc : c ≤ 1000) :
    Calls Tryd.prog 23 #[.pointer (some ⟨b, 0, none⟩), .slice a ts.length cc] w (TakeF b base (c + 1) m M bss.flatten w) := by
  obtain ⟨lv, nv, kv, rs, sz, kts, kbss, h1, h2, h3, h4, h5, h6, h7, h8, h9, h10, h11⟩ := h
  refine (vtake_any w b base lv nv kv rs sz a cc ts bss h1 hbs hV hnd (fun q hq => ⟨(hM q hq).1, fun e => (hM q hq).2 ((h11 q).2 (.inl e))⟩) hl hts h8 (by omega)).mono ?_
  rintro e w' ⟨hv, lv', nv', rs', sz', k1, k2, k3, k4, k5⟩
  have hno : ∀ q, q < w.heap.size → ¬ VBk b lv nv rs q → q ∉ bss.flatten → ¬ VBk b lv' nv' rs' q := fun q hq n1 n2 e => by
    rcases k5 q e with h | h | h
    · exact n1 h
    · exact n2 h
    · omega
  have kK := h2.keep k4 (fun q hq => ⟨fun e => by
    rcases hq with hq | hq
    · exact h5 q hq e
    · exact (h4 q hq).2 e, fun e => (hM q e).2 ((h11 q).2 (.inr hq))⟩)
  refine ⟨hv, fun q => VBk b lv' nv' rs' q ∨ kv.ownBlock = some q ∨ q ∈ kbss.flatten, ⟨lv', nv', kv, rs', sz', kts, kbss, k1, kK, h3, fun q hq => ⟨(h4 q hq).1, hno q (h2.lt (.inr hq)) (h4 q hq).2 (fun e => (hM q e).2 ((h11 q).2 (.inr (.inr hq))))⟩, fun q hq => hno q (h2.lt (.inl hq)) (h5 q hq) (fun e => (hM q e).2 ((h11 q).2 (.inr (.inl hq)))), h6, h7, by omega, by push_cast; omega, h10, fun q => Iff.rfl⟩, ?_, fun q hq => ?_⟩
  · exact Kp.mono k4 (fun q _ hq => ⟨fun e => hq (.inl ((h11 q).2 (.inl e))), fun e => hq (.inr e)⟩)
  · rcases hq with hq | hq
    · exact (k5 q hq).imp (fun e => (h11 q).2 (.inl e)) id
    · exact .inl ((h11 q).2 (.inr hq))
theorem BS.wholec {b base c m : Nat} {M : Nat → Prop} {w : World} (h : BS b base c m M w) (hbs : base ≤ w.heap.size) (hm : m ≤ 1000000) (hc : c ≤ 1000) :
    Calls Tryd.prog 24 #[.pointer (some ⟨b, 0, none⟩)] w fun e w' => e = .returned (.bool true) ∧ KpM M w w' := by
  obtain ⟨lv, nv, kv, rs, sz, kts, kbss, h1, h2, h3, h4, h5, h6, h7, h8, h9, h10, h11⟩ := h
  refine (vwhole_any w b base lv nv kv rs sz kts kbss h1 h2 hbs h3 h4 (by omega) h7 h8 (by omega)).mono ?_
  rintro e w' ⟨rfl, hk⟩
  exact ⟨rfl, Kp.mono hk (fun q _ hq => ⟨fun e => hq ((h11 q).2 (.inl e)), fun e => hq ((h11 q).2 (.inr (.inr e)))⟩)⟩
end Go.Proofs.YtbpbkihcfdnphaaDoor
