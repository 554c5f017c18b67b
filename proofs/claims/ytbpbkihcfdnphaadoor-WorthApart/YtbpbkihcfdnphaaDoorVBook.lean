/-
  The statements' Book of values: lists that were taken, each written full with its own mark, in blocks that are all unlike.
-/
import Derived.Test.YtbpbkihcfdnphaaDoorVLists
namespace Go.Proofs.YtbpbkihcfdnphaaDoor
open Go.RowKit
/-- A list that is written full with a mark. -/
def FullV (w : World) (base : Nat) (r : Nat × Nat × Nat) (m : Int) : Prop :=
  base ≤ r.1 ∧ 0 < r.2.2 ∧ r.2.1 ≤ r.2.2 ∧ r.2.1 ≤ 65536 ∧ ∃ cs, w.heap[r.1]? = some (.cells cs 30) ∧ cs.size = r.2.2 ∧ ∀ k, k < r.2.1 → cs[k]? = some (.iface 58 (.int .i64 m))
/-- The book, but for the values that are kept. -/
structure VB (w : World) (b base : Nat) (lv nv kv : Value) (rs : List (Nat × Nat × Nat)) (sz : Int) : Prop where
  box : w.heap[b]? = some (.cells #[lv, nv, .int .i64 sz, kv] 51)
  rowL : w.ownsRow base 61 1 lv rs.length (rs.map sV)
  rowN : w.ownsRow base 3 1 nv rs.length (rs.map (fun r => Value.int .i64 (r.2.1 : Int)))
  full : ∀ i, (h : i < rs.length) → FullV w base rs[i] (-1 - (i : Int))
  nodup : (rs.map (·.1)).Nodup
  few : 10 * rs.length ≤ 2097152
  fit : (10 * rs.length : Int) ≤ sz
/-- The book's blocks. -/
def VBk (b : Nat) (lv nv : Value) (rs : List (Nat × Nat × Nat)) (q : Nat) : Prop := q = b ∨ lv.ownBlock = some q ∨ nv.ownBlock = some q ∨ q ∈ rs.map (·.1)
theorem FullV.keep {K : Nat → Prop} {w w' : World} {base : Nat} {r : Nat × Nat × Nat} {m : Int} (h : FullV w base r m) (hk : Kp K w w') (hr : K r.1) : FullV w' base r m := by
  obtain ⟨h1, h2, h3, h4, cs, h5, h6⟩ := h
  exact ⟨h1, h2, h3, h4, cs, hk.block' h5 hr, h6⟩
theorem VB.keep {K : Nat → Prop} {w w' : World} {b base : Nat} {lv nv kv : Value} {rs : List (Nat × Nat × Nat)} {sz : Int} (h : VB w b base lv nv kv rs sz) (hk : Kp K w w') (hK : ∀ q, VBk b lv nv rs q → K q) : VB w' b base lv nv kv rs sz where
  box := hk.block' h.box (hK b (.inl rfl))
  rowL := ownsRow_keep h.rowL hk (fun q hq => hK q (.inr (.inl hq)))
  rowN := ownsRow_keep h.rowN hk (fun q hq => hK q (.inr (.inr (.inl hq))))
  full := fun i hi => (h.full i hi).keep hk (hK _ (.inr (.inr (.inr (List.mem_map.2 ⟨_, List.getElem_mem hi, rfl⟩)))))
  nodup := h.nodup
  few := h.few
  fit := h.fit
theorem VB.lt {w : World} {b base : Nat} {lv nv kv : Value} {rs : List (Nat × Nat × Nat)} {sz : Int} (h : VB w b base lv nv kv rs sz) : ∀ q, VBk b lv nv rs q → q < w.heap.size := by
  intro q hq
  rcases hq with rfl | hq | hq | hq
  · exact lt_of_block h.box
  · obtain ⟨_, cur, hc⟩ := ownsRow_block h.rowL hq; exact lt_of_block hc
  · obtain ⟨_, cur, hc⟩ := ownsRow_block h.rowN hq; exact lt_of_block hc
  · obtain ⟨r, hr, rfl⟩ := List.mem_map.1 hq
    obtain ⟨i, hi, rfl⟩ := List.getElem_of_mem hr
    obtain ⟨_, _, _, _, cur, hc, _⟩ := h.full i hi
    exact lt_of_block hc
theorem VB.ty {w : World} {b base : Nat} {lv nv kv : Value} {rs : List (Nat × Nat × Nat)} {sz : Int} (h : VB w b base lv nv kv rs sz) : ∀ q ∈ rs.map (·.1), ∃ cur, w.heap[q]? = some (.cells cur 30) := fun q hq => by
  obtain ⟨r, hr, rfl⟩ := List.mem_map.1 hq
  obtain ⟨i, hi, rfl⟩ := List.getElem_of_mem hr
  obtain ⟨_, _, _, _, cur, hc, _⟩ := h.full i hi
  exact ⟨cur, hc⟩
theorem ty_same {w : World} {q : Nat} {c c' : Array Value} {t t' : TypeId} (h1 : w.heap[q]? = some (.cells c t)) (h2 : w.heap[q]? = some (.cells c' t')) : t = t' := by
  rw [h1] at h2; injection h2 with h2; injection h2
theorem VB.ne {w : World} {b base : Nat} {lv nv kv : Value} {rs : List (Nat × Nat × Nat)} {sz : Int} (h : VB w b base lv nv kv rs sz) : (∀ q, lv.ownBlock = some q → q ≠ b) ∧ (∀ q, nv.ownBlock = some q → q ≠ b) ∧ (∀ q ∈ rs.map (·.1), q ≠ b) ∧ (∀ q, lv.ownBlock = some q → nv.ownBlock ≠ some q) ∧ (∀ q ∈ rs.map (·.1), lv.ownBlock ≠ some q) ∧ (∀ q ∈ rs.map (·.1), nv.ownBlock ≠ some q) := by
  have hb := h.box
  refine ⟨fun q hq e => ?_, fun q hq e => ?_, fun q hq e => ?_, fun q hq e => ?_, fun q hq e => ?_, fun q hq e => ?_⟩
  · subst e; obtain ⟨_, cur, hc⟩ := ownsRow_block h.rowL hq; have := ty_same hb hc; revert this; decide
  · subst e; obtain ⟨_, cur, hc⟩ := ownsRow_block h.rowN hq; have := ty_same hb hc; revert this; decide
  · subst e; obtain ⟨cur, hc⟩ := h.ty q hq; have := ty_same hb hc; revert this; decide
  · obtain ⟨_, cur, hc⟩ := ownsRow_block h.rowL hq
    obtain ⟨_, cur', hc'⟩ := ownsRow_block h.rowN e
    have := ty_same hc hc'; revert this; decide
  · obtain ⟨cur, hc⟩ := h.ty q hq
    obtain ⟨_, cur', hc'⟩ := ownsRow_block h.rowL e
    have := ty_same hc hc'; revert this; decide
  · obtain ⟨cur, hc⟩ := h.ty q hq
    obtain ⟨_, cur', hc'⟩ := ownsRow_block h.rowN e
    have := ty_same hc hc'; revert this; decide
/-- Values of their own memory, in a list: theirs are the blocks bss. -/
def VVals (w : World) (a : Option Addr) (ts : List T) (bss : List (List Nat)) : Prop :=
  bss.length = ts.length ∧ (ts = [] ∨ ∃ pb cs, a = some ⟨pb, 0, none⟩ ∧ w.heap[pb]? = some (.cells cs 30) ∧ pb ∉ bss.flatten ∧ ∀ j, (h : j < ts.length) → ∃ u l d, cs[j]? = some u ∧ bss[j]? = some l ∧ VOwn0 w d u ts[j] l)
/-- What Take leaves: what is there besides is as it was. -/
def TakeV (w : World) (b base : Nat) (lv nv kv : Value) (rs : List (Nat × Nat × Nat)) (sz : Int) (ns : List Nat) (w' : World) : Prop :=
  ∃ lv' nv' rs' sz', VB w' b base lv' nv' kv rs' sz' ∧ sz ≤ sz' ∧ sz' ≤ sz + 1000000000000 ∧ Kp (fun q => ¬ VBk b lv nv rs q ∧ q ∉ ns) w w' ∧ ∀ q, VBk b lv' nv' rs' q → VBk b lv nv rs q ∨ q ∈ ns ∨ w.heap.size ≤ q
end Go.Proofs.YtbpbkihcfdnphaaDoor
