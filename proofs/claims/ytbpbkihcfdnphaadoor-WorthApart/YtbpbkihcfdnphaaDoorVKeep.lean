/-
  Keep of the statements' Book, by a contract: values that are kept.
-/
import Derived.Test.YtbpbkihcfdnphaaDoorVTake
namespace Go.Proofs.YtbpbkihcfdnphaaDoor
open Go.RowKit
/-- The values of a list, whose cells are xs. -/
def InRow (w : World) (xs : List Value) (ts : List T) (bss : List (List Nat)) : Prop :=
  bss.length = ts.length ∧ ∀ j, (h : j < ts.length) → ∃ u l d, xs[j]? = some u ∧ bss[j]? = some l ∧ VOwn0 w d u ts[j] l
theorem InRow.ty {w : World} {xs : List Value} {ts : List T} {bss : List (List Nat)} (h : InRow w xs ts bss) : ∀ q ∈ bss.flatten, ∃ cs, w.heap[q]? = some (.cells cs 30) := by
  intro q hq
  obtain ⟨l, hl, hql⟩ := List.mem_flatten.1 hq
  obtain ⟨j, hj, rfl⟩ := List.getElem_of_mem hl
  have hj' : j < ts.length := by have := h.1; omega
  obtain ⟨u, b', d, _, hb', ho⟩ := h.2 j hj'
  rw [List.getElem?_eq_getElem hj] at hb'
  cases hb'
  exact ho.ty q hql
theorem InRow.keep {K : Nat → Prop} {w w' : World} {xs : List Value} {ts : List T} {bss : List (List Nat)} (h : InRow w xs ts bss) (hk : Kp K w w') (hK : ∀ q ∈ bss.flatten, K q) : InRow w' xs ts bss := by
  refine ⟨h.1, fun j hj => ?_⟩
  obtain ⟨u, l, d, e0, hl, ho⟩ := h.2 j hj
  exact ⟨u, l, d, e0, hl, ho.keep (hk.mono (fun q _ hq => hK q (List.mem_flatten.2 ⟨l, List.mem_of_getElem? hl, hq⟩)))⟩
theorem InRow.append {w : World} {xs ys : List Value} {ts us : List T} {bss css : List (List Nat)} (h : InRow w xs ts bss) (k : InRow w ys us css) (hx : xs.length = ts.length) : InRow w (xs ++ ys) (ts ++ us) (bss ++ css) := by
  refine ⟨by rw [List.length_append, List.length_append, h.1, k.1], fun j hj => ?_⟩
  by_cases hlt : j < ts.length
  · obtain ⟨u, l, d, e0, hl, ho⟩ := h.2 j hlt
    refine ⟨u, l, d, ?_, ?_, ?_⟩
    · rw [List.getElem?_append_left (by omega)]; exact e0
    · rw [List.getElem?_append_left (by have := h.1; omega)]; exact hl
    · rw [List.getElem_append_left hlt]; exact ho
  · have hj' : j - ts.length < us.length := by rw [List.length_append] at hj; omega
    obtain ⟨u, l, d, e0, hl, ho⟩ := k.2 (j - ts.length) hj'
    refine ⟨u, l, d, ?_, ?_, ?_⟩
    · rw [List.getElem?_append_right (by omega), hx]; exact e0
    · rw [List.getElem?_append_right (by have := h.1; omega), h.1]; exact hl
    · rw [List.getElem_append_right (by omega)]; exact ho
/-- The values that are kept. -/
def Keeps (w : World) (base : Nat) (kv : Value) (ts : List T) (bss : List (List Nat)) : Prop :=
  ∃ xs, w.ownsRow base 30 1 kv ts.length xs ∧ InRow w xs ts bss ∧ ∀ q, kv.ownBlock = some q → q ∉ bss.flatten
theorem Keeps.keep {K : Nat → Prop} {w w' : World} {base : Nat} {kv : Value} {ts : List T} {bss : List (List Nat)} (h : Keeps w base kv ts bss) (hk : Kp K w w') (hK : ∀ q, kv.ownBlock = some q ∨ q ∈ bss.flatten → K q) : Keeps w' base kv ts bss := by
  obtain ⟨xs, h1, h2, h3⟩ := h
  exact ⟨xs, ownsRow_keep h1 hk (fun q hq => hK q (.inl hq)), h2.keep hk (fun q hq => hK q (.inr hq)), h3⟩
theorem Keeps.lt {w : World} {base : Nat} {kv : Value} {ts : List T} {bss : List (List Nat)} (h : Keeps w base kv ts bss) {q : Nat} (hq : kv.ownBlock = some q ∨ q ∈ bss.flatten) : q < w.heap.size := by
  obtain ⟨xs, h1, h2, h3⟩ := h
  rcases hq with hq | hq
  · obtain ⟨_, cur, hc⟩ := ownsRow_block h1 hq; exact lt_of_block hc
  · obtain ⟨cs, hc⟩ := h2.ty q hq; exact lt_of_block hc
theorem Keeps.vals {w : World} {base : Nat} {kv : Value} {ts : List T} {bss : List (List Nat)} (h : Keeps w base kv ts bss) : ∃ a c, kv = .slice a ts.length c ∧ VVals w a ts bss := by
  obtain ⟨xs, h1, h2, h3⟩ := h
  rcases h1.2 with ⟨rfl, h0⟩ | ⟨g, cap, cur, rfl, hb, hc, h4, h5, h6, h7⟩
  · exact ⟨none, 0, by rw [h0], h2.1, .inl (List.eq_nil_of_length_eq_zero h0)⟩
  · refine ⟨some ⟨g, 0, none⟩, cap, rfl, h2.1, .inr ⟨g, cur, rfl, hc, h3 g rfl, fun j hj => ?_⟩⟩
    obtain ⟨u, l, d, e0, hl, ho⟩ := h2.2 j hj
    refine ⟨u, l, d, ?_, hl, ho⟩
    rw [← h7] at e0
    obtain ⟨h8, h9⟩ := List.getElem?_eq_some_iff.1 e0
    rw [List.getElem_take] at h9
    rw [← h9]
    rw [List.length_take] at h8
    have h10 : j < cur.size := by have := Array.length_toList (xs := cur); omega
    rw [Array.getElem?_eq_getElem h10]
    simp
theorem VOwn0.cell1 {w : World} {d : Nat} {u : Value} {t : T} {bs : List Nat} (h : VOwn0 w d u t bs) : u.oneCell' = true := by
  rcases h with h | ⟨rfl, _⟩
  · obtain ⟨τ, p, rfl⟩ := h.rd.iface; rfl
  · rfl
set_option maxRecDepth 100000 in
set_option maxHeartbeats 4000000 in
theorem vkeep_any (w : World) (b base : Nat) (lv nv kv : Value) (rs : List (Nat × Nat × Nat)) (sz : Int) (kts : List T) (kbss : List (List Nat)) (pb c : Nat) (ts : List T) (bss : List (List Nat)) (ys : List Value) (h : VB w b base lv nv kv rs sz) (hK : Keeps w base kv kts kbss) (hbs : base ≤ w.heap.size)
    (hI : InRow w ys ts bss) (hyl : ys.length = ts.length) (hyc : ∀ e u, ys[e]? = some u → w.cell? ⟨pb, e, none⟩ = some u) (hm : ts.length ≤ 1000) (hkl : kts.length ≤ 1000000) (hkb : ∀ q, kv.ownBlock = some q → ¬ VBk b lv nv rs q ∧ q ∉ bss.flatten) :
    Calls Tryd.prog 22 #[.pointer (some ⟨b, 0, none⟩), .slice (some ⟨pb, 0, none⟩) ts.length c] w fun e w' => (∃ v, e = .returned v) ∧ ∃ kv', VB w' b base lv nv kv' rs sz ∧ Keeps w' base kv' (kts ++ ts) (kbss ++ bss) ∧ Kp (fun q => q ≠ b ∧ kv.ownBlock ≠ some q) w w' ∧ (kv'.ownBlock = kv.ownBlock ∨ ∃ q, kv'.ownBlock = some q ∧ w.heap.size ≤ q) := by
  obtain ⟨xs, hrow, hI0, hkn⟩ := hK
  obtain ⟨ka, kc, rfl⟩ := ownsRow_slice hrow
  have H := hid h
  have HROW := hid hrow
  have HI0 := hid hI0
  have HI := hid hI
  have HKN := hid hkn
  have HKB := hid hkb
  obtain ⟨b0, b1, b2, b3⟩ := four_of h.box
  have hblt := lt_of_block h.box
  obtain ⟨ti, hti, hy0, hy1, hy2⟩ := info_parts valueInfo
  have hone : ∀ u ∈ ys, u.oneCell' = true := fun u hu => by
    obtain ⟨e, he, rfl⟩ := List.getElem_of_mem hu
    obtain ⟨u, l, d, e0, _, ho⟩ := hI.2 e (by omega)
    rw [List.getElem?_eq_getElem he] at e0
    rw [Option.some.inj e0]
    exact ho.cell1
  have hyc' : ∀ e u, ys[e]? = some u → w.cell? ((⟨pb, 0, none⟩ : Addr).add e) = some u := fun e u he => by
    have := hyc e u he
    by_cases e0 : e = 0
    · subst e0; simpa [Addr.add] using this
    · simpa [Addr.add, e0] using this
  have HYC := hid (And.intro hyc' hone)
  have HYL := hid (show ys.length = ts.length * 1 by omega)
  have HKV := hid (show ∀ q, (Value.slice ka kts.length kc).ownBlock = some q → q ≠ b from fun q hq e => (hkb q hq).1 (.inl e))
  clear h hI0 hI hkn hkb hone hyc hyc' hrow hyl
  go_enter Tryd.func22, Tryd.ntmps22
  go_wp2_with (at_builtin; refine wpList_append_own_at _ rfl _ _ 49 rfl base 30 ti .nilIface 1 16 Tryd.underlying49 hti hy0 hy1 hy2 rfl (by decide) _ _ _ rfl HROW.out ⟨pb, 0, none⟩ ts.length c ys rfl HYL.out HYC.out.1 HYC.out.2 (by unfold maxLen; omega) (by omega) hbs ?_; intro v9 w9 hown9 hgrow9 _ hat9; obtain ⟨a9, c9, rfl⟩ := ownsRow_slice hown9; have K9 : Kp (fun q => some q ≠ (Value.slice ka kts.length kc).ownBlock) w w9 := ⟨hgrow9.os, hgrow9.tape, hgrow9.output, hgrow9.size, fun q hq hne => hgrow9.block q hq hne⟩; have hb9 := K9.block' H.out.box (fun e => HKV.out b e.symm rfl); have y0 := cell_of (i := 3) hb9 rfl; have y1 := frozen_of (i := 3) hb9; simp only [List.getElem_toArray, List.getElem_cons_zero, List.getElem_cons_succ] at y0)
  go_end0
  have hat' : (Value.slice a9 (kts.length + ts.length) c9).ownBlock = (Value.slice ka kts.length kc).ownBlock ∨ (Value.slice a9 (kts.length + ts.length) c9).ownBlock = some w.heap.size := hat9
  have k0 := Kp.set (K := (· ≠ b)) w9 b 3 (.slice a9 (kts.length + ts.length) c9) (fun h => h rfl)
  have kk : Kp (fun q => q ≠ b ∧ (Value.slice ka kts.length kc).ownBlock ≠ some q) w (w9.setCell ⟨b, 3, none⟩ (.slice a9 (kts.length + ts.length) c9)) := (K9.mono (fun q _ hq e => hq.2 e.symm)).trans (k0.mono (fun q _ hq => hq.1))
  have hnb : ∀ q, (∃ cs, w.heap[q]? = some (.cells cs 30)) → q ≠ b := fun q ⟨cs, hc⟩ e => by
    subst e
    have := ty_same H.out.box hc
    revert this
    decide
  have hat : ∀ q, (Value.slice a9 (kts.length + ts.length) c9).ownBlock = some q → (Value.slice ka kts.length kc).ownBlock = some q ∨ w.heap.size ≤ q := fun q hq => by
    rcases hat' with h | h
    · rw [h] at hq; exact .inl hq
    · rw [h] at hq; cases hq; exact .inr (Nat.le_refl _)
  have hbA : ∀ q ∈ kbss.flatten, q ≠ b ∧ (Value.slice ka kts.length kc).ownBlock ≠ some q := fun q hq => ⟨hnb q (HI0.out.ty q hq), fun e => HKN.out q e hq⟩
  have hbB : ∀ q ∈ bss.flatten, q ≠ b ∧ (Value.slice ka kts.length kc).ownBlock ≠ some q := fun q hq => ⟨hnb q (HI.out.ty q hq), fun e => (HKB.out q e).2 hq⟩
  have hne := H.out.ne
  refine ⟨⟨_, rfl⟩, .slice a9 (kts.length + ts.length) c9, ⟨set_at hb9 3 _, ?_, ?_, fun i hi => ?_, H.out.nodup, H.out.few, H.out.fit⟩, ⟨xs ++ ys, ?_, ?_, fun q hq => ?_⟩, kk, ?_⟩
  · exact ownsRow_keep H.out.rowL kk (fun q hq => ⟨hne.1 q hq, fun e => (HKB.out q e).1 (.inr (.inl hq))⟩)
  · exact ownsRow_keep H.out.rowN kk (fun q hq => ⟨hne.2.1 q hq, fun e => (HKB.out q e).1 (.inr (.inr (.inl hq)))⟩)
  · have hm : rs[i].1 ∈ rs.map (·.1) := List.mem_map.2 ⟨_, List.getElem_mem hi, rfl⟩
    exact (H.out.full i hi).keep kk ⟨hne.2.2.1 _ hm, fun e => (HKB.out _ e).1 (.inr (.inr (.inr hm)))⟩
  · rw [List.length_append]
    refine ownsRow_keep hown9 k0 (fun q hq e => ?_)
    rcases hat q hq with h | h
    · exact HKV.out q h e
    · have e' : q = b := e
      omega
  · exact (HI0.out.keep kk hbA).append (HI.out.keep kk hbB) (by have := HROW.out.1; omega)
  · rw [List.flatten_append, List.mem_append]
    rintro (hm | hm)
    · rcases hat q hq with h | h
      · exact HKN.out q h hm
      · obtain ⟨cs, hc⟩ := HI0.out.ty q hm
        have := lt_of_block hc
        omega
    · rcases hat q hq with h | h
      · exact (HKB.out q h).2 hm
      · obtain ⟨cs, hc⟩ := HI.out.ty q hm
        have := lt_of_block hc
        omega
  · rcases hat' with h | h
    · exact .inl h
    · exact .inr ⟨_, h, Nat.le_refl _⟩
end Go.Proofs.YtbpbkihcfdnphaaDoor
