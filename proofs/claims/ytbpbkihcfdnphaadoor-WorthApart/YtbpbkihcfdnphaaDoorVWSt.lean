/-
  Keep of the statements' Book, by a contract: values that are kept.
-/
import Derived.Test.YtbpbkihcfdnphaaDoorVTake
namespace Go.Proofs.YtbpbkihcfdnphaaDoor
open Go.RowKit
/-- The values of a list, whose cells are xs. -/
def InRow (w : World) (xs : List Value) (ts : List T) (bss : List (List Nat)) : Prop :=
  bss.length = ts.length ∧ ∀ j, (h : j < ts.length) → ∃ u l d, xs[j]? = some u ∧ bss[j]? = some l ∧ VOwn0 w d u ts[j] l
theorem InRow.ty {w : World} {xs : List Value} {ts : List T} {bss : List (List Nat)} (h : InRow w xs ts bss) : ∀ q ∈ bss.flatten, ∃ cs, w.heap[q]? = some (.cells cs 30) := by
  intro q hq
  obtain ⟨l, hl, hql⟩ := List.mem_flatten.1 hq
  obtain ⟨j, hj, rfl⟩ := List.getElem_of_mem hl
  have hj' : j < ts.length := by have := h.1; omega
  obtain ⟨u, b', d, _, hb', ho⟩ := h.2 j hj'
  rw [List.getElem?_eq_getElem hj] at hb'
  cases hb'
  exact ho.ty q hql
theorem InRow.keep {K : Nat → Prop} {w w' : World} {xs : List Value} {ts : List T} {bss : List (List Nat)} (h : InRow w xs ts bss) (hk : Kp K w w') (hK : ∀ q ∈ bss.flatten, K q) : InRow w' xs ts bss := by
  refine ⟨h.1, fun j hj => ?_⟩
  obtain ⟨u, l, d, e0, hl, ho⟩ := h.2 j hj
  exact ⟨u, l, d, e0, hl, ho.keep (hk.mono (fun q _ hq => hK q (List.mem_flatten.2 ⟨l, List.mem_of_getElem? hl, hq⟩)))⟩
theorem InRow.append {w : World} {xs ys : List Value} {ts us : List T} {bss css : List (List Nat)} (h : InRow w xs ts bss) (k : InRow w ys us css) (hx : xs.length = ts.length) : InRow w (xs ++ ys) (ts ++ us) (bss ++ css) := by
  refine ⟨by rw [List.length_append, List.length_append, h.1, k.1], fun j hj => ?_⟩
  by_cases hlt : j < ts.length
  · obtain ⟨u, l, d, e0, hl, ho⟩ := h.2 j hlt
    refine ⟨u, l, d, ?_, ?_, ?_⟩
    · rw [List.getElem?_append_left (by omega)]; exact e0
    · rw [List.getElem?_append_left (by have := h.1; omega)]; exact hl
    · rw [List.getElem_append_left hlt]; exact ho
  · have hj' : j - ts.length < us.length := by rw [List.length_append] at hj; omega
    obtain ⟨u, l, d, e0, hl, ho⟩ := k.2 (j - ts.length) hj'
    refine ⟨u, l, d, ?_, ?_, ?_⟩
    · rw [List.getElem?_append_right (by omega), hx]; exact e0
    · rw [List.getElem?_append_right (by have := h.1; omega), h.1]; exact hl
    · rw [List.getElem_append_right (by omega)]; exact ho
/-- The values that are kept. -/
def Keeps (w : World) (base : Nat) (kv : Value) (ts : List T) (bss : List (List Nat)) : Prop :=
  ∃ xs, w.ownsRow base 30 1 kv ts.length xs ∧ InRow w xs ts bss ∧ ∀ q, kv.ownBlock = some q → q ∉ bss.flatten
theorem Keeps.keep {K : Nat → Prop} {w w' : World} {base : Nat} {kv : Value} {ts : List T} {bss : List (List Nat)} (h : Keeps w base kv ts bss) (hk : Kp K w w') (hK : ∀ q, kv.ownBlock = some q ∨ q ∈ bss.flatten → K q) : Keeps w' base kv ts bss := by
  obtain ⟨xs, h1, h2, h3⟩ := h
  exact ⟨xs, ownsRow_keep h1 hk (fun q hq => hK q (.inl hq)), h2.keep hk (fun q hq => hK q (.inr hq)), h3⟩
theorem Keeps.lt {w : World} {base : Nat} {kv : Value} {ts : List T} {bss : List (List Nat)} (h : Keeps w base kv ts bss) {q : Nat} (hq : kv.ownBlock = some q ∨ q ∈ bss.flatten) : q < w.heap.size := by
  obtain ⟨xs, h1, h2, h3⟩ := h
  rcases hq with hq | hq
  · obtain ⟨_, cur, hc⟩ := ownsRow_block h1 hq; exact lt_of_block hc
  · obtain ⟨cs, hc⟩ := h2.ty q hq; exact lt_of_block hc
theorem Keeps.vals {w : World} {base : Nat} {kv : Value} {ts : List T} {bss : List (List Nat)} (h : Keeps w base kv ts bss) : ∃ a c, kv = .slice a ts.length c ∧ VVals w a ts bss := by
  obtain ⟨xs, h1, h2, h3⟩ := h
  rcases h1.2 with ⟨rfl, h0⟩ | ⟨g, cap, cur, rfl, hb, hc, h4, h5, h6, h7⟩
  · exact ⟨none, 0, by rw [h0], h2.1, .inl (List.eq_nil_of_length_eq_zero h0)⟩
  · refine ⟨some ⟨g, 0, none⟩, cap, rfl, h2.1, .inr ⟨g, cur, rfl, hc, h3 g rfl, fun j hj => ?_⟩⟩
    obtain ⟨u, l, d, e0, hl, ho⟩ := h2.2 j hj
    refine ⟨u, l, d, ?_, hl, ho⟩
    rw [← h7] at e0
    obtain ⟨h8, h9⟩ := List.getElem?_eq_some_iff.1 e0
    rw [List.getElem_take] at h9
    rw [← h9]
    rw [List.length_take] at h8
    have h10 : j < cur.size := by have := Array.length_toList (xs := cur); omega
    rw [Array.getElem?_eq_getElem h10]
    simp
theorem VOwn0.cell1 {w : World} {d : Nat} {u : Value} {t : T} {bs : List Nat} (h : VOwn0 w d u t bs) : u.oneCell' = true := by
  rcases h with h | ⟨rfl, _⟩
  · obtain ⟨τ, p, rfl⟩ := h.rd.iface; rfl
  · rfl
set_option maxRecDepth 100000 in
set_option maxHeartbeats 4000000 in
theorem vkeep_any (w : World) (b base : Nat) (lv nv kv : Value) (rs : List (Nat × Nat × Nat)) (sz : Int) (kts : List T) (kbss : List (List Nat)) (pb c : Nat) (ts : List T) (bss : List (List Nat)) (ys : List Value) (h : VB w b base lv nv kv rs sz) (hK : Keeps w base kv kts kbss) (hbs : base ≤ w.heap.size)
    (hI : InRow w ys ts bss) (hyl : ys.length = ts.length) (hyc : ∀ e u, ys[e]? = some u → w.cell? ⟨pb, e, none⟩ = some u) (hm : ts.length ≤ 1000) (hkl : kts.length ≤ 1000000) (hkb : ∀ q, kv.ownBlock = some q → ¬ VBk b lv nv rs q ∧ q ∉ bss.flatten) :
    Calls Tryd.prog 22 #[.pointer (some ⟨b, 0, none⟩), .slice (some ⟨pb, 0, none⟩) ts.length c] w fun e w' => (∃ v, e = .returned v) ∧ ∃ kv', VB w' b base lv nv kv' rs sz ∧ Keeps w' base kv' (kts ++ ts) (kbss ++ bss) ∧ Kp (fun q => q ≠ b ∧ kv.ownBlock ≠ some q) w w' ∧ (kv'.ownBlock = kv.ownBlock ∨ ∃ q, kv'.ownBlock = some q ∧ w.heap.size ≤ q) := by
  obtain ⟨xs, hrow, hI0, hkn⟩ := hK
  obtain ⟨ka, kc, rfl⟩ := ownsRow_slice hrow
  have H := hid h
  have HROW := hid hrow
  have HI0 := hid hI0
  have HI := hid hI
  have HKN := hid hkn
  have HKB := hid hkb
  obtain ⟨b0, b1, b2, b3⟩ := four_of h.box
  have hblt := lt_of_block h.box
  obtain ⟨ti, hti, hy0, hy1, hy2⟩ := info_parts valueInfo
  have hone : ∀ u ∈ ys, u.oneCell' = true := fun u hu => by
    obtain ⟨e, he, rfl⟩ := List.getElem_of_mem hu
    obtain ⟨u, l, d, e0, _, ho⟩ := hI.2 e (by omega)
    rw [List.getElem?_eq_getElem he] at e0
    rw [Option.some.inj e0]
    exact ho.cell1
  have hyc' : ∀ e u, ys[e]? = some u → w.cell? ((⟨pb, 0, none⟩ : Addr).add e) = some u := fun e u he => by
    have := hyc e u he
    by_cases e0 : e = 0
    · subst e0; simpa [Addr.add] using this
    · simpa [Addr.add, e0] using this
  have HYC := hid (And.intro hyc' hone)
  have HYL := hid (show ys.length = ts.length * 1 by omega)
  have HKV := hid (show ∀ q, (Value.slice ka kts.length kc).ownBlock = some q → q ≠ b from fun q hq e => (hkb q hq).1 (.inl e))
  clear h hI0 hI hkn hkb hone hyc hyc' hrow hyl
  go_enter Tryd.func22, Tryd.ntmps22
  go_wp2_with (at_builtin; refine wpList_append_own_at _ rfl _ _ 49 rfl base 30 ti .nilIface 1 16 Tryd.underlying49 hti hy0 hy1 hy2 rfl (by decide) _ _ _ rfl HROW.out ⟨pb, 0, none⟩ ts.length c ys rfl HYL.out HYC.out.1 HYC.out.2 (by unfold maxLen; omega) (by omega) hbs ?_; intro v9 w9 hown9 hgrow9 _ hat9; obtain ⟨a9, c9, rfl⟩ := ownsRow_slice hown9; have K9 : Kp (fun q => some q ≠ (Value.slice ka kts.length kc).ownBlock) w w9 := ⟨hgrow9.os, hgrow9.tape, hgrow9.output, hgrow9.size, fun q hq hne => hgrow9.block q hq hne⟩; have hb9 := K9.block' H.out.box (fun e => HKV.out b e.symm rfl); have y0 := cell_of (i := 3) hb9 rfl; have y1 := frozen_of (i := 3) hb9; simp only [List.getElem_toArray, List.getElem_cons_zero, List.getElem_cons_succ] at y0)
  go_end0
  have hat' : (Value.slice a9 (kts.length + ts.length) c9).ownBlock = (Value.slice ka kts.length kc).ownBlock ∨ (Value.slice a9 (kts.length + ts.length) c9).ownBlock = some w.heap.size := hat9
  have k0 := Kp.set (K := (· ≠ b)) w9 b 3 (.slice a9 (kts.length + ts.length) c9) (fun h => h rfl)
  have kk : Kp (fun q => q ≠ b ∧ (Value.slice ka kts.length kc).ownBlock ≠ some q) w (w9.setCell ⟨b, 3, none⟩ (.slice a9 (kts.length + ts.length) c9)) := (K9.mono (fun q _ hq e => hq.2 e.symm)).trans (k0.mono (fun q _ hq => hq.1))
  have hnb : ∀ q, (∃ cs, w.heap[q]? = some (.cells cs 30)) → q ≠ b := fun q ⟨cs, hc⟩ e => by
    subst e
    have := ty_same H.out.box hc
    revert this
    decide
  have hat : ∀ q, (Value.slice a9 (kts.length + ts.length) c9).ownBlock = some q → (Value.slice ka kts.length kc).ownBlock = some q ∨ w.heap.size ≤ q := fun q hq => by
    rcases hat' with h | h
    · rw [h] at hq; exact .inl hq
    · rw [h] at hq; cases hq; exact .inr (Nat.le_refl _)
  have hbA : ∀ q ∈ kbss.flatten, q ≠ b ∧ (Value.slice ka kts.length kc).ownBlock ≠ some q := fun q hq => ⟨hnb q (HI0.out.ty q hq), fun e => HKN.out q e hq⟩
  have hbB : ∀ q ∈ bss.flatten, q ≠ b ∧ (Value.slice ka kts.length kc).ownBlock ≠ some q := fun q hq => ⟨hnb q (HI.out.ty q hq), fun e => (HKB.out q e).2 hq⟩
  have hne := H.out.ne
  refine ⟨⟨_, rfl⟩, .slice a9 (kts.length + ts.length) c9, ⟨set_at hb9 3 _, ?_, ?_, fun i hi => ?_, H.out.nodup, H.out.few, H.out.fit⟩, ⟨xs ++ ys, ?_, ?_, fun q hq => ?_⟩, kk, ?_⟩
  · exact ownsRow_keep H.out.rowL kk (fun q hq => ⟨hne.1 q hq, fun e => (HKB.out q e).1 (.inr (.inl hq))⟩)
  · exact ownsRow_keep H.out.rowN kk (fun q hq => ⟨hne.2.1 q hq, fun e => (HKB.out q e).1 (.inr (.inr (.inl hq)))⟩)
  · have hm : rs[i].1 ∈ rs.map (·.1) := List.mem_map.2 ⟨_, List.getElem_mem hi, rfl⟩
    exact (H.out.full i hi).keep kk ⟨hne.2.2.1 _ hm, fun e => (HKB.out _ e).1 (.inr (.inr (.inr hm)))⟩
  · rw [List.length_append]
    refine ownsRow_keep hown9 k0 (fun q hq e => ?_)
    rcases hat q hq with h | h
    · exact HKV.out q h e
    · have e' : q = b := e
      omega
  · exact (HI0.out.keep kk hbA).append (HI.out.keep kk hbB) (by have := HROW.out.1; omega)
  · rw [List.flatten_append, List.mem_append]
    rintro (hm | hm)
    · rcases hat q hq with h | h
      · exact HKN.out q h hm
      · obtain ⟨cs, hc⟩ := HI0.out.ty q hm
        have := lt_of_block hc
        omega
    · rcases hat q hq with h | h
      · exact (HKB.out q h).2 hm
      · obtain ⟨cs, hc⟩ := HI.out.ty q hm
        have := lt_of_block hc
        omega
  · rcases hat' with h | h
    · exact .inl h
    · exact .inr ⟨_, h, Nat.le_refl _⟩
end Go.Proofs.YtbpbkihcfdnphaaDoor
/-
  What Whole of the statements' Book holds while its lists grow and are written.
-/
namespace Go.Proofs.YtbpbkihcfdnphaaDoor
open Go.RowKit
/-- The mark of the list of that number; what spare room is written with. -/
abbrev mkV (i : Nat) : Value := .iface 58 (.int .i64 (-1 - (i : Int)))
abbrev spV : Value := .iface 79 (.string ⟨#[115, 112, 97, 114, 101]⟩)
def lenAt (rs : List (Nat × Nat × Nat)) (i : Nat) : Nat := (rs.getD i (0, 0, 0)).2.1
def capAt (rs : List (Nat × Nat × Nat)) (i : Nat) : Nat := (rs.getD i (0, 0, 0)).2.2
def nAt' (rs : List (Nat × Nat × Nat)) (i : Nat) : Nat := min (capAt rs i) (lenAt rs i + 70000)
theorem lenAt_eq {rs : List (Nat × Nat × Nat)} {i : Nat} (h : i < rs.length) : lenAt rs i = rs[i].2.1 := by simp [lenAt, List.getD_eq_getElem?_getD, h]
theorem capAt_eq {rs : List (Nat × Nat × Nat)} {i : Nat} (h : i < rs.length) : capAt rs i = rs[i].2.2 := by simp [capAt, List.getD_eq_getElem?_getD, h]
/-- The lengths while the list j has grown to m. -/
def fAt (rs : List (Nat × Nat × Nat)) (j m : Nat) (i : Nat) : Nat := if i < j then nAt' rs i else if i = j then m else lenAt rs i
/-- What the cells hold while the list j is written over up to m. -/
def pAt (rs : List (Nat × Nat × Nat)) (j m : Nat) (i k : Nat) : Value := if k < lenAt rs i ∨ i < j ∨ (i = j ∧ k < m) then mkV i else spV
structure WSt (w1 : World) (b : Nat) (a na : Option Addr) (lc nc : Nat) (sz : Int) (kv : Value) (rs : List (Nat × Nat × Nat)) (f : Nat → Nat) (P : Nat → Nat → Value) (wr : World) : Prop where
  box : wr.heap[b]? = some (.cells #[.slice a rs.length lc, .slice na rs.length nc, .int .i64 sz, kv] 51)
  row : ∀ i, (h : i < rs.length) → ∃ L cur, a = some ⟨L, 0, none⟩ ∧ wr.heap[L]? = some (.cells cur 61) ∧ cur[i]? = some (.slice (some ⟨rs[i].1, 0, none⟩) (f i) rs[i].2.2)
  num : ∀ i, (h : i < rs.length) → ∃ M cur, na = some ⟨M, 0, none⟩ ∧ wr.heap[M]? = some (.cells cur 3) ∧ cur[i]? = some (.int .i64 (rs[i].2.1 : Int))
  full : ∀ i, (h : i < rs.length) → ∃ cs, wr.heap[rs[i].1]? = some (.cells cs 30) ∧ cs.size = rs[i].2.2 ∧ ∀ k, k < f i → cs[k]? = some (P i k)
  kept : Kp (fun q => ¬ VBk b (.slice a rs.length lc) (.slice na rs.length nc) rs q) w1 wr
theorem rowAt_cell {w : World} {base n : Nat} {e : TypeId} {a : Option Addr} {c : Nat} {xs : List Value} (h : w.ownsRow base e 1 (.slice a n c) n xs) {i : Nat} {v : Value} (hi : i < n) (hv : xs[i]? = some v) : ∃ L cur, a = some ⟨L, 0, none⟩ ∧ w.heap[L]? = some (.cells cur e) ∧ cur[i]? = some v := by
  rcases h.2 with ⟨_, h0⟩ | ⟨g, cap, cur, e0, hb, hc, h1, h2, h3, h4⟩
  · omega
  · cases e0
    refine ⟨g, cur, rfl, hc, ?_⟩
    rw [← h4, List.getElem?_take_of_lt (by omega)] at hv
    simpa using hv
theorem VB.wst {w : World} {b base : Nat} {a na : Option Addr} {lc nc : Nat} {kv : Value} {rs : List (Nat × Nat × Nat)} {sz : Int} (h : VB w b base (.slice a rs.length lc) (.slice na rs.length nc) kv rs sz) : WSt w b a na lc nc sz kv rs (lenAt rs) (pAt rs 0 0) w where
  box := h.box
  row := fun i hi => rowAt_cell h.rowL hi (by simp [hi, lenAt_eq hi])
  num := fun i hi => rowAt_cell h.rowN hi (by simp [hi])
  full := fun i hi => by
    obtain ⟨_, _, _, _, cs, h1, h2, h3⟩ := h.full i hi
    refine ⟨cs, h1, h2, fun k hk => ?_⟩
    rw [h3 k (by rw [← lenAt_eq hi]; exact hk), pAt, if_pos (.inl hk)]
  kept := Kp.refl _ _
theorem WSt.later {w1 : World} {b : Nat} {a na : Option Addr} {lc nc : Nat} {sz : Int} {kv : Value} {rs : List (Nat × Nat × Nat)} {f : Nat → Nat} {P : Nat → Nat → Value} {wr w' : World} (h : WSt w1 b a na lc nc sz kv rs f P wr) (hx : Ext wr w') : WSt w1 b a na lc nc sz kv rs f P w' where
  box := hx.block h.box
  row := fun i hi => by obtain ⟨L, cur, h1, h2, h3⟩ := h.row i hi; exact ⟨L, cur, h1, hx.block h2, h3⟩
  num := fun i hi => by obtain ⟨L, cur, h1, h2, h3⟩ := h.num i hi; exact ⟨L, cur, h1, hx.block h2, h3⟩
  full := fun i hi => by obtain ⟨cs, h1, h2, h3⟩ := h.full i hi; exact ⟨cs, hx.block h1, h2, h3⟩
  kept := h.kept.trans (hx.kp _)
theorem WSt.same {w1 : World} {b : Nat} {a na : Option Addr} {lc nc : Nat} {sz : Int} {kv : Value} {rs : List (Nat × Nat × Nat)} {f f' : Nat → Nat} {P P' : Nat → Nat → Value} {wr : World} (h : WSt w1 b a na lc nc sz kv rs f P wr) (hf : ∀ i, i < rs.length → f i = f' i) (hP : ∀ i, i < rs.length → ∀ k, k < f' i → P i k = P' i k) : WSt w1 b a na lc nc sz kv rs f' P' wr where
  box := h.box
  row := fun i hi => by obtain ⟨L, cur, h1, h2, h3⟩ := h.row i hi; exact ⟨L, cur, h1, h2, by rw [← hf i hi]; exact h3⟩
  num := h.num
  full := fun i hi => by obtain ⟨cs, h1, h2, h3⟩ := h.full i hi; exact ⟨cs, h1, h2, fun k hk => by rw [h3 k (by rw [hf i hi]; exact hk), hP i hi k hk]⟩
  kept := h.kept
theorem fst_inj {rs : List (Nat × Nat × Nat)} (hn : (rs.map (·.1)).Nodup) {i j : Nat} (hi : i < rs.length) (hj : j < rs.length) (e : rs[i].1 = rs[j].1) : i = j := by
  have h := List.pairwise_iff_getElem.1 hn
  rcases Nat.lt_trichotomy i j with hl | hl | hl
  · exact absurd (by rw [List.getElem_map, List.getElem_map]; exact e) (h i j (by simpa using hi) (by simpa using hj) hl)
  · exact hl
  · exact absurd (by rw [List.getElem_map, List.getElem_map]; exact e.symm) (h j i (by simpa using hj) (by simpa using hi) hl)
/-- A cell of a list is written. -/
theorem WSt.put {w1 : World} {b : Nat} {a na : Option Addr} {lc nc : Nat} {sz : Int} {kv : Value} {rs : List (Nat × Nat × Nat)} {f : Nat → Nat} {P P' : Nat → Nat → Value} {wr w' : World} (h : WSt w1 b a na lc nc sz kv rs f P wr) (hn : (rs.map (·.1)).Nodup) {j : Nat} (hj : j < rs.length) {cs cs' : Array Value}
    (hg : wr.heap[rs[j].1]? = some (.cells cs 30)) (hk : Kp (· ≠ rs[j].1) wr w') (hg' : w'.heap[rs[j].1]? = some (.cells cs' 30)) (hs : cs'.size = cs.size) (hP : ∀ k, k < f j → cs'[k]? = some (P' j k)) (hQ : ∀ i, i < rs.length → i ≠ j → ∀ k, k < f i → P i k = P' i k) : WSt w1 b a na lc nc sz kv rs f P' w' := by
  have nb : b ≠ rs[j].1 := fun e => by have := ty_same h.box (e ▸ hg); revert this; decide
  refine ⟨hk.block' h.box nb, fun i hi => ?_, fun i hi => ?_, fun i hi => ?_, h.kept.chain hk (fun q _ hq e => hq (.inr (.inr (.inr (List.mem_map.2 ⟨_, List.getElem_mem hj, e.symm⟩)))))⟩
  · obtain ⟨L, cur, h1, h2, h3⟩ := h.row i hi
    exact ⟨L, cur, h1, hk.block' h2 (fun e => by have := ty_same h2 (e ▸ hg); revert this; decide), h3⟩
  · obtain ⟨L, cur, h1, h2, h3⟩ := h.num i hi
    exact ⟨L, cur, h1, hk.block' h2 (fun e => by have := ty_same h2 (e ▸ hg); revert this; decide), h3⟩
  · obtain ⟨ds, h1, h2, h3⟩ := h.full i hi
    by_cases e : i = j
    · subst e
      rw [hg] at h1
      injection h1 with h1
      injection h1 with h1
      exact ⟨cs', hg', by rw [hs, h1]; exact h2, hP⟩
    · exact ⟨ds, hk.block' h1 (fun e2 => e (fst_inj hn hi hj e2)), h2, fun k hk => by rw [h3 k hk, hQ i hi e k hk]⟩
/-- The row's own entry is written. -/
theorem WSt.entry {w1 : World} {b : Nat} {na : Option Addr} {lc nc : Nat} {sz : Int} {kv : Value} {rs : List (Nat × Nat × Nat)} {f f' : Nat → Nat} {P : Nat → Nat → Value} {wr : World} {L j : Nat} (h : WSt w1 b (some ⟨L, 0, none⟩) na lc nc sz kv rs f P wr) (hj : j < rs.length) (hf : ∀ i, i < rs.length → i ≠ j → f i = f' i)
    (hfull : ∃ cs, wr.heap[rs[j].1]? = some (.cells cs 30) ∧ cs.size = rs[j].2.2 ∧ ∀ k, k < f' j → cs[k]? = some (P j k)) : WSt w1 b (some ⟨L, 0, none⟩) na lc nc sz kv rs f' P (wr.setCell ⟨L, j, none⟩ (.slice (some ⟨rs[j].1, 0, none⟩) (f' j) rs[j].2.2)) := by
  obtain ⟨L', cur, e1, hL, hc⟩ := h.row j hj
  cases e1
  have k := Kp.set (K := (· ≠ L)) wr L j (.slice (some ⟨rs[j].1, 0, none⟩) (f' j) rs[j].2.2) (fun h => h rfl)
  have hsz : j < cur.size := by
    rcases Nat.lt_or_ge j cur.size with h | h
    · exact h
    · rw [Array.getElem?_eq_none h] at hc; cases hc
  refine ⟨k.block' h.box (fun e => by have := ty_same h.box (e ▸ hL); revert this; decide), fun i hi => ?_, fun i hi => ?_, fun i hi => ?_, h.kept.chain k (fun q _ hq e => hq (.inr (.inl (by rw [e]; rfl))))⟩
  · obtain ⟨L', cur', e2, h2, h3⟩ := h.row i hi
    cases e2
    rw [hL] at h2
    injection h2 with h2
    injection h2 with h2
    subst h2
    refine ⟨L, _, rfl, set_at hL j _, ?_⟩
    by_cases e : i = j
    · subst e; exact set_get _ hsz
    · rw [set_get_other _ e, h3, hf i hi e]
  · obtain ⟨M, cur', e2, h2, h3⟩ := h.num i hi
    exact ⟨M, cur', e2, k.block' h2 (fun e => by have := ty_same h2 (e ▸ hL); revert this; decide), h3⟩
  · have nL : rs[i].1 ≠ L := fun e => by obtain ⟨ds, h1, _⟩ := h.full i hi; have := ty_same h1 (e ▸ hL); revert this; decide
    by_cases e : i = j
    · subst e
      obtain ⟨cs, h1, h2, h3⟩ := hfull
      exact ⟨cs, k.block' h1 nL, h2, h3⟩
    · obtain ⟨ds, h1, h2, h3⟩ := h.full i hi
      exact ⟨ds, k.block' h1 nL, h2, fun k hk => h3 k (by rw [hf i hi e]; exact hk)⟩
/-- The law of an append within the room, in a region that draws. -/
theorem step_room {ops : Array Oper} {o : Oper} {ac : Act} {K : Act → World → Prop} {Q : Exit → Act → World → Prop} {E : Prop} (w : World) (hgd : o.guard = none) (x y : Operand)
    (ho : o.op = .call { callee := .builtin .append, args := #[x, y], argTypes := #[61, 61] }) (g m c : Nat) (cur : Array Value) (u : Value) (h1 : u.oneCell' = true) (hx : ac.eval x = .slice (some ⟨g, 0, none⟩) m c)
    (ad : Addr) (hy : ac.eval y = .slice (some ad) 1 1) (hnews : ∀ j v, [u][j]? = some v → w.cell? (ad.add j) = some v) (hg : w.heap[g]? = some (.cells cur 30)) (hroom : m + 1 ≤ c) (hfit : m + 1 ≤ cur.size)
    (h : ∀ cur' w', cur'.size = cur.size → (∀ k, k ≠ m → cur'[k]? = cur[k]?) → cur'[m]? = some u → w'.heap[g]? = some (.cells cur' 30) → Kp (· ≠ g) w w' → K (ac.put o.dst (.slice (some ⟨g, 0, none⟩) (m + 1) c)) w') :
    if Region.wanted o (yielded ops ac.tmps) = true then Oper.wp Tryd.prog o ac w K Q else E := by
  have hw : Region.wanted o (yielded ops ac.tmps) = true := by simp [Region.wanted, hgd]
  rw [if_pos hw]
  obtain ⟨ii, hii, hz0, hz1, hz2⟩ := info_parts valueInfo
  have hr := run_append_room (P := Tryd.prog) w 61 o.type 30 ii Tryd.underlying61 hii g m c cur hg ad 1 1 [u] (by rw [hz1]; rfl) hnews (fun v hv => by simp at hv; subst hv; exact h1) hroom (by rw [hz1]; simpa using hfit)
  rw [hz1] at hr
  have hcz := Array.length_toList (xs := cur)
  unfold Oper.wp execOp
  simp only [ho, resolve, invoke, builtin, Sem.run_bind, Sem.run_pure, Result.andThen_ok, List.map_toArray, List.map_cons, List.map_nil, hx, hy, hr]
  refine h _ _ ?_ (fun k hk => ?_) ?_ (setRow_heap _ g cur _ 30 (0, 0) hg) ⟨rfl, rfl, rfl, by simp, fun k hk hne => setRow_other _ g k _ hne⟩
  · simp
    omega
  · simp only [Nat.mul_one, List.length_cons, List.length_nil, Nat.zero_add, List.getElem?_toArray]
    rcases Nat.lt_or_gt_of_ne hk with h | h
    · rw [List.append_assoc, List.getElem?_append_left (by rw [List.length_take]; omega), List.getElem?_take_of_lt h]; simp
    · rw [List.getElem?_append_right (by simp; omega), List.getElem?_drop]
      simp only [List.length_append, List.length_take, List.length_cons, List.length_nil]
      rw [show m + 1 + (k - (min m cur.toList.length + (0 + 1))) = k by omega]
      simp
  · simp only [Nat.mul_one, List.getElem?_toArray]
    rw [List.append_assoc, List.getElem?_append_right (by rw [List.length_take]; omega), List.length_take, show m - min m cur.toList.length = 0 by omega]
    rfl
end Go.Proofs.YtbpbkihcfdnphaaDoor
