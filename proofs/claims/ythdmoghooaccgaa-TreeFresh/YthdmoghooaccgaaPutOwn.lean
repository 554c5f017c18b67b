/-
  A tree in memory of its own, written at a path.
-/
import Derived.Test.YthdmoghooaccgaaFaceAt
namespace Go.Proofs.Ythdmoghooaccgaa
open Go.RowKit
theorem Own.deep {w : World} : ∀ {d : Nat} {v : Value} {t : T} {bs : List Nat}, Own w d v t bs → Own w (d + 1) v t bs
  | 0, _, _, _, h => h.elim
  | d + 1, v, .node k n x ks, bs, ⟨a, h1, h2, h3, h4, h5⟩ => ⟨a, h1, h2, h3, h4, by
      rcases h5 with h5 | ⟨g, cs, bss, rfl, hp, hg, hs, rfl, hbl, hc⟩
      · exact .inl h5
      · refine .inr ⟨g, cs, bss, rfl, hp, hg, hs, rfl, hbl, fun j hj => ?_⟩
        obtain ⟨u0, u1, u2, u3, b, c0, c1, c2, c3, hb, ho⟩ := hc j hj
        exact ⟨u0, u1, u2, u3, b, c0, c1, c2, c3, hb, Own.deep ho⟩⟩
theorem Own.deeper {w : World} {d e : Nat} {v : Value} {t : T} {bs : List Nat} (h : Own w d v t bs) (hl : d ≤ e) : Own w e v t bs := by
  induction hl with
  | refl => exact h
  | step _ ih => exact ih.deep
theorem flatten_at {α : Type} (l : List (List α)) (i : Nat) (h : i < l.length) : l.flatten = (l.take i).flatten ++ (l[i] ++ (l.drop (i + 1)).flatten) := by
  have e : l = l.take i ++ l[i] :: l.drop (i + 1) := by
    rw [← List.drop_eq_getElem_cons h, List.take_append_drop]
  have := congrArg List.flatten e
  rw [List.flatten_append, List.flatten_cons] at this
  exact this
theorem flatten_set {α : Type} (l : List (List α)) (i : Nat) (x : List α) (h : i < l.length) : (l.set i x).flatten = (l.take i).flatten ++ (x ++ (l.drop (i + 1)).flatten) := by
  rw [List.set_eq_take_append_cons_drop, if_pos h, List.flatten_append, List.flatten_cons]
theorem apart_of {l : List (List Nat)} (h : l.flatten.Nodup) {i j : Nat} (hi : i < l.length) (hj : j < l.length) (hne : i ≠ j) : ∀ q ∈ l[i], q ∉ l[j] := by
  rw [flatten_at l i hi] at h
  obtain ⟨_, h2, h3⟩ := List.nodup_append.1 h
  obtain ⟨_, _, h4⟩ := List.nodup_append.1 h2
  intro q hq hq'
  by_cases hlt : j < i
  · have : q ∈ (l.take i).flatten := List.mem_flatten.2 ⟨l[j], List.mem_take_iff_getElem.2 ⟨j, by omega, rfl⟩, hq'⟩
    exact h3 q this q (List.mem_append.2 (.inl hq)) rfl
  · have : q ∈ (l.drop (i + 1)).flatten := List.mem_flatten.2 ⟨l[j], List.mem_drop_iff_getElem.2 ⟨j - (i + 1), by omega, by congr 1; omega⟩, hq'⟩
    exact h4 q hq q this rfl
theorem T.at_cons {k : ByteArray} {n : Int} {x : ByteArray} {ks : List T} {i : Int} {r : List Int} {u : T} (h : T.at? (.node k n x ks) (i :: r) = some u) : ∃ m : Nat, ∃ hm : m < ks.length, i = m ∧ T.at? ks[m] r = some u := by
  simp only [T.at?] at h
  split at h
  · rename_i hx
    have hm : i.toNat < ks.length := by omega
    rw [List.getElem?_eq_getElem hm] at h
    exact ⟨i.toNat, hm, by omega, h⟩
  · cases h
theorem T.put_cons {k : ByteArray} {n : Int} {x : ByteArray} {ks : List T} {m : Nat} {r : List Int} (u : T) (hm : m < ks.length) : T.put (.node k n x ks) ((m : Int) :: r) u = .node k n x (ks.set m (T.put ks[m] r u)) := by
  simp only [T.put, Int.toNat_natCast]
  rw [List.getElem?_eq_getElem hm]
abbrev set4 (w : World) (g o : Nat) (v0 v1 v2 v3 : Value) : World := (((w.setCell ⟨g, o, none⟩ v0).setCell ⟨g, o + 1, none⟩ v1).setCell ⟨g, o + 2, none⟩ v2).setCell ⟨g, o + 3, none⟩ v3
theorem put_own {w0 w : World} (hx : Ext w0 w) {v0 v1 v2 v3 : Value} {u : T} {d' : Nat} {bs' : List Nat} (hu : Own w d' (.agg #[v0, v1, v2, v3]) u bs') (hnd' : bs'.Nodup) :
    ∀ (p : List Int) (b i d : Nat) (cs : Array Value) (u0 u1 u2 u3 : Value) (t y : T) (bs : List Nat), w0.heap[b]? = some (.cells cs 26) → cs[i]? = some u0 → cs[i + 1]? = some u1 → cs[i + 2]? = some u2 → cs[i + 3]? = some u3 →
      Own w0 d (.agg #[u0, u1, u2, u3]) t bs → (b :: bs).Nodup → T.at? t p = some y → (∀ q ∈ bs', q ≠ b ∧ q ∉ bs) →
      ∃ g o cs0, place w0 ⟨b, i, none⟩ p = ⟨g, o, none⟩ ∧ (g = b ∨ g ∈ bs) ∧ w.heap[g]? = some (.cells cs0 26) ∧ o + 3 < cs0.size ∧
        ∃ cs' z0 z1 z2 z3 d'' bs'', (set4 w g o v0 v1 v2 v3).heap[b]? = some (.cells cs' 26) ∧ cs'.size = cs.size ∧ (∀ j, j < i ∨ i + 3 < j → cs'[j]? = cs[j]?) ∧ cs'[i]? = some z0 ∧ cs'[i + 1]? = some z1 ∧ cs'[i + 2]? = some z2 ∧ cs'[i + 3]? = some z3 ∧
          Own (set4 w g o v0 v1 v2 v3) d'' (.agg #[z0, z1, z2, z3]) (T.put t p u) bs'' ∧ (∀ q ∈ bs'', q ∈ bs ∨ q ∈ bs') ∧ bs''.Nodup := by
  intro p
  induction p with
  | nil =>
    intro b i d cs u0 u1 u2 u3 t y bs hb c0 c1 c2 c3 ho hnd hat hdis
    have hsz : i + 3 < cs.size := by
      rcases Nat.lt_or_ge (i + 3) cs.size with h | h
      · exact h
      · rw [Array.getElem?_eq_none h] at c3; cases c3
    have hbw := hx.block hb
    obtain ⟨e0, e1, e2, e3⟩ := set4A_get v0 v1 v2 v3 hsz
    refine ⟨b, i, cs, rfl, .inl rfl, hbw, hsz, set4A cs i v0 v1 v2 v3, v0, v1, v2, v3, d', bs', set4_block hbw i v0 v1 v2 v3, set4A_size _ _ _ _ _ _, fun j hj => set4A_other _ _ _ _ hj, e0, e1, e2, e3, ?_, fun q hq => .inr hq, hnd'⟩
    simp only [T.put]
    exact hu.keep ((Kp.set4 w b i v0 v1 v2 v3).mono (fun q _ hq => (hdis q hq).1))
  | cons x r ih =>
    intro b i d cs u0 u1 u2 u3 t y bs hb c0 c1 c2 c3 ho hnd hat hdis
    obtain ⟨k, n, tx, ks⟩ := t
    obtain ⟨m, hm, rfl, hat'⟩ := T.at_cons hat
    cases d with
    | zero => exact ho.elim
    | succ d =>
    obtain ⟨a, h1, h2, h3, h4, h5⟩ := ho
    simp only [Value.agg.injEq, Array.mk.injEq, List.cons.injEq, and_true] at h1
    obtain ⟨rfl, rfl, rfl, rfl⟩ := h1
    rcases h5 with ⟨h0, _⟩ | ⟨g1, cs1, bss, rfl, hp, hg1, hs1, rfl, hbl, hc⟩
    · subst h0; exact absurd hm (Nat.not_lt_zero _)
    obtain ⟨w0', w1', w2', w3', b1, q0, q1, q2, q3, hb1, ho1⟩ := hc m hm
    have hmb : m < bss.length := by omega
    obtain rfl : bss[m] = b1 := by rw [List.getElem?_eq_getElem hmb] at hb1; exact Option.some.inj hb1
    have hn1 := (List.nodup_cons.1 hnd).1
    have hn2 := (List.nodup_cons.1 hnd).2
    have hn3 := (List.nodup_cons.1 hn2).1
    have hn4 := (List.nodup_cons.1 hn2).2
    have hin : ∀ {j : Nat} (hj : j < bss.length) {q : Nat}, q ∈ bss[j] → q ∈ bss.flatten := fun {j} hj {q} hq => List.mem_flatten.2 ⟨_, List.getElem_mem hj, hq⟩
    have hn5 : bss[m].Nodup := by
      have h := hn4
      rw [flatten_at bss m hmb] at h
      exact (List.nodup_append.1 (List.nodup_append.1 h).2.1).1
    have hg1b : g1 ≠ b := fun e => hn1 (by rw [← e]; exact List.mem_cons_self ..)
    obtain ⟨g, o, cs0, hpl, hgm, hg, ho3, cs1', z0, z1, z2, z3, d2, bs2, hb2, hsz2, hoth, f0, f1, f2, f3, ho2, hsub, hnd2⟩ :=
      ih g1 (m * 4) d cs1 w0' w1' w2' w3' ks[m] y bss[m] hg1 q0 q1 q2 q3 ho1 (List.nodup_cons.2 ⟨fun h => hn3 (hin hmb h), hn5⟩) hat' (fun q hq => ⟨fun e => (hdis q hq).2 (by rw [e]; exact List.mem_cons_self ..), fun h => (hdis q hq).2 (List.mem_cons_of_mem _ (hin hmb h))⟩)
    have hgb : g ≠ b := by
      rcases hgm with rfl | h
      · exact hg1b
      · exact fun e => hn1 (List.mem_cons_of_mem _ (by rw [← e]; exact hin hmb h))
    have hk : Kp (· ≠ g) w (set4 w g o v0 v1 v2 v3) := Kp.set4 w g o v0 v1 v2 v3
    have hbw := hk.block' (hx.block hb) (Ne.symm hgb)
    refine ⟨g, o, cs0, ?_, ?_, hg, ho3, cs, .string k, .int .i64 n, .string tx, .slice (some ⟨g1, 0, none⟩) ks.length ks.length, max d d2 + 1, g1 :: (bss.set m bs2).flatten, hbw, rfl, fun _ _ => rfl, c0, c1, c2, c3, ?_, ?_, ?_⟩
    · rw [← hpl]
      have hcell : w0.cell? ⟨b, i + 3, none⟩ = some (.slice (some ⟨g1, 0, none⟩) ks.length ks.length) := cell_of hb c3
      simp only [place, hcell, Int.toNat_natCast, Nat.zero_add]
    · rcases hgm with rfl | h
      · exact .inr (List.mem_cons_self ..)
      · exact .inr (List.mem_cons_of_mem _ (hin hmb h))
    · rw [T.put_cons u hm]
      refine ⟨some ⟨g1, 0, none⟩, by rw [List.length_set], h2, h3, by rw [List.length_set]; exact h4, .inr ⟨g1, cs1', bss.set m bs2, rfl, by rw [List.length_set]; exact hp, hb2, by rw [hsz2, hs1, List.length_set], rfl, by rw [List.length_set, List.length_set]; exact hbl, fun j hj => ?_⟩⟩
      rw [List.length_set] at hj
      by_cases hjm : j = m
      · subst hjm
        exact ⟨z0, z1, z2, z3, bs2, f0, f1, f2, f3, by rw [List.getElem?_set_self hmb], by rw [List.getElem_set_self]; exact ho2.deeper (Nat.le_max_right _ _)⟩
      · obtain ⟨y0, y1, y2, y3, b3, r0, r1, r2, r3, hb3, ho3'⟩ := hc j hj
        have hjb : j < bss.length := by omega
        have hr : ∀ e, e < 4 → j * 4 + e < m * 4 ∨ m * 4 + 3 < j * 4 + e := fun e he => by omega
        refine ⟨y0, y1, y2, y3, b3, (hoth _ (hr 0 (by omega))).trans r0, (hoth _ (hr 1 (by omega))).trans r1, (hoth _ (hr 2 (by omega))).trans r2, (hoth _ (hr 3 (by omega))).trans r3, by rw [List.getElem?_set_ne (Ne.symm hjm)]; exact hb3, ?_⟩
        rw [List.getElem_set_ne (Ne.symm hjm)]
        obtain rfl : bss[j] = b3 := by rw [List.getElem?_eq_getElem hjb] at hb3; exact Option.some.inj hb3
        refine ((ho3'.keep (hx.kp _)).keep (hk.mono (fun q _ hq e => ?_))).deeper (Nat.le_max_left _ _)
        have e' : q = g := e
        subst e'
        rcases hgm with e' | h
        · exact hn3 (by rw [← e']; exact hin hjb hq)
        · exact apart_of hn4 hmb hjb (Ne.symm hjm) _ h hq
    · intro q hq
      rcases List.mem_cons.1 hq with rfl | hq
      · exact .inl (List.mem_cons_self ..)
      rw [flatten_set bss m bs2 hmb] at hq
      rcases List.mem_append.1 hq with h | h
      · exact .inl (List.mem_cons_of_mem _ (by rw [flatten_at bss m hmb]; exact List.mem_append.2 (.inl h)))
      rcases List.mem_append.1 h with h | h
      · rcases hsub q h with h | h
        · exact .inl (List.mem_cons_of_mem _ (hin hmb h))
        · exact .inr h
      · exact .inl (List.mem_cons_of_mem _ (by rw [flatten_at bss m hmb]; exact List.mem_append.2 (.inr (List.mem_append.2 (.inr h)))))
    · have h := hn4
      rw [flatten_at bss m hmb] at h
      obtain ⟨a1, a2, a3⟩ := List.nodup_append.1 h
      obtain ⟨a4, a5, a6⟩ := List.nodup_append.1 a2
      have inL : ∀ q, q ∈ (bss.take m).flatten → q ∈ bss.flatten := fun q hq => by rw [flatten_at bss m hmb]; exact List.mem_append.2 (.inl hq)
      have inR : ∀ q, q ∈ (bss.drop (m + 1)).flatten → q ∈ bss.flatten := fun q hq => by rw [flatten_at bss m hmb]; exact List.mem_append.2 (.inr (List.mem_append.2 (.inr hq)))
      have far : ∀ q ∈ bs2, ∀ q', q' ∈ bss.flatten → q' ∉ bss[m] → q ≠ q' := fun q hq q' h1 h2 e => by
        subst e
        rcases hsub q hq with h | h
        · exact h2 h
        · exact (hdis q h).2 (List.mem_cons_of_mem _ h1)
      rw [flatten_set bss m bs2 hmb]
      refine List.nodup_cons.2 ⟨fun hq => ?_, List.nodup_append.2 ⟨a1, List.nodup_append.2 ⟨hnd2, a5, fun q hq q' hq' => far q hq q' (inR q' hq') (fun h => a6 q' h q' hq' rfl)⟩, fun q hq q' hq' => ?_⟩⟩
      · rcases List.mem_append.1 hq with h | h
        · exact hn3 (inL _ h)
        rcases List.mem_append.1 h with h | h
        · rcases hsub _ h with h | h
          · exact hn3 (hin hmb h)
          · exact (hdis _ h).2 (List.mem_cons_self ..)
        · exact hn3 (inR _ h)
      · rcases List.mem_append.1 hq' with h | h
        · exact Ne.symm (far q' h q (inL q hq) (fun h' => a3 q hq q (List.mem_append.2 (.inl h')) rfl))
        · exact a3 q hq q' (List.mem_append.2 (.inr h))
end Go.Proofs.Ythdmoghooaccgaa
