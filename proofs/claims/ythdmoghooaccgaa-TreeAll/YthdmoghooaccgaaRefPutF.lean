/-
  The reference's put, by a contract.
-/
import Derived.Test.YthdmoghooaccgaaRefAt
import Derived.Test.YthdmoghooaccgaaTreeIn
import Derived.Test.YthdmoghooaccgaaPathAid
import Derived.Test.YthdmoghooaccgaaPutOwn
import Derived.Deep.DeepCutAuto
import Derived.Test.YthdmoghooaccgaaPutAny
namespace Go.Proofs.Ythdmoghooaccgaa
open Go.RowKit
theorem list_ofV {n : Nat} {P : Nat → Value → Prop} (h : ∀ j, j < n → ∃ t, P j t) : ∃ ks : List Value, ks.length = n ∧ ∀ j, (hj : j < ks.length) → P j ks[j] := by
  induction n with
  | zero => exact ⟨[], rfl, fun j hj => absurd hj (Nat.not_lt_zero _)⟩
  | succ n ih =>
    obtain ⟨ks, hl, hk⟩ := ih (fun j hj => h j (by omega))
    obtain ⟨t, ht⟩ := h n (by omega)
    refine ⟨ks ++ [t], by simp [hl], fun j hj => ?_⟩
    by_cases e : j < ks.length
    · rw [List.getElem_append_left e]; exact hk j e
    · have e' : j = ks.length := by simp at hj; omega
      subst e'
      simpa [hl] using ht
theorem row4_full {w : World} {base : Nat} {v : Value} {n : Nat} {xs : List Value} (h : w.ownsRow base 26 4 v n xs) (hn : 0 < n) : ∃ g c cur, v = .slice (some ⟨g, 0, none⟩) n c ∧ base ≤ g ∧ w.heap[g]? = some (.cells cur 26) ∧ n * 4 ≤ cur.size ∧ cur.toList.take (n * 4) = xs := by
  rcases h.2 with ⟨_, h0⟩ | ⟨g, cap, cur, rfl, hb, hc, h1, h2, h3, h4⟩
  · omega
  · exact ⟨g, cap, cur, rfl, hb, hc, by omega, h4⟩
/-- The cells of a list of kids, as one list. -/
theorem cells_list {K : Nat → Prop} {w : World} {d g off : Nat} {ks : List T} (h : ∀ j, (h : j < ks.length) → ∃ u0 u1 u2 u3, Four w g (off + j * 4) u0 u1 u2 u3 ∧ Rd K w d (.agg #[u0, u1, u2, u3]) ks[j]) :
    ∃ L : List Value, L.length = ks.length * 4 ∧ (∀ e u, L[e]? = some u → w.cell? ⟨g, off + e, none⟩ = some u) ∧ (∀ u ∈ L, u.oneCell' = true) ∧
      ∀ j, (h : j < ks.length) → ∃ u0 u1 u2 u3, L[j * 4]? = some u0 ∧ L[j * 4 + 1]? = some u1 ∧ L[j * 4 + 2]? = some u2 ∧ L[j * 4 + 3]? = some u3 ∧ Rd K w d (.agg #[u0, u1, u2, u3]) ks[j] := by
  have hc : ∀ e, e < ks.length * 4 → ∃ u, w.cell? ⟨g, off + e, none⟩ = some u ∧ u.oneCell' = true := fun e he => by
    obtain ⟨u0, u1, u2, u3, ⟨h0, h1, h2, h3⟩, hr⟩ := h (e / 4) (by omega)
    obtain ⟨k, n, x, a, c, rfl, rfl, rfl, rfl⟩ := hr.shape
    have h4 : e % 4 = 0 ∨ e % 4 = 1 ∨ e % 4 = 2 ∨ e % 4 = 3 := by omega
    rcases h4 with h4 | h4 | h4 | h4
    · exact ⟨_, by rw [show off + e = off + e / 4 * 4 by omega]; exact h0, rfl⟩
    · exact ⟨_, by rw [show off + e = off + e / 4 * 4 + 1 by omega]; exact h1, rfl⟩
    · exact ⟨_, by rw [show off + e = off + e / 4 * 4 + 2 by omega]; exact h2, rfl⟩
    · exact ⟨_, by rw [show off + e = off + e / 4 * 4 + 3 by omega]; exact h3, rfl⟩
  obtain ⟨L, hl, hL⟩ := list_ofV (n := ks.length * 4) (P := fun e u => w.cell? ⟨g, off + e, none⟩ = some u ∧ u.oneCell' = true) hc
  have hL' : ∀ e u, L[e]? = some u → w.cell? ⟨g, off + e, none⟩ = some u ∧ u.oneCell' = true := fun e u he => by
    obtain ⟨h1, h2⟩ := List.getElem?_eq_some_iff.1 he
    rw [← h2]
    exact hL e h1
  refine ⟨L, hl, fun e u he => (hL' e u he).1, fun u hu => ?_, fun j hj => ?_⟩
  · obtain ⟨e, he, rfl⟩ := List.getElem_of_mem hu
    exact (hL e he).2
  · obtain ⟨u0, u1, u2, u3, ⟨h0, h1, h2, h3⟩, hr⟩ := h j hj
    have at' : ∀ e u, e < ks.length * 4 → w.cell? ⟨g, off + e, none⟩ = some u → L[e]? = some u := fun e u he hu => by
      rw [List.getElem?_eq_getElem (by omega)]
      have := (hL e (by omega)).1
      rw [hu] at this
      rw [Option.some.inj this]
    exact ⟨u0, u1, u2, u3, at' _ _ (by omega) h0, at' _ _ (by omega) h1, at' _ _ (by omega) h2, at' _ _ (by omega) h3, hr⟩
theorem Rd.more {K : Nat → Prop} {w : World} {d e : Nat} {v : Value} {t : T} (h : Rd K w d v t) (hl : d ≤ e) : Rd K w e v t := by
  obtain ⟨c, rfl⟩ := Nat.exists_eq_add_of_le hl
  clear hl
  induction c with
  | zero => exact h
  | succ c ih => exact Rd.deep ih
/-- What put answers, once the kid is written. -/
abbrev putW (w w3 : World) (g9 m c9 : Nat) (k : ByteArray) (n : Int) (x k5 : ByteArray) (n5 : Int) (x5 : ByteArray) (a5 : Option Addr) (kl5 c5 kl : Nat) : World :=
  ((((((((w3.setCell ⟨g9, m * 4, none⟩ (.string k5)).setCell ⟨g9, m * 4 + 1, none⟩ (.int .i64 n5)).setCell ⟨g9, m * 4 + 2, none⟩ (.string x5)).setCell ⟨g9, m * 4 + 3, none⟩ (.slice a5 kl5 c5)).setCell ⟨w.heap.size, 3, none⟩ (.slice (some ⟨g9, 0, none⟩) kl c9)).setCell ⟨w.heap.size + 1 + 1, 0, none⟩ (.string k)).setCell ⟨w.heap.size + 1 + 1, 1, none⟩ (.int .i64 n)).setCell ⟨w.heap.size + 1 + 1, 2, none⟩ (.string x)).setCell ⟨w.heap.size + 1 + 1, 3, none⟩ (.slice (some ⟨g9, 0, none⟩) kl c9)
theorem put_final {K K' : Nat → Prop} {w w9 w3 : World} {d d2 g9 m c9 : Nat} {cur : Array Value} {L : List Value} {k : ByteArray} {n : Int} {x k5 : ByteArray} {n5 : Int} {x5 : ByteArray} {a5 : Option Addr} {kl5 c5 : Nat} {ks : List T} {t2 : T}
    (hKl : ∀ q, K q → q < w.heap.size) (hKl' : ∀ q, K' q → q < w.heap.size) (hxx : Ext w w9) (hy : Ext w9 w3) (hge : w.heap.size + 3 ≤ g9) (hcur : w9.heap[g9]? = some (.cells cur 26)) (hcs : ks.length * 4 ≤ cur.size)
    (hat : ∀ (e : Nat) (u : Value), L[e]? = some u → cur[e]? = some u) (hlk : ∀ j, (h : j < ks.length) → ∃ u0 u1 u2 u3, L[j * 4]? = some u0 ∧ L[j * 4 + 1]? = some u1 ∧ L[j * 4 + 2]? = some u2 ∧ L[j * 4 + 3]? = some u3 ∧ Rd K w d (.agg #[u0, u1, u2, u3]) ks[j])
    (hr2 : Rd (fun q => K q ∨ K' q ∨ w9.heap.size ≤ q) w3 d2 (.agg #[.string k5, .int .i64 n5, .string x5, .slice a5 kl5 c5]) t2) (hm : m < ks.length) (hks : k.size ≤ 140737488351232 ∧ x.size ≤ 140737488351232) (hl2 : ks.length * 64 ≤ 140737488351232)
    (hbr : w9.heap[w.heap.size + 1 + 1]? = some (.cells #[.string ⟨#[]⟩, .int .i64 0, .string ⟨#[]⟩, .slice none 0 0] 26)) :
    ((∃ d3, Rd (fun q => K q ∨ K' q ∨ w.heap.size ≤ q) (putW w w3 g9 m c9 k n x k5 n5 x5 a5 kl5 c5 ks.length) d3 (.agg #[.string k, .int .i64 n, .string x, .slice (some ⟨g9, 0, none⟩) ks.length c9]) (.node k n x (ks.set m t2))) ∧ Ext w (putW w w3 g9 m c9 k n x k5 n5 x5 a5 kl5 c5 ks.length)) ∧
      (putW w w3 g9 m c9 k n x k5 n5 x5 a5 kl5 c5 ks.length).cell? ⟨w.heap.size + 1 + 1, 0, none⟩ = some (.string k) ∧ (putW w w3 g9 m c9 k n x k5 n5 x5 a5 kl5 c5 ks.length).cell? ⟨w.heap.size + 1 + 1, 1, none⟩ = some (.int .i64 n) ∧ (putW w w3 g9 m c9 k n x k5 n5 x5 a5 kl5 c5 ks.length).cell? ⟨w.heap.size + 1 + 1, 2, none⟩ = some (.string x) ∧ (putW w w3 g9 m c9 k n x k5 n5 x5 a5 kl5 c5 ks.length).cell? ⟨w.heap.size + 1 + 1, 3, none⟩ = some (.slice (some ⟨g9, 0, none⟩) ks.length c9) := by
  have hg3 := hy.block hcur
  have hsz9 := lt_of_block hcur
  have hb4 := set4_block hg3 (m * 4) (.string k5) (.int .i64 n5) (.string x5) (.slice a5 kl5 c5)
  have k4 := Kp.set4 w3 g9 (m * 4) (.string k5) (.int .i64 n5) (.string x5) (.slice a5 kl5 c5)
  have k5' := Kp.set (K := fun q => q ≠ w.heap.size ∧ q ≠ w.heap.size + 1 + 1) ((((w3.setCell ⟨g9, m * 4, none⟩ (.string k5)).setCell ⟨g9, m * 4 + 1, none⟩ (.int .i64 n5)).setCell ⟨g9, m * 4 + 2, none⟩ (.string x5)).setCell ⟨g9, m * 4 + 3, none⟩ (.slice a5 kl5 c5)) w.heap.size 3 (.slice (some ⟨g9, 0, none⟩) ks.length c9) (fun h => h.1 rfl)
  have hbr3 := set_other (i := 3) (k4.block' (hy.block hbr) (show w.heap.size + 1 + 1 ≠ g9 by omega)) (show w.heap.size + 1 + 1 ≠ w.heap.size by omega) (.slice (some ⟨g9, 0, none⟩) ks.length c9)
  have k6 := (Kp.set4 (((((w3.setCell ⟨g9, m * 4, none⟩ (.string k5)).setCell ⟨g9, m * 4 + 1, none⟩ (.int .i64 n5)).setCell ⟨g9, m * 4 + 2, none⟩ (.string x5)).setCell ⟨g9, m * 4 + 3, none⟩ (.slice a5 kl5 c5)).setCell ⟨w.heap.size, 3, none⟩ (.slice (some ⟨g9, 0, none⟩) ks.length c9)) (w.heap.size + 1 + 1) 0 (.string k) (.int .i64 n) (.string x) (.slice (some ⟨g9, 0, none⟩) ks.length c9)).mono (L := fun q => q ≠ w.heap.size ∧ q ≠ w.heap.size + 1 + 1) (fun q _ h => h.2)
  have k7 := k5'.trans k6
  refine ⟨⟨⟨d + d2 + 1, some ⟨g9, 0, none⟩, c9, by rw [List.length_set], hks.1, hks.2, by rw [List.length_set]; exact hl2, .inr ⟨g9, 0, rfl, .inr (.inr (by omega)), fun j hj => ?_⟩⟩, ?_⟩, four_of (four_set hbr3)⟩
  · have hj' : j < ks.length := by rw [List.length_set] at hj; exact hj
    have hgb := k7.block' hb4 ⟨by omega, by omega⟩
    by_cases e : j = m
    · subst e
      obtain ⟨c0, c1, c2, c3⟩ := set4A_get (cs := cur) (i := j * 4) (.string k5) (.int .i64 n5) (.string x5) (.slice a5 kl5 c5) (by omega)
      refine ⟨_, _, _, _, ⟨by rw [Nat.zero_add]; exact cell_of hgb c0, by rw [Nat.zero_add]; exact cell_of hgb c1, by rw [Nat.zero_add]; exact cell_of hgb c2, by rw [Nat.zero_add]; exact cell_of hgb c3⟩, ?_⟩
      rw [List.getElem_set_self]
      have lo : ∀ q, (K q ∨ K' q ∨ w9.heap.size ≤ q) → q < w.heap.size ∨ w9.heap.size ≤ q := fun q h => by rcases h with h | h | h; exact .inl (hKl q h); exact .inl (hKl' q h); exact .inr h
      have h1 := hr2.keep (k4.mono (fun q _ h e => by have := lo q h; have e' : q = g9 := e; omega))
      have h2 := h1.keep (k7.mono (fun q _ h => by have := lo q h; have := hxx.size; exact ⟨by omega, by omega⟩))
      exact (h2.mono (fun q _ h => h.imp id (Or.imp id (fun h => by have := hxx.size; omega)))).more (by omega)
    · obtain ⟨u0, u1, u2, u3, l0, l1, l2, l3, hr⟩ := hlk j hj'
      have o : ∀ e, e < 4 → (set4A cur (m * 4) (.string k5) (.int .i64 n5) (.string x5) (.slice a5 kl5 c5))[j * 4 + e]? = cur[j * 4 + e]? := fun e he => set4A_other _ _ _ _ (by omega)
      refine ⟨u0, u1, u2, u3, ⟨by rw [Nat.zero_add]; exact cell_of hgb ((o 0 (by omega)).trans (hat _ _ l0)), by rw [Nat.zero_add]; exact cell_of hgb ((o 1 (by omega)).trans (hat _ _ l1)), by rw [Nat.zero_add]; exact cell_of hgb ((o 2 (by omega)).trans (hat _ _ l2)), by rw [Nat.zero_add]; exact cell_of hgb ((o 3 (by omega)).trans (hat _ _ l3))⟩, ?_⟩
      rw [List.getElem_set_ne (fun e' => e e'.symm)]
      have h1 := (hr.later (hxx.trans hy)).keep (k4.mono (fun q _ h e => by have := hKl q h; have e' : q = g9 := e; omega))
      have h2 := h1.keep (k7.mono (fun q _ h => by have := hKl q h; exact ⟨by omega, by omega⟩))
      exact (h2.mono (fun q _ h => .inl h)).more (by omega)
  · exact Kp.ext (((((hxx.trans hy).kp (fun q => q < w.heap.size)).trans (k4.mono (fun q _ h e => by have h' : q < _ := h; have e' : q = g9 := e; omega))).trans (k7.mono (fun q _ h => by have h' : q < _ := h; exact ⟨by omega, by omega⟩)))) (fun q hq => hq)
set_option maxRecDepth 100000 in
set_option maxHeartbeats 2000000 in
theorem rput_any : ∀ (p : List Int) (t u y : T) (v v' : Value) (d d' : Nat) (K K' : Nat → Prop) (w : World) (pa : Option Addr) (pc : Nat), Rd K w d v t → Rd K' w d' v' u → Ints w (.slice pa p.length pc) p → p.length * 8 ≤ 140737488355328 → p.length ≤ pc → T.at? t p = some y →
    Calls Try.prog 61 #[v, .slice pa p.length pc, v'] w fun e w' => ∃ v2 d2, e = .returned v2 ∧ Rd (fun q => K q ∨ K' q ∨ w.heap.size ≤ q) w' d2 v2 (T.put t p u) ∧ Ext w w' := by
  intro p
  induction p with
  | nil =>
    intro t u y v v' d d' K K' w pa pc hr hr' hI hb hcap hat
    obtain ⟨u0, u1, u2, u3, rfl⟩ := hr.agg
    obtain ⟨k, n, x, a, c, rfl, rfl, rfl, rfl⟩ := hr.shape
    obtain ⟨u0, u1, u2, u3, rfl⟩ := hr'.agg
    obtain ⟨k', n', x', a', c', rfl, rfl, rfl, rfl⟩ := hr'.shape
    have HR' := hid hr'
    clear hr hr' hI
    generalize (T.kids t).length = kt at *
    generalize (T.kids u).length = ku at *
    simp only [List.length_nil]
    go_enter Try.func61, Try.ntmps61
    go_wp2_with fail
    refine bodyPost_ret (v := .agg #[.string k', .int .i64 n', .string x', .slice a' ku c']) (by simp [results, Try.results61, go_sem]) rfl ?_
    exact ⟨_, d', rfl, (HR'.out.later (Ext.alloc3 _ _ _ _)).mono (fun q _ h => .inr (.inl h)), Ext.alloc3 _ _ _ _⟩
  | cons i r ih =>
    intro t u y v v' d d' K0 K0' w pa pc hr0 hr0' hI hb hcap hat
    obtain ⟨K, hK⟩ : ∃ K : Nat → Prop, K = fun q => K0 q ∧ q < w.heap.size := ⟨_, rfl⟩
    obtain ⟨K', hK'⟩ : ∃ K' : Nat → Prop, K' = fun q => K0' q ∧ q < w.heap.size := ⟨_, rfl⟩
    have hr : Rd K w d v t := hr0.mono (fun q hq h => by rw [hK]; exact ⟨h, hq⟩)
    have hr' : Rd K' w d' v' u := hr0'.mono (fun q hq h => by rw [hK']; exact ⟨h, hq⟩)
    have HKL := hid (And.intro (show ∀ q, K q → q < w.heap.size from fun q h => by rw [hK] at h; exact h.2) (show ∀ q, K' q → q < w.heap.size from fun q h => by rw [hK'] at h; exact h.2))
    have HKM := hid (show ∀ q, (K q ∨ K' q ∨ w.heap.size ≤ q) → (K0 q ∨ K0' q ∨ w.heap.size ≤ q) from fun q h => by rw [hK, hK'] at h; exact h.imp (·.1) (Or.imp (·.1) id))
    clear hr0 hr0' hK hK'
    obtain ⟨k, n, x, ks⟩ := t
    obtain ⟨m, hm, rfl, hat'⟩ := T.at_cons hat
    have HPU := hid (T.put_cons (k := k) (n := n) (x := x) (r := r) u hm)
    cases d with
    | zero => exact hr.elim
    | succ d =>
    have hks : k.size ≤ 140737488351232 ∧ x.size ≤ 140737488351232 := by obtain ⟨_, _, _, h1, h2, _⟩ := hr; exact ⟨h1, h2⟩
    obtain ⟨a, c, rfl, hkl⟩ := hr.kidsL
    obtain ⟨u0, u1, u2, u3, rfl⟩ := hr'.agg
    obtain ⟨k', n', x', a', c', rfl, rfl, rfl, rfl⟩ := hr'.shape
    have HK := hid hkl
    have HKS := hid hks
    have HR' := hid hr'
    have HIH := hid ih
    have HI := hid hI
    have HAT := hid hat'
    have hl' : (ks.length : Int) ≤ 140737488355328 := by have := hkl.1; omega
    have hl2 : ks.length * 64 ≤ 140737488351232 := hkl.1
    have hm' : (m : Int) < ks.length := by omega
    obtain ⟨pg, poff, rfl, hpc⟩ := hI.cell.2 0 (by simp)
    simp only [List.getElem_cons_zero, Nat.add_zero] at hpc
    obtain ⟨pl, hpl⟩ : ∃ pl, ((m : Int) :: r).length = pl := ⟨_, rfl⟩
    have HPL := hid (show pl = r.length + 1 by rw [← hpl]; rfl)
    rw [hpl] at hb hcap ⊢
    have hpl0 : 0 < pl := by rw [← hpl]; simp
    have hpl1 : (pl : Int) ≤ 140737488355328 := by omega
    have hpl2 : (1 : Int) ≤ pl := by omega
    clear hpl
    clear hr hr' hkl hks ih hI hat' hat
    generalize (T.kids u).length = ku at *
    obtain ⟨g, off, rfl, hg, hcs⟩ : ∃ g off, a = some ⟨g, off, none⟩ ∧ K g ∧ ∀ j, (h : j < ks.length) → ∃ u0 u1 u2 u3, Four w g (off + j * 4) u0 u1 u2 u3 ∧ Rd K w d (.agg #[u0, u1, u2, u3]) ks[j] := by
      rcases HK.out.2 with h0 | ⟨g, off, ha, hg, hc⟩
      · subst h0; exact absurd hm (Nat.not_lt_zero _)
      · exact ⟨g, off, ha, hg, hc⟩
    obtain ⟨L, hLl, hLc, hL1, hLk⟩ := cells_list hcs
    have HLL := hid hLl
    have HLC := hid hLc
    have HL1 := hid hL1
    have HLK := hid hLk
    have HG := hid hg
    clear hcs hLl hLc hL1 hLk hg
    have h0 : ((pl : Int) == 0) = false := by rw [beq_eq_false_iff_ne]; omega
    obtain ⟨i0, hi0, hz0, hz1, hz2⟩ := info_parts treeInfo
    obtain ⟨W, hW⟩ : ∃ W, ((w.alloc (.cells #[.string k, .int .i64 n, .string x, .slice (some ⟨g, off, none⟩) ks.length c] 26)).alloc (.cells #[.string k', .int .i64 n', .string x', .slice a' ku c'] 26)).alloc (.cells #[.string ⟨#[]⟩, .int .i64 0, .string ⟨#[]⟩, .slice none 0 0] 26) = W := ⟨_, rfl⟩
    have HXW := hid (show Ext w W from hW ▸ Ext.alloc3 _ _ _ _)
    have hsW : W.heap.size = w.heap.size + 3 := by rw [← hW]; simp
    have HNEWS := hid (show ∀ (e : Nat) (u : Value), L[e]? = some u → W.cell? ((⟨g, off, none⟩ : Addr).add e) = some u from fun e u he => by
      rw [add_none]
      exact (HXW.out.kp (fun _ => True)).cell (HLC.out e u he) trivial)
    have xr2 : W.ownsRow (w.heap.size + 3) 26 4 (.slice none 0 0) 0 [] := World.ownsRow_nil _ _ _ _
    have hgw : g < w.heap.size := by
      have h := HLC.out 0 _ (List.getElem?_eq_getElem (by rw [HLL.out]; omega))
      exact lt_of_cell h
    have HBD := hid (And.intro hb hcap)
    clear hb
    have HBT := hid (show W.heap[w.heap.size]? = some (.cells #[.string k, .int .i64 n, .string x, .slice (some ⟨g, off, none⟩) ks.length c] 26) from hW ▸ blkOld _ (blkOld _ (blk0 _ _)))
    have HBU := hid (show W.heap[w.heap.size + 1]? = some (.cells #[.string k', .int .i64 n', .string x', .slice a' ku c'] 26) from hW ▸ blkOld _ (blk1 _ _ _))
    have HBR := hid (show W.heap[w.heap.size + 1 + 1]? = some (.cells #[.string ⟨#[]⟩, .int .i64 0, .string ⟨#[]⟩, .slice none 0 0] 26) from hW ▸ blk2 _ _ _ _)
    obtain ⟨t0, t1, t2, t3⟩ := four_of HBT.out
    have HK9 := hid (show ∀ w9 : World, W.grownBy w9 (Value.slice none 0 0).ownBlock → Ext W w9 from fun w9 hg => ⟨hg.os, hg.tape, hg.output, hg.size, fun q hq => hg.block q hq (fun e => by cases e)⟩)
    go_enter Try.func61, Try.ntmps61
    go_wp2_with (at_builtin; refine wpList_append_own_at _ rfl _ _ 24 rfl (w.heap.size + 3) 26 i0 (.agg #[.string ⟨#[]⟩, .int .i64 0, .string ⟨#[]⟩, .slice none 0 0]) 4 64 Try.underlying24 hi0 hz0 hz1 hz2 rfl (by decide) _ _ _ rfl xr2 ⟨g, off, none⟩ ks.length c L rfl HLL.out HNEWS.out HL1.out (by unfold maxLen; omega) (by omega) (by omega) ?_; intro v9 w9 hown9 hgrow9 _ hat9; simp only [Nat.zero_add, List.nil_append] at hown9; obtain ⟨g9, c9, cur, rfl, hge9, hcur9, hcs9, htk9⟩ := row4_full hown9 (show 0 < ks.length by omega))
    have HX9 := hid (HK9.out w9 hgrow9)
    have HXX := hid (HXW.out.trans HX9.out)
    obtain ⟨b0, b1, b2, b3, l0, l1, l2, l3, hkr⟩ := HLK.out m hm
    obtain ⟨k4, n4, x4, a4, c4, rfl, rfl, rfl, rfl⟩ := hkr.shape
    have HKR := hid hkr
    have HAT9 := hid (show ∀ (e : Nat) (u : Value), L[e]? = some u → cur[e]? = some u from fun e u he => by
      have h1 := (List.getElem?_eq_some_iff.1 he).1
      have h2 : (cur.toList.take (ks.length * 4))[e]? = some u := by rw [htk9]; exact he
      rw [List.getElem?_take_of_lt (by rw [← HLL.out]; exact h1)] at h2
      simpa using h2)
    have m0 := cell_of hcur9 (HAT9.out _ _ l0)
    have m1 := cell_of hcur9 (HAT9.out _ _ l1)
    have m2 := cell_of hcur9 (HAT9.out _ _ l2)
    have m3 := cell_of hcur9 (HAT9.out _ _ l3)
    have hp9 := (HXX.out.kp (fun _ => True)).cell hpc trivial
    obtain ⟨q0, q1, q2, q3⟩ := four_of (HX9.out.block HBU.out)
    have hgw9 := lt_of_cell m0
    generalize hkl4 : (T.kids ks[m]).length = kl4 at m3 HKR
    clear hkr l0 l1 l2 l3 hkl4 t0 t1 t2 t3 hgrow9 hat9
    have HSK := hid (show ∀ W', Ext w9 W' → W'.cell? ⟨pg, poff, none⟩ = some (.int .i64 m) ∧ W'.cell? ⟨g9, m * 4, none⟩ = some (.string k4) ∧ W'.cell? ⟨g9, m * 4 + 1, none⟩ = some (.int .i64 n4) ∧ W'.cell? ⟨g9, m * 4 + 2, none⟩ = some (.string x4) ∧ W'.cell? ⟨g9, m * 4 + 3, none⟩ = some (.slice a4 kl4 c4) ∧ W'.cell? ⟨w.heap.size + 1, 0, none⟩ = some (.string k') ∧ W'.cell? ⟨w.heap.size + 1, 1, none⟩ = some (.int .i64 n') ∧ W'.cell? ⟨w.heap.size + 1, 2, none⟩ = some (.string x') ∧ W'.cell? ⟨w.heap.size + 1, 3, none⟩ = some (.slice a' ku c') from fun W' Y => ⟨(Y.kp (fun _ => True)).cell hp9 trivial, (Y.kp (fun _ => True)).cell m0 trivial, (Y.kp (fun _ => True)).cell m1 trivial, (Y.kp (fun _ => True)).cell m2 trivial, (Y.kp (fun _ => True)).cell m3 trivial, (Y.kp (fun _ => True)).cell q0 trivial, (Y.kp (fun _ => True)).cell q1 trivial, (Y.kp (fun _ => True)).cell q2 trivial, (Y.kp (fun _ => True)).cell q3 trivial⟩)
    have HI9 := hid (show Ints w9 (.slice (if pc = 1 then some ⟨pg, poff, none⟩ else some ⟨pg, poff + 1, none⟩) r.length (pc - 1)) r by
      have hpl := HPL.out
      rcases HI.out with ⟨_, h⟩ | ⟨g1, o1, c1, he, hc⟩
      · cases h
      · simp only [Value.slice.injEq, Option.some.injEq, Addr.mk.injEq, and_true] at he
        obtain ⟨⟨rfl, rfl⟩, _⟩ := he
        by_cases h1 : pc = 1
        · have hr0 : r = [] := List.eq_nil_of_length_eq_zero (by omega)
          subst hr0
          exact Ints.nil _ _ _
        · rw [if_neg h1]
          refine .inr ⟨pg, poff + 1, pc - 1, rfl, fun j u hu => ?_⟩
          have := hc (j + 1) u (by simpa using hu)
          rw [show poff + 1 + j = poff + (j + 1) by omega]
          exact (HXX.out.kp (fun _ => True)).cell this trivial)
    have HC := hid (fun w1 (Y : Ext w9 w1) => HIH.out ks[m] u y _ _ d d' K K' w1 (if pc = 1 then some ⟨pg, poff, none⟩ else some ⟨pg, poff + 1, none⟩) (pc - 1) (HKR.out.later (HXX.out.trans Y)) (HR'.out.later (HXX.out.trans Y)) (HI9.out.later Y) (by have := HPL.out; have := HBD.out.1; omega) (by have := HPL.out; have := HBD.out.2; omega) HAT.out)
    rw [show r.length = pl - 1 by have := HPL.out; omega] at HC
    obtain ⟨PA, hPA⟩ : ∃ PA : Option Addr, (if pc = 1 then some ⟨pg, poff, none⟩ else some ⟨pg, poff + 1, none⟩) = PA := ⟨_, rfl⟩
    rw [hPA] at HC
    have HB9 := hid (And.intro (HX9.out.block HBT.out) (HX9.out.block HBR.out))
    go_wp2_with fail
    go_region_with
      (first | (go_at_call 61; refine (HC.out _ ((Ext.refl w9).drew)).mono ?_; rintro e w3 ⟨v2, d2, rfl, hr2, hy⟩; obtain ⟨y0, y1, y2, y3, rfl⟩ := hr2.agg; obtain ⟨k5, n5, x5, a5, c5, rfl, rfl, rfl, rfl⟩ := hr2.shape; have Y : Ext w9 w3 := Ext.trans ((Ext.refl w9).drew) hy; have SK := HSK.out w3 Y; have hg3 := Y.block hcur9; have z0 := frozen_of (i := m * 4) hg3; have z1 := frozen_of (i := m * 4 + 1) hg3; have z2 := frozen_of (i := m * 4 + 2) hg3; have z3 := frozen_of (i := m * 4 + 3) hg3; have HR2 := hid hr2; have HY := hid Y; clear hr2 hy; generalize (T.kids (T.put ks[m] r u)).length = kl5 at HR2; obtain ⟨s0, s1, s2, s3⟩ := four_of (Y.block HB9.out.1); obtain ⟨f0, f1, f2, f3⟩ := four_free (Y.block HB9.out.1); obtain ⟨r0, r1, r2, r3⟩ := four_of (Y.block HB9.out.2); obtain ⟨e0, e1, e2, e3⟩ := four_free (Y.block HB9.out.2)))
    all_goals
      go_wp2_with fail
      obtain ⟨⟨⟨d3, hr3⟩, hx3⟩, z0, z1, z2, z3⟩ := put_final (c9 := c9) (n := n) HKL.out.1 HKL.out.2 HXX.out HY.out hge9 hcur9 hcs9 HAT9.out HLK.out (HR2.out.mono (fun q _ h => h.imp id (Or.imp id (fun h => h)))) hm HKS.out hl2 HB9.out.2
      refine bodyPost_ret (v := .agg #[.string k, .int .i64 n, .string x, .slice (some ⟨g9, 0, none⟩) ks.length c9]) (by simp [results, Try.results61, go_sem, z0, z1, z2, z3]) rfl ?_
      exact ⟨_, d3, rfl, by rw [HPU.out]; exact hr3.mono (fun q _ h => HKM.out q h), hx3⟩
end Go.Proofs.Ythdmoghooaccgaa
/-
  The reference's Put, by a contract.
-/
namespace Go.Proofs.Ythdmoghooaccgaa
open Go.RowKit
def RPutF (w : World) (t : T) (p : List Int) (u : T) (e : Ending) (w' : World) : Prop :=
  Ext w w' ∧ ((¬ (t.small ∧ u.small) ∧ e = .returned (.tuple #[zeroTree, .int .i64 2])) ∨ (t.small ∧ u.small ∧ T.at? t p = none ∧ e = .returned (.tuple #[zeroTree, .int .i64 23])) ∨
    (t.small ∧ u.small ∧ (∃ y, T.at? t p = some y) ∧ ((¬ (T.put t p u).small ∧ e = .returned (.tuple #[zeroTree, .int .i64 2])) ∨ ((T.put t p u).small ∧ ∃ d, NewR w d (T.put t p u) e w'))))
set_option maxRecDepth 100000 in
set_option maxHeartbeats 2000000 in
theorem refPut_any {K K' : Nat → Prop} {d d' : Nat} {v v' : Value} {t u : T} (w : World) (pa : Option Addr) (pc : Nat) (p : List Int) (hr : Rd K w d v t) (hr' : Rd K' w d' v' u) (hI : Ints w (.slice pa p.length pc) p) (hb : p.length * 8 ≤ 140737488355328) (hcap : p.length ≤ pc) : Calls Try.prog 39 #[v, .slice pa p.length pc, v'] w (RPutF w t p u) := by
  obtain ⟨u0, u1, u2, u3, rfl⟩ := hr.agg
  obtain ⟨k, n, x, a, c, rfl, rfl, rfl, rfl⟩ := hr.shape
  obtain ⟨u0, u1, u2, u3, rfl⟩ := hr'.agg
  obtain ⟨k', n', x', a', c', rfl, rfl, rfl, rfl⟩ := hr'.shape
  have C1 := hid (fun w1 (h : Ext w w1) => refSmall_any w1 (hr.later h))
  have C2 := hid (fun w1 (h : Ext w w1) => refSmall_any w1 (hr'.later h))
  have C3 := hid (fun w1 (h : Ext w w1) => refAt_any w1 pa pc p (hr.later h) (hI.later h) hb)
  have C4 := hid (fun w1 y (h : Ext w w1) (hy : T.at? t p = some y) => rput_any p t u y _ _ d d' (· < w.heap.size) (· < w.heap.size) w1 pa pc (hr.low.later h) (hr'.low.later h) (hI.later h) hb hcap hy)
  clear hr hr' hI
  generalize (T.kids t).length = kt at *
  generalize (T.kids u).length = ku at *
  obtain ⟨W, hW⟩ : ∃ W, ((w.alloc (.cells #[.string k, .int .i64 n, .string x, .slice a kt c] 26)).alloc (.cells #[.string k', .int .i64 n', .string x', .slice a' ku c'] 26)).alloc (.cells #[.string ⟨#[]⟩, .int .i64 0, .string ⟨#[]⟩, .slice none 0 0] 26) = W := ⟨_, rfl⟩
  have HXW := hid (show Ext w W from hW ▸ Ext.alloc3 _ _ _ _)
  have hsW : W.heap.size = w.heap.size + 3 := by rw [← hW]; simp
  have HBT := hid (show W.heap[w.heap.size]? = some (.cells #[.string k, .int .i64 n, .string x, .slice a kt c] 26) from hW ▸ blkOld _ (blkOld _ (blk0 _ _)))
  have HBU := hid (show W.heap[w.heap.size + 1]? = some (.cells #[.string k', .int .i64 n', .string x', .slice a' ku c'] 26) from hW ▸ blkOld _ (blk1 _ _ _))
  have HBR := hid (show W.heap[w.heap.size + 1 + 1]? = some (.cells #[.string ⟨#[]⟩, .int .i64 0, .string ⟨#[]⟩, .slice none 0 0] 26) from hW ▸ blk2 _ _ _ _)
  obtain ⟨t0, t1, t2, t3⟩ := four_of HBT.out
  -- the end with a zero tree
  have HZ := hid (show ∀ (w1 : World) (e : Int), Ext W w1 → Ext w ((((w1.setCell ⟨w.heap.size + 1 + 1, 0, none⟩ (.string ⟨#[]⟩)).setCell ⟨w.heap.size + 1 + 1, 0 + 1, none⟩ (.int .i64 0)).setCell ⟨w.heap.size + 1 + 1, 0 + 2, none⟩ (.string ⟨#[]⟩)).setCell ⟨w.heap.size + 1 + 1, 0 + 3, none⟩ (.slice none 0 0)) from fun w1 e h => Kp.extOf (HXW.out.trans h) (Kp.set4 w1 (w.heap.size + 1 + 1) 0 (.string ⟨#[]⟩) (.int .i64 0) (.string ⟨#[]⟩) (.slice none 0 0)) (by omega))
  by_cases h1 : t.small
  · rw [decide_eq_true h1] at C1
    have HS1 := hid h1
    clear h1
    by_cases h2 : u.small
    · rw [decide_eq_true h2] at C2
      have HS2 := hid h2
      clear h2
      go_enter Try.func39, Try.ntmps39
      go_wp2_with fail
      refine (C1.out _ HXW.out).mono ?_
      rintro e w1 ⟨rfl, hx1⟩
      obtain ⟨p0, p1, p2, p3⟩ := four_of (hx1.block HBU.out)
      have HX1 := hid hx1
      clear hx1
      go_wp2_with fail
      refine (C2.out _ (HXW.out.trans HX1.out)).mono ?_
      rintro e w2 ⟨rfl, hx2⟩
      have HX2 := hid (HX1.out.trans hx2)
      obtain ⟨s0, s1, s2, s3⟩ := four_of (HX2.out.block HBT.out)
      clear hx2 p0 p1 p2 p3
      go_wp2_with fail
      refine (C3.out _ (HXW.out.trans HX2.out)).mono ?_
      rintro e w3 ⟨hx3, hcase⟩
      have HX3 := hid (HX2.out.trans hx3)
      clear hx3 s0 s1 s2 s3
      rcases hcase with ⟨hn, rfl⟩ | ⟨_, hat, rfl⟩ | ⟨_, y, dy, hat, vy, rfl, hry⟩
      · exact absurd HS1.out hn
      · have HAT := hid hat
        obtain ⟨q0, q1, q2, q3⟩ := four_of (blkOld (.cells #[.string ⟨#[]⟩, .int .i64 0, .string ⟨#[]⟩, .slice none 0 0] 26) (HX3.out.block HBR.out))
        obtain ⟨f0, f1, f2, f3⟩ := four_free (blkOld (.cells #[.string ⟨#[]⟩, .int .i64 0, .string ⟨#[]⟩, .slice none 0 0] 26) (HX3.out.block HBR.out))
        clear hat
        go_wp2_with fail
        have hbb := HX3.out.more (.cells #[.string ⟨#[]⟩, .int .i64 0, .string ⟨#[]⟩, .slice none 0 0] 26)
        obtain ⟨z0, z1, z2, z3⟩ := four_of (four_set (u0 := .string ⟨#[]⟩) (u1 := .int .i64 0) (u2 := .string ⟨#[]⟩) (u3 := .slice none 0 0) (hbb.block HBR.out))
        refine bodyPost_ret (v := .tuple #[zeroTree, .int .i64 23]) (by simp [results, Try.results39, go_sem, z0, z1, z2, z3]) rfl ?_
        exact ⟨HZ.out _ 0 hbb, .inr (.inl ⟨HS1.out, HS2.out, HAT.out, rfl⟩)⟩
      · obtain ⟨b0, b1, b2, b3, rfl⟩ := hry.agg
        obtain ⟨k2, n2, x2, a2, c2, rfl, rfl, rfl, rfl⟩ := hry.shape
        generalize (T.kids y).length = ky at *
        clear hry
        have HAT := hid hat
        clear hat
        have HX4 := hid (HX3.out.more (.cells #[.string k2, .int .i64 n2, .string x2, .slice a2 ky c2] 26))
        obtain ⟨s0, s1, s2, s3⟩ := four_of (HX4.out.block HBT.out)
        obtain ⟨p0, p1, p2, p3⟩ := four_of (HX4.out.block HBU.out)
        go_wp2_with fail
        refine (C4.out _ y (HXW.out.trans HX4.out) HAT.out).mono ?_
        rintro e w5 ⟨v5, d5, rfl, hr5, hx5⟩
        obtain ⟨b0, b1, b2, b3, rfl⟩ := hr5.agg
        obtain ⟨k5, n5, x5, a5, c5, rfl, rfl, rfl, rfl⟩ := hr5.shape
        generalize hkl : (T.kids (T.put t p u)).length = k5l at *
        have HX5 := hid (HX4.out.trans hx5)
        have HX6 := hid (HX5.out.more (.cells #[.string k5, .int .i64 n5, .string x5, .slice a5 k5l c5] 26))
        have HR6 := hid (hr5.later (Ext.alloc w5 (.cells #[.string k5, .int .i64 n5, .string x5, .slice a5 k5l c5] 26)))
        obtain ⟨m0, m1, m2, m3⟩ := four_of (blk0 w5 (.cells #[.string k5, .int .i64 n5, .string x5, .slice a5 k5l c5] 26))
        clear hr5 hx5 hkl s0 s1 s2 s3 p0 p1 p2 p3
        by_cases h3 : (T.put t p u).small
        · have HS3 := hid h3
          have C5 := hid (refSmall_any _ HR6.out)
          rw [decide_eq_true h3] at C5
          clear h3
          go_wp2_with fail
          refine C5.out.mono ?_
          rintro e w7 ⟨rfl, hx7⟩
          obtain ⟨s0, s1, s2, s3⟩ := four_of (hx7.block (blk0 w5 (.cells #[.string k5, .int .i64 n5, .string x5, .slice a5 k5l c5] 26)))
          have HX7 := hid (HX6.out.trans hx7)
          have C6 := hid (own_any d5 _ _ _ w7 (HR6.out.later hx7))
          clear hx7 m0 m1 m2 m3
          go_wp2_with fail
          refine C6.out.mono ?_
          rintro e w8 ⟨v8, rfl, hr8, hx8⟩
          obtain ⟨b0, b1, b2, b3, rfl⟩ := hr8.agg
          obtain ⟨k8, n8, x8, a8, c8, rfl, rfl, rfl, rfl⟩ := hr8.shape
          generalize (T.kids (T.put t p u)).length = k8l at *
          have HX8 := hid (HX7.out.trans hx8)
          have HR8 := hid hr8
          have hsz7 := HX7.out.size
          obtain ⟨q0, q1, q2, q3⟩ := four_of (HX8.out.block HBR.out)
          obtain ⟨f0, f1, f2, f3⟩ := four_free (HX8.out.block HBR.out)
          clear hr8 hx8 s0 s1 s2 s3
          go_wp2_with fail
          have hk4 := Kp.set4 w8 (w.heap.size + 1 + 1) 0 (.string k8) (.int .i64 n8) (.string x8) (.slice a8 k8l c8)
          obtain ⟨z0, z1, z2, z3⟩ := four_of (four_set (u0 := .string k8) (u1 := .int .i64 n8) (u2 := .string x8) (u3 := .slice a8 k8l c8) (HX8.out.block HBR.out))
          refine bodyPost_ret (v := .tuple #[.agg #[.string k8, .int .i64 n8, .string x8, .slice a8 k8l c8], .int .i64 0]) (by simp [results, Try.results39, go_sem, z0, z1, z2, z3]) rfl ?_
          exact ⟨Kp.extOf (HXW.out.trans HX8.out) hk4 (by omega), .inr (.inr ⟨HS1.out, HS2.out, ⟨y, HAT.out⟩, .inr ⟨HS3.out, d5, _, rfl, (HR8.out.keep (hk4.mono (fun q _ hq e => by have hq' : w7.heap.size ≤ q := hq; have e' : q = _ := e; omega))).mono (fun q _ hq => by have hq' : w7.heap.size ≤ q := hq; show w.heap.size ≤ q; omega)⟩⟩)⟩
        · have HS3 := hid h3
          have C5 := hid (refSmall_any _ HR6.out)
          rw [decide_eq_false h3] at C5
          clear h3
          go_wp2_with fail
          refine C5.out.mono ?_
          rintro e w7 ⟨rfl, hx7⟩
          have HX7 := hid (HX6.out.trans hx7)
          obtain ⟨q0, q1, q2, q3⟩ := four_of (HX7.out.block HBR.out)
          obtain ⟨f0, f1, f2, f3⟩ := four_free (HX7.out.block HBR.out)
          clear hx7 m0 m1 m2 m3
          go_wp2_with fail
          obtain ⟨z0, z1, z2, z3⟩ := four_of (four_set (u0 := .string ⟨#[]⟩) (u1 := .int .i64 0) (u2 := .string ⟨#[]⟩) (u3 := .slice none 0 0) (HX7.out.block HBR.out))
          refine bodyPost_ret (v := .tuple #[zeroTree, .int .i64 2]) (by simp [results, Try.results39, go_sem, z0, z1, z2, z3]) rfl ?_
          exact ⟨HZ.out _ 0 HX7.out, .inr (.inr ⟨HS1.out, HS2.out, ⟨y, HAT.out⟩, .inl ⟨HS3.out, rfl⟩⟩)⟩
    · rw [decide_eq_false h2] at C2
      have HS2 := hid h2
      clear h2
      go_enter Try.func39, Try.ntmps39
      go_wp2_with fail
      refine (C1.out _ HXW.out).mono ?_
      rintro e w1 ⟨rfl, hx1⟩
      obtain ⟨p0, p1, p2, p3⟩ := four_of (hx1.block HBU.out)
      have HX1 := hid hx1
      clear hx1
      go_wp2_with fail
      refine (C2.out _ (HXW.out.trans HX1.out)).mono ?_
      rintro e w2 ⟨rfl, hx2⟩
      have HX2 := hid (HX1.out.trans hx2)
      obtain ⟨q0, q1, q2, q3⟩ := four_of (HX2.out.block HBR.out)
      obtain ⟨f0, f1, f2, f3⟩ := four_free (HX2.out.block HBR.out)
      clear hx2 p0 p1 p2 p3
      go_wp2_with fail
      obtain ⟨z0, z1, z2, z3⟩ := four_of (four_set (u0 := .string ⟨#[]⟩) (u1 := .int .i64 0) (u2 := .string ⟨#[]⟩) (u3 := .slice none 0 0) (HX2.out.block HBR.out))
      refine bodyPost_ret (v := .tuple #[zeroTree, .int .i64 2]) (by simp [results, Try.results39, go_sem, z0, z1, z2, z3]) rfl ?_
      exact ⟨HZ.out _ 0 HX2.out, .inl ⟨fun h => HS2.out h.2, rfl⟩⟩
  · rw [decide_eq_false h1] at C1
    have HS := hid h1
    clear h1
    go_enter Try.func39, Try.ntmps39
    go_wp2_with fail
    refine (C1.out _ HXW.out).mono ?_
    rintro e w1 ⟨rfl, hx1⟩
    have HX1 := hid hx1
    obtain ⟨q0, q1, q2, q3⟩ := four_of (HX1.out.block HBR.out)
    obtain ⟨f0, f1, f2, f3⟩ := four_free (HX1.out.block HBR.out)
    clear hx1
    go_wp2_with fail
    obtain ⟨z0, z1, z2, z3⟩ := four_of (four_set (u0 := .string ⟨#[]⟩) (u1 := .int .i64 0) (u2 := .string ⟨#[]⟩) (u3 := .slice none 0 0) (HX1.out.block HBR.out))
    refine bodyPost_ret (v := .tuple #[zeroTree, .int .i64 2]) (by simp [results, Try.results39, go_sem, z0, z1, z2, z3]) rfl ?_
    exact ⟨HZ.out _ 0 HX1.out, .inl ⟨fun h => HS.out h.1, rfl⟩⟩
end Go.Proofs.Ythdmoghooaccgaa
