/-
  What Whole of the statements' Book holds while its lists grow and are written.
-/
import Derived.Test.YtbpbkihcfdnphaaDoorVKeep
namespace Go.Proofs.YtbpbkihcfdnphaaDoor
open Go.RowKit
/-- The mark of the list of that number; what spare room is written with. -/
abbrev mkV (i : Nat) : Value := .iface 58 (.int .i64 (-1 - (i : Int)))
abbrev spV : Value := .iface 79 (.string ⟨#[115, 112, 97, 114, 101]⟩)
def lenAt (rs : List (Nat × Nat × Nat)) (i : Nat) : Nat := (rs.getD i (0, 0, 0)).2.1
def capAt (rs : List (Nat × Nat × Nat)) (i : Nat) : Nat := (rs.getD i (0, 0, 0)).2.2
def nAt' (rs : List (Nat × Nat × Nat)) (i : Nat) : Nat := min (capAt rs i) (lenAt rs i + 70000)
theorem lenAt_eq {rs : List (Nat × Nat × Nat)} {i : Nat} (h : i < rs.length) : lenAt rs i = rs[i].2.1 := by simp [lenAt, List.getD_eq_getElem?_getD, h]
theorem capAt_eq {rs : List (Nat × Nat × Nat)} {i : Nat} (h : i < rs.length) : capAt rs i = rs[i].2.2 := by simp [capAt, List.getD_eq_getElem?_getD, h]
/-- The lengths while the list j has grown to m. -/
def fAt (rs : List (Nat × Nat × Nat)) (j m : Nat) (i : Nat) : Nat := if i < j then nAt' rs i else if i = j then m else lenAt rs i
/-- What the cells hold while the list j is written over up to m. -/
def pAt (rs : List (Nat × Nat × Nat)) (j m : Nat) (i k : Nat) : Value := if k < lenAt rs i ∨ i < j ∨ (i = j ∧ k < m) then mkV i else spV
structure WSt (w1 : World) (b : Nat) (a na : Option Addr) (lc nc : Nat) (sz : Int) (kv : Value) (rs : List (Nat × Nat × Nat)) (f : Nat → Nat) (P : Nat → Nat → Value) (wr : World) : Prop where
  box : wr.heap[b]? = some (.cells #[.slice a rs.length lc, .slice na rs.length nc, .int .i64 sz, kv] 51)
  row : ∀ i, (h : i < rs.length) → ∃ L cur, a = some ⟨L, 0, none⟩ ∧ wr.heap[L]? = some (.cells cur 61) ∧ cur[i]? = some (.slice (some ⟨rs[i].1, 0, none⟩) (f i) rs[i].2.2)
  num : ∀ i, (h : i < rs.length) → ∃ M cur, na = some ⟨M, 0, none⟩ ∧ wr.heap[M]? = some (.cells cur 3) ∧ cur[i]? = some (.int .i64 (rs[i].2.1 : Int))
  full : ∀ i, (h : i < rs.length) → ∃ cs, wr.heap[rs[i].1]? = some (.cells cs 30) ∧ cs.size = rs[i].2.2 ∧ ∀ k, k < f i → cs[k]? = some (P i k)
  kept : Kp (fun q => ¬ VBk b (.slice a rs.length lc) (.slice na rs.length nc) rs q) w1 wr
theorem rowAt_cell {w : World} {base n : Nat} {e : TypeId} {a : Option Addr} {c : Nat} {xs : List Value} (h : w.ownsRow base e 1 (.slice a n c) n xs) {i : Nat} {v : Value} (hi : i < n) (hv : xs[i]? = some v) : ∃ L cur, a = some ⟨L, 0, none⟩ ∧ w.heap[L]? = some (.cells cur e) ∧ cur[i]? = some v := by
  rcases h.2 with ⟨_, h0⟩ | ⟨g, cap, cur, e0, hb, hc, h1, h2, h3, h4⟩
  · omega
  · cases e0
    refine ⟨g, cur, rfl, hc, ?_⟩
    rw [← h4, List.getElem?_take_of_lt (by omega)] at hv
    simpa using hv
theorem VB.wst {w : World} {b base : Nat} {a na : Option Addr} {lc nc : Nat} {kv : Value} {rs : List (Nat × Nat × Nat)} {sz : Int} (h : VB w b base (.slice a rs.length lc) (.slice na rs.length nc) kv rs sz) : WSt w b a na lc nc sz kv rs (lenAt rs) (pAt rs 0 0) w where
  box := h.box
  row := fun i hi => rowAt_cell h.rowL hi (by simp [hi, lenAt_eq hi])
  num := fun i hi => rowAt_cell h.rowN hi (by simp [hi])
  full := fun i hi => by
    obtain ⟨_, _, _, _, cs, h1, h2, h3⟩ := h.full i hi
    refine ⟨cs, h1, h2, fun k hk => ?_⟩
    rw [h3 k (by rw [← lenAt_eq hi]; exact hk), pAt, if_pos (.inl hk)]
  kept := Kp.refl _ _
theorem WSt.later {w1 : World} {b : Nat} {a na : Option Addr} {lc nc : Nat} {sz : Int} {kv : Value} {rs : List (Nat × Nat × Nat)} {f : Nat → Nat} {P : Nat → Nat → Value} {wr w' : World} (h : WSt w1 b a na lc nc sz kv rs f P wr) (hx : Ext wr w') : WSt w1 b a na lc nc sz kv rs f P w' where
  box := hx.block h.box
  row := fun i hi => by obtain ⟨L, cur, h1, h2, h3⟩ := h.row i hi; exact ⟨L, cur, h1, hx.block h2, h3⟩
  num := fun i hi => by obtain ⟨L, cur, h1, h2, h3⟩ := h.num i hi; exact ⟨L, cur, h1, hx.block h2, h3⟩
  full := fun i hi => by obtain ⟨cs, h1, h2, h3⟩ := h.full i hi; exact ⟨cs, hx.block h1, h2, h3⟩
  kept := h.kept.trans (hx.kp _)
theorem WSt.same {w1 : World} {b : Nat} {a na : Option Addr} {lc nc : Nat} {sz : Int} {kv : Value} {rs : List (Nat × Nat × Nat)} {f f' : Nat → Nat} {P P' : Nat → Nat → Value} {wr : World} (h : WSt w1 b a na lc nc sz kv rs f P wr) (hf : ∀ i, i < rs.length → f i = f' i) (hP : ∀ i, i < rs.length → ∀ k, k < f' i → P i k = P' i k) : WSt w1 b a na lc nc sz kv rs f' P' wr where
  box := h.box
  row := fun i hi => by obtain ⟨L, cur, h1, h2, h3⟩ := h.row i hi; exact ⟨L, cur, h1, h2, by rw [← hf i hi]; exact h3⟩
  num := h.num
  full := fun i hi => by obtain ⟨cs, h1, h2, h3⟩ := h.full i hi; exact ⟨cs, h1, h2, fun k hk => by rw [h3 k (by rw [hf i hi]; exact hk), hP i hi k hk]⟩
  kept := h.kept
theorem fst_inj {rs : List (Nat × Nat × Nat)} (hn : (rs.map (·.1)).Nodup) {i j : Nat} (hi : i < rs.length) (hj : j < rs.length) (e : rs[i].1 = rs[j].1) : i = j := by
  have h := List.pairwise_iff_getElem.1 hn
  rcases Nat.lt_trichotomy i j with hl | hl | hl
  · exact absurd (by rw [List.getElem_map, List.getElem_map]; exact e) (h i j (by simpa using hi) (by simpa using hj) hl)
  · exact hl
  · exact absurd (by rw [List.getElem_map, List.getElem_map]; exact e.symm) (h j i (by simpa using hj) (by simpa using hi) hl)
/-- A cell of a list is written. -/
theorem WSt.put {w1 : World} {b : Nat} {a na : Option Addr} {lc nc : Nat} {sz : Int} {kv : Value} {rs : List (Nat × Nat × Nat)} {f : Nat → Nat} {P P' : Nat → Nat → Value} {wr w' : World} (h : WSt w1 b a na lc nc sz kv rs f P wr) (hn : (rs.map (·.1)).Nodup) {j : Nat} (hj : j < rs.length) {cs cs' : Array Value}
    (hg : wr.heap[rs[j].1]? = some (.cells cs 30)) (hk : Kp (· ≠ rs[j].1) wr w') (hg' : w'.heap[rs[j].1]? = some (.cells cs' 30)) (hs : cs'.size = cs.size) (hP : ∀ k, k < f j → cs'[k]? = some (P' j k)) (hQ : ∀ i, i < rs.length → i ≠ j → ∀ k, k < f i → P i k = P' i k) : WSt w1 b a na lc nc sz kv rs f P' w' := by
  have nb : b ≠ rs[j].1 := fun e => by have := ty_same h.box (e ▸ hg); revert this; decide
  refine ⟨hk.block' h.box nb, fun i hi => ?_, fun i hi => ?_, fun i hi => ?_, h.kept.chain hk (fun q _ hq e => hq (.inr (.inr (.inr (List.mem_map.2 ⟨_, List.getElem_mem hj, e.symm⟩)))))⟩
  · obtain ⟨L, cur, h1, h2, h3⟩ := h.row i hi
    exact ⟨L, cur, h1, hk.block' h2 (fun e => by have := ty_same h2 (e ▸ hg); revert this; decide), h3⟩
  · obtain ⟨L, cur, h1, h2, h3⟩ := h.num i hi
    exact ⟨L, cur, h1, hk.block' h2 (fun e => by have := ty_same h2 (e ▸ hg); revert this; decide), h3⟩
  · obtain ⟨ds, h1, h2, h3⟩ := h.full i hi
    by_cases e : i = j
    · subst e
      rw [hg] at h1
      injection h1 with h1
      injection h1 with h1
      exact ⟨cs', hg', by rw [hs, h1]; exact h2, hP⟩
    · exact ⟨ds, hk.block' h1 (fun e2 => e (fst_inj hn hi hj e2)), h2, fun k hk => by rw [h3 k hk, hQ i hi e k hk]⟩
/-- The row's own entry is written. -/
theorem WSt.entry {w1 : World} {b : Nat} {na : Option Addr} {lc nc : Nat} {sz : Int} {kv : Value} {rs : List (Nat × Nat × Nat)} {f f' : Nat → Nat} {P : Nat → Nat → Value} {wr : World} {L j : Nat} (h : WSt w1 b (some ⟨L, 0, none⟩) na lc nc sz kv rs f P wr) (hj : j < rs.length) (hf : ∀ i, i < rs.length → i ≠ j → f i = f' i)
    (hfull : ∃ cs, wr.heap[rs[j].1]? = some (.cells cs 30) ∧ cs.size = rs[j].2.2 ∧ ∀ k, k < f' j → cs[k]? = some (P j k)) : WSt w1 b (some ⟨L, 0, none⟩) na lc nc sz kv rs f' P (wr.setCell ⟨L, j, none⟩ (.slice (some ⟨rs[j].1, 0, none⟩) (f' j) rs[j].2.2)) := by
  obtain ⟨L', cur, e1, hL, hc⟩ := h.row j hj
  cases e1
  have k := Kp.set (K := (· ≠ L)) wr L j (.slice (some ⟨rs[j].1, 0, none⟩) (f' j) rs[j].2.2) (fun h => h rfl)
  have hsz : j < cur.size := by
    rcases Nat.lt_or_ge j cur.size with h | h
    · exact h
    · rw [Array.getElem?_eq_none h] at hc; cases hc
  refine ⟨k.block' h.box (fun e => by have := ty_same h.box (e ▸ hL); revert this; decide), fun i hi => ?_, fun i hi => ?_, fun i hi => ?_, h.kept.chain k (fun q _ hq e => hq (.inr (.inl (by rw [e]; rfl))))⟩
  · obtain ⟨L', cur', e2, h2, h3⟩ := h.row i hi
    cases e2
    rw [hL] at h2
    injection h2 with h2
    injection h2 with h2
    subst h2
    refine ⟨L, _, rfl, set_at hL j _, ?_⟩
    by_cases e : i = j
    · subst e; exact set_get _ hsz
    · rw [set_get_other _ e, h3, hf i hi e]
  · obtain ⟨M, cur', e2, h2, h3⟩ := h.num i hi
    exact ⟨M, cur', e2, k.block' h2 (fun e => by have := ty_same h2 (e ▸ hL); revert this; decide), h3⟩
  · have nL : rs[i].1 ≠ L := fun e => by obtain ⟨ds, h1, _⟩ := h.full i hi; have := ty_same h1 (e ▸ hL); revert this; decide
    by_cases e : i = j
    · subst e
      obtain ⟨cs, h1, h2, h3⟩ := hfull
      exact ⟨cs, k.block' h1 nL, h2, h3⟩
    · obtain ⟨ds, h1, h2, h3⟩ := h.full i hi
      exact ⟨ds, k.block' h1 nL, h2, fun k hk => h3 k (by rw [hf i hi e]; exact hk)⟩
/-- The law of an append within the room, in a region that draws. -/
theorem step_room {ops : Array Oper} {o : Oper} {ac : Act} {K : Act → World → Prop} {Q : Exit → Act → World → Prop} {E : Prop} (w : World) (hgd : o.guard = none) (x y : Operand)
    (ho : o.op = .call { callee := .builtin .append, args := #[x, y], argTypes := #[61, 61] }) (g m c : Nat) (cur : Array Value) (u : Value) (h1 : u.oneCell' = true) (hx : ac.eval x = .slice (some ⟨g, 0, none⟩) m c)
    (ad : Addr) (hy : ac.eval y = .slice (some ad) 1 1) (hnews : ∀ j v, [u][j]? = some v → w.cell? (ad.add j) = some v) (hg : w.heap[g]? = some (.cells cur 30)) (hroom : m + 1 ≤ c) (hfit : m + 1 ≤ cur.size)
    (h : ∀ cur' w', cur'.size = cur.size → (∀ k, k ≠ m → cur'[k]? = cur[k]?) → cur'[m]? = some u → w'.heap[g]? = some (.cells cur' 30) → Kp (· ≠ g) w w' → K (ac.put o.dst (.slice (some ⟨g, 0, none⟩) (m + 1) c)) w') :
    if Region.wanted o (yielded ops ac.tmps) = true then Oper.wp Tryd.prog o ac w K Q else E := by
  have hw : Region.wanted o (yielded ops ac.tmps) = true := by simp [Region.wanted, hgd]
  rw [if_pos hw]
  obtain ⟨ii, hii, hz0, hz1, hz2⟩ := info_parts valueInfo
  have hr := run_append_room (P := Tryd.prog) w 61 o.type 30 ii Tryd.underlying61 hii g m c cur hg ad 1 1 [u] (by rw [hz1]; rfl) hnews (fun v hv => by simp at hv; subst hv; exact h1) hroom (by rw [hz1]; simpa using hfit)
  rw [hz1] at hr
  have hcz := Array.length_toList (xs := cur)
  unfold Oper.wp execOp
  simp only [ho, resolve, invoke, builtin, Sem.run_bind, Sem.run_pure, Result.andThen_ok, List.map_toArray, List.map_cons, List.map_nil, hx, hy, hr]
  refine h _ _ ?_ (fun k hk => ?_) ?_ (setRow_heap _ g cur _ 30 (0, 0) hg) ⟨rfl, rfl, rfl, by simp, fun k hk hne => setRow_other _ g k _ hne⟩
  · simp
    omega
  · simp only [Nat.mul_one, List.length_cons, List.length_nil, Nat.zero_add, List.getElem?_toArray]
    rcases Nat.lt_or_gt_of_ne hk with h | h
    · rw [List.append_assoc, List.getElem?_append_left (by rw [List.length_take]; omega), List.getElem?_take_of_lt h]; simp
    · rw [List.getElem?_append_right (by simp; omega), List.getElem?_drop]
      simp only [List.length_append, List.length_take, List.length_cons, List.length_nil]
      rw [show m + 1 + (k - (min m cur.toList.length + (0 + 1))) = k by omega]
      simp
  · simp only [Nat.mul_one, List.getElem?_toArray]
    rw [List.append_assoc, List.getElem?_append_right (by rw [List.length_take]; omega), List.length_take, show m - min m cur.toList.length = 0 by omega]
    rfl
end Go.Proofs.YtbpbkihcfdnphaaDoor
