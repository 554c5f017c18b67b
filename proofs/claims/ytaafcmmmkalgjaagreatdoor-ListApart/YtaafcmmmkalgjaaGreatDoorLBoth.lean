/-
  Lists of values as what the operations of list give: values in a row and what they stand for.
-/
import Derived.Test.YtaafcmmmkalgjaaGreatDoorLWork
import Derived.Test.YtaafcmmmkalgjaaGreatDoorLZero
import Derived.Test.YtaafcmmmkalgjaaGreatDoorLAdd
import Derived.Test.YtaafcmmmkalgjaaGreatDoorRLeft
namespace Go.Proofs.YtaafcmmmkalgjaaGreatDoor
open Go.RowKit
theorem VRd.deeper {K : Nat → Prop} {w : World} : ∀ {d : Nat} {v : Value} {t : T}, VRd K w d v t → VRd K w (d + 1) v t
  | 0, _, _, h => h.elim
  | d + 1, v, .node k n x ks, h => by
    rcases h with h | h | h | h | ⟨h1, h2, h3, h4, a, c, h5, h6⟩
    · exact .inl h
    · exact .inr (.inl h)
    · exact .inr (.inr (.inl h))
    · exact .inr (.inr (.inr (.inl h)))
    · refine .inr (.inr (.inr (.inr ⟨h1, h2, h3, h4, a, c, h5, h6.imp id fun ⟨g, off, e, hg, hc⟩ => ⟨g, off, e, hg, fun j hj => ?_⟩⟩)))
      obtain ⟨u, hu, hr⟩ := hc j hj
      exact ⟨u, hu, VRd.deeper hr⟩
/-- Values and what they stand for. -/
def ValsR (w : World) (xs : List Value) (ks : List T) : Prop := xs.length = ks.length ∧ ∀ j, (h : j < ks.length) → ∃ d u, xs[j]? = some u ∧ VRd (fun _ => True) w d u ks[j]
theorem ValsR.nil (w : World) : ValsR w [] [] := ⟨rfl, fun _ h => absurd h (Nat.not_lt_zero _)⟩
theorem ValsR.later {w w' : World} {xs : List Value} {ks : List T} (h : ValsR w xs ks) (hx : Ext w w') : ValsR w' xs ks := ⟨h.1, fun j hj => by
  obtain ⟨d, u, h1, h2⟩ := h.2 j hj
  exact ⟨d, u, h1, h2.later hx⟩⟩
theorem ValsR.one {K : Nat → Prop} {w : World} {d : Nat} {u : Value} {t : T} (h : VRd K w d u t) : ValsR w [u] [t] := ⟨rfl, fun j hj => by
  obtain rfl : j = 0 := by simpa using hj
  exact ⟨d, u, rfl, h.mono (fun _ _ _ => trivial)⟩⟩
theorem ValsR.append {w : World} {xs ys : List Value} {ks ls : List T} (h : ValsR w xs ks) (h' : ValsR w ys ls) : ValsR w (xs ++ ys) (ks ++ ls) := by
  refine ⟨by rw [List.length_append, List.length_append, h.1, h'.1], fun j hj => ?_⟩
  by_cases hl : j < ks.length
  · obtain ⟨d, u, h1, h2⟩ := h.2 j hl
    refine ⟨d, u, by rw [List.getElem?_append_left (by rw [h.1]; exact hl)]; exact h1, ?_⟩
    rw [List.getElem_append_left hl]
    exact h2
  · rw [List.length_append] at hj
    obtain ⟨d, u, h1, h2⟩ := h'.2 (j - ks.length) (by omega)
    refine ⟨d, u, by rw [List.getElem?_append_right (by rw [h.1]; omega), h.1]; exact h1, ?_⟩
    rw [List.getElem_append_right (by omega)]
    exact h2
theorem ValsR.reverse {w : World} {xs : List Value} {ks : List T} (h : ValsR w xs ks) : ValsR w xs.reverse ks.reverse := by
  refine ⟨by rw [List.length_reverse, List.length_reverse, h.1], fun j hj => ?_⟩
  rw [List.length_reverse] at hj
  obtain ⟨d, u, h1, h2⟩ := h.2 (ks.length - 1 - j) (by omega)
  refine ⟨d, u, ?_, ?_⟩
  · rw [List.getElem?_reverse (by rw [h.1]; exact hj), h.1]
    exact h1
  · rw [List.getElem_reverse]
    exact h2
theorem ValsR.slice {w : World} {xs : List Value} {ks : List T} (h : ValsR w xs ks) (i k : Nat) : ValsR w ((xs.take k).drop i) ((ks.take k).drop i) := by
  refine ⟨by rw [List.length_drop, List.length_drop, List.length_take, List.length_take, h.1], fun j hj => ?_⟩
  rw [List.length_drop, List.length_take] at hj
  obtain ⟨d, u, h1, h2⟩ := h.2 (i + j) (by omega)
  refine ⟨d, u, ?_, ?_⟩
  · rw [List.getElem?_drop, List.getElem?_take_of_lt (by omega)]
    exact h1
  · rw [List.getElem_drop, List.getElem_take]
    exact h2
theorem ValsR.cells {w : World} {xs : List Value} {ks : List T} (h : ValsR w xs ks) : ∀ u ∈ xs, u.oneCell' = true := by
  intro u hu
  obtain ⟨j, hj, rfl⟩ := List.getElem_of_mem hu
  obtain ⟨d, v, h1, h2⟩ := h.2 j (by rw [← h.1]; exact hj)
  rw [List.getElem?_eq_getElem hj] at h1
  obtain ⟨τ, p, e⟩ := h2.iface
  rw [Option.some.inj h1, e]
  rfl
/-- As pairs: a type and a value. -/
theorem ValsR.pairs {w : World} {xs : List Value} {ks : List T} (h : ValsR w xs ks) : ∃ ps : List (TypeId × Value), ps.length = ks.length ∧ ps.map encV = xs := by
  have : ∀ xs : List Value, (∀ u ∈ xs, ∃ τ p, u = Value.iface τ p) → ∃ ps : List (TypeId × Value), ps.map encV = xs := by
    intro xs
    induction xs with
    | nil => exact fun _ => ⟨[], rfl⟩
    | cons u r ih =>
      intro hu
      obtain ⟨τ, p, rfl⟩ := hu u List.mem_cons_self
      obtain ⟨ps, rfl⟩ := ih (fun v hv => hu v (List.mem_cons_of_mem _ hv))
      exact ⟨(τ, p) :: ps, rfl⟩
  obtain ⟨ps, hp⟩ := this xs (fun u hu => by
    obtain ⟨j, hj, rfl⟩ := List.getElem_of_mem hu
    obtain ⟨d, v, h1, h2⟩ := h.2 j (by rw [← h.1]; exact hj)
    rw [List.getElem?_eq_getElem hj] at h1
    obtain ⟨τ, p, e⟩ := h2.iface
    exact ⟨τ, p, by rw [Option.some.inj h1, e]⟩)
  exact ⟨ps, by rw [← h.1, ← hp, List.length_map], hp⟩
theorem ValsR.value {w : World} {B : Nat} {v : Value} {xs : List Value} {ks : List T} (h : ValsR w xs ks) (ho : w.ownsRow B 35 1 v xs.length xs) (hn : ks.length * 16 ≤ 140737488351232) : ∃ d, VRd (fun _ => True) w d (.iface 81 v) (listT ks) := by
  rcases ho.2 with ⟨rfl, h0⟩ | ⟨g, cap, cur, rfl, _, hbk, h3, h4, h5, h6⟩
  · have e : ks = [] := List.eq_nil_of_length_eq_zero (by rw [← h.1]; exact h0)
    subst e
    exact ⟨1, .inr (.inr (.inr (.inr ⟨rfl, rfl, rfl, by decide, none, 0, rfl, .inl rfl⟩)))⟩
  · obtain ⟨d, hd⟩ := bound_max (P := fun j d => ∃ (h : j < ks.length), ∃ u, xs[j]? = some u ∧ VRd (fun _ => True) w d u ks[j]) (fun j d ⟨h, u, h1, h2⟩ => ⟨h, u, h1, h2.deeper⟩) ks.length (fun j hj => by
      obtain ⟨d, u, h1, h2⟩ := h.2 j hj
      exact ⟨d, hj, u, h1, h2⟩)
    refine ⟨d + 1, .inr (.inr (.inr (.inr ⟨rfl, rfl, rfl, hn, some ⟨g, 0, none⟩, cap, by rw [h.1], .inr ⟨g, 0, rfl, trivial, fun j hj => ?_⟩⟩)))⟩
    obtain ⟨_, u, h1, h2⟩ := hd j hj
    refine ⟨u, ?_, h2⟩
    rw [Nat.zero_add]
    refine cell_of hbk ?_
    rw [← h6, List.getElem?_take_of_lt (by rw [h.1]; omega)] at h1
    simpa using h1
/-- What comes of a list: the list, or too long. -/
def lonF (ks : List T) : Ans := if (listT ks).may then .good (listT ks) else .one 2
theorem lonF_two {ks : List T} (h : ¬ (listT ks).may) : lonF ks = .one 2 := by unfold lonF; rw [if_neg h]
theorem lonF_good {ks : List T} (h : (listT ks).may) : lonF ks = .good (listT ks) := by unfold lonF; rw [if_pos h]
theorem res_list {w0 w : World} {xs : List Value} {ks : List T} {e : Ending} (h : ListR w0 xs e w) (hv : ValsR w0 xs ks) (hn : ks.length * 16 ≤ 140737488351232) : ∃ V, e = .returned V ∧ ResR (AnsV (lonF ks)) w V ∧ Ext w0 w := by
  obtain ⟨v, rfl, ho, hx⟩ := h
  obtain ⟨d, hr⟩ := (hv.later hx).value ho hn
  refine ⟨_, rfl, .inr ⟨_, _, decide (listT ks).may, rfl, fun w1 hx1 => cmay_any w1 (hr.later hx1), fun w1 hx1 => ?_⟩, hx⟩
  by_cases hm : (listT ks).may
  · rw [decide_eq_true hm, if_pos rfl, lonF_good hm]
    exact ⟨hm, _, d, _, rfl, hr.later hx1⟩
  · rw [decide_eq_false hm, lonF_two hm]
    exact AnsV.one (by decide) w1
theorem res_one {K : Nat → Prop} {d : Nat} {w : World} {v : Value} {t : T} (h : VRd K w d v t) (hm : t.may) : ResR (AnsV (.good t)) w (.tuple #[v, .int .i64 0, .string ⟨#[]⟩]) := by
  obtain ⟨τ, p, rfl⟩ := h.iface
  refine .inr ⟨_, _, decide t.may, rfl, fun w1 hx1 => cmay_any w1 (h.later hx1), fun w1 hx1 => ?_⟩
  rw [decide_eq_true hm, if_pos rfl]
  exact ⟨hm, K, d, _, rfl, h.later hx1⟩
theorem res_bad {w : World} {c : Int} (hc : (c == 0) = false) : ResR (AnsV (.one c)) w (refX c ⟨#[]⟩) := .inl ⟨c, ⟨#[]⟩, hc, rfl, fun _ _ => ⟨hc, rfl⟩⟩
/-- A list in memory of its own. -/
theorem VOwn.list {w : World} {d : Nat} {v : Value} {t : T} {bs : List Nat} (h : VOwn w d v t bs) (h5 : t.kind = 5) : ∃ ks g c xs, t = listT ks ∧ v = .iface 81 (.slice (some ⟨g, 0, none⟩) ks.length c) ∧ ks.length ≤ c ∧ ks.length * 16 ≤ 140737488351232 ∧ ValsR w xs ks ∧ ∀ (j : Nat) (u : Value), xs[j]? = some u → w.cell? ⟨g, 0 + j, none⟩ = some u := by
  obtain ⟨k, n, x, ks⟩ := t
  obtain rfl : k = 5 := h5
  cases d with
  | zero => exact h.elim
  | succ d =>
    rcases h with ⟨h, _⟩ | ⟨h, _⟩ | ⟨h, _⟩ | ⟨h, _⟩ | ⟨_, rfl, rfl, h4, g, c, cs, bss, rfl, h6, h7, h8, _, _, hc⟩
    · exact absurd h (by decide)
    · exact absurd h (by decide)
    · exact absurd h (by decide)
    · exact absurd h (by decide)
    · have hsl : cs.toList.length = c := by simpa using h8
      refine ⟨ks, g, c, cs.toList.take ks.length, rfl, rfl, h6, h4, ⟨by rw [List.length_take, hsl]; omega, fun j hj => ?_⟩, fun j u hu => ?_⟩
      · obtain ⟨u, b, hu, _, ho⟩ := hc j hj
        exact ⟨d, u, by rw [List.getElem?_take_of_lt hj]; simpa using hu, ho.rd.mono (fun _ _ _ => trivial)⟩
      · rw [Nat.zero_add]
        have hj : j < ks.length := by
          have := (List.getElem?_eq_some_iff.1 hu).1
          rw [List.length_take] at this
          omega
        rw [List.getElem?_take_of_lt hj] at hu
        exact cell_of h7 (by simpa using hu)
theorem list_of {t : T} (h : t.may) (h5 : t.kind = 5) : t = listT t.kids := by
  have := T.wf_of t h.1
  obtain ⟨k, n, x, ks⟩ := t
  obtain rfl : k = 5 := h5
  have : T.wfP 5 n x.size ks.length := this
  unfold T.wfP at this
  have hx : n = 0 ∧ x.size = 0 := by omega
  obtain rfl := bytes_nil hx.2
  obtain rfl := hx.1
  rfl
theorem lint_of {t : T} (h : t.may) (h3 : t.kind = 3) : t = intT t.num := by
  have := T.wf_of t h.1
  obtain ⟨k, n, x, ks⟩ := t
  obtain rfl : k = 3 := h3
  have : T.wfP 3 n x.size ks.length := this
  unfold T.wfP at this
  have hx : x.size = 0 ∧ ks.length = 0 := by omega
  obtain rfl := List.eq_nil_of_length_eq_zero hx.2
  obtain rfl := bytes_nil hx.1
  rfl
theorem may_kid {ks : List T} (h : (listT ks).may) {j : Nat} (hj : j < ks.length) : ks[j].may := by
  obtain ⟨h1, h2, h3⟩ := h
  have e2 : (T.node 5 0 ⟨#[]⟩ ks).size = 1 + T.sizeL ks := by simp [T.size, size0]
  have e3 : (T.node 5 0 ⟨#[]⟩ ks).deep = 1 + T.deepL ks := by simp [T.deep]
  have h2' : (T.node 5 0 ⟨#[]⟩ ks).size ≤ 65536 := h2
  have h3' : (T.node 5 0 ⟨#[]⟩ ks).deep ≤ 64 := h3
  rw [e2] at h2'
  rw [e3] at h3'
  have a1 := T.sizeL_take ks j hj
  have a2 := T.sizeL_split ks (j + 1)
  have a3 := T.deepL_take ks j hj
  have a4 := T.deepL_split ks (j + 1)
  exact ⟨T.goodL_mem (show T.goodL ks from h1.2) (List.getElem_mem hj), by omega, by omega⟩
theorem len_may {ks : List T} (h : (listT ks).may) : ks.length ≤ 65535 := by
  have h2 : (T.node 5 0 ⟨#[]⟩ ks).size ≤ 65536 := h.2.1
  have e2 : (T.node 5 0 ⟨#[]⟩ ks).size = 1 + T.sizeL ks := by simp [T.size, size0]
  have : ∀ l : List T, l.length ≤ T.sizeL l := by
    intro l
    induction l with
    | nil => exact Nat.zero_le _
    | cons t r ih =>
      have := T.size_pos t
      simp only [List.length_cons, T.sizeL]
      omega
  have := this ks
  omega
end Go.Proofs.YtaafcmmmkalgjaaGreatDoor
/-
  Values in a row, each in memory of its own, no two of them sharing any; lists that are made of such.
-/
namespace Go.Proofs.YtaafcmmmkalgjaaGreatDoor
open Go.RowKit
/-- As often more levels as is wished. -/
theorem VOwn.deeper {w : World} : ∀ {d : Nat} {v : Value} {t : T} {bs : List Nat}, VOwn w d v t bs → VOwn w (d + 1) v t bs
  | 0, _, _, _, h => h.elim
  | d + 1, v, .node k n x ks, bs, h => by
    rcases h with h | h | h | h | ⟨h1, h2, h3, h4, g, c, cs, bss, h5, h6, h7, h8, rfl, h9, hc⟩
    · exact .inl h
    · exact .inr (.inl h)
    · exact .inr (.inr (.inl h))
    · exact .inr (.inr (.inr (.inl h)))
    · refine .inr (.inr (.inr (.inr ⟨h1, h2, h3, h4, g, c, cs, bss, h5, h6, h7, h8, rfl, h9, fun j hj => ?_⟩)))
      obtain ⟨u, b, hu, hb, ho⟩ := hc j hj
      exact ⟨u, b, hu, hb, VOwn.deeper ho⟩
/-- Values, each of its plain one, each in memory of its own: their blocks. -/
def OwnL (w : World) (us : List Value) (ts : List T) (bss : List (List Nat)) : Prop := us.length = ts.length ∧ bss.length = ts.length ∧ ∀ j, (h : j < ts.length) → ∃ d u b, us[j]? = some u ∧ bss[j]? = some b ∧ VOwn w d u ts[j] b
theorem OwnL.keep {w w' : World} {us : List Value} {ts : List T} {bss : List (List Nat)} (h : OwnL w us ts bss) (hk : Kp (· ∈ bss.flatten) w w') : OwnL w' us ts bss :=
  ⟨h.1, h.2.1, fun j hj => by
    obtain ⟨d, u, b, h1, h2, h3⟩ := h.2.2 j hj
    exact ⟨d, u, b, h1, h2, h3.keep (hk.mono fun k _ hk => List.mem_flatten.2 ⟨b, List.mem_of_getElem? h2, hk⟩)⟩⟩
theorem OwnL.later {w w' : World} {us : List Value} {ts : List T} {bss : List (List Nat)} (h : OwnL w us ts bss) (hx : Ext w w') : OwnL w' us ts bss := h.keep (hx.kp _)
theorem OwnL.lt {w : World} {us : List Value} {ts : List T} {bss : List (List Nat)} (h : OwnL w us ts bss) : ∀ b ∈ bss.flatten, b < w.heap.size := by
  intro b hb
  obtain ⟨l, hl, hbl⟩ := List.mem_flatten.1 hb
  obtain ⟨j, hj, rfl⟩ := List.getElem_of_mem hl
  obtain ⟨d, u, b', _, h2, h3⟩ := h.2.2 j (by rw [← h.2.1]; exact hj)
  rw [List.getElem?_eq_getElem hj] at h2
  cases h2
  exact h3.lt b hbl
theorem OwnL.vals {w : World} {us : List Value} {ts : List T} {bss : List (List Nat)} (h : OwnL w us ts bss) : ValsR w us ts :=
  ⟨h.1, fun j hj => by
    obtain ⟨d, u, b, h1, _, h3⟩ := h.2.2 j hj
    exact ⟨d, u, h1, h3.rd.mono (fun _ _ _ => trivial)⟩⟩
theorem OwnL.nil (w : World) : OwnL w [] [] [] := ⟨rfl, rfl, fun _ h => absurd h (Nat.not_lt_zero _)⟩
theorem OwnL.one {w : World} {d : Nat} {u : Value} {t : T} {b : List Nat} (h : VOwn w d u t b) : OwnL w [u] [t] [b] := ⟨rfl, rfl, fun j hj => by
  obtain rfl : j = 0 := by simp at hj; exact hj
  exact ⟨d, u, b, rfl, rfl, h⟩⟩
theorem OwnL.append {w : World} {us vs : List Value} {ts rs : List T} {bss css : List (List Nat)} (h : OwnL w us ts bss) (h' : OwnL w vs rs css) : OwnL w (us ++ vs) (ts ++ rs) (bss ++ css) := by
  refine ⟨by rw [List.length_append, List.length_append, h.1, h'.1], by rw [List.length_append, List.length_append, h.2.1, h'.2.1], fun j hj => ?_⟩
  have e1 := h.1
  have e2 := h.2.1
  by_cases hlt : j < ts.length
  · obtain ⟨d, u, b, h1, h2, h3⟩ := h.2.2 j hlt
    exact ⟨d, u, b, by rw [List.getElem?_append_left (by omega)]; exact h1, by rw [List.getElem?_append_left (by omega)]; exact h2, by rw [List.getElem_append_left hlt]; exact h3⟩
  · have hj2 : j - ts.length < rs.length := by rw [List.length_append] at hj; omega
    obtain ⟨d, u, b, h1, h2, h3⟩ := h'.2.2 (j - ts.length) hj2
    exact ⟨d, u, b, by rw [List.getElem?_append_right (by omega), e1]; exact h1, by rw [List.getElem?_append_right (by omega), e2]; exact h2, by rw [List.getElem_append_right (by omega)]; exact h3⟩
theorem OwnL.slice {w : World} {us : List Value} {ts : List T} {bss : List (List Nat)} (h : OwnL w us ts bss) (i k : Nat) : OwnL w ((us.take k).drop i) ((ts.take k).drop i) ((bss.take k).drop i) := by
  refine ⟨by rw [List.length_drop, List.length_drop, List.length_take, List.length_take, h.1], by rw [List.length_drop, List.length_drop, List.length_take, List.length_take, h.2.1], fun j hj => ?_⟩
  have hj' := hj
  rw [List.length_drop, List.length_take] at hj'
  obtain ⟨d, u, b, h1, h2, h3⟩ := h.2.2 (i + j) (by omega)
  refine ⟨d, u, b, ?_, ?_, ?_⟩
  · rw [List.getElem?_drop, List.getElem?_take_of_lt (by omega)]; exact h1
  · rw [List.getElem?_drop, List.getElem?_take_of_lt (by omega)]; exact h2
  · rw [List.getElem_drop, List.getElem_take]; exact h3
theorem OwnL.reverse {w : World} {us : List Value} {ts : List T} {bss : List (List Nat)} (h : OwnL w us ts bss) : OwnL w us.reverse ts.reverse bss.reverse := by
  have e1 := h.1
  have e2 := h.2.1
  refine ⟨by rw [List.length_reverse, List.length_reverse, e1], by rw [List.length_reverse, List.length_reverse, e2], fun j hj => ?_⟩
  have hj' := hj
  rw [List.length_reverse] at hj'
  obtain ⟨d, u, b, h1, h2, h3⟩ := h.2.2 (ts.length - 1 - j) (by omega)
  refine ⟨d, u, b, ?_, ?_, ?_⟩
  · rw [List.getElem?_reverse (by omega), e1]; exact h1
  · rw [List.getElem?_reverse (by omega), e2]; exact h2
  · rw [List.getElem_reverse]; exact h3
theorem flat_sub {a b : List (List Nat)} (h : a.Sublist b) : a.flatten.Sublist b.flatten := by
  induction h with
  | slnil => exact List.Sublist.refl _
  | cons x _ ih => rw [List.flatten_cons]; exact ih.trans (List.sublist_append_right _ _)
  | cons_cons x _ ih => rw [List.flatten_cons, List.flatten_cons]; exact (List.Sublist.refl x).append ih
theorem nodup_slice {bss : List (List Nat)} (h : bss.flatten.Nodup) (i k : Nat) : ((bss.take k).drop i).flatten.Nodup := by
  have hs : ((bss.take k).drop i).Sublist bss := (List.drop_sublist _ _).trans (List.take_sublist _ _)
  exact h.sublist (flat_sub hs)
theorem nodup_reverse {bss : List (List Nat)} (h : bss.flatten.Nodup) : bss.reverse.flatten.Nodup := by
  have hp : bss.reverse.flatten.Perm bss.flatten := (List.reverse_perm bss).flatten
  exact hp.nodup_iff.2 h
theorem nodup_two {bss : List (List Nat)} (h : bss.flatten.Nodup) {i j : Nat} (hij : i ≠ j) {a b : List Nat} (ha : bss[i]? = some a) (hb : bss[j]? = some b) : ∀ q ∈ a, q ∉ b := by
  intro q hq hqb
  have key : ∀ i j : Nat, i < j → ∀ a b : List Nat, bss[i]? = some a → bss[j]? = some b → q ∈ a → q ∈ b → False := fun i j hlt a b ha hb hq hqb => by
    have hj := (List.getElem?_eq_some_iff.1 hb).1
    have e : bss = bss.take j ++ bss.drop j := (List.take_append_drop j bss).symm
    rw [e, List.flatten_append, List.nodup_append] at h
    refine h.2.2 q (List.mem_flatten.2 ⟨a, ?_, hq⟩) q (List.mem_flatten.2 ⟨b, ?_, hqb⟩) rfl
    · refine List.mem_of_getElem? (i := i) ?_
      rw [List.getElem?_take_of_lt hlt]; exact ha
    · rw [List.getElem?_eq_getElem hj] at hb
      cases hb
      rw [List.drop_eq_getElem_cons hj]
      exact List.mem_cons_self
  rcases Nat.lt_or_gt_of_ne hij with hlt | hlt
  · exact key i j hlt a b ha hb hq hqb
  · exact key j i hlt b a hb ha hqb hq
theorem nodup_part {bss : List (List Nat)} (h : bss.flatten.Nodup) {j : Nat} {b : List Nat} (hb : bss[j]? = some b) : b.Nodup :=
  h.sublist (List.sublist_flatten_of_mem (List.mem_of_getElem? hb))
/-- A list value in memory of its own, or none at all. -/
def VOwnE (w : World) (d : Nat) (v : Value) (t : T) (bs : List Nat) : Prop := VOwn w d v t bs ∨ (v = .iface 81 (.slice none 0 0) ∧ t = listT [] ∧ bs = [])
theorem VOwnE.keep {w w' : World} {d : Nat} {v : Value} {t : T} {bs : List Nat} (h : VOwnE w d v t bs) (hk : Kp (· ∈ bs) w w') : VOwnE w' d v t bs := h.imp (fun h => h.keep hk) id
theorem VOwnE.later {w w' : World} {d : Nat} {v : Value} {t : T} {bs : List Nat} (h : VOwnE w d v t bs) (hx : Ext w w') : VOwnE w' d v t bs := h.keep (hx.kp _)
theorem VOwnE.lt {w : World} {d : Nat} {v : Value} {t : T} {bs : List Nat} (h : VOwnE w d v t bs) : ∀ b ∈ bs, b < w.heap.size := by
  rcases h with h | ⟨_, _, rfl⟩
  · exact h.lt
  · intro b hb; cases hb
theorem VOwnE.rd {w : World} {d : Nat} {v : Value} {t : T} {bs : List Nat} (h : VOwnE w d v t bs) : ∃ d, VRd (· ∈ bs) w d v t := by
  rcases h with h | ⟨rfl, rfl, rfl⟩
  · exact ⟨d, h.rd⟩
  · exact ⟨1, .inr (.inr (.inr (.inr ⟨rfl, rfl, rfl, by decide, none, 0, rfl, .inl rfl⟩)))⟩
/-- A row of one's own of such values: a list in memory of its own. -/
theorem OwnL.value {w : World} {B M : Nat} {v : Value} {us : List Value} {ks : List T} {bss : List (List Nat)} (h : OwnL w us ks bss) (hn : bss.flatten.Nodup) (hlo : ∀ b ∈ bss.flatten, M ≤ b ∧ b < B) (hMB : M ≤ B) (ho : w.ownsRow B 35 1 v us.length us) (hz : ks.length * 16 ≤ 140737488351232) :
    ∃ d bs, VOwnE w d (.iface 81 v) (listT ks) bs ∧ bs.Nodup ∧ ∀ b ∈ bs, M ≤ b := by
  rcases ho.2 with ⟨rfl, h0⟩ | ⟨g, cap, cur, rfl, hBg, hbk, h3, h4, h5, h6⟩
  · have e : ks = [] := List.eq_nil_of_length_eq_zero (by rw [← h.1]; exact h0)
    subst e
    exact ⟨1, [], .inr ⟨rfl, rfl, rfl⟩, List.nodup_nil, fun b hb => by cases hb⟩
  · obtain ⟨d, hd⟩ := bound_max (P := fun j d => ∃ (h : j < ks.length), ∃ u b, us[j]? = some u ∧ bss[j]? = some b ∧ VOwn w d u ks[j] b) (fun j d ⟨h, u, b, h1, h2, h3⟩ => ⟨h, u, b, h1, h2, h3.deeper⟩) ks.length (fun j hj => by
      obtain ⟨d, u, b, h1, h2, h3⟩ := h.2.2 j hj
      exact ⟨d, hj, u, b, h1, h2, h3⟩)
    refine ⟨d + 1, g :: bss.flatten, .inl (.inr (.inr (.inr (.inr ⟨rfl, rfl, rfl, hz, g, cap, cur, bss, by rw [h.1], by rw [← h.1]; exact h3, hbk, by rw [h5, Nat.mul_one], rfl, h.2.1, fun j hj => ?_⟩)))), ?_, ?_⟩
    · obtain ⟨_, u, b, h1, h2, h3'⟩ := hd j hj
      refine ⟨u, b, ?_, h2, h3'⟩
      rw [← h6, Nat.mul_one, List.getElem?_take_of_lt (by rw [h.1]; omega)] at h1
      simpa using h1
    · refine List.nodup_cons.2 ⟨fun hg => ?_, hn⟩
      have := (hlo g hg).2
      omega
    · intro b hb
      rcases List.mem_cons.1 hb with rfl | hb
      · omega
      · exact (hlo b hb).1
/-- A list in memory of its own, taken apart. -/
theorem VOwn.listO {w : World} {d : Nat} {v : Value} {t : T} {bs : List Nat} (h : VOwn w d v t bs) (h5 : t.kind = 5) : ∃ ks g c us bss, t = listT ks ∧ v = .iface 81 (.slice (some ⟨g, 0, none⟩) ks.length c) ∧ ks.length ≤ c ∧ ks.length * 16 ≤ 140737488351232 ∧ bs = g :: bss.flatten ∧ OwnL w us ks bss ∧ ∀ (j : Nat) (u : Value), us[j]? = some u → w.cell? ⟨g, 0 + j, none⟩ = some u := by
  obtain ⟨k, n, x, ks⟩ := t
  obtain rfl : k = 5 := h5
  cases d with
  | zero => exact h.elim
  | succ d =>
    rcases h with ⟨h, _⟩ | ⟨h, _⟩ | ⟨h, _⟩ | ⟨h, _⟩ | ⟨_, rfl, rfl, h4, g, c, cs, bss, rfl, h6, h7, h8, h9, h10, hc⟩
    · exact absurd h (by decide)
    · exact absurd h (by decide)
    · exact absurd h (by decide)
    · exact absurd h (by decide)
    · have hsl : cs.toList.length = c := by simpa using h8
      refine ⟨ks, g, c, cs.toList.take ks.length, bss, rfl, rfl, h6, h4, h9, ⟨by rw [List.length_take, hsl]; omega, h10, fun j hj => ?_⟩, fun j u hu => ?_⟩
      · obtain ⟨u, b, h1, h2, h3⟩ := hc j hj
        exact ⟨d, u, b, by rw [List.getElem?_take_of_lt hj]; simpa using h1, h2, h3⟩
      · have hj := (List.getElem?_eq_some_iff.1 hu).1
        rw [List.length_take, hsl] at hj
        rw [List.getElem?_take_of_lt (by omega)] at hu
        rw [Nat.zero_add]
        exact cell_of h7 (by simpa using hu)
end Go.Proofs.YtaafcmmmkalgjaaGreatDoor
/-
  list.Work on any operation and any plain values: the answer as data.
-/
namespace Go.Proofs.YtaafcmmmkalgjaaGreatDoor
open Go.RowKit
def nOf : ByteArray := ⟨#[108, 105, 115, 116, 46, 111, 102]⟩
theorem listFind0 : kdFind listK nOf = some listK[0] := by kernel_rfl
theorem entOf : Enters 38 := fun a w => by simp [callFunc, go_sem, Tryz.func38]; rfl
theorem cntLOf (n : Nat) : cntOk listK[0] n = true := by
  unfold cntOk
  show (decide (((0 : Int)) ≤ n) && (decide (((-1 : Int)) < 0) || decide ((n : Int) ≤ -1))) = true
  rw [Bool.and_eq_true, Bool.or_eq_true, decide_eq_true_eq, decide_eq_true_eq]
  exact ⟨by omega, .inl (by decide)⟩
theorem cntLSize (n : Nat) : cntOk listK[1] n = decide (n = 1) := by
  unfold cntOk
  show (decide (((1 : Int)) ≤ n) && (decide (((1 : Int)) < 0) || decide ((n : Int) ≤ 1))) = _
  rw [Bool.eq_iff_iff]
  simp only [Bool.and_eq_true, Bool.or_eq_true, decide_eq_true_eq]
  omega
theorem rightLSize : ∀ k1 : Int, (k1 = 1 ∨ k1 = 2 ∨ k1 = 3 ∨ k1 = 4 ∨ k1 = 5) → rightB listK[1].signs.data.toList [k1] = (decide (k1 = 5)) := by
  rintro k1 (rfl | rfl | rfl | rfl | rfl) <;> kernel_rfl
theorem cntLAt (n : Nat) : cntOk listK[2] n = decide (n = 2) := by
  unfold cntOk
  show (decide (((2 : Int)) ≤ n) && (decide (((2 : Int)) < 0) || decide ((n : Int) ≤ 2))) = _
  rw [Bool.eq_iff_iff]
  simp only [Bool.and_eq_true, Bool.or_eq_true, decide_eq_true_eq]
  omega
theorem rightLAt : ∀ k1 k2 : Int, (k1 = 1 ∨ k1 = 2 ∨ k1 = 3 ∨ k1 = 4 ∨ k1 = 5) → (k2 = 1 ∨ k2 = 2 ∨ k2 = 3 ∨ k2 = 4 ∨ k2 = 5) → rightB listK[2].signs.data.toList [k1, k2] = (decide (k1 = 5) && decide (k2 = 3)) := by
  rintro k1 k2 (rfl | rfl | rfl | rfl | rfl) (rfl | rfl | rfl | rfl | rfl) <;> kernel_rfl
def nJoin : ByteArray := ⟨#[108, 105, 115, 116, 46, 106, 111, 105, 110]⟩
theorem listFind3 : kdFind listK nJoin = some listK[3] := by kernel_rfl
theorem entJoin : Enters 42 := fun a w => by simp [callFunc, go_sem, Tryz.func42]; rfl
theorem cntLJoin (n : Nat) : cntOk listK[3] n = decide (n = 2) := by
  unfold cntOk
  show (decide (((2 : Int)) ≤ n) && (decide (((2 : Int)) < 0) || decide ((n : Int) ≤ 2))) = _
  rw [Bool.eq_iff_iff]
  simp only [Bool.and_eq_true, Bool.or_eq_true, decide_eq_true_eq]
  omega
theorem rightLJoin : ∀ k1 k2 : Int, (k1 = 1 ∨ k1 = 2 ∨ k1 = 3 ∨ k1 = 4 ∨ k1 = 5) → (k2 = 1 ∨ k2 = 2 ∨ k2 = 3 ∨ k2 = 4 ∨ k2 = 5) → rightB listK[3].signs.data.toList [k1, k2] = (decide (k1 = 5) && decide (k2 = 5)) := by
  rintro k1 k2 (rfl | rfl | rfl | rfl | rfl) (rfl | rfl | rfl | rfl | rfl) <;> kernel_rfl
def nAdd : ByteArray := ⟨#[108, 105, 115, 116, 46, 97, 100, 100]⟩
theorem listFind4 : kdFind listK nAdd = some listK[4] := by kernel_rfl
theorem entAdd : Enters 43 := fun a w => by simp [callFunc, go_sem, Tryz.func43]; rfl
theorem cntLAdd (n : Nat) : cntOk listK[4] n = decide (n = 2) := by
  unfold cntOk
  show (decide (((2 : Int)) ≤ n) && (decide (((2 : Int)) < 0) || decide ((n : Int) ≤ 2))) = _
  rw [Bool.eq_iff_iff]
  simp only [Bool.and_eq_true, Bool.or_eq_true, decide_eq_true_eq]
  omega
theorem rightLAdd : ∀ k1 k2 : Int, (k1 = 1 ∨ k1 = 2 ∨ k1 = 3 ∨ k1 = 4 ∨ k1 = 5) → (k2 = 1 ∨ k2 = 2 ∨ k2 = 3 ∨ k2 = 4 ∨ k2 = 5) → rightB listK[4].signs.data.toList [k1, k2] = (decide (k1 = 5)) := by
  rintro k1 k2 (rfl | rfl | rfl | rfl | rfl) (rfl | rfl | rfl | rfl | rfl) <;> kernel_rfl
def nCut : ByteArray := ⟨#[108, 105, 115, 116, 46, 99, 117, 116]⟩
theorem listFind5 : kdFind listK nCut = some listK[5] := by kernel_rfl
theorem entCut : Enters 44 := fun a w => by simp [callFunc, go_sem, Tryz.func44]; rfl
theorem cntLCut (n : Nat) : cntOk listK[5] n = decide (n = 3) := by
  unfold cntOk
  show (decide (((3 : Int)) ≤ n) && (decide (((3 : Int)) < 0) || decide ((n : Int) ≤ 3))) = _
  rw [Bool.eq_iff_iff]
  simp only [Bool.and_eq_true, Bool.or_eq_true, decide_eq_true_eq]
  omega
theorem rightLCut : ∀ k1 k2 k3 : Int, (k1 = 1 ∨ k1 = 2 ∨ k1 = 3 ∨ k1 = 4 ∨ k1 = 5) → (k2 = 1 ∨ k2 = 2 ∨ k2 = 3 ∨ k2 = 4 ∨ k2 = 5) → (k3 = 1 ∨ k3 = 2 ∨ k3 = 3 ∨ k3 = 4 ∨ k3 = 5) → rightB listK[5].signs.data.toList [k1, k2, k3] = (decide (k1 = 5) && decide (k2 = 3) && decide (k3 = 3)) := by
  rintro k1 k2 k3 (rfl | rfl | rfl | rfl | rfl) (rfl | rfl | rfl | rfl | rfl) (rfl | rfl | rfl | rfl | rfl) <;> kernel_rfl
def nTurn : ByteArray := ⟨#[108, 105, 115, 116, 46, 116, 117, 114, 110]⟩
theorem listFind6 : kdFind listK nTurn = some listK[6] := by kernel_rfl
theorem entTurn : Enters 45 := fun a w => by simp [callFunc, go_sem, Tryz.func45]; rfl
theorem cntLTurn (n : Nat) : cntOk listK[6] n = decide (n = 1) := by
  unfold cntOk
  show (decide (((1 : Int)) ≤ n) && (decide (((1 : Int)) < 0) || decide ((n : Int) ≤ 1))) = _
  rw [Bool.eq_iff_iff]
  simp only [Bool.and_eq_true, Bool.or_eq_true, decide_eq_true_eq]
  omega
theorem rightLTurn : ∀ k1 : Int, (k1 = 1 ∨ k1 = 2 ∨ k1 = 3 ∨ k1 = 4 ∨ k1 = 5) → rightB listK[6].signs.data.toList [k1] = (decide (k1 = 5)) := by
  rintro k1 (rfl | rfl | rfl | rfl | rfl) <;> kernel_rfl
theorem cntLCount (n : Nat) : cntOk listK[7] n = decide (n = 1) := by
  unfold cntOk
  show (decide (((1 : Int)) ≤ n) && (decide (((1 : Int)) < 0) || decide ((n : Int) ≤ 1))) = _
  rw [Bool.eq_iff_iff]
  simp only [Bool.and_eq_true, Bool.or_eq_true, decide_eq_true_eq]
  omega
theorem rightLCount : ∀ k1 : Int, (k1 = 1 ∨ k1 = 2 ∨ k1 = 3 ∨ k1 = 4 ∨ k1 = 5) → rightB listK[7].signs.data.toList [k1] = (decide (k1 = 3)) := by
  rintro k1 (rfl | rfl | rfl | rfl | rfl) <;> kernel_rfl
theorem listAt8 {op : ByteArray} {k : Kd} {f : Nat} (h : kdFind listK op = some k) (hd : k.does = some f) : (op = nOf ∧ k = listK[0] ∧ f = 38) ∨ (op = nSize ∧ k = listK[1] ∧ f = 40) ∨ (op = nAt ∧ k = listK[2] ∧ f = 41) ∨ (op = nJoin ∧ k = listK[3] ∧ f = 42) ∨ (op = nAdd ∧ k = listK[4] ∧ f = 43) ∨ (op = nCut ∧ k = listK[5] ∧ f = 44) ∨ (op = nTurn ∧ k = listK[6] ∧ f = 45) ∨ (op = nCount ∧ k = listK[7] ∧ f = 46) := by
  have h1 := List.mem_of_find?_eq_some h
  have h2 := List.find?_some h
  obtain ⟨i, hi, rfl⟩ := List.getElem_of_mem h1
  have h3 := (of_decide_eq_true h2).symm
  rw [listLen] at hi
  match i, hi with
  | 0, _ => exact .inl ⟨h3, rfl, (Option.some.inj hd).symm⟩
  | 1, _ => exact .inr (.inl ⟨h3, rfl, (Option.some.inj hd).symm⟩)
  | 2, _ => exact .inr (.inr (.inl ⟨h3, rfl, (Option.some.inj hd).symm⟩))
  | 3, _ => exact .inr (.inr (.inr (.inl ⟨h3, rfl, (Option.some.inj hd).symm⟩)))
  | 4, _ => exact .inr (.inr (.inr (.inr (.inl ⟨h3, rfl, (Option.some.inj hd).symm⟩))))
  | 5, _ => exact .inr (.inr (.inr (.inr (.inr (.inl ⟨h3, rfl, (Option.some.inj hd).symm⟩)))))
  | 6, _ => exact .inr (.inr (.inr (.inr (.inr (.inr (.inl ⟨h3, rfl, (Option.some.inj hd).symm⟩))))))
  | 7, _ => exact .inr (.inr (.inr (.inr (.inr (.inr (.inr (⟨h3, rfl, (Option.some.inj hd).symm⟩)))))))
  | 8, _ => cases hd
  | 9, _ => cases hd
  | n + 10, h => exact absurd h (by omega)

theorem nameOk_a (k : Int) : nameOk [97] k = true := by kernel_rfl
theorem rightGo_a (ins : List UInt8) : ∀ (ks : List Int) (first : Bool), rightGo true first [97] ins false ks = true
  | [], _ => by simp [rightGo]
  | k :: ks, true => by rw [rightGo_first, nameOk_a, rightGo_a ins ks]; rfl
  | k :: ks, false => by rw [rightGo_rest, nameOk_a, rightGo_a ins ks]; rfl
theorem rightLOf (ks : List Int) : rightB listK[0].signs.data.toList ks = true := by
  unfold rightB
  rw [show restOf listK[0].signs.data.toList = true from by kernel_rfl, show (Lib.cut (insOf listK[0].signs.data.toList) [44, 32]).1 = [97] from by kernel_rfl, show (Lib.cut (insOf listK[0].signs.data.toList) [44, 32]).2.2 = false from by kernel_rfl]
  exact rightGo_a _ ks true
def sizeF : List T → Ans | [t] => .good (intT (t.kids.length : Int)) | _ => .one 1
def atF : List T → Ans | [t, u] => if u.num < 0 ∨ (t.kids.length : Int) ≤ u.num then .one 23 else .good (t.kids.getD u.num.toNat unitT) | _ => .one 1
def joinF : List T → Ans | [t, u] => lonF (t.kids ++ u.kids) | _ => .one 1
def addF : List T → Ans | [t, u] => lonF (t.kids ++ [u]) | _ => .one 1
def cutF : List T → Ans | [t, i, k] => if i.num < 0 ∨ k.num < i.num ∨ (t.kids.length : Int) < k.num then .one 23 else lonF ((t.kids.take k.num.toNat).drop i.num.toNat) | _ => .one 1
def turnF : List T → Ans | [t] => lonF t.kids.reverse | _ => .one 1
def countL : List T → Ans | [t] => countF t.num | _ => .one 1
/-- What an operation of the kit list comes to. -/
def listF (op : ByteArray) (ts : List T) : Ans := if op = nOf then lonF ts else if op = nSize then sizeF ts else if op = nAt then atF ts else if op = nJoin then joinF ts else if op = nAdd then addF ts else if op = nCut then cutF ts else if op = nTurn then turnF ts else countL ts
theorem listF_of (ts : List T) : listF nOf ts = lonF ts := by unfold listF; rw [if_pos rfl]
theorem listF_size (ts : List T) : listF nSize ts = sizeF ts := by unfold listF; rw [if_neg (by decide), if_pos rfl]
theorem listF_at (ts : List T) : listF nAt ts = atF ts := by unfold listF; rw [if_neg (by decide), if_neg (by decide), if_pos rfl]
theorem listF_join (ts : List T) : listF nJoin ts = joinF ts := by unfold listF; rw [if_neg (by decide), if_neg (by decide), if_neg (by decide), if_pos rfl]
theorem listF_add (ts : List T) : listF nAdd ts = addF ts := by unfold listF; rw [if_neg (by decide), if_neg (by decide), if_neg (by decide), if_neg (by decide), if_pos rfl]
theorem listF_cut (ts : List T) : listF nCut ts = cutF ts := by unfold listF; rw [if_neg (by decide), if_neg (by decide), if_neg (by decide), if_neg (by decide), if_neg (by decide), if_pos rfl]
theorem listF_turn (ts : List T) : listF nTurn ts = turnF ts := by unfold listF; rw [if_neg (by decide), if_neg (by decide), if_neg (by decide), if_neg (by decide), if_neg (by decide), if_neg (by decide), if_pos rfl]
theorem listF_count (ts : List T) : listF nCount ts = countL ts := by unfold listF; rw [if_neg (by decide), if_neg (by decide), if_neg (by decide), if_neg (by decide), if_neg (by decide), if_neg (by decide), if_neg (by decide)]
theorem list_one {ts : List T} (h : ts.length = 1) : ∃ t, ts = [t] := by
  rcases ts with _ | ⟨t, _ | ⟨u, r⟩⟩
  · simp at h
  · exact ⟨t, rfl⟩
  · simp at h
theorem list_two {ts : List T} (h : ts.length = 2) : ∃ t u, ts = [t, u] := by
  rcases ts with _ | ⟨t, _ | ⟨u, _ | ⟨v, r⟩⟩⟩
  · simp at h
  · simp at h
  · exact ⟨t, u, rfl⟩
  · simp at h
theorem list_three {ts : List T} (h : ts.length = 3) : ∃ t u v, ts = [t, u, v] := by
  rcases ts with _ | ⟨t, _ | ⟨u, _ | ⟨v, _ | ⟨x, r⟩⟩⟩⟩
  · simp at h
  · simp at h
  · simp at h
  · exact ⟨t, u, v, rfl⟩
  · simp at h
theorem VOCells.vals {w : World} {g : Nat} {ts : List T} (h : VOCells w g ts) : ∃ xs, ValsR w xs ts ∧ ∀ (j : Nat) (u : Value), xs[j]? = some u → w.cell? ⟨g, 0 + j, none⟩ = some u := by
  refine ⟨(List.range ts.length).map fun j => (w.cell? ⟨g, j, none⟩).getD .nilIface, ⟨by simp, fun j hj => ?_⟩, fun j u hu => ?_⟩
  · obtain ⟨d, v, bs, h1, h2⟩ := h j hj
    refine ⟨d, v, ?_, h2.rd.mono (fun _ _ _ => trivial)⟩
    rw [List.getElem?_map, List.getElem?_range hj]
    show some ((w.cell? ⟨g, j, none⟩).getD .nilIface) = some v
    rw [h1]
    rfl
  · rw [Nat.zero_add]
    have hj : j < ts.length := by
      have := (List.getElem?_eq_some_iff.1 hu).1
      simpa using this
    obtain ⟨d, v, bs, h1, h2⟩ := h j hj
    rw [List.getElem?_map, List.getElem?_range hj] at hu
    have hu' : some ((w.cell? ⟨g, j, none⟩).getD .nilIface) = some u := hu
    rw [h1] at hu'
    rw [h1]
    exact hu'
theorem VOCells.arg {w : World} {g : Nat} {ts : List T} (h : VOCells w g ts) {t : T} {j : Nat} (ht : ts[j]? = some t) : ∃ d v bs, w.cell? ⟨g, j, none⟩ = some v ∧ VOwn w d v t bs := by
  obtain ⟨hj, rfl⟩ := List.getElem?_eq_some_iff.1 ht
  exact h j hj
/-- list.Work: the answer as data. -/
theorem listWork_any (op : ByteArray) (ts : List T) (hlen : ts.length ≤ 1000000) (a : Option Addr) (c : Nat) (w : World) (hm : MaxAt w) (hp : PRow w a ts) : Calls Tryz.prog 8 #[.string op, .slice a ts.length c] w fun e w' => ∃ V, e = .returned V ∧ AnsV (ansOf listK op ts (listF op ts)) w' V ∧ Ext w w' := by
  refine workL_gen op a ts.length c w (AnsV (ansOf listK op ts (listF op ts))) fun w1 tb hx1 ht => ?_
  by_cases ho : op = nOf
  · subst ho
    refine (work_join listK tb nOf a c ts (AnsV (listF nOf ts)) w1 (by rw [listLen]; decide) ht (hm.later hx1) (hp.later hx1) hlen listK[0] 38 listFind0 rfl (show (0 : Int) ≤ ts.length by omega) (show (-1 : Int) < 0 by decide) ⟨rfl, Nat.le_of_ble_eq_true rfl⟩ ?_ entOf).mono fun e w' ⟨V, he, hq, h3, hx⟩ => ⟨V, he, ?_, h3, hx⟩
    · intro h4 h5 _ w2 g hx2 hv
      obtain ⟨xs, hvr, hcell⟩ := hv.vals
      have h := lofV_any g 0 ts.length xs w2 (by rw [hvr.1]; omega) hvr.cells hcell
      rw [hvr.1] at h
      rw [listF_of]
      exact h.mono fun e w' h => res_list h hvr (by omega)
    · refine ansOf_of (ks := listK) ?_
      unfold WorkQ
      rw [listFind0]
      show if cntOk listK[0] ts.length = false then V = refV 11 else if ∀ t ∈ ts, t.may then (if rightB listK[0].signs.data.toList (ts.map T.kind) = true then AnsV (listF nOf ts) w' V else V = refV 20) else V = refV 1
      rw [if_neg (by rw [cntLOf]; decide)]
      unfold JoinQ at hq
      split at hq
      · rename_i hall
        rw [if_pos hall, if_pos (rightLOf _)]
        split at hq
        · rw [if_pos (rightLOf _)] at hq
          exact hq
        · rename_i hno
          rw [hq, listF_of, lonF_two hno]
          exact AnsV.one (by decide) w'
      · rename_i hno
        rw [if_neg hno]
        exact hq
  · refine (work_own listK tb op a c ts (AnsV (listF op ts)) w1 (by rw [listLen]; decide) ht (hm.later hx1) (hp.later hx1) hlen ?_ ?_ ?_).mono fun e w' ⟨V, he, hq, h3, hx⟩ => ⟨V, he, ansOf_of hq, h3, hx⟩
    · intro k hk
      have h1 := List.mem_of_find?_eq_some hk
      have h2 := List.find?_some hk
      obtain ⟨i, hi, rfl⟩ := List.getElem_of_mem h1
      have h3 := (of_decide_eq_true h2).symm
      rw [listLen] at hi
      match i, hi with
      | 0, _ => exact absurd h3 ho
      | 1, _ => exact ⟨rfl, Nat.le_of_ble_eq_true rfl⟩
      | 2, _ => exact ⟨rfl, Nat.le_of_ble_eq_true rfl⟩
      | 3, _ => exact ⟨rfl, Nat.le_of_ble_eq_true rfl⟩
      | 4, _ => exact ⟨rfl, Nat.le_of_ble_eq_true rfl⟩
      | 5, _ => exact ⟨rfl, Nat.le_of_ble_eq_true rfl⟩
      | 6, _ => exact ⟨rfl, Nat.le_of_ble_eq_true rfl⟩
      | 7, _ => exact ⟨rfl, Nat.le_of_ble_eq_true rfl⟩
      | 8, _ => exact ⟨rfl, Nat.le_of_ble_eq_true rfl⟩
      | 9, _ => exact ⟨rfl, Nat.le_of_ble_eq_true rfl⟩
      | n + 10, h => exact absurd h (by omega)
    · intro k f h1 h2 h3 h4 h5 w2 g hx2 hv
      rcases listAt8 h1 h2 with ⟨rfl, rfl, rfl⟩ | ⟨rfl, rfl, rfl⟩ | ⟨rfl, rfl, rfl⟩ | ⟨rfl, rfl, rfl⟩ | ⟨rfl, rfl, rfl⟩ | ⟨rfl, rfl, rfl⟩ | ⟨rfl, rfl, rfl⟩ | ⟨rfl, rfl, rfl⟩
      · exact absurd rfl ho
      · rw [cntLSize, decide_eq_true_eq] at h3
        obtain ⟨t, rfl⟩ := list_one h3
        have m0 := h4 t (by simp)
        rw [List.map_cons, List.map_nil, rightLSize _ (kind_five m0), decide_eq_true_eq] at h5
        obtain ⟨d, v, bs, c0, o0⟩ := hv.arg (t := t) (j := 0) rfl
        obtain ⟨ks, g0, cp0, xs, rfl, rfl, hlc, hn, hvr, hcell⟩ := o0.list h5
        rw [listF_size]
        refine (size_ok g (some ⟨g0, 0, none⟩) ks.length cp0 (by omega) w2 c0).mono fun e w' ⟨he, hw⟩ => ⟨_, he, res_one (K := fun _ => True) (d := 1) (t := intT (ks.length : Int)) (.inr (.inr (.inl ⟨rfl, rfl, rfl, rfl⟩))) (intT_may _), hw ▸ Ext.refl _⟩
      · rw [cntLAt, decide_eq_true_eq] at h3
        obtain ⟨t, u, rfl⟩ := list_two h3
        have m0 := h4 t (by simp)
        have m1 := h4 u (by simp)
        rw [List.map_cons, List.map_cons, List.map_nil, rightLAt _ _ (kind_five m0) (kind_five m1), Bool.and_eq_true, decide_eq_true_eq, decide_eq_true_eq] at h5
        obtain ⟨d, v, bs, c0, o0⟩ := hv.arg (t := t) (j := 0) rfl
        obtain ⟨d1, v1, bs1, c1, o1⟩ := hv.arg (t := u) (j := 1) rfl
        obtain ⟨i, rfl⟩ : ∃ i, u = intT i := ⟨_, lint_of m1 h5.2⟩
        rw [VRd.int (n := i) o1.rd] at c1
        obtain ⟨ks, g0, cp0, xs, rfl, rfl, hlc, hn, hvr, hcell⟩ := o0.list h5.1
        rw [listF_at]
        have e1 : atF [listT ks, intT i] = if i < 0 ∨ (ks.length : Int) ≤ i then .one 23 else .good (ks.getD i.toNat unitT) := rfl
        rw [e1]
        by_cases hb : i < 0 ∨ (ks.length : Int) ≤ i
        · rw [if_pos hb]
          exact (at_bad g (some ⟨g0, 0, none⟩) ks.length cp0 i w2 c0 c1 hb).mono fun e w' ⟨he, hw⟩ => ⟨_, he, res_bad (by decide), hw ▸ Ext.refl _⟩
        · rw [if_neg hb]
          obtain ⟨j, rfl⟩ : ∃ j : Nat, i = (j : Int) := ⟨i.toNat, by omega⟩
          have hj : j < ks.length := by omega
          obtain ⟨d2, u2, hu2, hr2⟩ := hvr.2 j hj
          have e2 : ks.getD (j : Int).toNat unitT = ks[j] := by rw [Int.toNat_natCast, List.getD_eq_getElem?_getD, List.getElem?_eq_getElem hj]; rfl
          rw [e2]
          exact (at_ok g g0 0 ks.length cp0 j u2 w2 c0 c1 hj (by omega) (hcell j u2 hu2)).mono fun e w' ⟨he, hw⟩ => ⟨_, he, hw ▸ res_one hr2 (may_kid m0 hj), hw ▸ Ext.refl _⟩
      · rw [cntLJoin, decide_eq_true_eq] at h3
        obtain ⟨t, u, rfl⟩ := list_two h3
        have m0 := h4 t (by simp)
        have m1 := h4 u (by simp)
        rw [List.map_cons, List.map_cons, List.map_nil, rightLJoin _ _ (kind_five m0) (kind_five m1), Bool.and_eq_true, decide_eq_true_eq, decide_eq_true_eq] at h5
        obtain ⟨d, v, bs, c0, o0⟩ := hv.arg (t := t) (j := 0) rfl
        obtain ⟨d1, v1, bs1, c1, o1⟩ := hv.arg (t := u) (j := 1) rfl
        obtain ⟨ks, g0, cp0, xs, rfl, rfl, hlc, hn, hvr, hcell⟩ := o0.list h5.1
        obtain ⟨ks1, g1, cp1, xs1, rfl, rfl, hlc1, hn1, hvr1, hcell1⟩ := o1.list h5.2
        have b0 := len_may m0
        have b1 := len_may m1
        rw [listF_join]
        exact (join_ok g g0 0 cp0 g1 0 cp1 ks.length ks1.length xs xs1 w2 c0 c1 hvr.1 hvr1.1 (by omega) hvr.cells hvr1.cells hcell hcell1).mono fun e w' h => res_list h (ks := ks ++ ks1) (hvr.append hvr1) (by rw [List.length_append]; omega)
      · rw [cntLAdd, decide_eq_true_eq] at h3
        obtain ⟨t, u, rfl⟩ := list_two h3
        have m0 := h4 t (by simp)
        have m1 := h4 u (by simp)
        rw [List.map_cons, List.map_cons, List.map_nil, rightLAdd _ _ (kind_five m0) (kind_five m1), decide_eq_true_eq] at h5
        obtain ⟨d, v, bs, c0, o0⟩ := hv.arg (t := t) (j := 0) rfl
        obtain ⟨d1, v1, bs1, c1, o1⟩ := hv.arg (t := u) (j := 1) rfl
        obtain ⟨ks, g0, cp0, xs, rfl, rfl, hlc, hn, hvr, hcell⟩ := o0.list h5
        have b0 := len_may m0
        have hv1 := ValsR.one o1.rd
        rw [listF_add]
        exact (add_ok g g0 0 cp0 ks.length xs v1 w2 c0 c1 hvr.1 (by omega) hvr.cells (hv1.cells v1 (by simp)) hcell).mono fun e w' h => res_list h (ks := ks ++ [u]) (hvr.append hv1) (by rw [List.length_append]; simp only [List.length_cons, List.length_nil]; omega)
      · rw [cntLCut, decide_eq_true_eq] at h3
        obtain ⟨t, u, x, rfl⟩ := list_three h3
        have m0 := h4 t (by simp)
        have m1 := h4 u (by simp)
        have m2 := h4 x (by simp)
        rw [List.map_cons, List.map_cons, List.map_cons, List.map_nil, rightLCut _ _ _ (kind_five m0) (kind_five m1) (kind_five m2), Bool.and_eq_true, Bool.and_eq_true, decide_eq_true_eq, decide_eq_true_eq, decide_eq_true_eq] at h5
        obtain ⟨d, v, bs, c0, o0⟩ := hv.arg (t := t) (j := 0) rfl
        obtain ⟨d1, v1, bs1, c1, o1⟩ := hv.arg (t := u) (j := 1) rfl
        obtain ⟨d2, v2, bs2, c2, o2⟩ := hv.arg (t := x) (j := 2) rfl
        obtain ⟨i, rfl⟩ : ∃ i, u = intT i := ⟨_, lint_of m1 h5.1.2⟩
        obtain ⟨k, rfl⟩ : ∃ k, x = intT k := ⟨_, lint_of m2 h5.2⟩
        rw [VRd.int (n := i) o1.rd] at c1
        rw [VRd.int (n := k) o2.rd] at c2
        obtain ⟨ks, g0, cp0, xs, rfl, rfl, hlc, hn, hvr, hcell⟩ := o0.list h5.1.1
        have b0 := len_may m0
        rw [listF_cut]
        have e1 : cutF [listT ks, intT i, intT k] = if i < 0 ∨ k < i ∨ (ks.length : Int) < k then .one 23 else lonF ((ks.take k.toNat).drop i.toNat) := rfl
        rw [e1]
        by_cases hb : i < 0 ∨ k < i ∨ (ks.length : Int) < k
        · rw [if_pos hb]
          exact (cut_bad g (some ⟨g0, 0, none⟩) ks.length cp0 i k w2 c0 c1 c2 hb).mono fun e w' ⟨he, hw⟩ => ⟨_, he, res_bad (by decide), hw ▸ Ext.refl _⟩
        · rw [if_neg hb]
          obtain ⟨i, rfl⟩ : ∃ j : Nat, i = (j : Int) := ⟨i.toNat, by omega⟩
          obtain ⟨k, rfl⟩ : ∃ j : Nat, k = (j : Int) := ⟨k.toNat, by omega⟩
          rw [Int.toNat_natCast, Int.toNat_natCast]
          have hs := hvr.slice i k
          exact (cut_ok g g0 0 ks.length cp0 i k ((xs.take k).drop i) w2 c0 c1 c2 (by omega) (by omega) hlc (by omega) (by rw [List.length_drop, List.length_take, hvr.1]; omega) hs.cells (fun j u hu => by
            have hj := (List.getElem?_eq_some_iff.1 hu).1
            rw [List.length_drop, List.length_take] at hj
            rw [List.getElem?_drop, List.getElem?_take_of_lt (by omega)] at hu
            rw [Nat.add_assoc]
            exact hcell (i + j) u hu)).mono fun e w' h => res_list h hs (by rw [List.length_drop, List.length_take]; omega)
      · rw [cntLTurn, decide_eq_true_eq] at h3
        obtain ⟨t, rfl⟩ := list_one h3
        have m0 := h4 t (by simp)
        rw [List.map_cons, List.map_nil, rightLTurn _ (kind_five m0), decide_eq_true_eq] at h5
        obtain ⟨d, v, bs, c0, o0⟩ := hv.arg (t := t) (j := 0) rfl
        obtain ⟨ks, g0, cp0, xs, rfl, rfl, hlc, hn, hvr, hcell⟩ := o0.list h5
        have b0 := len_may m0
        rw [listF_turn]
        rcases Nat.eq_zero_or_pos ks.length with hz | hpos
        · obtain rfl := List.eq_nil_of_length_eq_zero hz
          exact (turn_zero g g0 0 cp0 w2 c0).mono fun e w' h => res_list h (ValsR.nil w2) (by decide)
        · obtain ⟨ps, hps, rfl⟩ := hvr.pairs
          refine (turn_ok g g0 0 cp0 ks.length ps w2 hps hpos (by omega) c0 (fun j p hp => hcell j (encV p) (by rw [List.getElem?_map, hp]; rfl))).mono fun e w' h => res_list h (ks := ks.reverse) ?_ (by rw [List.length_reverse]; exact hn)
          rw [List.map_reverse]
          exact hvr.reverse
      · rw [cntLCount, decide_eq_true_eq] at h3
        obtain ⟨t, rfl⟩ := list_one h3
        have m0 := h4 t (by simp)
        rw [List.map_cons, List.map_nil, rightLCount _ (kind_five m0), decide_eq_true_eq] at h5
        obtain ⟨d, v, bs, c0, o0⟩ := hv.arg (t := t) (j := 0) rfl
        obtain ⟨n, rfl⟩ : ∃ n, t = intT n := ⟨_, lint_of m0 h5⟩
        rw [VRd.int (n := n) o0.rd] at c0
        rw [listF_count]
        have e1 : countL [intT n] = countF n := rfl
        rw [e1]
        unfold countF
        by_cases hn : n < 0
        · rw [if_pos hn]
          exact (count_low g n w2 c0 hn).mono fun e w' ⟨he, hw⟩ => ⟨_, he, res_bad (by decide), hw ▸ Ext.refl _⟩
        rw [if_neg hn]
        by_cases hb : 65535 < n
        · rw [if_pos hb]
          exact (count_high g n w2 c0 hb).mono fun e w' ⟨he, hw⟩ => ⟨_, he, res_bad (by decide), hw ▸ Ext.refl _⟩
        rw [if_neg hb]
        obtain ⟨m, rfl⟩ : ∃ m : Nat, n = (m : Int) := ⟨n.toNat, by omega⟩
        have hm2 : m ≤ 65535 := by omega
        exact (count_ok g m w2 c0 hm2).mono fun e w' ⟨b, he, hN, hbb, hx⟩ => ⟨_, he, res_one (upT_vrd hN hm2) (upT_may hm2), hx⟩
    · intro k f h1 h2
      rcases listAt8 h1 h2 with ⟨_, _, rfl⟩ | ⟨_, _, rfl⟩ | ⟨_, _, rfl⟩ | ⟨_, _, rfl⟩ | ⟨_, _, rfl⟩ | ⟨_, _, rfl⟩ | ⟨_, _, rfl⟩ | ⟨_, _, rfl⟩
      · exact entOf
      · exact entSize
      · exact entAt
      · exact entJoin
      · exact entAdd
      · exact entCut
      · exact entTurn
      · exact entCount
end Go.Proofs.YtaafcmmmkalgjaaGreatDoor
