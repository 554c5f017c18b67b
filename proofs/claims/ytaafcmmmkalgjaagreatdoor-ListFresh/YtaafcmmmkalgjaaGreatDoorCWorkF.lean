/-
  Values in a row, each in memory of its own, no two of them sharing any; lists that are made of such.
-/
import Derived.Test.YtaafcmmmkalgjaaGreatDoorLBoth
namespace Go.Proofs.YtaafcmmmkalgjaaGreatDoor
open Go.RowKit
/-- As often more levels as is wished. -/
theorem VOwn.deeper {w : World} : ∀ {d : Nat} {v : Value} {t : T} {bs : List Nat}, VOwn w d v t bs → VOwn w (d + 1) v t bs
  | 0, _, _, _, h => h.elim
  | d + 1, v, .node k n x ks, bs, h => by
    rcases h with h | h | h | h | ⟨h1, h2, h3, h4, g, c, cs, bss, h5, h6, h7, h8, rfl, h9, hc⟩
    · exact .inl h
    · exact .inr (.inl h)
    · exact .inr (.inr (.inl h))
    · exact .inr (.inr (.inr (.inl h)))
    · refine .inr (.inr (.inr (.inr ⟨h1, h2, h3, h4, g, c, cs, bss, h5, h6, h7, h8, rfl, h9, fun j hj => ?_⟩)))
      obtain ⟨u, b, hu, hb, ho⟩ := hc j hj
      exact ⟨u, b, hu, hb, VOwn.deeper ho⟩
/-- Values, each of its plain one, each in memory of its own: their blocks. -/
def OwnL (w : World) (us : List Value) (ts : List T) (bss : List (List Nat)) : Prop := us.length = ts.length ∧ bss.length = ts.length ∧ ∀ j, (h : j < ts.length) → ∃ d u b, us[j]? = some u ∧ bss[j]? = some b ∧ VOwn w d u ts[j] b
theorem OwnL.keep {w w' : World} {us : List Value} {ts : List T} {bss : List (List Nat)} (h : OwnL w us ts bss) (hk : Kp (· ∈ bss.flatten) w w') : OwnL w' us ts bss :=
  ⟨h.1, h.2.1, fun j hj => by
    obtain ⟨d, u, b, h1, h2, h3⟩ := h.2.2 j hj
    exact ⟨d, u, b, h1, h2, h3.keep (hk.mono fun k _ hk => List.mem_flatten.2 ⟨b, List.mem_of_getElem? h2, hk⟩)⟩⟩
theorem OwnL.later {w w' : World} {us : List Value} {ts : List T} {bss : List (List Nat)} (h : OwnL w us ts bss) (hx : Ext w w') : OwnL w' us ts bss := h.keep (hx.kp _)
theorem OwnL.lt {w : World} {us : List Value} {ts : List T} {bss : List (List Nat)} (h : OwnL w us ts bss) : ∀ b ∈ bss.flatten, b < w.heap.size := by
  intro b hb
  obtain ⟨l, hl, hbl⟩ := List.mem_flatten.1 hb
  obtain ⟨j, hj, rfl⟩ := List.getElem_of_mem hl
  obtain ⟨d, u, b', _, h2, h3⟩ := h.2.2 j (by rw [← h.2.1]; exact hj)
  rw [List.getElem?_eq_getElem hj] at h2
  cases h2
  exact h3.lt b hbl
theorem OwnL.vals {w : World} {us : List Value} {ts : List T} {bss : List (List Nat)} (h : OwnL w us ts bss) : ValsR w us ts :=
  ⟨h.1, fun j hj => by
    obtain ⟨d, u, b, h1, _, h3⟩ := h.2.2 j hj
    exact ⟨d, u, h1, h3.rd.mono (fun _ _ _ => trivial)⟩⟩
theorem OwnL.nil (w : World) : OwnL w [] [] [] := ⟨rfl, rfl, fun _ h => absurd h (Nat.not_lt_zero _)⟩
theorem OwnL.one {w : World} {d : Nat} {u : Value} {t : T} {b : List Nat} (h : VOwn w d u t b) : OwnL w [u] [t] [b] := ⟨rfl, rfl, fun j hj => by
  obtain rfl : j = 0 := by simp at hj; exact hj
  exact ⟨d, u, b, rfl, rfl, h⟩⟩
theorem OwnL.append {w : World} {us vs : List Value} {ts rs : List T} {bss css : List (List Nat)} (h : OwnL w us ts bss) (h' : OwnL w vs rs css) : OwnL w (us ++ vs) (ts ++ rs) (bss ++ css) := by
  refine ⟨by rw [List.length_append, List.length_append, h.1, h'.1], by rw [List.length_append, List.length_append, h.2.1, h'.2.1], fun j hj => ?_⟩
  have e1 := h.1
  have e2 := h.2.1
  by_cases hlt : j < ts.length
  · obtain ⟨d, u, b, h1, h2, h3⟩ := h.2.2 j hlt
    exact ⟨d, u, b, by rw [List.getElem?_append_left (by omega)]; exact h1, by rw [List.getElem?_append_left (by omega)]; exact h2, by rw [List.getElem_append_left hlt]; exact h3⟩
  · have hj2 : j - ts.length < rs.length := by rw [List.length_append] at hj; omega
    obtain ⟨d, u, b, h1, h2, h3⟩ := h'.2.2 (j - ts.length) hj2
    exact ⟨d, u, b, by rw [List.getElem?_append_right (by omega), e1]; exact h1, by rw [List.getElem?_append_right (by omega), e2]; exact h2, by rw [List.getElem_append_right (by omega)]; exact h3⟩
theorem OwnL.slice {w : World} {us : List Value} {ts : List T} {bss : List (List Nat)} (h : OwnL w us ts bss) (i k : Nat) : OwnL w ((us.take k).drop i) ((ts.take k).drop i) ((bss.take k).drop i) := by
  refine ⟨by rw [List.length_drop, List.length_drop, List.length_take, List.length_take, h.1], by rw [List.length_drop, List.length_drop, List.length_take, List.length_take, h.2.1], fun j hj => ?_⟩
  have hj' := hj
  rw [List.length_drop, List.length_take] at hj'
  obtain ⟨d, u, b, h1, h2, h3⟩ := h.2.2 (i + j) (by omega)
  refine ⟨d, u, b, ?_, ?_, ?_⟩
  · rw [List.getElem?_drop, List.getElem?_take_of_lt (by omega)]; exact h1
  · rw [List.getElem?_drop, List.getElem?_take_of_lt (by omega)]; exact h2
  · rw [List.getElem_drop, List.getElem_take]; exact h3
theorem OwnL.reverse {w : World} {us : List Value} {ts : List T} {bss : List (List Nat)} (h : OwnL w us ts bss) : OwnL w us.reverse ts.reverse bss.reverse := by
  have e1 := h.1
  have e2 := h.2.1
  refine ⟨by rw [List.length_reverse, List.length_reverse, e1], by rw [List.length_reverse, List.length_reverse, e2], fun j hj => ?_⟩
  have hj' := hj
  rw [List.length_reverse] at hj'
  obtain ⟨d, u, b, h1, h2, h3⟩ := h.2.2 (ts.length - 1 - j) (by omega)
  refine ⟨d, u, b, ?_, ?_, ?_⟩
  · rw [List.getElem?_reverse (by omega), e1]; exact h1
  · rw [List.getElem?_reverse (by omega), e2]; exact h2
  · rw [List.getElem_reverse]; exact h3
theorem flat_sub {a b : List (List Nat)} (h : a.Sublist b) : a.flatten.Sublist b.flatten := by
  induction h with
  | slnil => exact List.Sublist.refl _
  | cons x _ ih => rw [List.flatten_cons]; exact ih.trans (List.sublist_append_right _ _)
  | cons_cons x _ ih => rw [List.flatten_cons, List.flatten_cons]; exact (List.Sublist.refl x).append ih
theorem nodup_slice {bss : List (List Nat)} (h : bss.flatten.Nodup) (i k : Nat) : ((bss.take k).drop i).flatten.Nodup := by
  have hs : ((bss.take k).drop i).Sublist bss := (List.drop_sublist _ _).trans (List.take_sublist _ _)
  exact h.sublist (flat_sub hs)
theorem nodup_reverse {bss : List (List Nat)} (h : bss.flatten.Nodup) : bss.reverse.flatten.Nodup := by
  have hp : bss.reverse.flatten.Perm bss.flatten := (List.reverse_perm bss).flatten
  exact hp.nodup_iff.2 h
theorem nodup_two {bss : List (List Nat)} (h : bss.flatten.Nodup) {i j : Nat} (hij : i ≠ j) {a b : List Nat} (ha : bss[i]? = some a) (hb : bss[j]? = some b) : ∀ q ∈ a, q ∉ b := by
  intro q hq hqb
  have key : ∀ i j : Nat, i < j → ∀ a b : List Nat, bss[i]? = some a → bss[j]? = some b → q ∈ a → q ∈ b → False := fun i j hlt a b ha hb hq hqb => by
    have hj := (List.getElem?_eq_some_iff.1 hb).1
    have e : bss = bss.take j ++ bss.drop j := (List.take_append_drop j bss).symm
    rw [e, List.flatten_append, List.nodup_append] at h
    refine h.2.2 q (List.mem_flatten.2 ⟨a, ?_, hq⟩) q (List.mem_flatten.2 ⟨b, ?_, hqb⟩) rfl
    · refine List.mem_of_getElem? (i := i) ?_
      rw [List.getElem?_take_of_lt hlt]; exact ha
    · rw [List.getElem?_eq_getElem hj] at hb
      cases hb
      rw [List.drop_eq_getElem_cons hj]
      exact List.mem_cons_self
  rcases Nat.lt_or_gt_of_ne hij with hlt | hlt
  · exact key i j hlt a b ha hb hq hqb
  · exact key j i hlt b a hb ha hqb hq
theorem nodup_part {bss : List (List Nat)} (h : bss.flatten.Nodup) {j : Nat} {b : List Nat} (hb : bss[j]? = some b) : b.Nodup :=
  h.sublist (List.sublist_flatten_of_mem (List.mem_of_getElem? hb))
/-- A list value in memory of its own, or none at all. -/
def VOwnE (w : World) (d : Nat) (v : Value) (t : T) (bs : List Nat) : Prop := VOwn w d v t bs ∨ (v = .iface 81 (.slice none 0 0) ∧ t = listT [] ∧ bs = [])
theorem VOwnE.keep {w w' : World} {d : Nat} {v : Value} {t : T} {bs : List Nat} (h : VOwnE w d v t bs) (hk : Kp (· ∈ bs) w w') : VOwnE w' d v t bs := h.imp (fun h => h.keep hk) id
theorem VOwnE.later {w w' : World} {d : Nat} {v : Value} {t : T} {bs : List Nat} (h : VOwnE w d v t bs) (hx : Ext w w') : VOwnE w' d v t bs := h.keep (hx.kp _)
theorem VOwnE.lt {w : World} {d : Nat} {v : Value} {t : T} {bs : List Nat} (h : VOwnE w d v t bs) : ∀ b ∈ bs, b < w.heap.size := by
  rcases h with h | ⟨_, _, rfl⟩
  · exact h.lt
  · intro b hb; cases hb
theorem VOwnE.rd {w : World} {d : Nat} {v : Value} {t : T} {bs : List Nat} (h : VOwnE w d v t bs) : ∃ d, VRd (· ∈ bs) w d v t := by
  rcases h with h | ⟨rfl, rfl, rfl⟩
  · exact ⟨d, h.rd⟩
  · exact ⟨1, .inr (.inr (.inr (.inr ⟨rfl, rfl, rfl, by decide, none, 0, rfl, .inl rfl⟩)))⟩
/-- A row of one's own of such values: a list in memory of its own. -/
theorem OwnL.value {w : World} {B M : Nat} {v : Value} {us : List Value} {ks : List T} {bss : List (List Nat)} (h : OwnL w us ks bss) (hn : bss.flatten.Nodup) (hlo : ∀ b ∈ bss.flatten, M ≤ b ∧ b < B) (hMB : M ≤ B) (ho : w.ownsRow B 35 1 v us.length us) (hz : ks.length * 16 ≤ 140737488351232) :
    ∃ d bs, VOwnE w d (.iface 81 v) (listT ks) bs ∧ bs.Nodup ∧ ∀ b ∈ bs, M ≤ b := by
  rcases ho.2 with ⟨rfl, h0⟩ | ⟨g, cap, cur, rfl, hBg, hbk, h3, h4, h5, h6⟩
  · have e : ks = [] := List.eq_nil_of_length_eq_zero (by rw [← h.1]; exact h0)
    subst e
    exact ⟨1, [], .inr ⟨rfl, rfl, rfl⟩, List.nodup_nil, fun b hb => by cases hb⟩
  · obtain ⟨d, hd⟩ := bound_max (P := fun j d => ∃ (h : j < ks.length), ∃ u b, us[j]? = some u ∧ bss[j]? = some b ∧ VOwn w d u ks[j] b) (fun j d ⟨h, u, b, h1, h2, h3⟩ => ⟨h, u, b, h1, h2, h3.deeper⟩) ks.length (fun j hj => by
      obtain ⟨d, u, b, h1, h2, h3⟩ := h.2.2 j hj
      exact ⟨d, hj, u, b, h1, h2, h3⟩)
    refine ⟨d + 1, g :: bss.flatten, .inl (.inr (.inr (.inr (.inr ⟨rfl, rfl, rfl, hz, g, cap, cur, bss, by rw [h.1], by rw [← h.1]; exact h3, hbk, by rw [h5, Nat.mul_one], rfl, h.2.1, fun j hj => ?_⟩)))), ?_, ?_⟩
    · obtain ⟨_, u, b, h1, h2, h3'⟩ := hd j hj
      refine ⟨u, b, ?_, h2, h3'⟩
      rw [← h6, Nat.mul_one, List.getElem?_take_of_lt (by rw [h.1]; omega)] at h1
      simpa using h1
    · refine List.nodup_cons.2 ⟨fun hg => ?_, hn⟩
      have := (hlo g hg).2
      omega
    · intro b hb
      rcases List.mem_cons.1 hb with rfl | hb
      · omega
      · exact (hlo b hb).1
/-- A list in memory of its own, taken apart. -/
theorem VOwn.listO {w : World} {d : Nat} {v : Value} {t : T} {bs : List Nat} (h : VOwn w d v t bs) (h5 : t.kind = 5) : ∃ ks g c us bss, t = listT ks ∧ v = .iface 81 (.slice (some ⟨g, 0, none⟩) ks.length c) ∧ ks.length ≤ c ∧ ks.length * 16 ≤ 140737488351232 ∧ bs = g :: bss.flatten ∧ OwnL w us ks bss ∧ ∀ (j : Nat) (u : Value), us[j]? = some u → w.cell? ⟨g, 0 + j, none⟩ = some u := by
  obtain ⟨k, n, x, ks⟩ := t
  obtain rfl : k = 5 := h5
  cases d with
  | zero => exact h.elim
  | succ d =>
    rcases h with ⟨h, _⟩ | ⟨h, _⟩ | ⟨h, _⟩ | ⟨h, _⟩ | ⟨_, rfl, rfl, h4, g, c, cs, bss, rfl, h6, h7, h8, h9, h10, hc⟩
    · exact absurd h (by decide)
    · exact absurd h (by decide)
    · exact absurd h (by decide)
    · exact absurd h (by decide)
    · have hsl : cs.toList.length = c := by simpa using h8
      refine ⟨ks, g, c, cs.toList.take ks.length, bss, rfl, rfl, h6, h4, h9, ⟨by rw [List.length_take, hsl]; omega, h10, fun j hj => ?_⟩, fun j u hu => ?_⟩
      · obtain ⟨u, b, h1, h2, h3⟩ := hc j hj
        exact ⟨d, u, b, by rw [List.getElem?_take_of_lt hj]; simpa using h1, h2, h3⟩
      · have hj := (List.getElem?_eq_some_iff.1 hu).1
        rw [List.length_take, hsl] at hj
        rw [List.getElem?_take_of_lt (by omega)] at hu
        rw [Nat.zero_add]
        exact cell_of h7 (by simpa using hu)
end Go.Proofs.YtaafcmmmkalgjaaGreatDoor
/-
  craft.Work by a contract, whatever the operations give, the values in memory of their own, no two sharing any; of a table no kind of which joins.
-/
namespace Go.Proofs.YtaafcmmmkalgjaaGreatDoor
open Go.RowKit
/-- Values in a row, of these plain ones, each in memory of its own behind g, no two sharing any. -/
def VOFCells (w : World) (g : Nat) (ts : List T) : Prop := ∃ us bss, OwnL w us ts bss ∧ bss.flatten.Nodup ∧ (∀ b ∈ bss.flatten, g < b) ∧ ∀ (j : Nat) (u : Value), us[j]? = some u → w.cell? ⟨g, j, none⟩ = some u
theorem VOFCells.later {w w' : World} {g : Nat} {ts : List T} (h : VOFCells w g ts) (hx : Ext w w') : VOFCells w' g ts := by
  obtain ⟨us, bss, h1, h2, h3, h4⟩ := h
  exact ⟨us, bss, h1.later hx, h2, h3, fun j u hu => (Below.cell hx (lt_of_cell (h4 j u hu))).trans (h4 j u hu)⟩
theorem VOFCells.row {w : World} {g : Nat} {ts : List T} (h : VOFCells w g ts) : VRow w g (ts.map T.kind) := fun j hj => by
  obtain ⟨us, bss, h1, _, _, h4⟩ := h
  obtain ⟨d, v, b, e1, _, e3⟩ := h1.2.2 j (by simpa using hj)
  exact ⟨_, d, v, _, h4 j v e1, e3.rd, by simp⟩
theorem VOFCells.oc {w : World} {g : Nat} {ts : List T} (h : VOFCells w g ts) : VOCells w g ts := fun j hj => by
  obtain ⟨us, bss, h1, _, _, h4⟩ := h
  obtain ⟨d, v, b, e1, _, e3⟩ := h1.2.2 j hj
  exact ⟨d, v, b, h4 j v e1, e3⟩
/-- The first j of them as they are being made, in a row of the block B. -/
def OwnC (B : Nat) (w : World) (cs : Array Value) (ts : List T) (j : Nat) : Prop := ∃ bss : List (List Nat), bss.length = j ∧ bss.flatten.Nodup ∧ (∀ b ∈ bss.flatten, B < b) ∧ ∀ i, (h : i < ts.length) → i < j → ts[i].may ∧ ∃ d u b, cs[i]? = some u ∧ bss[i]? = some b ∧ VOwn w d u ts[i] b
theorem OwnC.nil (B : Nat) (w : World) (cs : Array Value) (ts : List T) : OwnC B w cs ts 0 := ⟨[], rfl, List.nodup_nil, fun b hb => by simp at hb, fun i _ h => absurd h (Nat.not_lt_zero _)⟩
theorem OwnC.may {B : Nat} {w : World} {cs : Array Value} {ts : List T} {j : Nat} (h : OwnC B w cs ts j) (i : Nat) (hi : i < ts.length) (hij : i < j) : ts[i].may := by
  obtain ⟨_, _, _, _, h4⟩ := h
  exact (h4 i hi hij).1
theorem OwnC.step {B : Nat} {w : World} {cs : Array Value} {ts : List T} {j : Nat} (h : OwnC B w cs ts j) (hj : j < ts.length) (hm : ts[j].may) (hB : B < w.heap.size) (hs : j < cs.size) {w2 : World} {d : Nat} {u : Value} {bs : List Nat} (hx : Ext w w2) (ho : VOwn w2 d u ts[j] bs) (hge : ∀ b ∈ bs, w.heap.size ≤ b) (hnd : bs.Nodup) :
    OwnC B (w2.setCell ⟨B, j, none⟩ u) (cs.setIfInBounds j u) ts (j + 1) := by
  obtain ⟨bss, e1, e2, e3, e4⟩ := h
  have KS : Kp (· ≠ B) w2 (w2.setCell ⟨B, j, none⟩ u) := Kp.set w2 _ j _ (fun h => h rfl)
  have hlt : ∀ a ∈ bss.flatten, a < w.heap.size := fun a ha => by
    obtain ⟨l, hl, hal⟩ := List.mem_flatten.1 ha
    obtain ⟨i, hi, rfl⟩ := List.getElem_of_mem hl
    obtain ⟨_, d', u', b', _, h2, h3⟩ := e4 i (by omega) (by omega)
    rw [List.getElem?_eq_getElem hi] at h2
    cases h2
    exact h3.lt a hal
  refine ⟨bss ++ [bs], by rw [List.length_append, e1]; rfl, ?_, ?_, fun i hi hij => ?_⟩
  · rw [List.flatten_append, List.flatten_cons, List.flatten_nil, List.append_nil, List.nodup_append]
    exact ⟨e2, hnd, fun a ha b hb e => by have h1 := hlt a ha; have h2 := hge b hb; omega⟩
  · intro b hb
    rw [List.flatten_append, List.flatten_cons, List.flatten_nil, List.append_nil, List.mem_append] at hb
    rcases hb with hb | hb
    · exact e3 b hb
    · have := hge b hb; omega
  · by_cases e : i = j
    · subst e
      exact ⟨hm, d, u, bs, set_get _ hs, by rw [List.getElem?_append_right (by omega), e1, Nat.sub_self]; rfl, ho.keep (KS.mono fun k _ hk e => by have := hge k hk; omega)⟩
    · obtain ⟨hmi, d', u', b', h1, h2, h3⟩ := e4 i hi (by omega)
      refine ⟨hmi, d', u', b', by rw [set_get_other _ e]; exact h1, by rw [List.getElem?_append_left (by omega)]; exact h2, (h3.later hx).keep (KS.mono fun k _ hk e => ?_)⟩
      have := e3 k (List.mem_flatten.2 ⟨b', List.mem_of_getElem? h2, hk⟩)
      omega
theorem OwnC.cells {B : Nat} {w : World} {cs : Array Value} {ts : List T} {j : Nat} (h : OwnC B w cs ts j) (hj : j = ts.length) {ty : TypeId} (hb : w.heap[B]? = some (.cells cs ty)) (hs : cs.size = ts.length) : VOFCells w B ts := by
  obtain ⟨bss, e1, e2, e3, e4⟩ := h
  refine ⟨cs.toList, bss, ⟨by rw [Array.length_toList, hs], by omega, fun i hi => ?_⟩, e2, e3, fun i u hu => cell_of hb (by simpa using hu)⟩
  obtain ⟨_, d, u, b, h1, h2, h3⟩ := e4 i hi (by omega)
  exact ⟨d, u, b, by simpa using h1, h2, h3⟩
set_option maxRecDepth 100000 in
set_option maxHeartbeats 4000000 in
theorem workF_own (ks : List Kd) (tb : Nat) (op : ByteArray) (a : Option Addr) (c : Nat) (ts : List T) (Q : World → Value → Prop) (w : World) (hl : ks.length ≤ 1000) (ht : TabAt w tb ks) (hm : MaxAt w) (hp : PRow w a ts) (hn : ts.length ≤ 1000000)
    (hj : ∀ k, kdFind ks op = some k → k.joins = false ∧ k.signs.size ≤ 4000)
    (hd : ∀ k f, kdFind ks op = some k → k.does = some f → cntOk k ts.length = true → (∀ t ∈ ts, t.may) → rightB k.signs.data.toList (ts.map T.kind) = true → ∀ w1 g, Ext w w1 → w.heap.size ≤ g → VOFCells w1 g ts → Calls Tryz.prog f #[.slice (some ⟨g, 0, none⟩) ts.length ts.length] w1 fun e w' => ∃ V, e = .returned V ∧ ResR Q w' V ∧ Ext w1 w')
    (he : ∀ k f, kdFind ks op = some k → k.does = some f → Enters f) :
    Calls Tryz.prog 24 #[.slice (some ⟨tb, 0, none⟩) ks.length ks.length, .string op, .slice a ts.length c] w fun e w' => ∃ V, e = .returned V ∧ WorkQ ks op ts Q w' V ∧ (∃ x y z, V = .tuple #[x, y, z]) ∧ Ext w w' := by
  have HF := hid (fun w1 (hx : Ext w w1) => find_any ks tb op w1 hl (ht.later hx))
  have HMX := hid hm
  have HP := hid hp
  have HD := hid hd
  have HJ := hid hj
  have HE := hid he
  have hn' : (ts.length : Int) ≤ 1000000 := by omega
  have hqn : ∀ w : World, (binOp .eql 74 .nilFunc .nilFunc).run Tryz.prog w = .ok (.bool true) w := fun _ => by kernel_rfl
  have hqf : ∀ (f : Nat) (w : World), (binOp .eql 74 (.func (.func f) #[] #[]) .nilFunc).run Tryz.prog w = .ok (.bool false) w := fun _ _ => by kernel_rfl
  clear hl ht hm hp hj hd he
  obtain ⟨kn, hkn⟩ : ∃ n, ks.length = n := ⟨_, rfl⟩
  rw [hkn] at HF ⊢
  clear hkn
  obtain ⟨o, ho⟩ : ∃ o, kdFind ks op = o := ⟨_, rfl⟩
  cases o with
  | none =>
    have HV := hid (show ∀ W, WorkQ ks op ts Q W (refV 1) by intro W; unfold WorkQ; rw [ho])
    rw [ho] at HF
    clear ho
    go_enter Tryz.func24, Tryz.ntmps24
    go_wp2_with fail
    refine (HF.out _ (Ext.refl _)).mono ?_
    rintro e w1 ⟨rfl, hx1⟩
    have X1 := hid hx1
    clear hx1
    unfold kdVal
    go_wp2_with fail
    go_ret3
    exact ⟨_, rfl, HV.out _, ⟨_, _, _, rfl⟩, X1.out.trans (Ext.alloc _ _)⟩
  | some k =>
    have HJK := hid (HJ.out k ho)
    have HEK := hid (fun f h => HE.out k f ho h)
    have HDK := hid (fun f h => HD.out k f ho h)
    have HW := hid (show ∀ W V, (match k.does with | none => V = refV 1 | some _ => if cntOk k ts.length = false then V = refV 11 else if ∀ t ∈ ts, t.may then (if rightB k.signs.data.toList (ts.map T.kind) = true then Q W V else V = refV 20) else V = refV 1) → WorkQ ks op ts Q W V by intro W V h; unfold WorkQ; rw [ho]; exact h)
    rw [ho] at HF
    have HDN := hid (fun f h g ks Q w h1 h2 h3 h4 h5 h6 => done_gen k f h h1 g ks Q w h2 h3 h4 h5 h6)
    have HCN := hid (show cntOk k ts.length = (decide (k.min ≤ ts.length) && (decide (k.max < 0) || decide ((ts.length : Int) ≤ k.max))) from rfl)
    clear ho HJ HE HD
    obtain ⟨k0, k1, k2, k3, k4, k5, k6, k7, k8⟩ := k
    obtain rfl : k8 = false := HJK.out.1
    dsimp only at HW HDK HEK HCN
    cases k7 with
    | none =>
      have HV := hid (show ∀ W, WorkQ ks op ts Q W (refV 1) from fun W => HW.out W _ rfl)
      go_enter Tryz.func24, Tryz.ntmps24
      go_wp2_with fail
      refine (HF.out _ (Ext.refl _)).mono ?_
      rintro e w1 ⟨rfl, hx1⟩
      have X1 := hid hx1
      clear hx1
      unfold kdVal Kd.val fnV
      dsimp only
      go_wp2_with fail
      go_ret3
      exact ⟨_, rfl, HV.out _, ⟨_, _, _, rfl⟩, X1.out.trans (Ext.alloc _ _)⟩
    | some f =>
      have HW' := hid (show ∀ W V, (if cntOk ⟨k0, k1, k2, k3, k4, k5, k6, some f, false⟩ ts.length = false then V = refV 11 else if ∀ t ∈ ts, t.may then (if rightB k5.data.toList (ts.map T.kind) = true then Q W V else V = refV 20) else V = refV 1) → WorkQ ks op ts Q W V from HW.out)
      clear HW
      obtain ⟨n, hne⟩ : ∃ n, ts.length = n := ⟨_, rfl⟩
      have HNE := hid hne
      rw [hne] at hn' ⊢
      clear hne
      rw [HNE.out] at HCN HW'
      obtain ⟨cb, hcb⟩ : ∃ b, cntOk ⟨k0, k1, k2, k3, k4, k5, k6, some f, false⟩ n = b := ⟨_, rfl⟩
      rw [hcb] at HW' HCN
      cases cb with
      | false =>
        have HV := hid (show ∀ W, WorkQ ks op ts Q W (refV 11) from fun W => HW'.out W _ rfl)
        have HCF := hid (show ¬ (k1 ≤ (n : Int) ∧ (k2 < 0 ∨ (n : Int) ≤ k2)) from fun h => by
          have := HCN.out
          simp only [Bool.false_eq, Bool.and_eq_false_iff, Bool.or_eq_false_iff, decide_eq_false_iff_not] at this
          omega)
        by_cases h1 : k1 ≤ (n : Int)
        · have h2 : 0 ≤ k2 := by have := HCF.out; omega
          have h3 : k2 < (n : Int) := by have := HCF.out; omega
          go_enter Tryz.func24, Tryz.ntmps24
          go_wp2_with fail
          refine (HF.out _ (Ext.refl _)).mono ?_
          rintro e w1 ⟨rfl, hx1⟩
          have X1 := hid hx1
          clear hx1
          unfold kdVal Kd.val fnV
          dsimp only
          go_wp2_with fail
          go_ret3
          exact ⟨_, rfl, HV.out _, ⟨_, _, _, rfl⟩, X1.out.trans (Ext.alloc _ _)⟩
        · go_enter Tryz.func24, Tryz.ntmps24
          go_wp2_with fail
          refine (HF.out _ (Ext.refl _)).mono ?_
          rintro e w1 ⟨rfl, hx1⟩
          have X1 := hid hx1
          clear hx1
          unfold kdVal Kd.val fnV
          dsimp only
          go_wp2_with fail
          go_ret3
          exact ⟨_, rfl, HV.out _, ⟨_, _, _, rfl⟩, X1.out.trans (Ext.alloc _ _)⟩
      | true =>
        have HV := hid (show ∀ W V, (if ∀ t ∈ ts, t.may then (if rightB k5.data.toList (ts.map T.kind) = true then Q W V else V = refV 20) else V = refV 1) → WorkQ ks op ts Q W V from HW'.out)
        have HCT := hid (show k1 ≤ (n : Int) ∧ (k2 < 0 ∨ (n : Int) ≤ k2) by
          have := HCN.out
          simp only [Bool.true_eq, Bool.and_eq_true, Bool.or_eq_true, decide_eq_true_eq] at this
          exact this)
        have h1 : k1 ≤ (n : Int) := HCT.out.1
        have HK2 := hid HCT.out.2
        clear HW' HCN HCT
        obtain ⟨ti, hi, hz0, hz1, hz2⟩ := info_parts valueInfoC
        obtain ⟨cz, hcz, hmk⟩ : ∃ cz : Array Value, cz.size = n ∧ ∀ w, (Instr.makeSlice 24 (.int .i64 (n : Int)) (.int .i64 (n : Int))).run Tryz.prog w = .ok (.slice (some ⟨w.heap.size, 0, none⟩) n n) (w.alloc (.cells cz 35)) := by
          refine ⟨madeCells (Value.nilIface).cells (n * 1), by rw [size_madeCells]; omega, fun w => ?_⟩
          have := run_make (P := Tryz.prog) w 24 35 ti _ Tryz.underlying24 hi hz0 .i64 .i64 n n (by omega) (Int.le_refl _) (by rw [hz2]; omega) (by omega)
          rw [hz1] at this
          simpa using this
        have HCZ := hid hcz
        clear hcz hi hz0 hz1 hz2
        by_cases hk2 : k2 < 0
        · go_enter Tryz.func24, Tryz.ntmps24
          go_wp2_with fail
          refine (HF.out _ (Ext.refl _)).mono ?_
          rintro e w1 ⟨rfl, hx1⟩
          have X1 := hid hx1
          clear hx1
          unfold kdVal Kd.val fnV
          dsimp only
          go_wp2_with fail
          have HMK := hid hmk
          clear hmk hqn hqf
          go_loopw [59] (fun q59 wr => ∃ (j : Nat) (cs : Array Value), j ≤ n ∧ q59 = .int .i64 j ∧ Ext w wr ∧ wr.heap[w1.heap.size]? = some (.cells #[.string k0, .int .i64 k1, .int .i64 k2, .int .i64 k3, .string k4, .string k5, .func (.func k6) #[] #[], .func (.func f) #[] #[], .bool false] 76) ∧ wr.heap[w1.heap.size + 1]? = some (.cells cs 35) ∧ cs.size = n ∧
              OwnC (w1.heap.size + 1) wr cs ts j) (fun q59 _ => n - (intOf q59).toNat)
          case atStart => exact ⟨0, cz, Nat.zero_le _, rfl, X1.out.trans (Ext.alloc2 _ _ _), blkOld _ (blk0 _ _), blk1 _ _ _, HCZ.out, OwnC.nil _ _ _ _⟩
          case round =>
            obtain ⟨j, cs, hj, rfl, hx, hb1, hb3, hcs, hall⟩ := hrel
            have HX := hid hx
            have HB1 := hid hb1
            have HB3 := hid hb3
            have HCS := hid hcs
            have HALL := hid hall
            clear hx hb1 hb3 hcs hall
            by_cases hlt : j < n
            · have hlt' : (j : Int) < n := by omega
              have hjt : j < ts.length := by rw [HNE.out]; exact hlt
              rcases HP.out with e0 | ⟨g, off, rfl, hcells⟩
              · rw [e0] at hjt; exact absurd hjt (Nat.not_lt_zero _)
              obtain ⟨K, d, u0, u1, u2, u3, h4, hrd⟩ := hcells j hjt
              obtain ⟨pk, pn, px, pa, pc, rfl, rfl, rfl, rfl⟩ := hrd.shape
              have HR := hid (fun o => hrd.later (HX.out.trans (Ext.alloc wr o)))
              obtain ⟨m0, m1, m2, m3⟩ := h4.later HX.out
              have hgl := lt_of_cell m0
              have HIN := hid (List.getElem_mem hjt)
              have HST := hid (show ts[j].may → ∀ (w2 : World) (d : Nat) (u : Value) (bs : List Nat), Ext wr w2 → VOwn w2 d u ts[j] bs → (∀ b ∈ bs, wr.heap.size ≤ b) → bs.Nodup → OwnC (w1.heap.size + 1) (w2.setCell ⟨(w1.heap.size + 1), j, none⟩ u) (cs.setIfInBounds j u) ts (j + 1) from fun hm w2 d u bs hx ho hge hnd => HALL.out.step hjt hm (lt_of_block HB3.out) (by rw [HCS.out]; exact hlt) hx ho hge hnd)
              clear hrd hcells h4
              generalize hkl : ts[j].kids.length = kl at m3 HR
              clear hkl
              generalize ts[j] = tj at HR HIN HST
              go_wp2_with fail
              refine (of_any _ (HR.out _)).mono ?_
              rintro e w2 ⟨hy, ⟨htm, u, bs, rfl, hown, hge, hnd⟩ | ⟨htm, rfl⟩⟩
              · obtain ⟨τ, p, rfl⟩ := hown.rd.iface
                have HY := hid ((Ext.alloc wr _).trans hy)
                have HO := hid hown
                have HGE := hid hge
                have HND := hid hnd
                have HTM := hid htm
                clear hy hown hge hnd htm
                have hb3' := HY.out.block HB3.out
                have hf3 : w2.frozen? ⟨w1.heap.size + 1, j, none⟩ = false := frozen_of hb3'
                have hc3 : w2.cell? ⟨w1.heap.size + 1, j, none⟩ = some cs[j]! := cell_of hb3' (by
                  have hs : j < cs.size := by rw [HCS.out]; exact hlt
                  rw [Array.getElem?_eq_getElem hs, getElem!_pos cs j hs])
                clear hb3'
                go_wp2_with fail
                go_roundw
                case rel =>
                  have KS : Kp (· ≠ w1.heap.size + 1) w2 (w2.setCell ⟨w1.heap.size + 1, j, none⟩ (.iface τ p)) := Kp.set w2 _ j _ (fun h => h rfl)
                  have hle : w.heap.size ≤ w1.heap.size + 1 := Nat.le_succ_of_le X1.out.size
                  refine ⟨j + 1, cs.setIfInBounds j (.iface τ p), by omega, by go_num, Kp.extOf (HX.out.trans HY.out) KS hle, set_other (HY.out.block HB1.out) (by omega) _, set_at (HY.out.block HB3.out) j _, by rw [Array.size_setIfInBounds]; exact HCS.out, HST.out HTM.out _ _ _ _ HY.out HO.out (fun b hb => by have h1 := HGE.out b hb; rw [blkS] at h1; omega) HND.out⟩
                case measure => simp [intOf]; omega
              · have HV1 := hid (show ∀ W, WorkQ ks op ts Q W (refV 1) from fun W => HV.out W _ (by rw [if_neg (fun h => htm (h _ HIN.out))]))
                have HY := hid ((Ext.alloc wr _).trans hy)
                clear hy htm
                go_wp2_with fail
                go_ret3
                exact ⟨_, rfl, HV1.out _, ⟨_, _, _, rfl⟩, HX.out.trans HY.out⟩
            · have hje : j = n := by omega
              have hlt2 : decide ((j : Int) < n) = false := decide_eq_false (by omega)
              have hlt3 : ¬ (j : Int) < n := by omega
              have hmay : ∀ t ∈ ts, t.may := fun t htm => by
                obtain ⟨i, hi, rfl⟩ := List.getElem_of_mem htm
                exact HALL.out.may i hi (by have := HNE.out; omega)
              have HV1 := hid (show ∀ W V, (if rightB k5.data.toList (ts.map T.kind) = true then Q W V else V = refV 20) → WorkQ ks op ts Q W V from fun W V h => HV.out W V (by rw [if_pos hmay]; exact h))
              have HLE := hid (show w.heap.size ≤ (w1.heap.size + 1) from Nat.le_succ_of_le X1.out.size)
              have HVC := hid (show VOFCells wr (w1.heap.size + 1) ts from HALL.out.cells (by rw [HNE.out]; omega) HB3.out (by rw [HCS.out, HNE.out]))
              have HDD := hid (HDN.out f rfl (w1.heap.size + 1) (ts.map T.kind) Q wr (HEK.out f rfl) HJK.out.2 (by rw [List.length_map, HNE.out]; omega) (HMX.out.later HX.out) HVC.out.row (fun hr => by
                have h2 := HDK.out f rfl (by rw [HNE.out]; exact hcb) hmay hr
                exact fun w3 hx3 => by rw [List.length_map]; exact h2 w3 _ (HX.out.trans hx3) HLE.out (HVC.out.later hx3)))
              rw [List.length_map, HNE.out] at HDD
              unfold Kd.val fnV at HDD
              dsimp only at HDD
              obtain ⟨z0, z1, z2, z3, z4, z5, z6, z7, z8⟩ := nine_of HB1.out
              clear hje hmay
              go_wp2_with fail
              refine HDD.out.mono ?_
              rintro e w2 ⟨V, rfl, hv, ⟨x, y, z, rfl⟩, hy⟩
              have HY := hid (HX.out.trans hy)
              have HVV := hid hv
              clear hy hv
              go_wp2_with fail
              go_ret3
              exact ⟨_, rfl, HV1.out _ _ HVV.out, ⟨_, _, _, rfl⟩, HY.out⟩
        · have hk3 : (n : Int) ≤ k2 := by have := HK2.out; omega
          go_enter Tryz.func24, Tryz.ntmps24
          go_wp2_with fail
          refine (HF.out _ (Ext.refl _)).mono ?_
          rintro e w1 ⟨rfl, hx1⟩
          have X1 := hid hx1
          clear hx1
          unfold kdVal Kd.val fnV
          dsimp only
          go_wp2_with fail
          have HMK := hid hmk
          clear hmk hqn hqf
          go_loopw [59] (fun q59 wr => ∃ (j : Nat) (cs : Array Value), j ≤ n ∧ q59 = .int .i64 j ∧ Ext w wr ∧ wr.heap[w1.heap.size]? = some (.cells #[.string k0, .int .i64 k1, .int .i64 k2, .int .i64 k3, .string k4, .string k5, .func (.func k6) #[] #[], .func (.func f) #[] #[], .bool false] 76) ∧ wr.heap[w1.heap.size + 1]? = some (.cells cs 35) ∧ cs.size = n ∧
              OwnC (w1.heap.size + 1) wr cs ts j) (fun q59 _ => n - (intOf q59).toNat)
          case atStart => exact ⟨0, cz, Nat.zero_le _, rfl, X1.out.trans (Ext.alloc2 _ _ _), blkOld _ (blk0 _ _), blk1 _ _ _, HCZ.out, OwnC.nil _ _ _ _⟩
          case round =>
            obtain ⟨j, cs, hj, rfl, hx, hb1, hb3, hcs, hall⟩ := hrel
            have HX := hid hx
            have HB1 := hid hb1
            have HB3 := hid hb3
            have HCS := hid hcs
            have HALL := hid hall
            clear hx hb1 hb3 hcs hall
            by_cases hlt : j < n
            · have hlt' : (j : Int) < n := by omega
              have hjt : j < ts.length := by rw [HNE.out]; exact hlt
              rcases HP.out with e0 | ⟨g, off, rfl, hcells⟩
              · rw [e0] at hjt; exact absurd hjt (Nat.not_lt_zero _)
              obtain ⟨K, d, u0, u1, u2, u3, h4, hrd⟩ := hcells j hjt
              obtain ⟨pk, pn, px, pa, pc, rfl, rfl, rfl, rfl⟩ := hrd.shape
              have HR := hid (fun o => hrd.later (HX.out.trans (Ext.alloc wr o)))
              obtain ⟨m0, m1, m2, m3⟩ := h4.later HX.out
              have hgl := lt_of_cell m0
              have HIN := hid (List.getElem_mem hjt)
              have HST := hid (show ts[j].may → ∀ (w2 : World) (d : Nat) (u : Value) (bs : List Nat), Ext wr w2 → VOwn w2 d u ts[j] bs → (∀ b ∈ bs, wr.heap.size ≤ b) → bs.Nodup → OwnC (w1.heap.size + 1) (w2.setCell ⟨(w1.heap.size + 1), j, none⟩ u) (cs.setIfInBounds j u) ts (j + 1) from fun hm w2 d u bs hx ho hge hnd => HALL.out.step hjt hm (lt_of_block HB3.out) (by rw [HCS.out]; exact hlt) hx ho hge hnd)
              clear hrd hcells h4
              generalize hkl : ts[j].kids.length = kl at m3 HR
              clear hkl
              generalize ts[j] = tj at HR HIN HST
              go_wp2_with fail
              refine (of_any _ (HR.out _)).mono ?_
              rintro e w2 ⟨hy, ⟨htm, u, bs, rfl, hown, hge, hnd⟩ | ⟨htm, rfl⟩⟩
              · obtain ⟨τ, p, rfl⟩ := hown.rd.iface
                have HY := hid ((Ext.alloc wr _).trans hy)
                have HO := hid hown
                have HGE := hid hge
                have HND := hid hnd
                have HTM := hid htm
                clear hy hown hge hnd htm
                have hb3' := HY.out.block HB3.out
                have hf3 : w2.frozen? ⟨w1.heap.size + 1, j, none⟩ = false := frozen_of hb3'
                have hc3 : w2.cell? ⟨w1.heap.size + 1, j, none⟩ = some cs[j]! := cell_of hb3' (by
                  have hs : j < cs.size := by rw [HCS.out]; exact hlt
                  rw [Array.getElem?_eq_getElem hs, getElem!_pos cs j hs])
                clear hb3'
                go_wp2_with fail
                go_roundw
                case rel =>
                  have KS : Kp (· ≠ w1.heap.size + 1) w2 (w2.setCell ⟨w1.heap.size + 1, j, none⟩ (.iface τ p)) := Kp.set w2 _ j _ (fun h => h rfl)
                  have hle : w.heap.size ≤ w1.heap.size + 1 := Nat.le_succ_of_le X1.out.size
                  refine ⟨j + 1, cs.setIfInBounds j (.iface τ p), by omega, by go_num, Kp.extOf (HX.out.trans HY.out) KS hle, set_other (HY.out.block HB1.out) (by omega) _, set_at (HY.out.block HB3.out) j _, by rw [Array.size_setIfInBounds]; exact HCS.out, HST.out HTM.out _ _ _ _ HY.out HO.out (fun b hb => by have h1 := HGE.out b hb; rw [blkS] at h1; omega) HND.out⟩
                case measure => simp [intOf]; omega
              · have HV1 := hid (show ∀ W, WorkQ ks op ts Q W (refV 1) from fun W => HV.out W _ (by rw [if_neg (fun h => htm (h _ HIN.out))]))
                have HY := hid ((Ext.alloc wr _).trans hy)
                clear hy htm
                go_wp2_with fail
                go_ret3
                exact ⟨_, rfl, HV1.out _, ⟨_, _, _, rfl⟩, HX.out.trans HY.out⟩
            · have hje : j = n := by omega
              have hlt2 : decide ((j : Int) < n) = false := decide_eq_false (by omega)
              have hlt3 : ¬ (j : Int) < n := by omega
              have hmay : ∀ t ∈ ts, t.may := fun t htm => by
                obtain ⟨i, hi, rfl⟩ := List.getElem_of_mem htm
                exact HALL.out.may i hi (by have := HNE.out; omega)
              have HV1 := hid (show ∀ W V, (if rightB k5.data.toList (ts.map T.kind) = true then Q W V else V = refV 20) → WorkQ ks op ts Q W V from fun W V h => HV.out W V (by rw [if_pos hmay]; exact h))
              have HLE := hid (show w.heap.size ≤ (w1.heap.size + 1) from Nat.le_succ_of_le X1.out.size)
              have HVC := hid (show VOFCells wr (w1.heap.size + 1) ts from HALL.out.cells (by rw [HNE.out]; omega) HB3.out (by rw [HCS.out, HNE.out]))
              have HDD := hid (HDN.out f rfl (w1.heap.size + 1) (ts.map T.kind) Q wr (HEK.out f rfl) HJK.out.2 (by rw [List.length_map, HNE.out]; omega) (HMX.out.later HX.out) HVC.out.row (fun hr => by
                have h2 := HDK.out f rfl (by rw [HNE.out]; exact hcb) hmay hr
                exact fun w3 hx3 => by rw [List.length_map]; exact h2 w3 _ (HX.out.trans hx3) HLE.out (HVC.out.later hx3)))
              rw [List.length_map, HNE.out] at HDD
              unfold Kd.val fnV at HDD
              dsimp only at HDD
              obtain ⟨z0, z1, z2, z3, z4, z5, z6, z7, z8⟩ := nine_of HB1.out
              clear hje hmay
              go_wp2_with fail
              refine HDD.out.mono ?_
              rintro e w2 ⟨V, rfl, hv, ⟨x, y, z, rfl⟩, hy⟩
              have HY := hid (HX.out.trans hy)
              have HVV := hid hv
              clear hy hv
              go_wp2_with fail
              go_ret3
              exact ⟨_, rfl, HV1.out _ _ HVV.out, ⟨_, _, _, rfl⟩, HY.out⟩
end Go.Proofs.YtaafcmmmkalgjaaGreatDoor
