/-
  Lists of plain values that are made of what came in: append of many, by laws: at a plain region, at a step of a region that draws its order.
-/
import Derived.Test.YtaafcmmmkalgjaaGreatDoorEqs
import Derived.Deep.AppendLies
import Derived.Laws.OwnMore
namespace Go.Proofs.YtaafcmmmkalgjaaGreatDoor
open Go.RowKit
/-- The slice lv holds plain values, as acc tells; its own blocks lie from base on, its items' ones below B. -/
def RIt (w : World) (B base d : Nat) (lv : Value) (acc : List T) : Prop := ∃ (us : List Value), w.ownsRow base 30 4 lv acc.length us ∧
  ∀ j, (h : j < acc.length) → ∃ u0 u1 u2 u3, us[j * 4]? = some u0 ∧ us[j * 4 + 1]? = some u1 ∧ us[j * 4 + 2]? = some u2 ∧ us[j * 4 + 3]? = some u3 ∧ Rd (fun x => x < B) w d (.agg #[u0, u1, u2, u3]) acc[j]
theorem RIt.nil {w : World} (B base d : Nat) : RIt w B base d (.slice none 0 0) [] := ⟨[], World.ownsRow_nil _ _ _ _, fun _ h => absurd h (Nat.not_lt_zero _)⟩
theorem RIt.later {w w' : World} {B base d : Nat} {lv : Value} {acc : List T} (h : RIt w B base d lv acc) (hx : Ext w w') : RIt w' B base d lv acc := by
  obtain ⟨us, ho, hi⟩ := h
  refine ⟨us, ⟨ho.1, ?_⟩, fun j hj => ?_⟩
  · rcases ho.2 with h | ⟨g, cap, cur, hv, hg, hb, hr⟩
    · exact .inl h
    · exact .inr ⟨g, cap, cur, hv, hg, hx.block hb, hr⟩
  · obtain ⟨u0, u1, u2, u3, h0, h1, h2, h3, hr⟩ := hi j hj
    exact ⟨u0, u1, u2, u3, h0, h1, h2, h3, hr.later hx⟩
theorem RIt.shape {w : World} {B base d : Nat} {lv : Value} {acc : List T} (h : RIt w B base d lv acc) : ∃ ao c, lv = .slice ao acc.length c := by
  obtain ⟨us, ho, _⟩ := h
  rcases ho.2 with ⟨hv, h0⟩ | ⟨g, cap, cur, hv, _⟩
  · exact ⟨none, 0, by rw [hv, h0]⟩
  · exact ⟨_, _, hv⟩
theorem RIt.rdl {K : Nat → Prop} {w : World} {B base d m c : Nat} {ao : Option Addr} {acc : List T} (h : RIt w B base d (.slice ao m c) acc) (hK : ∀ x, x < B ∨ base ≤ x → K x) (hl : acc.length * 56 ≤ 140737488351232) : RdL K w d ao acc := by
  refine ⟨hl, ?_⟩
  obtain ⟨us, ho, hi⟩ := h
  rcases ho.2 with ⟨hv, h1⟩ | ⟨g, cap, cur, hv, hbg, hbk, h3, h4, h5, h6⟩
  · exact .inl (List.eq_nil_of_length_eq_zero h1)
  · injection hv with e1 e2 e3
    subst e1; subst e2; subst e3
    refine .inr ⟨g, 0, rfl, hK g (.inr hbg), fun j hj => ?_⟩
    obtain ⟨u0, u1, u2, u3, q0, q1, q2, q3, hr⟩ := hi j hj
    have key : ∀ i u, i < acc.length * 4 → us[i]? = some u → w.cell? ⟨g, 0 + i, none⟩ = some u := fun i u hi hu => by
      rw [← h6, List.getElem?_take_of_lt hi] at hu
      rw [Nat.zero_add]
      exact cell_of hbk (by simpa using hu)
    exact ⟨u0, u1, u2, u3, ⟨key _ _ (by omega) q0, key _ _ (by omega) q1, key _ _ (by omega) q2, key _ _ (by omega) q3⟩, hr.mono (fun q _ hq => hK q (.inl hq))⟩
/-- The items of a list that came in. -/
def SRow (w : World) (B d : Nat) (a : Option Addr) (ks : List T) : Prop := ks = [] ∨ ∃ g off, a = some ⟨g, off, none⟩ ∧ ∀ j, (h : j < ks.length) → ∃ u0 u1 u2 u3, Four w g (off + j * 4) u0 u1 u2 u3 ∧ Rd (fun x => x < B) w d (.agg #[u0, u1, u2, u3]) ks[j]
theorem SRow.later {w w' : World} {B d : Nat} {a : Option Addr} {ks : List T} (h : SRow w B d a ks) (hx : Ext w w') : SRow w' B d a ks := h.imp id fun ⟨g, off, e, hc⟩ => ⟨g, off, e, fun j hj => by
  obtain ⟨u0, u1, u2, u3, h4, hr⟩ := hc j hj
  exact ⟨u0, u1, u2, u3, h4.keep (hx.kp (fun _ => True)) trivial, hr.later hx⟩⟩
/-- The cells of plain values in a row. -/
theorem rdl_cells {K : Nat → Prop} {w : World} {d g off : Nat} {ks : List T} (h : ∀ j, (h : j < ks.length) → ∃ u0 u1 u2 u3, Four w g (off + j * 4) u0 u1 u2 u3 ∧ Rd K w d (.agg #[u0, u1, u2, u3]) ks[j]) : ∃ news : List Value, news.length = ks.length * 4 ∧ (∀ i u, news[i]? = some u → w.cell? ⟨g, off + i, none⟩ = some u) ∧ (∀ u ∈ news, u.oneCell' = true) ∧ ∀ j, (h : j < ks.length) → ∃ u0 u1 u2 u3, news[j * 4]? = some u0 ∧ news[j * 4 + 1]? = some u1 ∧ news[j * 4 + 2]? = some u2 ∧ news[j * 4 + 3]? = some u3 ∧ Rd K w d (.agg #[u0, u1, u2, u3]) ks[j] := by
  have key : ∀ i, i < ks.length * 4 → ∃ u, w.cell? ⟨g, off + i, none⟩ = some u ∧ u.oneCell' = true := fun i hi => by
    obtain ⟨u0, u1, u2, u3, h4, hr⟩ := h (i / 4) (by omega)
    obtain ⟨k, n, x, a, c, rfl, rfl, rfl, rfl⟩ := hr.shape
    obtain ⟨c0, c1, c2, c3⟩ := h4
    have hm : i = i / 4 * 4 + i % 4 := by omega
    have h4' : i % 4 = 0 ∨ i % 4 = 1 ∨ i % 4 = 2 ∨ i % 4 = 3 := by omega
    rcases h4' with e | e | e | e
    · exact ⟨_, by rw [show off + i = off + i / 4 * 4 by omega]; exact c0, rfl⟩
    · exact ⟨_, by rw [show off + i = off + i / 4 * 4 + 1 by omega]; exact c1, rfl⟩
    · exact ⟨_, by rw [show off + i = off + i / 4 * 4 + 2 by omega]; exact c2, rfl⟩
    · exact ⟨_, by rw [show off + i = off + i / 4 * 4 + 3 by omega]; exact c3, rfl⟩
  have get : ∀ i, i < ks.length * 4 → ∀ u, w.cell? ⟨g, off + i, none⟩ = some u → ((List.range (ks.length * 4)).map fun i => (w.cell? ⟨g, off + i, none⟩).getD .nilIface)[i]? = some u := fun i hi u hu => by
    rw [List.getElem?_map, List.getElem?_range hi]
    show some ((w.cell? ⟨g, off + i, none⟩).getD .nilIface) = some u
    rw [hu]
    rfl
  have ofget : ∀ i u, ((List.range (ks.length * 4)).map fun i => (w.cell? ⟨g, off + i, none⟩).getD .nilIface)[i]? = some u → i < ks.length * 4 ∧ w.cell? ⟨g, off + i, none⟩ = some u := fun i u hu => by
    have hi : i < ks.length * 4 := by
      have := (List.getElem?_eq_some_iff.1 hu).1
      simpa using this
    obtain ⟨v, hv, _⟩ := key i hi
    rw [get i hi v hv] at hu
    exact ⟨hi, by rw [hv, Option.some.inj hu]⟩
  refine ⟨(List.range (ks.length * 4)).map fun i => (w.cell? ⟨g, off + i, none⟩).getD .nilIface, by simp, fun i u hu => (ofget i u hu).2, fun u hu => ?_, fun j hj => ?_⟩
  · obtain ⟨i, hi, rfl⟩ := List.getElem_of_mem hu
    obtain ⟨h1, h2⟩ := ofget i _ (List.getElem?_eq_getElem hi)
    obtain ⟨v, hv, ho⟩ := key i h1
    rw [h2] at hv
    rw [Option.some.inj hv]
    exact ho
  · obtain ⟨u0, u1, u2, u3, ⟨c0, c1, c2, c3⟩, hr⟩ := h j hj
    exact ⟨u0, u1, u2, u3, get _ (by omega) _ c0, get _ (by omega) _ (by rw [← Nat.add_assoc]; exact c1), get _ (by omega) _ (by rw [← Nat.add_assoc]; exact c2), get _ (by omega) _ (by rw [← Nat.add_assoc]; exact c3), hr⟩
theorem load_zero (a : Addr) (w : World) : (loadCells a 0).run Tryz.prog w = .ok #[] w := rfl
theorem run_zero {w : World} {base n : Nat} {v : Value} {xs : List Value} (a : Option Addr) (c : Nat) (hown : w.ownsRow base 30 4 v n xs) : (Builtin.append_ #[25, 25] 25 #[v, .slice a 0 c]).run Tryz.prog w = .ok v w := by
  obtain ⟨i, hi, _, _, _⟩ := info_parts plainInfo
  rcases hown.2 with ⟨rfl, rfl⟩ | ⟨g, cap, cur, rfl, _, _, hnc, _⟩
  · cases a with
    | none => simp [Builtin.append_, run_underlying Tryz.underlying25, sizeOf, typeInfo, hi, Builtin.lenOf, Builtin.firstCells]
    | some a => simp [Builtin.append_, run_underlying Tryz.underlying25, sizeOf, typeInfo, hi, Builtin.lenOf, Builtin.firstCells, load_zero]
  · cases a with
    | none => simp [Builtin.append_, run_underlying Tryz.underlying25, sizeOf, typeInfo, hi, Builtin.lenOf, Builtin.firstCells, hnc, storeCells]
    | some a => simp [Builtin.append_, run_underlying Tryz.underlying25, sizeOf, typeInfo, hi, Builtin.lenOf, Builtin.firstCells, hnc, storeCells, load_zero]
theorem run_rits {w : World} (B base d : Nat) (lv : Value) (acc : List T) (a : Option Addr) (n c : Nat) (ks : List T) (hn : ks.length = n) (hb : B ≤ base) (hB : base ≤ w.heap.size) (hit : RIt w B base d lv acc) (hs : SRow w B d a ks) (hlim : (acc.length + n) * 56 ≤ 140737488351232) :
    ∃ ao c' w', (Builtin.append_ #[25, 25] 25 #[lv, .slice a n c]).run Tryz.prog w = .ok (.slice ao (acc.length + n) c') w' ∧ RIt w' B base d (.slice ao (acc.length + n) c') (acc ++ ks) ∧ Below base w w' ∧ (lv = .slice none 0 0 → Ext w w') := by
  subst hn
  have hit0 := hit
  obtain ⟨us, ho, hi⟩ := hit
  rcases Nat.eq_zero_or_pos ks.length with h0 | h0
  · obtain rfl := List.eq_nil_of_length_eq_zero h0
    obtain ⟨ao, c', rfl⟩ := hit0.shape
    exact ⟨ao, c', w, run_zero a c ho, by rw [List.append_nil]; exact hit0, Below.refl _ _, fun _ => Ext.refl _⟩
  rcases hs with rfl | ⟨g, off, rfl, hc⟩
  · exact absurd h0 (by decide)
  obtain ⟨ii, hii, hz0, hz1, hz2⟩ := info_parts plainInfo
  obtain ⟨news, hnl, hnc, hn1, hnr⟩ := rdl_cells hc
  have hnews : ∀ (j : Nat) (u : Value), news[j]? = some u → w.cell? (Addr.add ⟨g, off, none⟩ j) = some u := by
    intro j u hu
    have e : Addr.add ⟨g, off, none⟩ j = ⟨g, off + j, none⟩ := by
      by_cases hj : j = 0
      · subst hj; simp [Addr.add]
      · simp [Addr.add, hj]
    rw [e]
    exact hnc j u hu
  obtain ⟨v', w', hr, ho2, hg, _, _⟩ := run_append_own_at (P := Tryz.prog) w base 25 25 30 ii _ 4 56 Tryz.underlying25 hii hz0 hz1 hz2 rfl (by decide) lv acc.length us ho ⟨g, off, none⟩ ks.length c news hnl hnews hn1 (by unfold maxLen; omega) (by omega) hB
  have hkp := grown_kp hg
  have hul : us.length = acc.length * 4 := ho.1
  have hmv : ∀ u t, Rd (fun x => x < B) w d u t → Rd (fun x => x < B) w' d u t := fun u t h =>
    Rd.keep (hkp.mono (fun k _ hk e => by
      have h1 := (World.ownsRow.lt ho k e).1
      have hk' : k < B := hk
      omega)) h
  have hI : RIt w' B base d v' (acc ++ ks) := by
    refine ⟨us ++ news, by rw [List.length_append]; exact ho2, fun j hj => ?_⟩
    by_cases hj' : j < acc.length
    · obtain ⟨u0, u1, u2, u3, h0, h1, h2, h3, hr3⟩ := hi j hj'
      refine ⟨u0, u1, u2, u3, by rw [List.getElem?_append_left (by omega)]; exact h0, by rw [List.getElem?_append_left (by omega)]; exact h1, by rw [List.getElem?_append_left (by omega)]; exact h2, by rw [List.getElem?_append_left (by omega)]; exact h3, ?_⟩
      rw [List.getElem_append_left hj']
      exact hmv _ _ hr3
    · rw [List.length_append] at hj
      obtain ⟨u0, u1, u2, u3, h0, h1, h2, h3, hr3⟩ := hnr (j - acc.length) (by omega)
      have e : ∀ r, j * 4 + r - us.length = (j - acc.length) * 4 + r := fun r => by rw [hul]; omega
      refine ⟨u0, u1, u2, u3, ?_, ?_, ?_, ?_, ?_⟩
      · rw [List.getElem?_append_right (by omega), show j * 4 - us.length = (j - acc.length) * 4 from e 0]; exact h0
      · rw [List.getElem?_append_right (by omega), e 1]; exact h1
      · rw [List.getElem?_append_right (by omega), e 2]; exact h2
      · rw [List.getElem?_append_right (by omega), e 3]; exact h3
      · rw [List.getElem_append_right (by omega)]
        exact hmv _ _ hr3
  obtain ⟨ao, c', rfl⟩ := hI.shape
  rw [List.length_append] at hr hI
  exact ⟨ao, c', w', hr, hI, Below.grown (Below.refl base w) hg hB (fun k hk => (World.ownsRow.lt ho k hk).1), fun e => Below.grown (Ext.refl w) hg (Nat.le_refl _) (fun k hk => by rw [e] at hk; simp [Value.ownBlock] at hk)⟩
theorem app_rits {ops : Array Oper} {rest : List Oper} {o : Oper} {ac : Act} {Q : Exit → Act → World → Prop} {w : World} (hgd : o.guard = none) (s y : Operand)
    (ho : o.op = .call { callee := .builtin .append, args := #[s, y], argTypes := #[25, 25] }) (hty : o.type = 25) (B base d : Nat) (lv : Value) (acc : List T) (a : Option Addr) (n c : Nat) (ks : List T) (hs : ac.eval s = lv) (hx : ac.eval y = .slice a n c)
    (hn : ks.length = n) (hb : B ≤ base) (hB : base ≤ w.heap.size) (hit : RIt w B base d lv acc) (hsr : SRow w B d a ks) (hlim : (acc.length + n) * 56 ≤ 140737488351232) (N : Nat) (hN : acc.length + n = N) (zs : List T) (hzs : acc ++ ks = zs)
    (h : ∀ ao c' w', RIt w' B base d (.slice ao N c') zs → Below base w w' → (lv = .slice none 0 0 → Ext w w') → wpList Tryz.prog ops Q rest (ac.put o.dst (.slice ao N c')) w') : wpList Tryz.prog ops Q (o :: rest) ac w := by
  refine wpList_plain hgd fun K hK => ?_
  subst hN; subst hzs
  obtain ⟨ao, c', w', hr, h2, h3, h4⟩ := run_rits B base d lv acc a n c ks hn hb hB hit hsr hlim
  unfold Oper.wp execOp
  simp only [ho, hty, resolve, invoke, builtin, Sem.run_bind, Sem.run_pure, Result.andThen_ok, List.map_toArray, List.map_cons, List.map_nil, hs, hx, hr]
  exact hK _ _ (h ao c' w' h2 h3 h4)
theorem step_rits {ops : Array Oper} {o : Oper} {ac : Act} {K : Act → World → Prop} {Q : Exit → Act → World → Prop} {E : Prop} (w : World) (hgd : o.guard = none) (s y : Operand)
    (ho : o.op = .call { callee := .builtin .append, args := #[s, y], argTypes := #[25, 25] }) (hty : o.type = 25) (B base d : Nat) (lv : Value) (acc : List T) (a : Option Addr) (n c : Nat) (ks : List T) (hs : ac.eval s = lv) (hx : ac.eval y = .slice a n c)
    (hn : ks.length = n) (hb : B ≤ base) (hB : base ≤ w.heap.size) (hit : RIt w B base d lv acc) (hsr : SRow w B d a ks) (hlim : (acc.length + n) * 56 ≤ 140737488351232) (N : Nat) (hN : acc.length + n = N) (zs : List T) (hzs : acc ++ ks = zs)
    (h : ∀ ao c' w', RIt w' B base d (.slice ao N c') zs → Below base w w' → (lv = .slice none 0 0 → Ext w w') → K (ac.put o.dst (.slice ao N c')) w') :
    if Region.wanted o (yielded ops ac.tmps) = true then Oper.wp Tryz.prog o ac w K Q else E := by
  have hw : Region.wanted o (yielded ops ac.tmps) = true := by simp [Region.wanted, hgd]
  rw [if_pos hw]
  subst hN; subst hzs
  obtain ⟨ao, c', w', hr, h2, h3, h4⟩ := run_rits B base d lv acc a n c ks hn hb hB hit hsr hlim
  unfold Oper.wp execOp
  simp only [ho, hty, resolve, invoke, builtin, Sem.run_bind, Sem.run_pure, Result.andThen_ok, List.map_toArray, List.map_cons, List.map_nil, hs, hx, hr]
  exact h ao c' w' h2 h3 h4
end Go.Proofs.YtaafcmmmkalgjaaGreatDoor
