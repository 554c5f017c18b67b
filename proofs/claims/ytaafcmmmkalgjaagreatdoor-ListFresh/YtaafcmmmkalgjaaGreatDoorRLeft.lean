/-
  Lists of plain values that are made of what came in: append of many, by laws: at a plain region, at a step of a region that draws its order.
-/
import Derived.Test.YtaafcmmmkalgjaaGreatDoorKItems
import Derived.Test.YtaafcmmmkalgjaaGreatDoorCFits
import Derived.Deep.AppendLies
import Derived.Laws.OwnMore
import Derived.Test.YtaafcmmmkalgjaaGreatDoorLOps
namespace Go.Proofs.YtaafcmmmkalgjaaGreatDoor
open Go.RowKit
/-- The slice lv holds plain values, as acc tells; its own blocks lie from base on, its items' ones below B. -/
def RIt (w : World) (B base d : Nat) (lv : Value) (acc : List T) : Prop := ∃ (us : List Value), w.ownsRow base 30 4 lv acc.length us ∧
  ∀ j, (h : j < acc.length) → ∃ u0 u1 u2 u3, us[j * 4]? = some u0 ∧ us[j * 4 + 1]? = some u1 ∧ us[j * 4 + 2]? = some u2 ∧ us[j * 4 + 3]? = some u3 ∧ Rd (fun x => x < B) w d (.agg #[u0, u1, u2, u3]) acc[j]
theorem RIt.nil {w : World} (B base d : Nat) : RIt w B base d (.slice none 0 0) [] := ⟨[], World.ownsRow_nil _ _ _ _, fun _ h => absurd h (Nat.not_lt_zero _)⟩
theorem RIt.later {w w' : World} {B base d : Nat} {lv : Value} {acc : List T} (h : RIt w B base d lv acc) (hx : Ext w w') : RIt w' B base d lv acc := by
  obtain ⟨us, ho, hi⟩ := h
  refine ⟨us, ⟨ho.1, ?_⟩, fun j hj => ?_⟩
  · rcases ho.2 with h | ⟨g, cap, cur, hv, hg, hb, hr⟩
    · exact .inl h
    · exact .inr ⟨g, cap, cur, hv, hg, hx.block hb, hr⟩
  · obtain ⟨u0, u1, u2, u3, h0, h1, h2, h3, hr⟩ := hi j hj
    exact ⟨u0, u1, u2, u3, h0, h1, h2, h3, hr.later hx⟩
theorem RIt.shape {w : World} {B base d : Nat} {lv : Value} {acc : List T} (h : RIt w B base d lv acc) : ∃ ao c, lv = .slice ao acc.length c := by
  obtain ⟨us, ho, _⟩ := h
  rcases ho.2 with ⟨hv, h0⟩ | ⟨g, cap, cur, hv, _⟩
  · exact ⟨none, 0, by rw [hv, h0]⟩
  · exact ⟨_, _, hv⟩
theorem RIt.rdl {K : Nat → Prop} {w : World} {B base d m c : Nat} {ao : Option Addr} {acc : List T} (h : RIt w B base d (.slice ao m c) acc) (hK : ∀ x, x < B ∨ base ≤ x → K x) (hl : acc.length * 56 ≤ 140737488351232) : RdL K w d ao acc := by
  refine ⟨hl, ?_⟩
  obtain ⟨us, ho, hi⟩ := h
  rcases ho.2 with ⟨hv, h1⟩ | ⟨g, cap, cur, hv, hbg, hbk, h3, h4, h5, h6⟩
  · exact .inl (List.eq_nil_of_length_eq_zero h1)
  · injection hv with e1 e2 e3
    subst e1; subst e2; subst e3
    refine .inr ⟨g, 0, rfl, hK g (.inr hbg), fun j hj => ?_⟩
    obtain ⟨u0, u1, u2, u3, q0, q1, q2, q3, hr⟩ := hi j hj
    have key : ∀ i u, i < acc.length * 4 → us[i]? = some u → w.cell? ⟨g, 0 + i, none⟩ = some u := fun i u hi hu => by
      rw [← h6, List.getElem?_take_of_lt hi] at hu
      rw [Nat.zero_add]
      exact cell_of hbk (by simpa using hu)
    exact ⟨u0, u1, u2, u3, ⟨key _ _ (by omega) q0, key _ _ (by omega) q1, key _ _ (by omega) q2, key _ _ (by omega) q3⟩, hr.mono (fun q _ hq => hK q (.inl hq))⟩
/-- The items of a list that came in. -/
def SRow (w : World) (B d : Nat) (a : Option Addr) (ks : List T) : Prop := ks = [] ∨ ∃ g off, a = some ⟨g, off, none⟩ ∧ ∀ j, (h : j < ks.length) → ∃ u0 u1 u2 u3, Four w g (off + j * 4) u0 u1 u2 u3 ∧ Rd (fun x => x < B) w d (.agg #[u0, u1, u2, u3]) ks[j]
theorem SRow.later {w w' : World} {B d : Nat} {a : Option Addr} {ks : List T} (h : SRow w B d a ks) (hx : Ext w w') : SRow w' B d a ks := h.imp id fun ⟨g, off, e, hc⟩ => ⟨g, off, e, fun j hj => by
  obtain ⟨u0, u1, u2, u3, h4, hr⟩ := hc j hj
  exact ⟨u0, u1, u2, u3, h4.keep (hx.kp (fun _ => True)) trivial, hr.later hx⟩⟩
/-- The cells of plain values in a row. -/
theorem rdl_cells {K : Nat → Prop} {w : World} {d g off : Nat} {ks : List T} (h : ∀ j, (h : j < ks.length) → ∃ u0 u1 u2 u3, Four w g (off + j * 4) u0 u1 u2 u3 ∧ Rd K w d (.agg #[u0, u1, u2, u3]) ks[j]) : ∃ news : List Value, news.length = ks.length * 4 ∧ (∀ i u, news[i]? = some u → w.cell? ⟨g, off + i, none⟩ = some u) ∧ (∀ u ∈ news, u.oneCell' = true) ∧ ∀ j, (h : j < ks.length) → ∃ u0 u1 u2 u3, news[j * 4]? = some u0 ∧ news[j * 4 + 1]? = some u1 ∧ news[j * 4 + 2]? = some u2 ∧ news[j * 4 + 3]? = some u3 ∧ Rd K w d (.agg #[u0, u1, u2, u3]) ks[j] := by
  have key : ∀ i, i < ks.length * 4 → ∃ u, w.cell? ⟨g, off + i, none⟩ = some u ∧ u.oneCell' = true := fun i hi => by
    obtain ⟨u0, u1, u2, u3, h4, hr⟩ := h (i / 4) (by omega)
    obtain ⟨k, n, x, a, c, rfl, rfl, rfl, rfl⟩ := hr.shape
    obtain ⟨c0, c1, c2, c3⟩ := h4
    have hm : i = i / 4 * 4 + i % 4 := by omega
    have h4' : i % 4 = 0 ∨ i % 4 = 1 ∨ i % 4 = 2 ∨ i % 4 = 3 := by omega
    rcases h4' with e | e | e | e
    · exact ⟨_, by rw [show off + i = off + i / 4 * 4 by omega]; exact c0, rfl⟩
    · exact ⟨_, by rw [show off + i = off + i / 4 * 4 + 1 by omega]; exact c1, rfl⟩
    · exact ⟨_, by rw [show off + i = off + i / 4 * 4 + 2 by omega]; exact c2, rfl⟩
    · exact ⟨_, by rw [show off + i = off + i / 4 * 4 + 3 by omega]; exact c3, rfl⟩
  have get : ∀ i, i < ks.length * 4 → ∀ u, w.cell? ⟨g, off + i, none⟩ = some u → ((List.range (ks.length * 4)).map fun i => (w.cell? ⟨g, off + i, none⟩).getD .nilIface)[i]? = some u := fun i hi u hu => by
    rw [List.getElem?_map, List.getElem?_range hi]
    show some ((w.cell? ⟨g, off + i, none⟩).getD .nilIface) = some u
    rw [hu]
    rfl
  have ofget : ∀ i u, ((List.range (ks.length * 4)).map fun i => (w.cell? ⟨g, off + i, none⟩).getD .nilIface)[i]? = some u → i < ks.length * 4 ∧ w.cell? ⟨g, off + i, none⟩ = some u := fun i u hu => by
    have hi : i < ks.length * 4 := by
      have := (List.getElem?_eq_some_iff.1 hu).1
      simpa using this
    obtain ⟨v, hv, _⟩ := key i hi
    rw [get i hi v hv] at hu
    exact ⟨hi, by rw [hv, Option.some.inj hu]⟩
  refine ⟨(List.range (ks.length * 4)).map fun i => (w.cell? ⟨g, off + i, none⟩).getD .nilIface, by simp, fun i u hu => (ofget i u hu).2, fun u hu => ?_, fun j hj => ?_⟩
  · obtain ⟨i, hi, rfl⟩ := List.getElem_of_mem hu
    obtain ⟨h1, h2⟩ := ofget i _ (List.getElem?_eq_getElem hi)
    obtain ⟨v, hv, ho⟩ := key i h1
    rw [h2] at hv
    rw [Option.some.inj hv]
    exact ho
  · obtain ⟨u0, u1, u2, u3, ⟨c0, c1, c2, c3⟩, hr⟩ := h j hj
    exact ⟨u0, u1, u2, u3, get _ (by omega) _ c0, get _ (by omega) _ (by rw [← Nat.add_assoc]; exact c1), get _ (by omega) _ (by rw [← Nat.add_assoc]; exact c2), get _ (by omega) _ (by rw [← Nat.add_assoc]; exact c3), hr⟩
theorem load_zero (a : Addr) (w : World) : (loadCells a 0).run Tryz.prog w = .ok #[] w := rfl
theorem run_zero {w : World} {base n : Nat} {v : Value} {xs : List Value} (a : Option Addr) (c : Nat) (hown : w.ownsRow base 30 4 v n xs) : (Builtin.append_ #[25, 25] 25 #[v, .slice a 0 c]).run Tryz.prog w = .ok v w := by
  obtain ⟨i, hi, _, _, _⟩ := info_parts plainInfo
  rcases hown.2 with ⟨rfl, rfl⟩ | ⟨g, cap, cur, rfl, _, _, hnc, _⟩
  · cases a with
    | none => simp [Builtin.append_, run_underlying Tryz.underlying25, sizeOf, typeInfo, hi, Builtin.lenOf, Builtin.firstCells]
    | some a => simp [Builtin.append_, run_underlying Tryz.underlying25, sizeOf, typeInfo, hi, Builtin.lenOf, Builtin.firstCells, load_zero]
  · cases a with
    | none => simp [Builtin.append_, run_underlying Tryz.underlying25, sizeOf, typeInfo, hi, Builtin.lenOf, Builtin.firstCells, hnc, storeCells]
    | some a => simp [Builtin.append_, run_underlying Tryz.underlying25, sizeOf, typeInfo, hi, Builtin.lenOf, Builtin.firstCells, hnc, storeCells, load_zero]
theorem run_rits {w : World} (B base d : Nat) (lv : Value) (acc : List T) (a : Option Addr) (n c : Nat) (ks : List T) (hn : ks.length = n) (hb : B ≤ base) (hB : base ≤ w.heap.size) (hit : RIt w B base d lv acc) (hs : SRow w B d a ks) (hlim : (acc.length + n) * 56 ≤ 140737488351232) :
    ∃ ao c' w', (Builtin.append_ #[25, 25] 25 #[lv, .slice a n c]).run Tryz.prog w = .ok (.slice ao (acc.length + n) c') w' ∧ RIt w' B base d (.slice ao (acc.length + n) c') (acc ++ ks) ∧ Below base w w' ∧ (lv = .slice none 0 0 → Ext w w') := by
  subst hn
  have hit0 := hit
  obtain ⟨us, ho, hi⟩ := hit
  rcases Nat.eq_zero_or_pos ks.length with h0 | h0
  · obtain rfl := List.eq_nil_of_length_eq_zero h0
    obtain ⟨ao, c', rfl⟩ := hit0.shape
    exact ⟨ao, c', w, run_zero a c ho, by rw [List.append_nil]; exact hit0, Below.refl _ _, fun _ => Ext.refl _⟩
  rcases hs with rfl | ⟨g, off, rfl, hc⟩
  · exact absurd h0 (by decide)
  obtain ⟨ii, hii, hz0, hz1, hz2⟩ := info_parts plainInfo
  obtain ⟨news, hnl, hnc, hn1, hnr⟩ := rdl_cells hc
  have hnews : ∀ (j : Nat) (u : Value), news[j]? = some u → w.cell? (Addr.add ⟨g, off, none⟩ j) = some u := by
    intro j u hu
    have e : Addr.add ⟨g, off, none⟩ j = ⟨g, off + j, none⟩ := by
      by_cases hj : j = 0
      · subst hj; simp [Addr.add]
      · simp [Addr.add, hj]
    rw [e]
    exact hnc j u hu
  obtain ⟨v', w', hr, ho2, hg, _, _⟩ := run_append_own_at (P := Tryz.prog) w base 25 25 30 ii _ 4 56 Tryz.underlying25 hii hz0 hz1 hz2 rfl (by decide) lv acc.length us ho ⟨g, off, none⟩ ks.length c news hnl hnews hn1 (by unfold maxLen; omega) (by omega) hB
  have hkp := grown_kp hg
  have hul : us.length = acc.length * 4 := ho.1
  have hmv : ∀ u t, Rd (fun x => x < B) w d u t → Rd (fun x => x < B) w' d u t := fun u t h =>
    Rd.keep (hkp.mono (fun k _ hk e => by
      have h1 := (World.ownsRow.lt ho k e).1
      have hk' : k < B := hk
      omega)) h
  have hI : RIt w' B base d v' (acc ++ ks) := by
    refine ⟨us ++ news, by rw [List.length_append]; exact ho2, fun j hj => ?_⟩
    by_cases hj' : j < acc.length
    · obtain ⟨u0, u1, u2, u3, h0, h1, h2, h3, hr3⟩ := hi j hj'
      refine ⟨u0, u1, u2, u3, by rw [List.getElem?_append_left (by omega)]; exact h0, by rw [List.getElem?_append_left (by omega)]; exact h1, by rw [List.getElem?_append_left (by omega)]; exact h2, by rw [List.getElem?_append_left (by omega)]; exact h3, ?_⟩
      rw [List.getElem_append_left hj']
      exact hmv _ _ hr3
    · rw [List.length_append] at hj
      obtain ⟨u0, u1, u2, u3, h0, h1, h2, h3, hr3⟩ := hnr (j - acc.length) (by omega)
      have e : ∀ r, j * 4 + r - us.length = (j - acc.length) * 4 + r := fun r => by rw [hul]; omega
      refine ⟨u0, u1, u2, u3, ?_, ?_, ?_, ?_, ?_⟩
      · rw [List.getElem?_append_right (by omega), show j * 4 - us.length = (j - acc.length) * 4 from e 0]; exact h0
      · rw [List.getElem?_append_right (by omega), e 1]; exact h1
      · rw [List.getElem?_append_right (by omega), e 2]; exact h2
      · rw [List.getElem?_append_right (by omega), e 3]; exact h3
      · rw [List.getElem_append_right (by omega)]
        exact hmv _ _ hr3
  obtain ⟨ao, c', rfl⟩ := hI.shape
  rw [List.length_append] at hr hI
  exact ⟨ao, c', w', hr, hI, Below.grown (Below.refl base w) hg hB (fun k hk => (World.ownsRow.lt ho k hk).1), fun e => Below.grown (Ext.refl w) hg (Nat.le_refl _) (fun k hk => by rw [e] at hk; simp [Value.ownBlock] at hk)⟩
theorem app_rits {ops : Array Oper} {rest : List Oper} {o : Oper} {ac : Act} {Q : Exit → Act → World → Prop} {w : World} (hgd : o.guard = none) (s y : Operand)
    (ho : o.op = .call { callee := .builtin .append, args := #[s, y], argTypes := #[25, 25] }) (hty : o.type = 25) (B base d : Nat) (lv : Value) (acc : List T) (a : Option Addr) (n c : Nat) (ks : List T) (hs : ac.eval s = lv) (hx : ac.eval y = .slice a n c)
    (hn : ks.length = n) (hb : B ≤ base) (hB : base ≤ w.heap.size) (hit : RIt w B base d lv acc) (hsr : SRow w B d a ks) (hlim : (acc.length + n) * 56 ≤ 140737488351232) (N : Nat) (hN : acc.length + n = N) (zs : List T) (hzs : acc ++ ks = zs)
    (h : ∀ ao c' w', RIt w' B base d (.slice ao N c') zs → Below base w w' → (lv = .slice none 0 0 → Ext w w') → wpList Tryz.prog ops Q rest (ac.put o.dst (.slice ao N c')) w') : wpList Tryz.prog ops Q (o :: rest) ac w := by
  refine wpList_plain hgd fun K hK => ?_
  subst hN; subst hzs
  obtain ⟨ao, c', w', hr, h2, h3, h4⟩ := run_rits B base d lv acc a n c ks hn hb hB hit hsr hlim
  unfold Oper.wp execOp
  simp only [ho, hty, resolve, invoke, builtin, Sem.run_bind, Sem.run_pure, Result.andThen_ok, List.map_toArray, List.map_cons, List.map_nil, hs, hx, hr]
  exact hK _ _ (h ao c' w' h2 h3 h4)
theorem step_rits {ops : Array Oper} {o : Oper} {ac : Act} {K : Act → World → Prop} {Q : Exit → Act → World → Prop} {E : Prop} (w : World) (hgd : o.guard = none) (s y : Operand)
    (ho : o.op = .call { callee := .builtin .append, args := #[s, y], argTypes := #[25, 25] }) (hty : o.type = 25) (B base d : Nat) (lv : Value) (acc : List T) (a : Option Addr) (n c : Nat) (ks : List T) (hs : ac.eval s = lv) (hx : ac.eval y = .slice a n c)
    (hn : ks.length = n) (hb : B ≤ base) (hB : base ≤ w.heap.size) (hit : RIt w B base d lv acc) (hsr : SRow w B d a ks) (hlim : (acc.length + n) * 56 ≤ 140737488351232) (N : Nat) (hN : acc.length + n = N) (zs : List T) (hzs : acc ++ ks = zs)
    (h : ∀ ao c' w', RIt w' B base d (.slice ao N c') zs → Below base w w' → (lv = .slice none 0 0 → Ext w w') → K (ac.put o.dst (.slice ao N c')) w') :
    if Region.wanted o (yielded ops ac.tmps) = true then Oper.wp Tryz.prog o ac w K Q else E := by
  have hw : Region.wanted o (yielded ops ac.tmps) = true := by simp [Region.wanted, hgd]
  rw [if_pos hw]
  subst hN; subst hzs
  obtain ⟨ao, c', w', hr, h2, h3, h4⟩ := run_rits B base d lv acc a n c ks hn hb hB hit hsr hlim
  unfold Oper.wp execOp
  simp only [ho, hty, resolve, invoke, builtin, Sem.run_bind, Sem.run_pure, Result.andThen_ok, List.map_toArray, List.map_cons, List.map_nil, hs, hx, hr]
  exact h ao c' w' h2 h3 h4
end Go.Proofs.YtaafcmmmkalgjaaGreatDoor
/-
  The reference's left, May and Size, each by a contract.
-/
namespace Go.Proofs.YtaafcmmmkalgjaaGreatDoor
open Go.RowKit
/-- What is left of sz behind a value with so many lists around it; -1: it may not be. -/
def leftN (sz nest : Nat) (t : T) : Int := if T.ok sz nest t then ((sz - t.size : Nat) : Int) else -1
theorem leftN_range (sz nest : Nat) (t : T) : -1 ≤ leftN sz nest t ∧ leftN sz nest t ≤ sz := by unfold leftN; split <;> omega
def goodP (k n : Int) (s l dp : Nat) : Prop := T.wfP k n s l ∧ (k = 5 → dp < 64)
instance (k n : Int) (s l dp : Nat) : Decidable (goodP k n s l dp) := by unfold goodP; exact inferInstance
/-- What the loop over the kids has left. -/
def kidsN (sz nest : Nat) (ks : List T) : Int := if T.goodL ks ∧ T.sizeL ks ≤ sz ∧ T.deepL ks ≤ nest then ((sz - T.sizeL ks : Nat) : Int) else -1
theorem kidsN_range (sz nest : Nat) (ks : List T) : -1 ≤ kidsN sz nest ks ∧ kidsN sz nest ks ≤ sz := by unfold kidsN; split <;> omega
theorem kidsN_nil (sz nest : Nat) : kidsN sz nest [] = sz := by simp [kidsN, T.goodL, T.sizeL, T.deepL]
theorem kidsN_next (sz nest : Nat) (ks : List T) (j : Nat) (h : j < ks.length) (h0 : 0 ≤ kidsN sz nest (ks.take j)) : kidsN sz nest (ks.take (j + 1)) = leftN (kidsN sz nest (ks.take j)).toNat nest ks[j] := by
  have s1 := T.sizeL_take ks j h
  have s2 := T.deepL_take ks j h
  have s3 := T.goodL_take ks j h
  unfold kidsN at h0 ⊢
  unfold leftN
  split at h0
  · next hh =>
    rw [if_pos hh]
    obtain ⟨h1, h2, h3⟩ := hh
    rw [Int.toNat_natCast]
    by_cases g : T.ok (sz - T.sizeL (ks.take j)) nest ks[j]
    · have g1 := g.2.1
      have g2 := g.2.2
      rw [if_pos g, if_pos ⟨s3.2 ⟨h1, g.1⟩, by omega, by omega⟩]
      congr 1
      omega
    · rw [if_neg g, if_neg]
      rintro ⟨q1, q2, q3⟩
      exact g ⟨(s3.1 q1).2, by omega, by omega⟩
  · omega
theorem kidsN_stop (sz nest : Nat) (ks : List T) (j : Nat) (h0 : kidsN sz nest (ks.take j) < 0) : kidsN sz nest ks = -1 := by
  unfold kidsN at h0 ⊢
  split at h0
  · omega
  · next hh =>
    rw [if_neg]
    rintro ⟨q1, q2, q3⟩
    have s4 := T.sizeL_split ks j
    have s5 := T.deepL_split ks j
    exact hh ⟨((T.goodL_split ks j).1 q1).1, by omega, by omega⟩
theorem leftN_bad {sz dp : Nat} {k n : Int} {x : ByteArray} {ks : List T} (h : ¬ goodP k n x.size ks.length dp) (hd : dp ≤ 64) : leftN sz (64 - dp) (.node k n x ks) = -1 := by
  unfold leftN
  rw [if_neg]
  rintro ⟨q1, q2, q3⟩
  refine h ⟨q1.1, fun e => ?_⟩
  subst e
  simp only [T.deep, if_pos] at q3
  omega
theorem leftN_short {sz nest : Nat} {k n : Int} {x : ByteArray} {ks : List T} (h : (sz : Int) - 1 - x.size < 0) : leftN sz nest (.node k n x ks) = -1 := by
  unfold leftN
  rw [if_neg]
  rintro ⟨q1, q2, q3⟩
  simp only [T.size] at q2
  omega
theorem leftN_kids {sz dp S : Nat} {k n : Int} {x : ByteArray} {ks : List T} (h : goodP k n x.size ks.length dp) (hS : (S : Int) = (sz : Int) - 1 - x.size) : leftN sz (64 - dp) (.node k n x ks) = kidsN S (64 - (dp + 1)) ks := by
  obtain ⟨hw, hd⟩ := h
  unfold leftN kidsN
  by_cases k5 : k = 5
  · subst k5
    have := hd rfl
    by_cases g : T.goodL ks ∧ T.sizeL ks ≤ S ∧ T.deepL ks ≤ 64 - (dp + 1)
    · rw [if_pos g, if_pos (show T.ok sz (64 - dp) (.node 5 n x ks) from ⟨⟨hw, g.1⟩, by simp only [T.size]; omega, by simp only [T.deep, if_pos]; omega⟩)]
      simp only [T.size]
      congr 1
      omega
    · rw [if_neg g, if_neg]
      rintro ⟨q1, q2, q3⟩
      simp only [T.size] at q2
      simp only [T.deep, if_pos] at q3
      exact g ⟨q1.2, by omega, by omega⟩
  · have l0 : ks = [] := List.eq_nil_of_length_eq_zero (T.wf_leaf hw k5)
    subst l0
    rw [if_pos (show T.ok sz (64 - dp) (.node k n x []) from ⟨⟨hw, trivial⟩, by simp only [T.size, T.sizeL]; omega, by simp only [T.deep, if_neg k5]; omega⟩), if_pos ⟨trivial, by simp [T.sizeL], by simp [T.deepL]⟩]
    simp only [T.size, T.sizeL]
    congr 1
    omega
theorem bool_of {p : Prop} [Decidable p] {b : Bool} (h : decide p = b) : Value.bool b = .bool (decide p) := by rw [h]
set_option maxRecDepth 100000 in
set_option maxHeartbeats 4000000 in
theorem left_any : ∀ (d : Nat) (v : Value) (t : T) (K : Nat → Prop) (w : World) (sz dp : Nat), Rd K w d v t → sz ≤ 65536 → dp ≤ 64 →
    Calls Tryz.prog 72 #[v, .int .i64 sz, .int .i64 dp] w fun e w' => e = .returned (.int .i64 (leftN sz (64 - dp) t)) ∧ Ext w w' := by
  intro d
  induction d with
  | zero => intro v t K w sz dp h; exact h.elim
  | succ d ih =>
    intro v t K w sz dp hr hS hD
    obtain ⟨k, n, x, ks⟩ := t
    obtain ⟨a, c, rfl, hkl⟩ := hr.kidsL
    have hx : x.size ≤ 140737488351232 := by obtain ⟨_, _, _, h2, _⟩ := hr; exact h2
    have HK := hid hkl
    have HIH := hid ih
    have hl' : (ks.length : Int) ≤ 140737488355328 := by have := hkl.1; omega
    have hx' : (x.size : Int) ≤ 140737488355328 := by omega
    clear hr hkl ih
    go_enter Tryz.func72, Tryz.ntmps72
    go_upto_block 0 with fail
    go_cut [7] from 9 (fun g wx => g = .bool (decide (goodP k n x.size ks.length dp)) ∧ wx = w.alloc (.cells #[.int .i64 k, .int .i64 n, .string x, .slice a ks.length c] 30))
    case first =>
      have x1 : ¬ x.size = 0 → ¬ x.toList = [] := fun h h' => h (toList_nil.1 h')
      clear hl' hx'
      by_cases k1 : k = 1
      · subst k1
        by_cases n0 : n = 0
        · subst n0
          by_cases x0 : x.size = 0
          · obtain rfl := empty_of x0
            clear x1 x0
            by_cases l0 : ks.length = 0
            · have l1 : ((ks.length : Int) == 0) = true := by simpa using l0
              go_wp2_with fail
              go_meet
              case rel => exact ⟨bool_of (decide_eq_true (by have := size0; unfold goodP T.wfP; omega)), by first | rfl | rw [l0]⟩
            · have l1 : ((ks.length : Int) == 0) = false := by simpa using l0
              go_wp2_with fail
              go_meet
              case rel => exact ⟨bool_of (decide_eq_false (by have := size0; unfold goodP T.wfP; omega)), by first | rfl | rw [l0]⟩
          · have x2 := x1 x0
            go_wp2_with fail
            go_meet
            case rel => exact ⟨bool_of (decide_eq_false (by have := size0; unfold goodP T.wfP; omega)), by first | rfl | rw [l0]⟩
        · have n1 : (n == 0) = false := by simpa using n0
          go_wp2_with fail
          go_meet
          case rel => exact ⟨bool_of (decide_eq_false (by have := size0; unfold goodP T.wfP; omega)), by first | rfl | rw [l0]⟩
      by_cases k2 : k = 2
      · subst k2
        by_cases n0 : n = 0
        · subst n0
          by_cases x0 : x.size = 0
          · obtain rfl := empty_of x0
            clear x1 x0
            by_cases l0 : ks.length = 0
            · have l1 : ((ks.length : Int) == 0) = true := by simpa using l0
              go_wp2_with fail
              go_meet
              case rel => exact ⟨bool_of (decide_eq_true (by have := size0; unfold goodP T.wfP; omega)), by first | rfl | rw [l0]⟩
            · have l1 : ((ks.length : Int) == 0) = false := by simpa using l0
              go_wp2_with fail
              go_meet
              case rel => exact ⟨bool_of (decide_eq_false (by have := size0; unfold goodP T.wfP; omega)), by first | rfl | rw [l0]⟩
          · have x2 := x1 x0
            go_wp2_with fail
            go_meet
            case rel => exact ⟨bool_of (decide_eq_false (by have := size0; unfold goodP T.wfP; omega)), by first | rfl | rw [l0]⟩
        by_cases n2 : n = 1
        · subst n2
          clear n0
          by_cases x0 : x.size = 0
          · obtain rfl := empty_of x0
            clear x1 x0
            by_cases l0 : ks.length = 0
            · have l1 : ((ks.length : Int) == 0) = true := by simpa using l0
              go_wp2_with fail
              go_meet
              case rel => exact ⟨bool_of (decide_eq_true (by have := size0; unfold goodP T.wfP; omega)), by first | rfl | rw [l0]⟩
            · have l1 : ((ks.length : Int) == 0) = false := by simpa using l0
              go_wp2_with fail
              go_meet
              case rel => exact ⟨bool_of (decide_eq_false (by have := size0; unfold goodP T.wfP; omega)), by first | rfl | rw [l0]⟩
          · have x2 := x1 x0
            go_wp2_with fail
            go_meet
            case rel => exact ⟨bool_of (decide_eq_false (by have := size0; unfold goodP T.wfP; omega)), by first | rfl | rw [l0]⟩
        have n1 : (n == 0) = false := by simpa using n0
        have n3 : (n == 1) = false := by simpa using n2
        go_wp2_with fail
        go_meet
        case rel => exact ⟨bool_of (decide_eq_false (by have := size0; unfold goodP T.wfP; omega)), by first | rfl | rw [l0]⟩
      by_cases k3 : k = 3
      · subst k3
        by_cases x0 : x.size = 0
        · obtain rfl := empty_of x0
          clear x1 x0
          by_cases l0 : ks.length = 0
          · have l1 : ((ks.length : Int) == 0) = true := by simpa using l0
            go_wp2_with fail
            go_meet
            case rel => exact ⟨bool_of (decide_eq_true (by have := size0; unfold goodP T.wfP; omega)), by first | rfl | rw [l0]⟩
          · have l1 : ((ks.length : Int) == 0) = false := by simpa using l0
            go_wp2_with fail
            go_meet
            case rel => exact ⟨bool_of (decide_eq_false (by have := size0; unfold goodP T.wfP; omega)), by first | rfl | rw [l0]⟩
        · have x2 := x1 x0
          go_wp2_with fail
          go_meet
          case rel => exact ⟨bool_of (decide_eq_false (by have := size0; unfold goodP T.wfP; omega)), by first | rfl | rw [l0]⟩
      by_cases k4 : k = 4
      · subst k4
        by_cases n0 : n = 0
        · subst n0
          by_cases l0 : ks.length = 0
          · have l1 : ((ks.length : Int) == 0) = true := by simpa using l0
            go_wp2_with fail
            go_meet
            case rel => exact ⟨bool_of (decide_eq_true (by have := size0; unfold goodP T.wfP; omega)), by first | rfl | rw [l0]⟩
          · have l1 : ((ks.length : Int) == 0) = false := by simpa using l0
            go_wp2_with fail
            go_meet
            case rel => exact ⟨bool_of (decide_eq_false (by have := size0; unfold goodP T.wfP; omega)), by first | rfl | rw [l0]⟩
        · have n1 : (n == 0) = false := by simpa using n0
          go_wp2_with fail
          go_meet
          case rel => exact ⟨bool_of (decide_eq_false (by have := size0; unfold goodP T.wfP; omega)), by first | rfl | rw [l0]⟩
      by_cases k5 : k = 5
      · subst k5
        by_cases n0 : n = 0
        · subst n0
          by_cases x0 : x.size = 0
          · obtain rfl := empty_of x0
            clear x1 x0
            by_cases d0 : dp < 64
            · have d1 : decide ((dp : Int) < 64) = true := decide_eq_true (by omega)
              go_wp2_with fail
              go_meet
              case rel => exact ⟨bool_of (decide_eq_true (by have := size0; unfold goodP T.wfP; omega)), by first | rfl | rw [l0]⟩
            · have d1 : decide ((dp : Int) < 64) = false := decide_eq_false (by omega)
              go_wp2_with fail
              go_meet
              case rel => exact ⟨bool_of (decide_eq_false (by have := size0; unfold goodP T.wfP; omega)), by first | rfl | rw [l0]⟩
          · have x2 := x1 x0
            go_wp2_with fail
            go_meet
            case rel => exact ⟨bool_of (decide_eq_false (by have := size0; unfold goodP T.wfP; omega)), by first | rfl | rw [l0]⟩
        · have n1 : (n == 0) = false := by simpa using n0
          go_wp2_with fail
          go_meet
          case rel => exact ⟨bool_of (decide_eq_false (by have := size0; unfold goodP T.wfP; omega)), by first | rfl | rw [l0]⟩
      go_wp2_with fail
      go_meet
      case rel => exact ⟨bool_of (decide_eq_false (by have := size0; unfold goodP T.wfP; omega)), by first | rfl | rw [l0]⟩
    case rest =>
      obtain ⟨rfl, rfl⟩ := hcut
      have hb0 := blk0 w (.cells #[.int .i64 k, .int .i64 n, .string x, .slice a ks.length c] 30)
      obtain ⟨q0, q1, q2, q3⟩ := four_of hb0
      by_cases hg : goodP k n x.size ks.length dp
      · have hgd : decide (goodP k n x.size ks.length dp) = true := decide_eq_true hg
        rw [hgd]
        clear hgd
        have HG := hid hg
        clear hg
        by_cases hs : (sz : Int) - 1 - x.size < 0
        · have hs' : decide ((sz : Int) - 1 - x.size < 0) = true := decide_eq_true hs
          have HE := hid (leftN_short (nest := 64 - dp) (k := k) (n := n) (ks := ks) hs)
          clear hs
          go_wp2_with fail
          go_ret
          exact ⟨ret_int' HE.out.symm, Ext.alloc _ _⟩
        · have hs' : decide ((sz : Int) - 1 - x.size < 0) = false := decide_eq_false hs
          obtain ⟨S, hSe⟩ : ∃ S : Nat, (S : Int) = (sz : Int) - 1 - x.size := ⟨((sz : Int) - 1 - x.size).toNat, by omega⟩
          have HE := hid (leftN_kids HG.out hSe)
          have HSZ := hid (show S ≤ 65536 by omega)
          rw [← hSe] at hs'
          have HSE := hid hSe
          clear hs hSe
          have hs2 : decide ((sz : Int) - 1 - x.size < 0) = false := decide_eq_false (by have := HSE.out; omega)
          go_wp2_with fail
          rw [← HSE.out]
          have hS1 : S ≤ 65536 := HSZ.out
          clear hs' hs2 q0 q1 q2 q3
          go_loopw [1, 8] (fun s i wr => ∃ j : Nat, j ≤ ks.length ∧ i = .int .i64 j ∧ s = .int .i64 (kidsN S (64 - (dp + 1)) (ks.take j)) ∧ Ext (w.alloc (.cells #[.int .i64 k, .int .i64 n, .string x, .slice a ks.length c] 30)) wr) (fun _ i _ => ks.length - (intOf i).toNat)
          case atStart => exact ⟨0, Nat.zero_le _, rfl, by rw [List.take_zero, kidsN_nil], Ext.refl _⟩
          case round =>
            obtain ⟨j, hj, rfl, rfl, hx1⟩ := hrel
            have HX1 := hid hx1
            obtain ⟨q0, q1, q2, q3⟩ := four_of (hx1.block hb0)
            clear hx1
            have hr1 := kidsN_range S (64 - (dp + 1)) (ks.take j)
            have HNX := hid (kidsN_next S (64 - (dp + 1)) ks j)
            have HST := hid (kidsN_stop S (64 - (dp + 1)) ks j)
            have HTK := hid (show j = ks.length → ks.take j = ks from fun e => by rw [e, List.take_length])
            generalize hM : kidsN S (64 - (dp + 1)) (ks.take j) = M at hr1 HNX HST ⊢
            have HM := hid hM
            clear hM
            by_cases hlt : j < ks.length
            · have hlt' : (j : Int) < ks.length := by omega
              by_cases hM0 : 0 ≤ M
              · obtain ⟨g, off, k', n', x', a', l', c', rfl, hg, h4, hrd⟩ := HK.out.kid hlt
                have hd : dp < 64 := by
                  have h1 := HG.out
                  rcases h1.1 with h | h | h | h | h
                  · omega
                  · omega
                  · omega
                  · omega
                  · exact h1.2 h.1
                have HXw := hid ((Ext.alloc w _).trans HX1.out)
                obtain ⟨m0, m1, m2, m3⟩ := h4.keep (HXw.out.kp K) hg
                have hgl := lt_of_cell m0
                obtain ⟨M', rfl⟩ : ∃ M' : Nat, M = M' := ⟨M.toNat, by omega⟩
                have hge : decide (0 ≤ (M' : Int)) = true := decide_eq_true hM0
                have HC := hid (HIH.out _ ks[j] K wr M' (dp + 1) (hrd.later HXw.out) (by omega) (by omega))
                have hN := HNX.out hlt hM0
                rw [Int.toNat_natCast] at hN
                have HN := hid hN
                have hdI : (dp : Int) < 64 := by omega
                rw [show ((dp + 1 : Nat) : Int) = (dp : Int) + 1 by omega] at HC
                clear h4 hrd hg hN
                generalize leftN M' (64 - (dp + 1)) ks[j] = V at HC HN
                go_wp2_with fail
                refine HC.out.mono ?_
                rintro e w2 ⟨rfl, hx2⟩
                have HX2 := hid (HX1.out.trans hx2)
                clear hx2 HC m0 m1 m2 m3 q0 q1 q2 q3
                go_wp2_with fail
                go_roundw
                case rel =>
                  have REL : ∃ j' : Nat, j' ≤ ks.length ∧ Value.int .i64 ((j : Int) + 1) = .int .i64 j' ∧ Value.int .i64 V = .int .i64 (kidsN S (64 - (dp + 1)) (ks.take j')) ∧ Ext (w.alloc (.cells #[.int .i64 k, .int .i64 n, .string x, .slice (some ⟨g, off, none⟩) ks.length c] 30)) w2 :=
                    ⟨j + 1, hlt, by go_num, by rw [HN.out], HX2.out⟩
                  first | exact REL | ((repeat apply Exists.intro); exact ⟨REL, rfl⟩)
                case measure => simp [intOf]; omega
              · have hge : decide (0 ≤ M) = false := decide_eq_false hM0
                have HE2 := hid (HST.out (by omega))
                have hM1 : M = -1 := by omega
                subst hM1
                go_wp2_with fail
                go_ret
                exact ⟨ret_int' (HE.out.trans HE2.out).symm, (Ext.alloc w _).trans HX1.out⟩
            · have hje : j = ks.length := by omega
              have HE2 := hid (show M = kidsN S (64 - (dp + 1)) ks by rw [← HM.out, HTK.out hje])
              clear hje
              go_wp2_with fail
              go_ret
              exact ⟨ret_int' (HE2.out.trans HE.out.symm), (Ext.alloc w _).trans HX1.out⟩
      · have hgd : decide (goodP k n x.size ks.length dp) = false := decide_eq_false hg
        rw [hgd]
        have HE := hid (leftN_bad (sz := sz) hg hD)
        clear hgd hg
        go_wp2_with fail
        go_ret
        exact ⟨ret_int' HE.out.symm, Ext.alloc _ _⟩
set_option maxRecDepth 100000 in
theorem rmay_any {K : Nat → Prop} {d : Nat} {v : Value} {t : T} (w : World) (hr : Rd K w d v t) :
    Calls Tryz.prog 36 #[v] w fun e w' => e = .returned (.bool (decide t.may)) ∧ Ext w w' := by
  obtain ⟨u0, u1, u2, u3, rfl⟩ := hr.agg
  obtain ⟨k, n, x, a, c, rfl, rfl, rfl, rfl⟩ := hr.shape
  have HC := hid (fun w1 (h : Ext w w1) => left_any d _ t K w1 65536 0 (hr.later h) (by omega) (by omega))
  have HR := leftN_range 65536 (64 - 0) t
  have HE := hid (show decide (0 ≤ leftN 65536 (64 - 0) t) = decide t.may by
    unfold leftN
    by_cases h : T.ok 65536 (64 - 0) t
    · rw [if_pos h, decide_eq_true (show t.may from h)]; exact decide_eq_true (by omega)
    · rw [if_neg h, decide_eq_false (show ¬ t.may from h)]; rfl)
  clear hr
  generalize leftN 65536 (64 - 0) t = M at *
  generalize (T.kids t).length = kt at *
  go_enter Tryz.func36, Tryz.ntmps36
  go_wp2_with fail
  refine (HC.out _ (Ext.alloc _ _)).mono ?_
  rintro e w1 ⟨rfl, hx1⟩
  have HX := hid ((Ext.alloc w _).trans hx1)
  clear hx1
  go_wp2_with fail
  go_ret
  exact ⟨ret_bool HE.out, HX.out⟩
end Go.Proofs.YtaafcmmmkalgjaaGreatDoor
