/-
  append of rows onto rows of one's own, out of rows that lie anywhere; onto a list that is full: what was there stays.
-/
import Derived.Test.YtaodkfchmaendaaGreatDoorKNewG
import Derived.Deep.Upon
import Derived.Laws.IdiomStrings
namespace Go.Proofs.YtaodkfchmaendaaGreatDoor.Nd
open Go.RowKit
theorem addN' (g off j : Nat) : Addr.add ⟨g, off, none⟩ j = ⟨g, off + j, none⟩ := by
  by_cases hj : j = 0
  · subst hj; simp [Addr.add]
  · simp [Addr.add, hj]
/-- Rows of one's own, over a world that has their texts. -/
def OItems (Y X w : World) (lv : Value) (acc : List Rw) : Prop := ∃ us : List Value, w.ownsRow Y.heap.size 37 6 lv acc.length us ∧ ∀ j, (h : j < acc.length) → ∃ a c, RAt us (j * 6) acc[j] a c ∧ TRow X a acc[j].abs
/-- Rows that lie anywhere. -/
def SItems (X w : World) (sv : Value) (acc : List Rw) : Prop := ∃ us : List Value, us.length = acc.length * 6 ∧ (∀ j, (h : j < acc.length) → ∃ a c, RAt us (j * 6) acc[j] a c ∧ TRow X a acc[j].abs) ∧ ((sv = .slice none 0 0 ∧ acc = []) ∨ ∃ g off c, sv = .slice (some ⟨g, off, none⟩) acc.length c ∧ ∀ j u, us[j]? = some u → w.cell? ⟨g, off + j, none⟩ = some u)
theorem OItems.nil (Y X w : World) : OItems Y X w (.slice none 0 0) [] := ⟨[], World.ownsRow_nil _ _ _ _, fun _ h => absurd h (Nat.not_lt_zero _)⟩
theorem OItems.later {Y X w w' : World} {lv : Value} {acc : List Rw} (h : OItems Y X w lv acc) (hx : Ext w w') : OItems Y X w' lv acc := by
  obtain ⟨us, ho, hi⟩ := h
  exact ⟨us, ⟨ho.1, ho.2.imp id fun ⟨g, cap, cur, h1, h2, h3, h4⟩ => ⟨g, cap, cur, h1, h2, hx.block h3, h4⟩⟩, hi⟩
theorem OItems.shape {Y X w : World} {lv : Value} {acc : List Rw} (h : OItems Y X w lv acc) : ∃ ao c, lv = .slice ao acc.length c := by
  obtain ⟨us, ho, _⟩ := h
  rcases ho.2 with ⟨hv, h0⟩ | ⟨g, cap, cur, hv, _⟩
  · exact ⟨none, 0, by rw [hv, h0]⟩
  · exact ⟨_, _, hv⟩
theorem SItems.later {X w w' : World} {lv : Value} {acc : List Rw} (h : SItems X w lv acc) (hx : Ext w w') : SItems X w' lv acc := by
  obtain ⟨us, hl, hi, hs⟩ := h
  exact ⟨us, hl, hi, hs.imp id fun ⟨g, off, c, e, hc⟩ => ⟨g, off, c, e, fun j u hu => (hx.kp (fun _ => True)).cell (hc j u hu) trivial⟩⟩
theorem SItems.base {X X' w : World} {lv : Value} {acc : List Rw} (h : SItems X w lv acc) (hx : Ext X X') : SItems X' w lv acc := by
  obtain ⟨us, hl, hi, hs⟩ := h
  refine ⟨us, hl, fun j hj => ?_, hs⟩
  obtain ⟨a, c, h1, h2⟩ := hi j hj
  exact ⟨a, c, h1, h2.later hx⟩
theorem OItems.src {Y X w : World} {lv : Value} {acc : List Rw} (h : OItems Y X w lv acc) : SItems X w lv acc := by
  obtain ⟨us, ho, hi⟩ := h
  refine ⟨us, ho.1, hi, ?_⟩
  rcases ho.2 with ⟨hv, h0⟩ | ⟨g, cap, cur, hv, _, hb, _, _, _, ht⟩
  · exact .inl ⟨hv, List.length_eq_zero_iff.1 h0⟩
  · refine .inr ⟨g, 0, cap, hv, fun j u hu => ?_⟩
    rw [Nat.zero_add]
    rw [← ht, List.getElem?_take] at hu
    split at hu
    case isTrue => exact cell_of hb (by simpa using hu)
    case isFalse => cases hu
theorem SItems.lie {X w : World} {ao : Option Addr} {n c : Nat} {acc : List Rw} (h : SItems X w (.slice ao n c) acc) (hx : Ext X w) : RowsLie w ao acc := by
  intro j hj
  obtain ⟨us, hl, hi, hs⟩ := h
  obtain ⟨a, c', ⟨q0, q1, q2, q3, q4, q5⟩, ht⟩ := hi j hj
  rcases hs with ⟨_, h0⟩ | ⟨g, off, c2, hv, hc⟩
  · subst h0; exact absurd hj (Nat.not_lt_zero _)
  · injection hv with e1 e2 e3
    subst e1
    exact ⟨g, off, a, c', rfl, ⟨hc _ _ q0, by have := hc _ _ q1; rwa [← Nat.add_assoc] at this, by have := hc _ _ q2; rwa [← Nat.add_assoc] at this, by have := hc _ _ q3; rwa [← Nat.add_assoc] at this, by have := hc _ _ q4; rwa [← Nat.add_assoc] at this, by have := hc _ _ q5; rwa [← Nat.add_assoc] at this⟩, ht.later hx⟩
theorem rat_one {us : List Value} {acc : List Rw} {X : World} (hl : us.length = acc.length * 6) (hi : ∀ j, (h : j < acc.length) → ∃ a c, RAt us (j * 6) acc[j] a c ∧ TRow X a acc[j].abs) : ∀ u ∈ us, u.oneCell' = true := by
  intro u hu
  obtain ⟨i, hi1, rfl⟩ := List.getElem_of_mem hu
  obtain ⟨a, c, ⟨q0, q1, q2, q3, q4, q5⟩, _⟩ := hi (i / 6) (by omega)
  have e : us[i]? = some us[i] := List.getElem?_eq_getElem hi1
  have key : ∀ v, us[i]? = some v → v.oneCell' = true → (us[i]).oneCell' = true := fun v h1 h2 => by
    rw [e] at h1
    rw [Option.some.inj h1]
    exact h2
  rcases (show i = i / 6 * 6 ∨ i = i / 6 * 6 + 1 ∨ i = i / 6 * 6 + 2 ∨ i = i / 6 * 6 + 3 ∨ i = i / 6 * 6 + 4 ∨ i = i / 6 * 6 + 5 by omega) with h | h | h | h | h | h
  · exact key _ ((congrArg (us[·]?) h).trans q0) rfl
  · exact key _ ((congrArg (us[·]?) h).trans q1) rfl
  · exact key _ ((congrArg (us[·]?) h).trans q2) rfl
  · exact key _ ((congrArg (us[·]?) h).trans q3) rfl
  · exact key _ ((congrArg (us[·]?) h).trans q4) rfl
  · exact key _ ((congrArg (us[·]?) h).trans q5) rfl
theorem rat_append {us us2 : List Value} {acc acc2 : List Rw} {X : World} (hl : us.length = acc.length * 6) (hi : ∀ j, (h : j < acc.length) → ∃ a c, RAt us (j * 6) acc[j] a c ∧ TRow X a acc[j].abs) (hi2 : ∀ j, (h : j < acc2.length) → ∃ a c, RAt us2 (j * 6) acc2[j] a c ∧ TRow X a acc2[j].abs) : ∀ j, (h : j < (acc ++ acc2).length) → ∃ a c, RAt (us ++ us2) (j * 6) (acc ++ acc2)[j] a c ∧ TRow X a (acc ++ acc2)[j].abs := by
  intro j hj
  by_cases h : j < acc.length
  · obtain ⟨a, c, ⟨q0, q1, q2, q3, q4, q5⟩, hp⟩ := hi j h
    rw [List.getElem_append_left h]
    exact ⟨a, c, ⟨by rw [List.getElem?_append_left (by omega)]; exact q0, by rw [List.getElem?_append_left (by omega)]; exact q1, by rw [List.getElem?_append_left (by omega)]; exact q2, by rw [List.getElem?_append_left (by omega)]; exact q3, by rw [List.getElem?_append_left (by omega)]; exact q4, by rw [List.getElem?_append_left (by omega)]; exact q5⟩, hp⟩
  · have hj2 : j - acc.length < acc2.length := by rw [List.length_append] at hj; omega
    obtain ⟨a, c, ⟨q0, q1, q2, q3, q4, q5⟩, hp⟩ := hi2 (j - acc.length) hj2
    rw [List.getElem_append_right (by omega)]
    have e : ∀ k, (us ++ us2)[j * 6 + k]? = us2[(j - acc.length) * 6 + k]? := fun k => by
      rw [List.getElem?_append_right (by omega)]
      congr 1
      rw [Nat.sub_mul]
      omega
    exact ⟨a, c, ⟨(e 0).trans q0, (e 1).trans q1, (e 2).trans q2, (e 3).trans q3, (e 4).trans q4, (e 5).trans q5⟩, hp⟩
theorem append_rows {Y X : World} (w : World) (lv sv : Value) (acc acc2 : List Rw) (h : OItems Y X w lv acc) (hs : SItems X w sv acc2) (hx : Ext Y w) (hb : acc.length + acc2.length ≤ 1954687338220) :
    ∃ v' w', (Builtin.append_ #[55, 55] 55 #[lv, sv]).run Tryz.prog w = .ok v' w' ∧ OItems Y X w' v' (acc ++ acc2) ∧ w.grownBy w' lv.ownBlock ∧ Ext Y w' := by
  obtain ⟨ii, hii, hz0, hz1, hz2⟩ := info_parts rowInfo
  obtain ⟨us, ho, hi⟩ := h
  obtain ⟨us2, hl2, hi2, ⟨rfl, rfl⟩ | ⟨g, off, c, rfl, hc⟩⟩ := hs
  · have hr := run_append_owned_none (P := Tryz.prog) (w := w) Y.heap.size 55 55 37 ii 6 Tryz.underlying55 hii lv acc.length us ho
    exact ⟨lv, w, hr, by rw [List.append_nil]; exact ⟨us, ho, hi⟩, ⟨rfl, rfl, rfl, Nat.le_refl _, fun _ _ _ => rfl⟩, hx⟩
  · obtain ⟨v', w', hr, ho2, hg, _, _⟩ := run_append_own_at (P := Tryz.prog) w Y.heap.size 55 55 37 ii _ 6 72 Tryz.underlying55 hii hz0 hz1 hz2 rfl (by decide) lv acc.length us ho ⟨g, off, none⟩ acc2.length c us2 hl2 (fun j u hu => by rw [addN']; exact hc j u hu) (rat_one hl2 hi2) (by unfold maxLen; omega) (by omega) hx.size
    exact ⟨v', w', hr, ⟨us ++ us2, by rw [List.length_append]; exact ho2, rat_append ho.1 hi hi2⟩, hg, Below.grown hx hg hx.size (fun k hk => (ho.lt k hk).1)⟩
/-- Onto a list that is full: what was there stays. -/
theorem append_full {Y X : World} (w : World) (g : Nat) (sv : Value) (acc acc2 : List Rw) (h : OItems Y X w (.slice (some ⟨g, 0, none⟩) acc.length acc.length) acc) (hs : SItems X w sv acc2) (hx : Ext Y w) (hb : acc.length + acc2.length ≤ 1954687338220) :
    ∃ v' w', (Builtin.append_ #[55, 55] 55 #[.slice (some ⟨g, 0, none⟩) acc.length acc.length, sv]).run Tryz.prog w = .ok v' w' ∧ OItems Y X w' v' (acc ++ acc2) ∧ Ext w w' := by
  obtain ⟨ii, hii, hz0, hz1, hz2⟩ := info_parts rowInfo
  obtain ⟨v', w', hr, h1, hg, hx'⟩ := append_rows w _ sv acc acc2 h hs hx hb
  refine ⟨v', w', hr, h1, ?_⟩
  obtain ⟨us, ho, hi⟩ := h
  have hsrc : ∃ news, Src Tryz.prog 6 55 sv acc2.length news w := by
    obtain ⟨us2, hl2, hi2, ⟨e1, e2⟩ | ⟨g2, off, c, e1, hc⟩⟩ := hs
    · subst e1; subst e2
      exact ⟨[], Src.ofNil w Tryz.underlying55 0⟩
    · subst e1
      exact ⟨us2, Src.ofSlice w Tryz.underlying55 ⟨g2, off, none⟩ acc2.length c us2 hl2 (fun j u hu => by rw [addN']; exact hc j u hu) (rat_one hl2 hi2)⟩
  obtain ⟨news, hsrc⟩ := hsrc
  rcases ho.2 with ⟨hv, _⟩ | ⟨g', cap, cur, hv, hbg, hbk, h3, h4, h5, h6⟩
  · cases hv
  injection hv with e1 e2 e3
  injection e1 with e1
  injection e1 with e1
  subst e1; subst e3
  have hcl : ∀ j u, us[j]? = some u → w.cell? ⟨g, j, none⟩ = some u := fun j u hu => by
    rw [← h6, List.getElem?_take] at hu
    split at hu
    case isTrue => exact cell_of hbk (by simpa using hu)
    case isFalse => cases hu
  have hcame : Came w 6 (some ⟨g, 0, none⟩) g 0 acc.length acc.length us := ⟨Nat.le_refl _, fun _ => rfl, fun _ => lt_of_block hbk, ho.1, fun j u hu => by rw [Nat.zero_add]; exact hcl j u hu, fun j hj => by omega⟩
  obtain ⟨v2, w2, hr2, hup⟩ := run_append_upon (P := Tryz.prog) hcame 55 55 55 ii _ 72 Tryz.underlying55 hii hz0 hz1 hz2 rfl (Upon.start hcame) sv acc2.length _ hsrc (by unfold maxLen; omega) (by omega)
  rw [hr] at hr2
  injection hr2 with ev ew
  subst ev; subst ew
  have hr0 : Upon.next acc.length acc.length 6 0 0 acc2.length = 0 := by
    have := hup.rFit
    omega
  rw [hr0] at hup
  refine ⟨hg.os, hg.tape, hg.output, hg.size, fun i hi' => ?_⟩
  exact hup.kept.block hi' (fun p ⟨j, hj, _⟩ => absurd hj (Nat.not_lt_zero _))
end Go.Proofs.YtaodkfchmaendaaGreatDoor.Nd
/-
  espalierlaw7.own: some rows, with kinds of their own; by a contract.
-/
namespace Go.Proofs.YtaodkfchmaendaaGreatDoor.Nd
open Go.RowKit
theorem app_rows {ops : Array Oper} {rest : List Oper} {o : Oper} {ac : Act} {Q : Exit → Act → World → Prop} {Y X : World} (w : World) (hgd : o.guard = none) (x y : Operand)
    (ho : o.op = .call { callee := .builtin .append, args := #[x, y], argTypes := #[55, 55] }) (hty : o.type = 55)
    (lv sv : Value) (acc acc2 : List Rw) (hx : ac.eval x = lv) (hy : ac.eval y = sv) (h : OItems Y X w lv acc) (hs : SItems X w sv acc2) (hX : Ext Y w) (hb : acc.length + acc2.length ≤ 1954687338220)
    (hk : ∀ v' w', OItems Y X w' v' (acc ++ acc2) → w.grownBy w' lv.ownBlock → Ext Y w' → wpList Tryz.prog ops Q rest (ac.put o.dst v') w') :
    wpList Tryz.prog ops Q (o :: rest) ac w := by
  refine wpList_plain hgd fun K hK => ?_
  obtain ⟨v', w', hr, h2, h3, h4⟩ := append_rows w lv sv acc acc2 h hs hX hb
  unfold Oper.wp execOp
  simp only [ho, hty, resolve, invoke, builtin, Sem.run_bind, Sem.run_pure, Result.andThen_ok, List.map_toArray, List.map_cons, List.map_nil, hx, hy, hr]
  exact hK _ _ (hk v' w' h2 h3 h4)
theorem app_full {ops : Array Oper} {rest : List Oper} {o : Oper} {ac : Act} {Q : Exit → Act → World → Prop} {Y X : World} (w : World) (hgd : o.guard = none) (x y : Operand)
    (ho : o.op = .call { callee := .builtin .append, args := #[x, y], argTypes := #[55, 55] }) (hty : o.type = 55)
    (g n : Nat) (sv : Value) (acc acc2 : List Rw) (hx : ac.eval x = .slice (some ⟨g, 0, none⟩) n n) (hy : ac.eval y = sv) (hn : acc.length = n) (h : OItems Y X w (.slice (some ⟨g, 0, none⟩) n n) acc) (hs : SItems X w sv acc2) (hX : Ext Y w) (hb : acc.length + acc2.length ≤ 1954687338220)
    (hk : ∀ v' w', OItems Y X w' v' (acc ++ acc2) → Ext w w' → wpList Tryz.prog ops Q rest (ac.put o.dst v') w') :
    wpList Tryz.prog ops Q (o :: rest) ac w := by
  subst hn
  refine wpList_plain hgd fun K hK => ?_
  obtain ⟨v', w', hr, h2, h3⟩ := append_full w g sv acc acc2 h hs hX hb
  unfold Oper.wp execOp
  simp only [ho, hty, resolve, invoke, builtin, Sem.run_bind, Sem.run_pure, Result.andThen_ok, List.map_toArray, List.map_cons, List.map_nil, hx, hy, hr]
  exact hK _ _ (hk v' w' h2 h3)
theorem byte_textO (W : World) (d : Nat) (hd : d < 10) (x : Int) (hx : x = 48 + (d : Int)) :
    (convert 135 9 (.slice (some ⟨W.heap.size, 0, none⟩) 1 1)).run Tryz.prog (W.alloc (.cells #[.int .u8 x] 5)) = .ok (.string ⟨#[UInt8.ofNat (48 + d)]⟩) (W.alloc (.cells #[.int .u8 x] 5)) := by
  refine run_convert_bytes_back (W.alloc (.cells #[.int .u8 x] 5)) 135 9 5 ⟨W.heap.size, 0, none⟩ 1 [UInt8.ofNat (48 + d)] Tryz.underlying135 Tryz.underlying5 Tryz.underlying9 (fun j hj => ?_)
  have hj0 : j = 0 := by simp at hj; omega
  subst hj0
  have e : ((UInt8.ofNat (48 + d)).toNat : Int) = x := by rw [UInt8.toNat_ofNat', hx]; omega
  have e2 : Addr.add ⟨W.heap.size, 0, none⟩ 0 = ⟨W.heap.size, 0, none⟩ := by simp [Addr.add]
  rw [e2]
  show _ = some (Value.int .u8 ((UInt8.ofNat (48 + d)).toNat : Int))
  rw [e]
  exact cell_of (blk0 W _) rfl
def dig1 (i : Nat) : ByteArray := ⟨#[UInt8.ofNat (48 + i)]⟩
/-- A row with a kind of its own. -/
def ownR (kd : ByteArray) (i : Nat) (r : Rw) : Rw := ⟨kd ++ dig1 i, r.min, r.max, r.num, r.text, r.abs⟩
def ownJ (kd : ByteArray) (rws : List Rw) (j : Nat) : List Rw := (rws.take j).mapIdx (ownR kd)
theorem ownJ_len (kd : ByteArray) (rws : List Rw) (j : Nat) (h : j ≤ rws.length) : (ownJ kd rws j).length = j := by
  unfold ownJ
  rw [List.length_mapIdx, List.length_take]
  omega
theorem ownJ_succ (kd : ByteArray) (rws : List Rw) (j : Nat) (h : j < rws.length) : ownJ kd rws (j + 1) = ownJ kd rws j ++ [ownR kd j rws[j]] := by
  unfold ownJ
  rw [List.take_succ_eq_append_getElem h, List.mapIdx_concat, List.length_take, Nat.min_eq_left (Nat.le_of_lt h)]
end Go.Proofs.YtaodkfchmaendaaGreatDoor.Nd
