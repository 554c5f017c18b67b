/-
  A list of plain values that is being made; one more is appended.
-/
import Derived.Test.YtaafcmmmkalgjaaGreatDoorHolds
import Derived.Maps.AppendAt
import Derived.Test.YtaafcmmmkalgjaaGreatDoorBytes
import Derived.Laws.BitsAllLaws
namespace Go.Proofs.YtaafcmmmkalgjaaGreatDoor
open Go.RowKit
theorem grown_kp {w w' : World} {row : Option Nat} (h : w.grownBy w' row) : Kp (fun k => row ≠ some k) w w' := ⟨h.os, h.tape, h.output, h.size, fun k hk hK => h.block k hk (fun e => hK e.symm)⟩
theorem plainInfo : (Tryz.prog.info? 30).map (fun i => (i.zero, i.size, i.bytes)) = some (some (.agg #[.int .i64 0, .int .i64 0, .string ⟨#[]⟩, .slice none 0 0]), 4, 56) := by kernel_rfl
/-- The slice lv holds plain values that were made, as acc tells; its own blocks lie from base on, below N. -/
def PItems (w : World) (base N d : Nat) (lv : Value) (acc : List T) : Prop := ∃ (us : List Value), w.ownsRow base 30 4 lv acc.length us ∧
  (∀ j, (h : j < acc.length) → ∃ u0 u1 u2 u3, us[j * 4]? = some u0 ∧ us[j * 4 + 1]? = some u1 ∧ us[j * 4 + 2]? = some u2 ∧ us[j * 4 + 3]? = some u3 ∧ Rd (fun x => base ≤ x ∧ x < N ∧ lv.ownBlock ≠ some x) w d (.agg #[u0, u1, u2, u3]) acc[j]) ∧
  (∀ g, lv.ownBlock = some g → g < N) ∧ N ≤ w.heap.size
theorem PItems.nil {w : World} (base d : Nat) : PItems w base w.heap.size d (.slice none 0 0) [] :=
  ⟨[], World.ownsRow_nil _ _ _ _, fun j h => absurd h (Nat.not_lt_zero _), fun g h => by simp [Value.ownBlock] at h, Nat.le_refl _⟩
theorem PItems.keep {w w' : World} {base N d : Nat} {lv : Value} {acc : List T} {K : Nat → Prop} (h : PItems w base N d lv acc) (hk : Kp K w w') (hK : ∀ k, base ≤ k → K k) : PItems w' base N d lv acc := by
  obtain ⟨us, ho, hi, hg, hN⟩ := h
  refine ⟨us, ⟨ho.1, ?_⟩, fun j hj => ?_, hg, Nat.le_trans hN hk.size⟩
  · rcases ho.2 with h | ⟨g, cap, cur, hv, hg, hb, hr⟩
    · exact .inl h
    · exact .inr ⟨g, cap, cur, hv, hg, hk.block' hb (hK g hg), hr⟩
  · obtain ⟨u0, u1, u2, u3, h0, h1, h2, h3, hr⟩ := hi j hj
    exact ⟨u0, u1, u2, u3, h0, h1, h2, h3, hr.keep (hk.mono (fun k _ hk => hK k hk.1))⟩
theorem PItems.up {w : World} {base N d : Nat} {lv : Value} {acc : List T} (h : PItems w base N d lv acc) : PItems w base w.heap.size d lv acc := by
  obtain ⟨us, ho, hi, hg, hN⟩ := h
  refine ⟨us, ho, fun j hj => ?_, fun g h => Nat.lt_of_lt_of_le (hg g h) hN, Nat.le_refl _⟩
  obtain ⟨u0, u1, u2, u3, h0, h1, h2, h3, hr⟩ := hi j hj
  exact ⟨u0, u1, u2, u3, h0, h1, h2, h3, hr.mono (fun k hk h => ⟨h.1, hk, h.2.2⟩)⟩
theorem PItems.shape {w : World} {base N d : Nat} {lv : Value} {acc : List T} (h : PItems w base N d lv acc) : ∃ ao c, lv = .slice ao acc.length c := by
  obtain ⟨us, ho, _⟩ := h
  rcases ho.2 with ⟨hv, h0⟩ | ⟨g, cap, cur, hv, _⟩
  · exact ⟨none, 0, by rw [hv, h0]⟩
  · exact ⟨_, _, hv⟩
theorem run_pitem {w : World} {ty : TypeId} (base N d : Nat) (lv : Value) (acc : List T) (k n : Int) (x : ByteArray) (a : Option Addr) (l c : Nat) (t : T) (hB : base ≤ w.heap.size) (hit : PItems w base N d lv acc) (hrd : Rd (fun x => N ≤ x) w d (.agg #[.int .i64 k, .int .i64 n, .string x, .slice a l c]) t) (hbN : base ≤ N) (hlim : acc.length ≤ 2000000) :
    ∃ ao c' w', (Builtin.append_ #[25, 25] 25 #[lv, .slice (some ⟨w.heap.size, 0, none⟩) 1 1]).run Tryz.prog (w.alloc (.cells #[.int .i64 k, .int .i64 n, .string x, .slice a l c] ty)) = .ok (.slice ao (acc ++ [t]).length c') w' ∧ PItems w' base w'.heap.size d (.slice ao (acc ++ [t]).length c') (acc ++ [t]) ∧ Below base w w' := by
  obtain ⟨us, ho, hi, hg0, hN⟩ := hit
  obtain ⟨ii, hii, hz0, hz1, hz2⟩ := info_parts plainInfo
  have hrow : (w.alloc (.cells #[.int .i64 k, .int .i64 n, .string x, .slice a l c] ty)).ownsRow base 30 4 lv acc.length us := World.ownsRow.alloc ho _
  have hnews : ∀ (j : Nat) (u : Value), [Value.int .i64 k, .int .i64 n, .string x, .slice a l c][j]? = some u → (w.alloc (.cells #[.int .i64 k, .int .i64 n, .string x, .slice a l c] ty)).cell? (Addr.add ⟨w.heap.size, 0, none⟩ j) = some u := by
    intro j u hu
    have e : Addr.add ⟨w.heap.size, 0, none⟩ j = ⟨w.heap.size, j, none⟩ := by
      by_cases hj : j = 0
      · subst hj; simp [Addr.add]
      · simp [Addr.add, hj]
    rw [e]
    exact cell_of (blk0 w _) (by simpa using hu)
  obtain ⟨v', w', hr, ho2, hg, _, hat⟩ := run_append_own_at (P := Tryz.prog) (w.alloc (.cells #[.int .i64 k, .int .i64 n, .string x, .slice a l c] ty)) base 25 25 30 ii _ 4 56 Tryz.underlying25 hii hz0 hz1 hz2 rfl (by decide) lv acc.length us hrow ⟨w.heap.size, 0, none⟩ 1 1 [.int .i64 k, .int .i64 n, .string x, .slice a l c] rfl hnews (fun u hu => by simp at hu; rcases hu with rfl | rfl | rfl | rfl <;> rfl) (by unfold maxLen; omega) (by omega) (by rw [blkS]; omega)
  have hkp := grown_kp hg
  have hsz : w.heap.size + 1 ≤ w'.heap.size := by have := hg.size; rw [blkS] at this; exact this
  have hI : PItems w' base w'.heap.size d v' (acc ++ [t]) := by
    have hold : ∀ (x : Nat), x < w.heap.size → lv.ownBlock ≠ some x → v'.ownBlock ≠ some x := fun x hx hne => by
      rcases hat with e | e
      · rw [e]; exact hne
      · rw [e, blkS]; intro h; injection h with h; omega
    have hul : us.length = acc.length * 4 := ho.1
    refine ⟨us ++ [.int .i64 k, .int .i64 n, .string x, .slice a l c], by rw [List.length_append]; exact ho2, fun j hj => ?_, fun g hg => ?_, Nat.le_refl _⟩
    · by_cases hj' : j < acc.length
      · obtain ⟨u0, u1, u2, u3, h0, h1, h2, h3, hr3⟩ := hi j hj'
        refine ⟨u0, u1, u2, u3, by rw [List.getElem?_append_left (by omega)]; exact h0, by rw [List.getElem?_append_left (by omega)]; exact h1, by rw [List.getElem?_append_left (by omega)]; exact h2, by rw [List.getElem?_append_left (by omega)]; exact h3, ?_⟩
        rw [List.getElem_append_left hj']
        exact ((hr3.later (Ext.alloc _ _)).keep (hkp.mono (fun k _ hk => hk.2.2))).mono (fun q _ hq => ⟨hq.1, by have := hq.2.1; omega, hold q (by have := hq.2.1; omega) hq.2.2⟩)
      · have hje : j = acc.length := by simp at hj; omega
        subst hje
        refine ⟨.int .i64 k, .int .i64 n, .string x, .slice a l c, by rw [← hul]; simp, by rw [← hul]; simp, by rw [← hul]; simp, by rw [← hul]; simp, ?_⟩
        simp only [List.getElem_append_right (Nat.le_refl _), Nat.sub_self, List.getElem_cons_zero]
        have hne : ∀ q, N ≤ q → lv.ownBlock ≠ some q := fun q hq e => by have := hg0 q e; omega
        have hlow : Rd (fun q => N ≤ q ∧ q < w.heap.size) w d (.agg #[.int .i64 k, .int .i64 n, .string x, .slice a l c]) t := hrd.mono (fun q hq h => ⟨h, hq⟩)
        exact ((hlow.later (Ext.alloc _ _)).keep (hkp.mono (fun q _ hq => hne q hq.1))).mono (fun q _ hq => ⟨by omega, by omega, hold q hq.2 (hne q hq.1)⟩)
    · rcases ho2.2 with ⟨hv, _⟩ | ⟨g2, cap, cur, hv, _, hb2, _⟩
      · rw [hv] at hg; simp [Value.ownBlock] at hg
      · rw [hv] at hg; simp [Value.ownBlock] at hg; subst hg; exact lt_of_block hb2
  obtain ⟨ao, c', rfl⟩ := hI.shape
  exact ⟨ao, c', w', hr, hI, Below.grown ((Below.refl base w).alloc hB _) hg (by rw [blkS]; omega) (fun k hk => (World.ownsRow.lt ho k hk).1)⟩
theorem app_pitem {ops : Array Oper} {rest : List Oper} {o : Oper} {ac : Act} {Q : Exit → Act → World → Prop} {w : World} {ty : TypeId} (hgd : o.guard = none) (s y : Operand)
    (ho : o.op = .call { callee := .builtin .append, args := #[s, y], argTypes := #[25, 25] }) (hty : o.type = 25) (base N d : Nat) (lv : Value) (acc : List T) (k n : Int) (x : ByteArray) (a : Option Addr) (l c : Nat) (t : T) (hs : ac.eval s = lv) (hx : ac.eval y = .slice (some ⟨w.heap.size, 0, none⟩) 1 1)
    (hB : base ≤ w.heap.size) (hit : PItems w base N d lv acc) (hrd : Rd (fun x => N ≤ x) w d (.agg #[.int .i64 k, .int .i64 n, .string x, .slice a l c]) t) (hbN : base ≤ N) (hlim : acc.length ≤ 2000000)
    (h : ∀ ao c' w', PItems w' base w'.heap.size d (.slice ao (acc.length + 1) c') (acc ++ [t]) → Below base w w' → wpList Tryz.prog ops Q rest (ac.put o.dst (.slice ao (acc.length + 1) c')) w') : wpList Tryz.prog ops Q (o :: rest) ac (w.alloc (.cells #[.int .i64 k, .int .i64 n, .string x, .slice a l c] ty)) := by
  refine wpList_plain hgd fun K hK => ?_
  obtain ⟨ao, c', w', hr, h2, h3⟩ := run_pitem (ty := ty) base N d lv acc k n x a l c t hB hit hrd hbN hlim
  unfold Oper.wp execOp
  rw [List.length_append] at hr h2
  simp only [ho, hty, resolve, invoke, builtin, Sem.run_bind, Sem.run_pure, Result.andThen_ok, List.map_toArray, List.map_cons, List.map_nil, hs, hx, hr]
  exact hK _ _ (h ao c' w' h2 h3)
theorem PItems.list {w : World} {base N d m c : Nat} {ao : Option Addr} {acc : List T} (h : PItems w base N d (.slice ao m c) acc) (hlim : acc.length ≤ 2000000) :
    Rd (fun x => base ≤ x) w (d + 1) (.agg #[.int .i64 5, .int .i64 0, .string ⟨#[]⟩, .slice ao m c]) (.node 5 0 ⟨#[]⟩ acc) := by
  obtain ⟨us, ho, hi, hg, hN⟩ := h
  rcases ho.2 with ⟨hv, h1⟩ | ⟨g, cap, cur, hv, hbg, hbk, h3, h4, h5, h6⟩
  · have h0 := List.eq_nil_of_length_eq_zero h1
    subst h0
    injection hv with e1 e2 e3
    subst e1; subst e2; subst e3
    exact ⟨none, 0, rfl, by decide, by decide, .inl rfl⟩
  · injection hv with e1 e2 e3
    subst e1; subst e2; subst e3
    refine ⟨_, c, rfl, by decide, by omega, .inr ⟨g, 0, rfl, hbg, fun j hj => ?_⟩⟩
    obtain ⟨u0, u1, u2, u3, q0, q1, q2, q3, hr⟩ := hi j hj
    have key : ∀ i u, i < acc.length * 4 → us[i]? = some u → w.cell? ⟨g, 0 + i, none⟩ = some u := fun i u hi hu => by
      rw [← h6, List.getElem?_take_of_lt hi] at hu
      rw [Nat.zero_add]
      exact cell_of hbk (by simpa using hu)
    exact ⟨u0, u1, u2, u3, ⟨key _ _ (by omega) q0, key _ _ (by omega) q1, key _ _ (by omega) q2, key _ _ (by omega) q3⟩, hr.mono (fun q _ hq => hq.1)⟩
end Go.Proofs.YtaafcmmmkalgjaaGreatDoor
/-
  writeText by a contract: a text's bytes between quotes, each by itself or by its digits.
-/
namespace Go.Proofs.YtaafcmmmkalgjaaGreatDoor
open Go.RowKit
def hexL : List UInt8 := [48, 49, 50, 51, 52, 53, 54, 55, 56, 57, 97, 98, 99, 100, 101, 102]
/-- How a byte is written. -/
def esc (b : UInt8) : List UInt8 :=
  if b = 34 ∨ b = 92 then [92, b] else if 32 ≤ b.toNat ∧ b.toNat ≤ 126 then [b] else [92, 120, hexL.getD (b.toNat / 16) 0, hexL.getD (b.toNat % 16) 0]
theorem esc_len (b : UInt8) : (esc b).length ≤ 4 := by unfold esc; split; · simp
                                                       split <;> simp
theorem ret_sl {a : Option Addr} {n m c : Nat} (h : n = m) : Ending.returned (.slice a n c) = .returned (.slice a m c) := by rw [h]
def escs (x : List UInt8) : List UInt8 := x.flatMap esc
theorem escs_take (x : ByteArray) (j : Nat) (h : j < x.data.toList.length) : escs (x.data.toList.take (j + 1)) = escs (x.data.toList.take j) ++ esc x.data.toList[j] := by
  unfold escs
  rw [List.take_add_one, List.getElem?_eq_getElem h, List.flatMap_append]
  simp
theorem escs_len (l : List UInt8) : (escs l).length ≤ 4 * l.length := by
  induction l with
  | nil => simp [escs]
  | cons b r ih => have := esc_len b; unfold escs at *; simp only [List.flatMap_cons, List.length_append, List.length_cons]; omega
theorem hex_at (k : Nat) (h : k < (ByteArray.mk #[48, 49, 50, 51, 52, 53, 54, 55, 56, 57, 97, 98, 99, 100, 101, 102]).size) : (ByteArray.mk #[48, 49, 50, 51, 52, 53, 54, 55, 56, 57, 97, 98, 99, 100, 101, 102])[k] = hexL.getD k 0 := by
  have h2 : k < 16 := h
  have key : ∀ k : Fin 16, (ByteArray.mk #[48, 49, 50, 51, 52, 53, 54, 55, 56, 57, 97, 98, 99, 100, 101, 102])[k.1]'(show k.1 < 16 from k.2) = hexL.getD k.1 0 := by decide
  exact key ⟨k, h2⟩
theorem hex_lit (b : UInt8) {h1 : ((b.toNat : Int) / 16).toNat < (ByteArray.mk #[48, 49, 50, 51, 52, 53, 54, 55, 56, 57, 97, 98, 99, 100, 101, 102]).size} {h2 : ((b.toNat : Int) % 16).toNat < (ByteArray.mk #[48, 49, 50, 51, 52, 53, 54, 55, 56, 57, 97, 98, 99, 100, 101, 102]).size} :
    #[Value.int .u8 92, .int .u8 120, .int .u8 ((ByteArray.mk #[48, 49, 50, 51, 52, 53, 54, 55, 56, 57, 97, 98, 99, 100, 101, 102])[((b.toNat : Int) / 16).toNat]'h1).toNat, .int .u8 ((ByteArray.mk #[48, 49, 50, 51, 52, 53, 54, 55, 56, 57, 97, 98, 99, 100, 101, 102])[((b.toNat : Int) % 16).toNat]'h2).toNat] = (Lib.byteCells [92, 120, hexL.getD (b.toNat / 16) 0, hexL.getD (b.toNat % 16) 0]).toArray := by
  rw [hex_at, hex_at]
  rw [show ((b.toNat : Int) / 16).toNat = b.toNat / 16 by omega, show ((b.toNat : Int) % 16).toNat = b.toNat % 16 by omega]
  rfl
/-- How a text is written. -/
def quo (x : ByteArray) : List UInt8 := 34 :: (escs x.data.toList ++ [34])
end Go.Proofs.YtaafcmmmkalgjaaGreatDoor
/-
  worth.compare and slices.CompareFunc, each by a contract.
-/
namespace Go.Proofs.YtaafcmmmkalgjaaGreatDoor
open Go.RowKit
attribute [local go_sem] as_un_un as_un_tu as_un_in as_un_tx as_un_li as_tu_un as_tu_tu as_tu_in as_tu_tx as_tu_li as_in_un as_in_tu as_in_in as_in_tx as_in_li as_tx_un as_tx_tu as_tx_in as_tx_tx as_tx_li as_li_un as_li_tu as_li_in as_li_tx as_li_li to_un to_tu to_in to_tx to_li
theorem T.cmpL_drop (xs ys : List T) (k : Nat) (h1 : k < xs.length) (h2 : k < ys.length) :
    T.cmpL (xs.drop k) (ys.drop k) = if T.cmp xs[k] ys[k] = 0 then T.cmpL (xs.drop (k + 1)) (ys.drop (k + 1)) else T.cmp xs[k] ys[k] := by
  rw [List.drop_eq_getElem_cons h1, List.drop_eq_getElem_cons h2, T.cmpL]
theorem T.cmpL_over (xs ys : List T) (k : Nat) (h1 : k < xs.length) (h2 : ys.length ≤ k) : T.cmpL (xs.drop k) (ys.drop k) = 1 := by
  rw [List.drop_eq_getElem_cons h1, List.drop_eq_nil_of_le h2, T.cmpL]
theorem T.cmpL_under (xs ys : List T) (k : Nat) (h1 : xs.length ≤ k) (h2 : k < ys.length) : T.cmpL (xs.drop k) (ys.drop k) = -1 := by
  rw [List.drop_eq_getElem_cons h2, List.drop_eq_nil_of_le h1, T.cmpL]
theorem T.cmpL_both (xs ys : List T) (k : Nat) (h1 : xs.length ≤ k) (h2 : ys.length ≤ k) : T.cmpL (xs.drop k) (ys.drop k) = 0 := by
  rw [List.drop_eq_nil_of_le h2, List.drop_eq_nil_of_le h1, T.cmpL]
theorem T.cmp_self (a : T) : T.cmp a a = 0 := (T.cmp_three.zero a a).2 rfl
theorem T.cmpL_self (a : List T) : T.cmpL a a = 0 := (T.cmpL_facts a a).2.1.2 rfl
theorem cI_self (a : Int) : Lib.compareInt a a = 0 := (compareInt_three.zero a a).2 rfl
theorem T.byC_self (a : ByteArray) : T.byC a a = 0 := (T.byC_three.zero a a).2 rfl
theorem T.cmp_kind (k k' n n' : Int) (x x' : ByteArray) (ks ks' : List T) (h : Lib.compareInt k k' ≠ 0) : T.cmp (.node k n x ks) (.node k' n' x' ks') = Lib.compareInt k k' := by
  simp only [T.cmp, T.cmp3, if_pos h]
theorem T.cmp_lt {k k' n n' : Int} {x x' : ByteArray} {ks ks' : List T} (h : k < k') : (-1 : Int) = T.cmp (.node k n x ks) (.node k' n' x' ks') := by
  have e : Lib.compareInt k k' = -1 := by unfold Lib.compareInt; rw [if_pos h]
  rw [T.cmp_kind _ _ _ _ _ _ _ _ (by rw [e]; decide), e]
theorem T.cmp_gt {k k' n n' : Int} {x x' : ByteArray} {ks ks' : List T} (h : k' < k) : (1 : Int) = T.cmp (.node k n x ks) (.node k' n' x' ks') := by
  have e : Lib.compareInt k k' = 1 := by unfold Lib.compareInt; rw [if_neg (by omega), if_pos h]
  rw [T.cmp_kind _ _ _ _ _ _ _ _ (by rw [e]; decide), e]
theorem T.cmp_num (k n n' : Int) (x : ByteArray) (ks : List T) : T.cmp (.node k n x ks) (.node k n' x ks) = Lib.compareInt n n' := by
  simp only [T.cmp, T.cmp3, cI_self, T.byC_self, T.cmpL_self]
  split <;> simp_all
theorem T.cmp_text (k n : Int) (x x' : ByteArray) (ks : List T) : T.cmp (.node k n x ks) (.node k n x' ks) = T.byC x x' := by
  simp only [T.cmp, T.cmp3, cI_self, T.cmpL_self]
  split <;> simp_all
theorem T.cmp_list (k n : Int) (x : ByteArray) (ks ks' : List T) : T.cmp (.node k n x ks) (.node k n x ks') = T.cmpL ks ks' := by
  simp only [T.cmp, T.cmp3, cI_self, T.byC_self]
  simp
theorem ret_int' {a b : Int} (h : a = b) : Ending.returned (.int .i64 a) = .returned (.int .i64 b) := by rw [h]
/-- The items of a list in memory. -/
def VRdL (K : Nat → Prop) (w : World) (d : Nat) (a : Option Addr) (ks : List T) : Prop := ks.length * 16 ≤ 140737488351232 ∧
  (ks = [] ∨ ∃ g off, a = some ⟨g, off, none⟩ ∧ K g ∧ ∀ j, (h : j < ks.length) → ∃ u, w.cell? ⟨g, off + j, none⟩ = some u ∧ VRd K w d u ks[j])
theorem VRdL.kid {K : Nat → Prop} {w : World} {d : Nat} {a : Option Addr} {ks : List T} (h : VRdL K w d a ks) {j : Nat} (hj : j < ks.length) :
    ∃ g off τ p, a = some ⟨g, off, none⟩ ∧ K g ∧ w.cell? ⟨g, off + j, none⟩ = some (.iface τ p) ∧ VRd K w d (.iface τ p) ks[j] := by
  rcases h.2 with h0 | ⟨g, off, rfl, hg, hc⟩
  · subst h0; exact absurd hj (Nat.not_lt_zero _)
  · obtain ⟨u, hu, hr⟩ := hc j hj
    obtain ⟨τ, p, rfl⟩ := hr.iface
    exact ⟨g, off, τ, p, rfl, hg, hu, hr⟩
theorem VRdL.keep {K : Nat → Prop} {w w' : World} {d : Nat} {a : Option Addr} {ks : List T} (h : VRdL K w d a ks) (hk : Kp K w w') : VRdL K w' d a ks :=
  ⟨h.1, h.2.imp id fun ⟨g, off, ha, hg, hc⟩ => ⟨g, off, ha, hg, fun j hj => by
      obtain ⟨u, hu, hr⟩ := hc j hj
      exact ⟨u, hk.cell hu hg, VRd.keep hk hr⟩⟩⟩
end Go.Proofs.YtaafcmmmkalgjaaGreatDoor
/-
  Of of package worth by a contract.
-/
namespace Go.Proofs.YtaafcmmmkalgjaaGreatDoor
open Go.RowKit
theorem four_of {w : World} {b : Nat} {v0 v1 v2 v3 : Value} {t : TypeId} (h : w.heap[b]? = some (.cells #[v0, v1, v2, v3] t)) : Four w b 0 v0 v1 v2 v3 := ⟨cell_of h rfl, cell_of h rfl, cell_of h rfl, cell_of h rfl⟩
theorem may_to {K : Nat → Prop} {d : Nat} {v : Value} {t : T} {w : World} (hr : Rd K w d v t) (b : Bool) (hb : decide t.may = b) (w1 : World) (hx : Ext w w1) : Calls Tryz.prog 81 #[v] w1 fun e w' => e = .returned (.bool b) ∧ Ext w1 w' := by
  have := may_any w1 (hr.later hx)
  rw [hb] at this
  exact this
/-- What Of answers. -/
def OfR (w : World) (d : Nat) (t : T) (e : Ending) (w' : World) : Prop := Ext w w' ∧ ((t.may ∧ ∃ u bs, e = .returned (.tuple #[u, .int .i64 0]) ∧ VOwn w' d u t bs ∧ (∀ b ∈ bs, w.heap.size ≤ b) ∧ bs.Nodup) ∨ (¬ t.may ∧ e = .returned (.tuple #[.nilIface, .int .i64 1])))
set_option maxRecDepth 100000 in
set_option maxHeartbeats 1000000 in
theorem of_any {K : Nat → Prop} {d : Nat} {v : Value} {t : T} (w : World) (hr : Rd K w d v t) : Calls Tryz.prog 51 #[v] w (OfR w d t) := by
  obtain ⟨u0, u1, u2, u3, rfl⟩ := hr.agg
  obtain ⟨k, n, x, a, c, rfl, rfl, rfl, rfl⟩ := hr.shape
  have HR := hid hr
  generalize t.kids.length = l at *
  by_cases hm : t.may
  · have HM := hid (may_to hr true (decide_eq_true hm))
    have HG := hid hm
    clear hr hm
    go_enter Tryz.func51, Tryz.ntmps51
    go_wp2_with fail
    refine (HM.out _ (Ext.alloc _ _)).mono ?_
    rintro e w1 ⟨rfl, hx1⟩
    obtain ⟨p0, p1, p2, p3⟩ := four_of (hx1.block (blk0 w _))
    have HX1 := hid ((Ext.alloc w _).trans hx1)
    clear hx1
    go_wp2_with fail
    refine (value_any d _ t K w1 (HR.out.later HX1.out) HG.out.1).mono ?_
    rintro e w2 ⟨u, bs, rfl, hx2, ho, hge, hnd⟩
    obtain ⟨τ, p, rfl⟩ := ho.rd.iface
    clear p0 p1 p2 p3
    have HO := hid ho
    have HX2 := hid (HX1.out.trans hx2)
    have HGE := hid hge
    clear ho hx2 hge
    go_wp2_with fail
    go_ret2
    exact ⟨HX2.out, .inl ⟨HG.out, _, bs, rfl, HO.out, fun b hb => Nat.le_trans HX1.out.size (HGE.out b hb), hnd⟩⟩
  · have HM := hid (may_to hr false (decide_eq_false hm))
    have HG := hid hm
    clear hr hm
    go_enter Tryz.func51, Tryz.ntmps51
    go_wp2_with fail
    refine (HM.out _ (Ext.alloc _ _)).mono ?_
    rintro e w1 ⟨rfl, hx1⟩
    have HX1 := hid ((Ext.alloc w _).trans hx1)
    clear hx1
    go_wp2_with fail
    go_ret2
    exact ⟨HX1.out, .inr ⟨HG.out, rfl⟩⟩
end Go.Proofs.YtaafcmmmkalgjaaGreatDoor
/-
  Eq of the statements' own, by a contract.
-/
namespace Go.Proofs.YtaafcmmmkalgjaaGreatDoor
open Go.RowKit
namespace T
mutual
def beq : T → T → Bool
  | node k n x ks, node k' n' x' ks' => decide (k = k') && decide (n = n') && decide (x = x') && beqL ks ks'
def beqL : List T → List T → Bool
  | [], [] => true
  | a :: r, b :: q => beq a b && beqL r q
  | _, _ => false
end
end T
theorem T.beqL_iff : ∀ (a b : List T), T.beqL a b = true ↔ a.length = b.length ∧ ∀ j, (h : j < a.length) → (h' : j < b.length) → T.beq a[j] b[j] = true
  | [], [] => by simp [T.beqL]
  | [], _ :: _ => by simp [T.beqL]
  | _ :: _, [] => by simp [T.beqL]
  | x :: r, y :: q => by
    simp only [T.beqL, Bool.and_eq_true, T.beqL_iff r q, List.length_cons]
    constructor
    · rintro ⟨h1, h2, h3⟩
      refine ⟨by omega, fun j h h' => ?_⟩
      cases j with
      | zero => exact h1
      | succ j => exact h3 j (by simpa using h) (by simpa using h')
    · rintro ⟨h1, h2⟩
      exact ⟨h2 0 (by simp) (by simp), by omega, fun j h h' => h2 (j + 1) (by simpa using h) (by simpa using h')⟩
theorem T.beqL_len {a b : List T} (h : a.length ≠ b.length) : T.beqL a b = false := by
  cases e : T.beqL a b with
  | false => rfl
  | true => exact absurd ((T.beqL_iff a b).1 e).1 h
theorem T.beqL_bad {a b : List T} {j : Nat} (h : j < a.length) (h' : j < b.length) (hf : T.beq a[j] b[j] = false) : T.beqL a b = false := by
  cases e : T.beqL a b with
  | false => rfl
  | true => have := ((T.beqL_iff a b).1 e).2 j h h'; rw [hf] at this; cases this
/-- The kids of a list in memory. -/
def RdL (K : Nat → Prop) (w : World) (d : Nat) (a : Option Addr) (ks : List T) : Prop := ks.length * 56 ≤ 140737488351232 ∧
  (ks = [] ∨ ∃ g off, a = some ⟨g, off, none⟩ ∧ K g ∧ ∀ j, (h : j < ks.length) → ∃ u0 u1 u2 u3, Four w g (off + j * 4) u0 u1 u2 u3 ∧ Rd K w d (.agg #[u0, u1, u2, u3]) ks[j])
theorem Rd.kidsL {K : Nat → Prop} {w : World} {d : Nat} {v : Value} {k n : Int} {x : ByteArray} {ks : List T} (h : Rd K w (d + 1) v (.node k n x ks)) :
    ∃ a c, v = .agg #[.int .i64 k, .int .i64 n, .string x, .slice a ks.length c] ∧ RdL K w d a ks := by
  obtain ⟨a, c, h1, h3, h4, h5⟩ := h
  exact ⟨a, c, h1, h4, h5⟩
theorem RdL.kid {K : Nat → Prop} {w : World} {d : Nat} {a : Option Addr} {ks : List T} (h : RdL K w d a ks) {j : Nat} (hj : j < ks.length) :
    ∃ g off k n x a' l c, a = some ⟨g, off, none⟩ ∧ K g ∧ Four w g (off + j * 4) (.int .i64 k) (.int .i64 n) (.string x) (.slice a' l c) ∧ Rd K w d (.agg #[.int .i64 k, .int .i64 n, .string x, .slice a' l c]) ks[j] := by
  rcases h.2 with h0 | ⟨g, off, rfl, hg, hc⟩
  · subst h0; exact absurd hj (Nat.not_lt_zero _)
  · obtain ⟨u0, u1, u2, u3, h4, hr⟩ := hc j hj
    obtain ⟨k, n, x, a', c', rfl, rfl, rfl, rfl⟩ := hr.shape
    exact ⟨g, off, k, n, x, a', _, c', rfl, hg, h4, hr⟩
theorem RdL.keep {K : Nat → Prop} {w w' : World} {d : Nat} {a : Option Addr} {ks : List T} (h : RdL K w d a ks) (hk : Kp K w w') : RdL K w' d a ks :=
  ⟨h.1, h.2.imp id fun ⟨g, off, ha, hg, hc⟩ => ⟨g, off, ha, hg, fun j hj => by
      obtain ⟨u0, u1, u2, u3, hf, hr⟩ := hc j hj
      exact ⟨u0, u1, u2, u3, hf.keep hk hg, Rd.keep hk hr⟩⟩⟩
mutual
theorem T.beq_eq : ∀ (a b : T), T.beq a b = true ↔ a = b
  | .node k n x ks, .node k' n' x' ks' => by simp only [T.beq, Bool.and_eq_true, decide_eq_true_eq, T.beqL_eq ks ks', T.node.injEq, and_assoc]
theorem T.beqL_eq : ∀ (a b : List T), T.beqL a b = true ↔ a = b
  | [], [] => by simp [T.beqL]
  | [], _ :: _ => by simp [T.beqL]
  | _ :: _, [] => by simp [T.beqL]
  | x :: r, y :: q => by simp only [T.beqL, Bool.and_eq_true, T.beq_eq x y, T.beqL_eq r q, List.cons.injEq]
end
def EqTo (d : Nat) : Prop := ∀ (v v' : Value) (t t' : T) (K K' : Nat → Prop) (w : World) (d' : Nat), Rd K w d v t → Rd K' w d' v' t' →
  Calls Tryz.prog 29 #[v, v'] w fun e w' => e = .returned (.bool (T.beq t t')) ∧ Ext w w'
set_option maxRecDepth 100000 in
set_option maxHeartbeats 4000000 in
theorem eq_any : ∀ d, EqTo d := by
  intro d
  induction d with
  | zero => intro v v' t t' K K' w d' h; exact h.elim
  | succ d ih =>
    intro v v' t t' K K' w d' h h'
    obtain ⟨k, n, x, ks⟩ := t
    obtain ⟨k', n', x', ks'⟩ := t'
    cases d' with
    | zero => exact h'.elim
    | succ d' =>
    obtain ⟨a, c, rfl, hl⟩ := h.kidsL
    obtain ⟨a', c', rfl, hl'⟩ := h'.kidsL
    have HA := hid hl
    have HB := hid hl'
    have hz1 : (ks.length : Int) ≤ 140737488355328 := by have := hl.1; omega
    have hz2 : (ks'.length : Int) ≤ 140737488355328 := by have := hl'.1; omega
    have HIH := hid ih
    clear h h' hl hl' ih
    have HR := hid (show T.beq (.node k n x ks) (.node k' n' x' ks') = (decide (k = k') && decide (n = n') && decide (x = x') && T.beqL ks ks') from by simp only [T.beq])
    by_cases q1 : k = k'
    · have HK := hid q1
      have r1 : (k != k') = false := by simpa using q1
      clear q1
      by_cases q2 : n = n'
      · have r2 : (n != n') = false := by simpa using q2
        have HN := hid q2
        clear q2
        by_cases q3 : x.toList = x'.toList
        · have HV := hid (show (decide (k = k') && decide (n = n') && decide (x = x') && T.beqL ks ks') = T.beqL ks ks' by rw [decide_eq_true HK.out, decide_eq_true HN.out, decide_eq_true (toList_inj q3)]; simp)
          by_cases hle : ks.length = ks'.length
          · have r4 : (((ks.length : Int)) != ((ks'.length : Int))) = false := by rw [hle]; simp
            have HLE := hid hle
            clear hle
            go_enter Tryz.func29, Tryz.ntmps29
            go_wp2_with fail
            have HX0 := hid (Ext.alloc2 w (.cells #[.int .i64 k, .int .i64 n, .string x, .slice a ks.length c] 30) (.cells #[.int .i64 k', .int .i64 n', .string x', .slice a' ks'.length c'] 30))
            go_loopw [5] (fun i wr => ∃ j : Nat, j ≤ ks.length ∧ i = .int .i64 j ∧ Ext ((w.alloc (.cells #[.int .i64 k, .int .i64 n, .string x, .slice a ks.length c] 30)).alloc (.cells #[.int .i64 k', .int .i64 n', .string x', .slice a' ks'.length c'] 30)) wr ∧ (∀ i, (h : i < ks.length) → (h' : i < ks'.length) → i < j → T.beq ks[i] ks'[i] = true)) (fun i _ => ks.length - (intOf i).toNat)
            case atStart => exact ⟨0, Nat.zero_le _, rfl, Ext.refl _, fun i _ _ h => absurd h (Nat.not_lt_zero _)⟩
            case round =>
              obtain ⟨j, hj, rfl, hx, hall⟩ := hrel
              have HX := hid hx
              have HALL := hid hall
              clear hx hall
              obtain ⟨p0, p1, p2, p3⟩ := four_of (HX.out.block (blkOld _ (blk0 w _)))
              obtain ⟨s0, s1, s2, s3⟩ := four_of (HX.out.block (blk1 w _ _))
              have HXW := hid (HX0.out.trans HX.out)
              by_cases hlt : j < ks.length
              · have hlt' : (j : Int) < ks.length := by omega
                have hlt2 : j < ks'.length := by rw [← HLE.out]; exact hlt
                have hlt3 : (j : Int) < ks'.length := by omega
                obtain ⟨g, off, k1, n1, x1, b1, l1, c1, rfl, hg, h4, hr⟩ := HA.out.kid hlt
                obtain ⟨g', off', k2, n2, x2, b2, l2, c2, rfl, hg', h4', hr'⟩ := HB.out.kid hlt2
                obtain ⟨m0, m1, m2, m3⟩ := h4.keep (HXW.out.kp K) hg
                obtain ⟨o0, o1, o2, o3⟩ := h4'.keep (HXW.out.kp K') hg'
                have HC := hid (fun w2 (hy : Ext wr w2) => HIH.out _ _ ks[j] ks'[j] K K' w2 d' (hr.later (HXW.out.trans hy)) (hr'.later (HXW.out.trans hy)))
                clear h4 h4' hr hr' hg hg' p0 p1 p2 s0 s1 s2
                generalize hbq : T.beq ks[j] ks'[j] = bq at HC
                have HBQ := hid hbq
                clear hbq
                have HSK := hid (show ∀ W', Ext wr W' → W'.cell? ⟨w.heap.size, 3, none⟩ = some (.slice (some ⟨g, off, none⟩) ks.length c) ∧ W'.cell? ⟨w.heap.size + 1, 3, none⟩ = some (.slice (some ⟨g', off', none⟩) ks'.length c') ∧ W'.cell? ⟨g, off + j * 4, none⟩ = some (.int .i64 k1) ∧ W'.cell? ⟨g, off + j * 4 + 1, none⟩ = some (.int .i64 n1) ∧ W'.cell? ⟨g, off + j * 4 + 2, none⟩ = some (.string x1) ∧ W'.cell? ⟨g, off + j * 4 + 3, none⟩ = some (.slice b1 l1 c1) ∧ W'.cell? ⟨g', off' + j * 4, none⟩ = some (.int .i64 k2) ∧ W'.cell? ⟨g', off' + j * 4 + 1, none⟩ = some (.int .i64 n2) ∧ W'.cell? ⟨g', off' + j * 4 + 2, none⟩ = some (.string x2) ∧ W'.cell? ⟨g', off' + j * 4 + 3, none⟩ = some (.slice b2 l2 c2) from fun W' Y => ⟨(Y.kp (fun _ => True)).cell p3 trivial, (Y.kp (fun _ => True)).cell s3 trivial, (Y.kp (fun _ => True)).cell m0 trivial, (Y.kp (fun _ => True)).cell m1 trivial, (Y.kp (fun _ => True)).cell m2 trivial, (Y.kp (fun _ => True)).cell m3 trivial, (Y.kp (fun _ => True)).cell o0 trivial, (Y.kp (fun _ => True)).cell o1 trivial, (Y.kp (fun _ => True)).cell o2 trivial, (Y.kp (fun _ => True)).cell o3 trivial⟩)
                go_wp2_with fail
                go_cut [52] from 34 (fun s52 wx => s52 = .bool (!bq) ∧ Ext wr wx)
                case first =>
                  go_region_held3 (fun W' => W'.cell? ⟨w.heap.size, 3, none⟩ = some (.slice (some ⟨g, off, none⟩) ks.length c) ∧ W'.cell? ⟨w.heap.size + 1, 3, none⟩ = some (.slice (some ⟨g', off', none⟩) ks'.length c') ∧ W'.cell? ⟨g, off + j * 4, none⟩ = some (.int .i64 k1) ∧ W'.cell? ⟨g, off + j * 4 + 1, none⟩ = some (.int .i64 n1) ∧ W'.cell? ⟨g, off + j * 4 + 2, none⟩ = some (.string x1) ∧ W'.cell? ⟨g, off + j * 4 + 3, none⟩ = some (.slice b1 l1 c1) ∧ W'.cell? ⟨g', off' + j * 4, none⟩ = some (.int .i64 k2) ∧ W'.cell? ⟨g', off' + j * 4 + 1, none⟩ = some (.int .i64 n2) ∧ W'.cell? ⟨g', off' + j * 4 + 2, none⟩ = some (.string x2) ∧ W'.cell? ⟨g', off' + j * 4 + 3, none⟩ = some (.slice b2 l2 c2))
                    (first | exact SK | exact ⟨p3, s3, m0, m1, m2, m3, o0, o1, o2, o3⟩ | go_keep)
                    (first | (go_at_call 29; refine (HC.out _ ((Ext.refl wr).drew)).mono ?_; rintro r w3 ⟨rfl, hy⟩; have Y : Ext wr w3 := Ext.trans ((Ext.refl wr).drew) hy; have SK := HSK.out w3 Y))
                  all_goals
                    go_wp2_with fail
                    go_meet
                    case rel => exact ⟨rfl, Y⟩
                case rest =>
                  obtain ⟨rfl, hy⟩ := hcut
                  have HY := hid (HX.out.trans hy)
                  clear hy p3 s3 m0 m1 m2 m3 o0 o1 o2 o3
                  cases bq with
                  | true =>
                    go_wp2_with fail
                    go_roundw
                    case rel =>
                      have REL : ∃ j' : Nat, j' ≤ ks.length ∧ Value.int .i64 ((j : Int) + 1) = .int .i64 j' ∧ Ext ((w.alloc (.cells #[.int .i64 k, .int .i64 n, .string x, .slice (some ⟨g, off, none⟩) ks.length c] 30)).alloc (.cells #[.int .i64 k', .int .i64 n', .string x', .slice (some ⟨g', off', none⟩) ks'.length c'] 30)) wc ∧ (∀ i, (h : i < ks.length) → (h' : i < ks'.length) → i < j' → T.beq ks[i] ks'[i] = true) :=
                        ⟨j + 1, hlt, by go_num, HY.out, fun i h h' hi => by
                          rcases Nat.lt_or_eq_of_le (Nat.le_of_lt_succ hi) with e | e
                          · exact HALL.out i h h' e
                          · have q := HBQ.out
                            subst e
                            exact q⟩
                      first | exact REL | ((repeat apply Exists.intro); exact ⟨REL, rfl⟩)
                    case measure => simp [intOf]; omega
                  | false =>
                    have HQ := hid (T.beqL_bad hlt hlt2 HBQ.out)
                    go_wp2_with fail
                    go_ret
                    exact ⟨ret_bool (by rw [HR.out, HV.out, HQ.out]), HX0.out.trans HY.out⟩
              · go_wp2_with fail
                go_ret
                exact ⟨ret_bool (by rw [HR.out, HV.out, (T.beqL_iff _ _).2 ⟨HLE.out, fun i h h' => HALL.out i h h' (by omega)⟩]), HXW.out⟩
          · have r4 : (((ks.length : Int)) != ((ks'.length : Int))) = true := by
              have : ¬ ((ks.length : Int)) = ((ks'.length : Int)) := by omega
              simpa using this
            have HNE := hid (T.beqL_len hle)
            clear hle
            go_enter Tryz.func29, Tryz.ntmps29
            go_wp2_with fail
            go_ret
            exact ⟨ret_bool (by rw [HR.out, HV.out, HNE.out]), Ext.alloc2 _ _ _⟩
        · have HV := hid (show (decide (k = k') && decide (n = n') && decide (x = x') && T.beqL ks ks') = false by rw [decide_eq_false (fun e : x = x' => q3 (by rw [e]))]; simp)
          go_enter Tryz.func29, Tryz.ntmps29
          go_wp2_with fail
          go_ret
          exact ⟨ret_bool (by rw [HR.out, HV.out]), Ext.alloc2 _ _ _⟩
      · have r2 : (n != n') = true := by simpa using q2
        have HV := hid (show (decide (k = k') && decide (n = n') && decide (x = x') && T.beqL ks ks') = false by rw [decide_eq_false q2]; simp)
        go_enter Tryz.func29, Tryz.ntmps29
        go_wp2_with fail
        go_ret
        exact ⟨ret_bool (by rw [HR.out, HV.out]), Ext.alloc2 _ _ _⟩
    · have r1 : (k != k') = true := by simpa using q1
      have HV := hid (show (decide (k = k') && decide (n = n') && decide (x = x') && T.beqL ks ks') = false by rw [decide_eq_false q1]; simp)
      go_enter Tryz.func29, Tryz.ntmps29
      go_wp2_with fail
      go_ret
      exact ⟨ret_bool (by rw [HR.out, HV.out]), Ext.alloc2 _ _ _⟩
end Go.Proofs.YtaafcmmmkalgjaaGreatDoor
