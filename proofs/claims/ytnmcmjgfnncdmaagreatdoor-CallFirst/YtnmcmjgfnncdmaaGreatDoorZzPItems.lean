/-
  A list of plain values that is being made; one more is appended.
-/
import Derived.Test.YtnmcmjgfnncdmaaGreatDoorZzValue
import Derived.Maps.AppendAt
namespace Go.Proofs.YtnmcmjgfnncdmaaGreatDoor
open Go.RowKit
theorem grown_kp {w w' : World} {row : Option Nat} (h : w.grownBy w' row) : Kp (fun k => row ≠ some k) w w' := ⟨h.os, h.tape, h.output, h.size, fun k hk hK => h.block k hk (fun e => hK e.symm)⟩
theorem plainInfo : (Tryz.prog.info? 38).map (fun i => (i.zero, i.size, i.bytes)) = some (some (.agg #[.int .i64 0, .int .i64 0, .string ⟨#[]⟩, .slice none 0 0]), 4, 56) := by kernel_rfl
/-- The slice lv holds plain values that were made, as acc tells; its own blocks lie from base on, below N. -/
def PItems (w : World) (base N d : Nat) (lv : Value) (acc : List T) : Prop := ∃ (us : List Value), w.ownsRow base 38 4 lv acc.length us ∧
  (∀ j, (h : j < acc.length) → ∃ u0 u1 u2 u3, us[j * 4]? = some u0 ∧ us[j * 4 + 1]? = some u1 ∧ us[j * 4 + 2]? = some u2 ∧ us[j * 4 + 3]? = some u3 ∧ Rd (fun x => base ≤ x ∧ x < N ∧ lv.ownBlock ≠ some x) w d (.agg #[u0, u1, u2, u3]) acc[j]) ∧
  (∀ g, lv.ownBlock = some g → g < N) ∧ N ≤ w.heap.size
theorem PItems.nil {w : World} (base d : Nat) : PItems w base w.heap.size d (.slice none 0 0) [] :=
  ⟨[], World.ownsRow_nil _ _ _ _, fun j h => absurd h (Nat.not_lt_zero _), fun g h => by simp [Value.ownBlock] at h, Nat.le_refl _⟩
theorem PItems.keep {w w' : World} {base N d : Nat} {lv : Value} {acc : List T} {K : Nat → Prop} (h : PItems w base N d lv acc) (hk : Kp K w w') (hK : ∀ k, base ≤ k → K k) : PItems w' base N d lv acc := by
  obtain ⟨us, ho, hi, hg, hN⟩ := h
  refine ⟨us, ⟨ho.1, ?_⟩, fun j hj => ?_, hg, Nat.le_trans hN hk.size⟩
  · rcases ho.2 with h | ⟨g, cap, cur, hv, hg, hb, hr⟩
    · exact .inl h
    · exact .inr ⟨g, cap, cur, hv, hg, hk.block' hb (hK g hg), hr⟩
  · obtain ⟨u0, u1, u2, u3, h0, h1, h2, h3, hr⟩ := hi j hj
    exact ⟨u0, u1, u2, u3, h0, h1, h2, h3, hr.keep (hk.mono (fun k _ hk => hK k hk.1))⟩
theorem PItems.up {w : World} {base N d : Nat} {lv : Value} {acc : List T} (h : PItems w base N d lv acc) : PItems w base w.heap.size d lv acc := by
  obtain ⟨us, ho, hi, hg, hN⟩ := h
  refine ⟨us, ho, fun j hj => ?_, fun g h => Nat.lt_of_lt_of_le (hg g h) hN, Nat.le_refl _⟩
  obtain ⟨u0, u1, u2, u3, h0, h1, h2, h3, hr⟩ := hi j hj
  exact ⟨u0, u1, u2, u3, h0, h1, h2, h3, hr.mono (fun k hk h => ⟨h.1, hk, h.2.2⟩)⟩
theorem PItems.shape {w : World} {base N d : Nat} {lv : Value} {acc : List T} (h : PItems w base N d lv acc) : ∃ ao c, lv = .slice ao acc.length c := by
  obtain ⟨us, ho, _⟩ := h
  rcases ho.2 with ⟨hv, h0⟩ | ⟨g, cap, cur, hv, _⟩
  · exact ⟨none, 0, by rw [hv, h0]⟩
  · exact ⟨_, _, hv⟩
theorem run_pitem {w : World} {ty : TypeId} (base N d : Nat) (lv : Value) (acc : List T) (k n : Int) (x : ByteArray) (a : Option Addr) (l c : Nat) (t : T) (hB : base ≤ w.heap.size) (hit : PItems w base N d lv acc) (hrd : Rd (fun x => N ≤ x) w d (.agg #[.int .i64 k, .int .i64 n, .string x, .slice a l c]) t) (hbN : base ≤ N) (hlim : acc.length ≤ 2000000) :
    ∃ ao c' w', (Builtin.append_ #[25, 25] 25 #[lv, .slice (some ⟨w.heap.size, 0, none⟩) 1 1]).run Tryz.prog (w.alloc (.cells #[.int .i64 k, .int .i64 n, .string x, .slice a l c] ty)) = .ok (.slice ao (acc ++ [t]).length c') w' ∧ PItems w' base w'.heap.size d (.slice ao (acc ++ [t]).length c') (acc ++ [t]) ∧ Below base w w' := by
  obtain ⟨us, ho, hi, hg0, hN⟩ := hit
  obtain ⟨ii, hii, hz0, hz1, hz2⟩ := info_parts plainInfo
  have hrow : (w.alloc (.cells #[.int .i64 k, .int .i64 n, .string x, .slice a l c] ty)).ownsRow base 38 4 lv acc.length us := World.ownsRow.alloc ho _
  have hnews : ∀ (j : Nat) (u : Value), [Value.int .i64 k, .int .i64 n, .string x, .slice a l c][j]? = some u → (w.alloc (.cells #[.int .i64 k, .int .i64 n, .string x, .slice a l c] ty)).cell? (Addr.add ⟨w.heap.size, 0, none⟩ j) = some u := by
    intro j u hu
    have e : Addr.add ⟨w.heap.size, 0, none⟩ j = ⟨w.heap.size, j, none⟩ := by
      by_cases hj : j = 0
      · subst hj; simp [Addr.add]
      · simp [Addr.add, hj]
    rw [e]
    exact cell_of (blk0 w _) (by simpa using hu)
  obtain ⟨v', w', hr, ho2, hg, _, hat⟩ := run_append_own_at (P := Tryz.prog) (w.alloc (.cells #[.int .i64 k, .int .i64 n, .string x, .slice a l c] ty)) base 25 25 38 ii _ 4 56 Tryz.underlying25 hii hz0 hz1 hz2 rfl (by decide) lv acc.length us hrow ⟨w.heap.size, 0, none⟩ 1 1 [.int .i64 k, .int .i64 n, .string x, .slice a l c] rfl hnews (fun u hu => by simp at hu; rcases hu with rfl | rfl | rfl | rfl <;> rfl) (by unfold maxLen; omega) (by omega) (by rw [blkS]; omega)
  have hkp := grown_kp hg
  have hsz : w.heap.size + 1 ≤ w'.heap.size := by have := hg.size; rw [blkS] at this; exact this
  have hI : PItems w' base w'.heap.size d v' (acc ++ [t]) := by
    have hold : ∀ (x : Nat), x < w.heap.size → lv.ownBlock ≠ some x → v'.ownBlock ≠ some x := fun x hx hne => by
      rcases hat with e | e
      · rw [e]; exact hne
      · rw [e, blkS]; intro h; injection h with h; omega
    have hul : us.length = acc.length * 4 := ho.1
    refine ⟨us ++ [.int .i64 k, .int .i64 n, .string x, .slice a l c], by rw [List.length_append]; exact ho2, fun j hj => ?_, fun g hg => ?_, Nat.le_refl _⟩
    · by_cases hj' : j < acc.length
      · obtain ⟨u0, u1, u2, u3, h0, h1, h2, h3, hr3⟩ := hi j hj'
        refine ⟨u0, u1, u2, u3, by rw [List.getElem?_append_left (by omega)]; exact h0, by rw [List.getElem?_append_left (by omega)]; exact h1, by rw [List.getElem?_append_left (by omega)]; exact h2, by rw [List.getElem?_append_left (by omega)]; exact h3, ?_⟩
        rw [List.getElem_append_left hj']
        exact ((hr3.later (Ext.alloc _ _)).keep (hkp.mono (fun k _ hk => hk.2.2))).mono (fun q _ hq => ⟨hq.1, by have := hq.2.1; omega, hold q (by have := hq.2.1; omega) hq.2.2⟩)
      · have hje : j = acc.length := by simp at hj; omega
        subst hje
        refine ⟨.int .i64 k, .int .i64 n, .string x, .slice a l c, by rw [← hul]; simp, by rw [← hul]; simp, by rw [← hul]; simp, by rw [← hul]; simp, ?_⟩
        simp only [List.getElem_append_right (Nat.le_refl _), Nat.sub_self, List.getElem_cons_zero]
        have hne : ∀ q, N ≤ q → lv.ownBlock ≠ some q := fun q hq e => by have := hg0 q e; omega
        have hlow : Rd (fun q => N ≤ q ∧ q < w.heap.size) w d (.agg #[.int .i64 k, .int .i64 n, .string x, .slice a l c]) t := hrd.mono (fun q hq h => ⟨h, hq⟩)
        exact ((hlow.later (Ext.alloc _ _)).keep (hkp.mono (fun q _ hq => hne q hq.1))).mono (fun q _ hq => ⟨by omega, by omega, hold q hq.2 (hne q hq.1)⟩)
    · rcases ho2.2 with ⟨hv, _⟩ | ⟨g2, cap, cur, hv, _, hb2, _⟩
      · rw [hv] at hg; simp [Value.ownBlock] at hg
      · rw [hv] at hg; simp [Value.ownBlock] at hg; subst hg; exact lt_of_block hb2
  obtain ⟨ao, c', rfl⟩ := hI.shape
  exact ⟨ao, c', w', hr, hI, Below.grown ((Below.refl base w).alloc hB _) hg (by rw [blkS]; omega) (fun k hk => (World.ownsRow.lt ho k hk).1)⟩
theorem app_pitem {ops : Array Oper} {rest : List Oper} {o : Oper} {ac : Act} {Q : Exit → Act → World → Prop} {w : World} {ty : TypeId} (hgd : o.guard = none) (s y : Operand)
    (ho : o.op = .call { callee := .builtin .append, args := #[s, y], argTypes := #[25, 25] }) (hty : o.type = 25) (base N d : Nat) (lv : Value) (acc : List T) (k n : Int) (x : ByteArray) (a : Option Addr) (l c : Nat) (t : T) (hs : ac.eval s = lv) (hx : ac.eval y = .slice (some ⟨w.heap.size, 0, none⟩) 1 1)
    (hB : base ≤ w.heap.size) (hit : PItems w base N d lv acc) (hrd : Rd (fun x => N ≤ x) w d (.agg #[.int .i64 k, .int .i64 n, .string x, .slice a l c]) t) (hbN : base ≤ N) (hlim : acc.length ≤ 2000000)
    (h : ∀ ao c' w', PItems w' base w'.heap.size d (.slice ao (acc.length + 1) c') (acc ++ [t]) → Below base w w' → wpList Tryz.prog ops Q rest (ac.put o.dst (.slice ao (acc.length + 1) c')) w') : wpList Tryz.prog ops Q (o :: rest) ac (w.alloc (.cells #[.int .i64 k, .int .i64 n, .string x, .slice a l c] ty)) := by
  refine wpList_plain hgd fun K hK => ?_
  obtain ⟨ao, c', w', hr, h2, h3⟩ := run_pitem (ty := ty) base N d lv acc k n x a l c t hB hit hrd hbN hlim
  unfold Oper.wp execOp
  rw [List.length_append] at hr h2
  simp only [ho, hty, resolve, invoke, builtin, Sem.run_bind, Sem.run_pure, Result.andThen_ok, List.map_toArray, List.map_cons, List.map_nil, hs, hx, hr]
  exact hK _ _ (h ao c' w' h2 h3)
theorem PItems.list {w : World} {base N d m c : Nat} {ao : Option Addr} {acc : List T} (h : PItems w base N d (.slice ao m c) acc) (hlim : acc.length ≤ 2000000) :
    Rd (fun x => base ≤ x) w (d + 1) (.agg #[.int .i64 5, .int .i64 0, .string ⟨#[]⟩, .slice ao m c]) (.node 5 0 ⟨#[]⟩ acc) := by
  obtain ⟨us, ho, hi, hg, hN⟩ := h
  rcases ho.2 with ⟨hv, h1⟩ | ⟨g, cap, cur, hv, hbg, hbk, h3, h4, h5, h6⟩
  · have h0 := List.eq_nil_of_length_eq_zero h1
    subst h0
    injection hv with e1 e2 e3
    subst e1; subst e2; subst e3
    exact ⟨none, 0, rfl, by decide, by decide, .inl rfl⟩
  · injection hv with e1 e2 e3
    subst e1; subst e2; subst e3
    refine ⟨_, c, rfl, by decide, by omega, .inr ⟨g, 0, rfl, hbg, fun j hj => ?_⟩⟩
    obtain ⟨u0, u1, u2, u3, q0, q1, q2, q3, hr⟩ := hi j hj
    have key : ∀ i u, i < acc.length * 4 → us[i]? = some u → w.cell? ⟨g, 0 + i, none⟩ = some u := fun i u hi hu => by
      rw [← h6, List.getElem?_take_of_lt hi] at hu
      rw [Nat.zero_add]
      exact cell_of hbk (by simpa using hu)
    exact ⟨u0, u1, u2, u3, ⟨key _ _ (by omega) q0, key _ _ (by omega) q1, key _ _ (by omega) q2, key _ _ (by omega) q3⟩, hr.mono (fun q _ hq => hq.1)⟩
end Go.Proofs.YtnmcmjgfnncdmaaGreatDoor
