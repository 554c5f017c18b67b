/-
  A list that is being read: its items in memory of their own; one more is appended.
-/
import Derived.Test.YtbpbkihcfdnphaaDoorReads
import Derived.Test.YtbpbkihcfdnphaaDoorValue
import Derived.Maps.AppendAt
namespace Go.Proofs.YtbpbkihcfdnphaaDoor
open Go.RowKit
/-- The slice lv holds values in memory of their own, as acc tells; its own blocks lie from base on, below N. -/
def Items (w : World) (base N d : Nat) (lv : Value) (acc : List T) : Prop := ∃ (us : List Value) (bss : List (List Nat)), w.ownsRow base 30 1 lv acc.length us ∧ bss.length = acc.length ∧
  (∀ j, (h : j < acc.length) → ∃ u bb, us[j]? = some u ∧ bss[j]? = some bb ∧ VOwn w d u acc[j] bb) ∧ (∀ x ∈ bss.flatten, base ≤ x ∧ x < N ∧ lv.ownBlock ≠ some x) ∧ bss.flatten.Nodup ∧ (∀ g, lv.ownBlock = some g → g < N) ∧ N ≤ w.heap.size
theorem Items.nil {w : World} (base d : Nat) : Items w base w.heap.size d (.slice none 0 0) [] :=
  ⟨[], [], World.ownsRow_nil _ _ _ _, rfl, fun j h => absurd h (Nat.not_lt_zero _), fun x h => (by cases h), List.nodup_nil, fun g h => by simp [Value.ownBlock] at h, Nat.le_refl _⟩
theorem Items.keep {w w' : World} {base N d : Nat} {lv : Value} {acc : List T} {K : Nat → Prop} (h : Items w base N d lv acc) (hk : Kp K w w') (hK : ∀ k, base ≤ k → K k) : Items w' base N d lv acc := by
  obtain ⟨us, bss, ho, hl, hi, hb, hn, hg, hN⟩ := h
  refine ⟨us, bss, ⟨ho.1, ?_⟩, hl, fun j hj => ?_, hb, hn, hg, Nat.le_trans hN hk.size⟩
  · rcases ho.2 with h | ⟨g, cap, cur, hv, hg, hb, hr⟩
    · exact .inl h
    · exact .inr ⟨g, cap, cur, hv, hg, hk.block' hb (hK g hg), hr⟩
  · obtain ⟨u, bb, h1, h2, h3⟩ := hi j hj
    exact ⟨u, bb, h1, h2, h3.keep (hk.mono (fun k _ hk => hK k (hb k (List.mem_flatten.2 ⟨bb, List.mem_of_getElem? h2, hk⟩)).1))⟩
theorem Items.shape {w : World} {base N d : Nat} {lv : Value} {acc : List T} (h : Items w base N d lv acc) : ∃ ao c, lv = .slice ao acc.length c := by
  obtain ⟨us, bss, ho, _⟩ := h
  rcases ho.2 with ⟨hv, h0⟩ | ⟨g, cap, cur, hv, _⟩
  · exact ⟨none, 0, by rw [hv, h0]⟩
  · exact ⟨_, _, hv⟩
theorem grown_kp {w w' : World} {row : Option Nat} (h : w.grownBy w' row) : Kp (fun k => row ≠ some k) w w' := ⟨h.os, h.tape, h.output, h.size, fun k hk hK => h.block k hk (fun e => hK e.symm)⟩
theorem run_item {w : World} {ty : TypeId} (base N d : Nat) (lv : Value) (acc : List T) (τ : TypeId) (p : Value) (t : T) (bs : List Nat) (hB : base ≤ w.heap.size) (hit : Items w base N d lv acc) (hown : VOwn w d (.iface τ p) t bs) (hfr : ∀ x ∈ bs, N ≤ x) (hbN : base ≤ N) (hnd : bs.Nodup) (hlim : acc.length ≤ 2000000) :
    ∃ ao c w', (Builtin.append_ #[61, 61] 61 #[lv, .slice (some ⟨w.heap.size, 0, none⟩) 1 1]).run Tryd.prog (w.alloc (.cells #[.iface τ p] ty)) = .ok (.slice ao (acc ++ [t]).length c) w' ∧ Items w' base w'.heap.size d (.slice ao (acc ++ [t]).length c) (acc ++ [t]) ∧ Below base w w' := by
  obtain ⟨us, bss, ho, hl, hi, hb, hn, hg0, hN⟩ := hit
  obtain ⟨ii, hii, hz0, hz1, hz2⟩ := info_parts valueInfo
  have hrow : (w.alloc (.cells #[.iface τ p] ty)).ownsRow base 30 1 lv acc.length us := World.ownsRow.alloc ho _
  obtain ⟨v', w', hr, ho2, hg, _, hat⟩ := run_append_own_at (P := Tryd.prog) (w.alloc (.cells #[.iface τ p] ty)) base 61 61 30 ii .nilIface 1 16 Tryd.underlying61 hii hz0 hz1 hz2 rfl (by decide) lv acc.length us hrow ⟨w.heap.size, 0, none⟩ 1 1 [.iface τ p] rfl (cell_one_new _ _ _) (fun u hu => by simp at hu; subst hu; rfl) (by unfold maxLen; omega) (by omega) (by rw [blkS]; omega)
  have hkp := grown_kp hg
  have hsz : w.heap.size + 1 ≤ w'.heap.size := by have := hg.size; rw [blkS] at this; exact this
  have hI : Items w' base w'.heap.size d v' (acc ++ [t]) := by
    have hold : ∀ (x : Nat), x < w.heap.size → lv.ownBlock ≠ some x → v'.ownBlock ≠ some x := fun x hx hne => by
      rcases hat with e | e
      · rw [e]; exact hne
      · rw [e, blkS]; intro h; injection h with h; omega
    have hnew : ∀ x ∈ bs, lv.ownBlock ≠ some x := fun x hx e => by have := hg0 x e; have := hfr x hx; omega
    refine ⟨us ++ [.iface τ p], bss ++ [bs], by rw [List.length_append]; exact ho2, by rw [List.length_append, List.length_append, hl]; rfl, fun j hj => ?_, fun x hx => ?_, ?_, fun g hg => ?_, Nat.le_refl _⟩
    · by_cases hj' : j < acc.length
      · obtain ⟨u, bb, h1, h2, h3⟩ := hi j hj'
        have hul : us.length = acc.length := by have := ho.1; omega
        refine ⟨u, bb, by rw [List.getElem?_append_left (by omega)]; exact h1, by rw [List.getElem?_append_left (by omega)]; exact h2, ?_⟩
        rw [List.getElem_append_left hj']
        exact (h3.later (Ext.alloc _ _)).keep (hkp.mono (fun k _ hk => (hb k (List.mem_flatten.2 ⟨bb, List.mem_of_getElem? h2, hk⟩)).2.2))
      · have hje : j = acc.length := by simp at hj; omega
        subst hje
        have hul : us.length = acc.length := by have := ho.1; omega
        refine ⟨.iface τ p, bs, by rw [← hul]; simp, by rw [← hl]; simp, ?_⟩
        simp only [List.getElem_append_right (Nat.le_refl _), Nat.sub_self, List.getElem_cons_zero]
        exact (hown.later (Ext.alloc _ _)).keep (hkp.mono (fun k _ hk => hnew k hk))
    · rw [List.flatten_append, List.mem_append] at hx
      rcases hx with hx | hx
      · obtain ⟨q1, q2, q3⟩ := hb x hx
        exact ⟨q1, by omega, hold x (by omega) q3⟩
      · have hx' : x ∈ bs := by simpa using hx
        have := hown.lt x hx'
        exact ⟨Nat.le_trans hbN (hfr x hx'), by omega, hold x this (hnew x hx')⟩
    · rw [List.flatten_append, List.nodup_append]
      refine ⟨hn, by simpa using hnd, fun p hp q hq e => ?_⟩
      have h1 := (hb p hp).2.1
      have h2 := hfr q (by simpa using hq)
      omega
    · rcases ho2.2 with ⟨hv, _⟩ | ⟨g2, cap, cur, hv, _, hb2, _⟩
      · rw [hv] at hg; simp [Value.ownBlock] at hg
      · rw [hv] at hg; simp [Value.ownBlock] at hg; subst hg; exact lt_of_block hb2
  obtain ⟨ao, c, rfl⟩ := hI.shape
  exact ⟨ao, c, w', hr, hI, Below.grown ((Below.refl base w).alloc hB _) hg (by rw [blkS]; omega) (fun k hk => (World.ownsRow.lt ho k hk).1)⟩
theorem app_item {ops : Array Oper} {rest : List Oper} {o : Oper} {a : Act} {Q : Exit → Act → World → Prop} {w : World} {ty : TypeId} (hgd : o.guard = none) (s x : Operand)
    (ho : o.op = .call { callee := .builtin .append, args := #[s, x], argTypes := #[61, 61] }) (hty : o.type = 61) (base N d : Nat) (lv : Value) (acc : List T) (τ : TypeId) (p : Value) (t : T) (bs : List Nat) (hs : a.eval s = lv) (hx : a.eval x = .slice (some ⟨w.heap.size, 0, none⟩) 1 1)
    (hB : base ≤ w.heap.size) (hit : Items w base N d lv acc) (hown : VOwn w d (.iface τ p) t bs) (hfr : ∀ x ∈ bs, N ≤ x) (hbN : base ≤ N) (hnd : bs.Nodup) (hlim : acc.length ≤ 2000000)
    (h : ∀ ao c w', Items w' base w'.heap.size d (.slice ao (acc.length + 1) c) (acc ++ [t]) → Below base w w' → wpList Tryd.prog ops Q rest (a.put o.dst (.slice ao (acc.length + 1) c)) w') : wpList Tryd.prog ops Q (o :: rest) a (w.alloc (.cells #[.iface τ p] ty)) := by
  refine wpList_plain hgd fun K hK => ?_
  obtain ⟨ao, c, w', hr, h2, h3⟩ := run_item (ty := ty) base N d lv acc τ p t bs hB hit hown hfr hbN hnd hlim
  unfold Oper.wp execOp
  rw [List.length_append] at hr h2
  simp only [ho, hty, resolve, invoke, builtin, Sem.run_bind, Sem.run_pure, Result.andThen_ok, List.map_toArray, List.map_cons, List.map_nil, hs, hx, hr]
  exact hK _ _ (h ao c w' h2 h3)
theorem Items.list {w : World} {base N d : Nat} {ao : Option Addr} {c m : Nat} {acc : List T} (h : Items w base N d (.slice ao m c) acc) (h0 : acc ≠ []) (hlim : acc.length ≤ 2000000) :
    ∃ bs, VOwn w (d + 1) (.iface 61 (.slice ao m c)) (.node 5 0 ⟨#[]⟩ acc) bs ∧ (∀ x ∈ bs, base ≤ x) ∧ bs.Nodup := by
  obtain ⟨us, bss, ho, hl, hi, hb, hn, hg, hN⟩ := h
  rcases ho.2 with ⟨hv, h1⟩ | ⟨g, cap, cur, hv, hbg, hbk, h3, h4, h5, h6⟩
  · exact absurd (List.eq_nil_of_length_eq_zero h1) h0
  · injection hv with e1 e2 e3
    subst e1; subst e2; subst e3
    refine ⟨g :: bss.flatten, .inr (.inr (.inr (.inr ⟨rfl, rfl, rfl, by omega, g, c, cur, bss, rfl, h3, hbk, by omega, rfl, hl, fun j hj => ?_⟩))), fun x hx => ?_, ?_⟩
    · obtain ⟨u, bb, q1, q2, q3⟩ := hi j hj
      refine ⟨u, bb, ?_, q2, q3⟩
      rw [← h6, List.getElem?_take_of_lt (by omega)] at q1
      simpa using q1
    · rcases List.mem_cons.1 hx with rfl | hx
      · exact hbg
      · exact (hb x hx).1
    · exact List.nodup_cons.2 ⟨fun h => (hb g h).2.2 rfl, hn⟩
end Go.Proofs.YtbpbkihcfdnphaaDoor
