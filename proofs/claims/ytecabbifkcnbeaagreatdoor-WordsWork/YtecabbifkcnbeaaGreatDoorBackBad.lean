/-
  A list that is being read: its items in memory of their own; one more is appended.
-/
import Derived.Test.YtecabbifkcnbeaaGreatDoorKItems
import Derived.Test.YtecabbifkcnbeaaGreatDoorReads
import Derived.Test.YtecabbifkcnbeaaGreatDoorCOf
import Derived.Maps.AppendAt
import Derived.Defers
import Derived.Test.YtecabbifkcnbeaaGreatDoorWRefB
import Derived.Test.YtecabbifkcnbeaaGreatDoorBackMath
namespace Go.Proofs.YtecabbifkcnbeaaGreatDoor
open Go.RowKit
/-- The slice lv holds values in memory of their own, as acc tells; its own blocks lie from base on, below N. -/
def Items (w : World) (base N d : Nat) (lv : Value) (acc : List T) : Prop := ∃ (us : List Value) (bss : List (List Nat)), w.ownsRow base 29 1 lv acc.length us ∧ bss.length = acc.length ∧
  (∀ j, (h : j < acc.length) → ∃ u bb, us[j]? = some u ∧ bss[j]? = some bb ∧ VOwn w d u acc[j] bb) ∧ (∀ x ∈ bss.flatten, base ≤ x ∧ x < N ∧ lv.ownBlock ≠ some x) ∧ bss.flatten.Nodup ∧ (∀ g, lv.ownBlock = some g → g < N) ∧ N ≤ w.heap.size
theorem Items.nil {w : World} (base d : Nat) : Items w base w.heap.size d (.slice none 0 0) [] :=
  ⟨[], [], World.ownsRow_nil _ _ _ _, rfl, fun j h => absurd h (Nat.not_lt_zero _), fun x h => (by cases h), List.nodup_nil, fun g h => by simp [Value.ownBlock] at h, Nat.le_refl _⟩
theorem Items.keep {w w' : World} {base N d : Nat} {lv : Value} {acc : List T} {K : Nat → Prop} (h : Items w base N d lv acc) (hk : Kp K w w') (hK : ∀ k, base ≤ k → K k) : Items w' base N d lv acc := by
  obtain ⟨us, bss, ho, hl, hi, hb, hn, hg, hN⟩ := h
  refine ⟨us, bss, ⟨ho.1, ?_⟩, hl, fun j hj => ?_, hb, hn, hg, Nat.le_trans hN hk.size⟩
  · rcases ho.2 with h | ⟨g, cap, cur, hv, hg, hb, hr⟩
    · exact .inl h
    · exact .inr ⟨g, cap, cur, hv, hg, hk.block' hb (hK g hg), hr⟩
  · obtain ⟨u, bb, h1, h2, h3⟩ := hi j hj
    exact ⟨u, bb, h1, h2, h3.keep (hk.mono (fun k _ hk => hK k (hb k (List.mem_flatten.2 ⟨bb, List.mem_of_getElem? h2, hk⟩)).1))⟩
theorem Items.shape {w : World} {base N d : Nat} {lv : Value} {acc : List T} (h : Items w base N d lv acc) : ∃ ao c, lv = .slice ao acc.length c := by
  obtain ⟨us, bss, ho, _⟩ := h
  rcases ho.2 with ⟨hv, h0⟩ | ⟨g, cap, cur, hv, _⟩
  · exact ⟨none, 0, by rw [hv, h0]⟩
  · exact ⟨_, _, hv⟩
theorem run_item {w : World} {ty : TypeId} (base N d : Nat) (lv : Value) (acc : List T) (τ : TypeId) (p : Value) (t : T) (bs : List Nat) (hB : base ≤ w.heap.size) (hit : Items w base N d lv acc) (hown : VOwn w d (.iface τ p) t bs) (hfr : ∀ x ∈ bs, N ≤ x) (hbN : base ≤ N) (hnd : bs.Nodup) (hlim : acc.length ≤ 2000000) :
    ∃ ao c w', (Builtin.append_ #[139, 139] 139 #[lv, .slice (some ⟨w.heap.size, 0, none⟩) 1 1]).run Tryz.prog (w.alloc (.cells #[.iface τ p] ty)) = .ok (.slice ao (acc ++ [t]).length c) w' ∧ Items w' base w'.heap.size d (.slice ao (acc ++ [t]).length c) (acc ++ [t]) ∧ Below base w w' := by
  obtain ⟨us, bss, ho, hl, hi, hb, hn, hg0, hN⟩ := hit
  obtain ⟨ii, hii, hz0, hz1, hz2⟩ := info_parts valueInfo
  have hrow : (w.alloc (.cells #[.iface τ p] ty)).ownsRow base 29 1 lv acc.length us := World.ownsRow.alloc ho _
  obtain ⟨v', w', hr, ho2, hg, _, hat⟩ := run_append_own_at (P := Tryz.prog) (w.alloc (.cells #[.iface τ p] ty)) base 139 139 29 ii .nilIface 1 16 Tryz.underlying139 hii hz0 hz1 hz2 rfl (by decide) lv acc.length us hrow ⟨w.heap.size, 0, none⟩ 1 1 [.iface τ p] rfl (cell_one_new _ _ _) (fun u hu => by simp at hu; subst hu; rfl) (by unfold maxLen; omega) (by omega) (by rw [blkS]; omega)
  have hkp := grown_kp hg
  have hsz : w.heap.size + 1 ≤ w'.heap.size := by have := hg.size; rw [blkS] at this; exact this
  have hI : Items w' base w'.heap.size d v' (acc ++ [t]) := by
    have hold : ∀ (x : Nat), x < w.heap.size → lv.ownBlock ≠ some x → v'.ownBlock ≠ some x := fun x hx hne => by
      rcases hat with e | e
      · rw [e]; exact hne
      · rw [e, blkS]; intro h; injection h with h; omega
    have hnew : ∀ x ∈ bs, lv.ownBlock ≠ some x := fun x hx e => by have := hg0 x e; have := hfr x hx; omega
    refine ⟨us ++ [.iface τ p], bss ++ [bs], by rw [List.length_append]; exact ho2, by rw [List.length_append, List.length_append, hl]; rfl, fun j hj => ?_, fun x hx => ?_, ?_, fun g hg => ?_, Nat.le_refl _⟩
    · by_cases hj' : j < acc.length
      · obtain ⟨u, bb, h1, h2, h3⟩ := hi j hj'
        have hul : us.length = acc.length := by have := ho.1; omega
        refine ⟨u, bb, by rw [List.getElem?_append_left (by omega)]; exact h1, by rw [List.getElem?_append_left (by omega)]; exact h2, ?_⟩
        rw [List.getElem_append_left hj']
        exact (h3.later (Ext.alloc _ _)).keep (hkp.mono (fun k _ hk => (hb k (List.mem_flatten.2 ⟨bb, List.mem_of_getElem? h2, hk⟩)).2.2))
      · have hje : j = acc.length := by simp at hj; omega
        subst hje
        have hul : us.length = acc.length := by have := ho.1; omega
        refine ⟨.iface τ p, bs, by rw [← hul]; simp, by rw [← hl]; simp, ?_⟩
        simp only [List.getElem_append_right (Nat.le_refl _), Nat.sub_self, List.getElem_cons_zero]
        exact (hown.later (Ext.alloc _ _)).keep (hkp.mono (fun k _ hk => hnew k hk))
    · rw [List.flatten_append, List.mem_append] at hx
      rcases hx with hx | hx
      · obtain ⟨q1, q2, q3⟩ := hb x hx
        exact ⟨q1, by omega, hold x (by omega) q3⟩
      · have hx' : x ∈ bs := by simpa using hx
        have := hown.lt x hx'
        exact ⟨Nat.le_trans hbN (hfr x hx'), by omega, hold x this (hnew x hx')⟩
    · rw [List.flatten_append, List.nodup_append]
      refine ⟨hn, by simpa using hnd, fun p hp q hq e => ?_⟩
      have h1 := (hb p hp).2.1
      have h2 := hfr q (by simpa using hq)
      omega
    · rcases ho2.2 with ⟨hv, _⟩ | ⟨g2, cap, cur, hv, _, hb2, _⟩
      · rw [hv] at hg; simp [Value.ownBlock] at hg
      · rw [hv] at hg; simp [Value.ownBlock] at hg; subst hg; exact lt_of_block hb2
  obtain ⟨ao, c, rfl⟩ := hI.shape
  exact ⟨ao, c, w', hr, hI, Below.grown ((Below.refl base w).alloc hB _) hg (by rw [blkS]; omega) (fun k hk => (World.ownsRow.lt ho k hk).1)⟩
theorem app_item {ops : Array Oper} {rest : List Oper} {o : Oper} {a : Act} {Q : Exit → Act → World → Prop} {w : World} {ty : TypeId} (hgd : o.guard = none) (s x : Operand)
    (ho : o.op = .call { callee := .builtin .append, args := #[s, x], argTypes := #[139, 139] }) (hty : o.type = 139) (base N d : Nat) (lv : Value) (acc : List T) (τ : TypeId) (p : Value) (t : T) (bs : List Nat) (hs : a.eval s = lv) (hx : a.eval x = .slice (some ⟨w.heap.size, 0, none⟩) 1 1)
    (hB : base ≤ w.heap.size) (hit : Items w base N d lv acc) (hown : VOwn w d (.iface τ p) t bs) (hfr : ∀ x ∈ bs, N ≤ x) (hbN : base ≤ N) (hnd : bs.Nodup) (hlim : acc.length ≤ 2000000)
    (h : ∀ ao c w', Items w' base w'.heap.size d (.slice ao (acc.length + 1) c) (acc ++ [t]) → Below base w w' → wpList Tryz.prog ops Q rest (a.put o.dst (.slice ao (acc.length + 1) c)) w') : wpList Tryz.prog ops Q (o :: rest) a (w.alloc (.cells #[.iface τ p] ty)) := by
  refine wpList_plain hgd fun K hK => ?_
  obtain ⟨ao, c, w', hr, h2, h3⟩ := run_item (ty := ty) base N d lv acc τ p t bs hB hit hown hfr hbN hnd hlim
  unfold Oper.wp execOp
  rw [List.length_append] at hr h2
  simp only [ho, hty, resolve, invoke, builtin, Sem.run_bind, Sem.run_pure, Result.andThen_ok, List.map_toArray, List.map_cons, List.map_nil, hs, hx, hr]
  exact hK _ _ (h ao c w' h2 h3)
theorem Items.list {w : World} {base N d : Nat} {ao : Option Addr} {c m : Nat} {acc : List T} (h : Items w base N d (.slice ao m c) acc) (h0 : acc ≠ []) (hlim : acc.length ≤ 2000000) :
    ∃ bs, VOwn w (d + 1) (.iface 139 (.slice ao m c)) (.node 5 0 ⟨#[]⟩ acc) bs ∧ (∀ x ∈ bs, base ≤ x) ∧ bs.Nodup := by
  obtain ⟨us, bss, ho, hl, hi, hb, hn, hg, hN⟩ := h
  rcases ho.2 with ⟨hv, h1⟩ | ⟨g, cap, cur, hv, hbg, hbk, h3, h4, h5, h6⟩
  · exact absurd (List.eq_nil_of_length_eq_zero h1) h0
  · injection hv with e1 e2 e3
    subst e1; subst e2; subst e3
    refine ⟨g :: bss.flatten, .inr (.inr (.inr (.inr ⟨rfl, rfl, rfl, by omega, g, c, cur, bss, rfl, h3, hbk, by omega, rfl, hl, fun j hj => ?_⟩))), fun x hx => ?_, ?_⟩
    · obtain ⟨u, bb, q1, q2, q3⟩ := hi j hj
      refine ⟨u, bb, ?_, q2, q3⟩
      rw [← h6, List.getElem?_take_of_lt (by omega)] at q1
      simpa using q1
    · rcases List.mem_cons.1 hx with rfl | hx
      · exact hbg
      · exact (hb x hx).1
    · exact List.nodup_cons.2 ⟨fun h => (hb g h).2.2 rfl, hn⟩
end Go.Proofs.YtecabbifkcnbeaaGreatDoor
/-
  The reader's list by a contract.
-/
namespace Go.Proofs.YtecabbifkcnbeaaGreatDoor
open Go.RowKit
def listR (s : ByteArray) (Q : Nat → Rs) (f n i : Nat) : Rs := if n = 64 then .bad 2 i else if nxt s (i + 1) = 93 then .ok (.node 5 0 ⟨#[]⟩ []) (i + 2) else rdL s Q f (n + 1) (i + 1) []
theorem VOwn.empty {w : World} {d g : Nat} (h : w.heap[g]? = some (.cells #[] 29)) : VOwn w (d + 1) (.iface 139 (.slice (some ⟨g, 0, none⟩) 0 0)) (.node 5 0 ⟨#[]⟩ []) [g] :=
  .inr (.inr (.inr (.inr ⟨rfl, rfl, rfl, by decide, g, 0, #[], [], rfl, Nat.le_refl _, h, rfl, rfl, rfl, fun j hj => absurd hj (Nat.not_lt_zero _)⟩)))
theorem rdL_bad {s : ByteArray} {Q : Nat → Rs} {f n i : Nat} {acc : List T} {e a : Nat} (h : rdV s Q f n i = .bad e a) : rdL s Q (f + 1) n i acc = .bad e a := by simp only [rdL, h]
theorem rdL_ok {s : ByteArray} {Q : Nat → Rs} {f n i : Nat} {acc : List T} {t : T} {a : Nat} (h : rdV s Q f n i = .ok t a) : rdL s Q (f + 1) n i acc = if nxt s a = 93 then .ok (.node 5 0 ⟨#[]⟩ (acc ++ [t])) (a + 1) else if nxt s a = 44 then (if nxt s (a + 1) = 32 then rdL s Q f n (a + 2) (acc ++ [t]) else .bad 5 (a + 1)) else .bad 5 a := by simp only [rdL, h]
theorem Kp.belowL {B b : Nat} {w w1 w2 : World} (h : Kp (· ≠ b) w w1) (hb : Below B w1 w2) (hB : w.heap.size ≤ B := by omega) : Kp (· ≠ b) w w2 :=
  ⟨hb.os.trans h.os, hb.tape.trans h.tape, hb.output.trans h.output, Nat.le_trans h.size hb.size, fun k hk hkb => (hb.block k (by omega)).trans (h.block k hk hkb)⟩
theorem Items.up {w : World} {base N d : Nat} {lv : Value} {acc : List T} (h : Items w base N d lv acc) : Items w base w.heap.size d lv acc := by
  obtain ⟨us, bss, h1, h2, h3, h4, h5, h6, h7⟩ := h
  exact ⟨us, bss, h1, h2, h3, fun x hx => ⟨(h4 x hx).1, Nat.lt_of_lt_of_le (h4 x hx).2.1 h7, (h4 x hx).2.2⟩, h5, fun g hg => Nat.lt_of_lt_of_le (h6 g hg) h7, Nat.le_refl _⟩
end Go.Proofs.YtecabbifkcnbeaaGreatDoor
/-
  The reader's value by a contract.
-/
namespace Go.Proofs.YtecabbifkcnbeaaGreatDoor
open Go.RowKit
end Go.Proofs.YtecabbifkcnbeaaGreatDoor
/-
  The reader's whole, and Read, each by a contract.
-/
namespace Go.Proofs.YtecabbifkcnbeaaGreatDoor
open Go.RowKit
def wholeR (s : ByteArray) (Q : Nat → Rs) : Rs :=
  match rdV s Q (2 * s.size + 1) 0 0 with
  | .bad c a => .bad c a
  | .ok t a => if a < s.size then .bad 5 a else if 65536 < t.size then .bad 2 a else .ok t a
/-- What Read answers. -/
def ReadR (w : World) (r : Rs) (e : Ending) (w' : World) : Prop := Ext w w' ∧
  match r with
  | .ok t _ => ∃ u bs, e = .returned (.tuple #[u, .int .i64 0, .int .i64 0]) ∧ VOwn w' 65 u t bs ∧ (∀ x ∈ bs, w.heap.size ≤ x) ∧ bs.Nodup
  | .bad c a => e = .returned (.tuple #[.nilIface, .int .i64 a, .int .i64 c])
def readR (s : ByteArray) (Q : Nat → Rs) : Rs := if 1048576 < s.size then .bad 2 0 else wholeR s Q
end Go.Proofs.YtecabbifkcnbeaaGreatDoor
/-
  Where a text is no value's: an error, at a place in it.
-/
namespace Go.Proofs.YtecabbifkcnbeaaGreatDoor
open Go.RowKit
def BadIn (s : ByteArray) (r : Rs) : Prop := match r with | .ok _ _ => True | .bad e a => e ≠ 0 ∧ a ≤ s.size
theorem wordK_le {s : ByteArray} : ∀ (l : List UInt8) (i : Nat), (∀ x ∈ l, x.toNat ≠ 0) → i ≤ s.size → i + wordK s i l ≤ s.size
  | [], i, _, h => h
  | x :: l, i, h0, h => by
    rw [wordK]
    split
    · rename_i q
      have := nxt_in (s := s) (i := i) (by rw [q]; exact h0 x (List.mem_cons_self ..))
      have := wordK_le l (i + 1) (fun y hy => h0 y (List.mem_cons_of_mem _ hy)) this
      omega
    · exact h
theorem wrdR_bad {s : ByteArray} {i : Nat} {l : List UInt8} {t : T} (h0 : ∀ x ∈ l, x.toNat ≠ 0) (hi : i ≤ s.size) : BadIn s (wrdR s i l t) := by
  unfold wrdR
  split
  · trivial
  · exact ⟨by decide, wordK_le l i h0 hi⟩
theorem numR_bad {s : ByteArray} {i : Nat} (hi : i ≤ s.size) : BadIn s (numR s i) := by
  have hA : numAt s i ≤ s.size := by
    unfold numAt
    split
    · rename_i q; exact nxt_in (by omega)
    · exact hi
  unfold numR
  split
  · trivial
  split
  · exact ⟨by decide, hA⟩
  split
  · trivial
  · exact ⟨by decide, hi⟩
theorem byD_le {s : ByteArray} {i : Nat} (hi : i ≤ s.size) : (byD s i).2 ≤ s.size := by
  simp only [byD]
  split
  · exact hi
  · rename_i q
    have h1 := hexV_bounds s i
    have := nxt_hex (s := s) (i := i) (by omega)
    split
    · exact this
    · rename_i q2
      have h2 := hexV_bounds s (i + 1)
      have := nxt_hex (s := s) (i := i + 1) (by omega)
      exact this
theorem escD_le {s : ByteArray} {i : Nat} (hi : i ≤ s.size) : (escD s i).2 ≤ s.size := by
  unfold escD
  split
  · exact nxt_in (by omega)
  split
  · exact byD_le (nxt_in (by omega))
  · exact hi
theorem quoL_bad {s : ByteArray} : ∀ (f j : Nat) (acc : List UInt8), j ≤ s.size → BadIn s (quoL s f j acc)
  | 0, j, acc, _ => ⟨by decide, Nat.zero_le _⟩
  | f + 1, j, acc, hj => by
    rw [quoL]
    split
    · trivial
    split
    · exact ⟨by decide, hj⟩
    split
    · have := escD_le (s := s) (i := j + 1) (nxt_in (by omega))
      rcases hq : escD s (j + 1) with ⟨_ | c, a⟩
      · rw [hq] at this
        exact ⟨by decide, this⟩
      · rw [hq] at this
        exact quoL_bad f a _ this
    · exact quoL_bad f (j + 1) _ (nxt_in (by omega))
theorem quoQ_bad {s : ByteArray} {i : Nat} (h : nxt s i = 34) : BadIn s (quoQ s i) := quoL_bad _ _ _ (nxt_in (by omega))
theorem ok_le {s : ByteArray} {f n i : Nat} {t : T} {a : Nat} (hn : n ≤ 64) (hi : i ≤ s.size) (h : rdV s (quoQ s) f n i = .ok t a) : a ≤ s.size := by
  obtain ⟨_, _, _, h4, h5⟩ := rdV_bwd _ _ _ _ _ hn h
  have := At.le h4 hi
  omega
mutual
theorem rdV_in {s : ByteArray} : ∀ (f n i : Nat), n ≤ 64 → i ≤ s.size → BadIn s (rdV s (quoQ s) f n i)
  | 0, n, i, _, _ => by rw [rdV]; exact ⟨by decide, Nat.zero_le _⟩
  | f + 1, n, i, hn, hi => by
    rw [rdV]
    split
    · exact wrdR_bad (by decide) hi
    split
    · exact wrdR_bad (by decide) hi
    split
    · exact wrdR_bad (by decide) hi
    split
    · exact numR_bad hi
    split
    · rename_i q; exact quoQ_bad q
    split
    · split
      · exact ⟨by decide, hi⟩
      split
      · trivial
      · exact rdL_in f (n + 1) (i + 1) [] (by omega) (nxt_in (by omega))
    · exact ⟨by decide, hi⟩
theorem rdL_in {s : ByteArray} : ∀ (f n i : Nat) (acc : List T), n ≤ 64 → i ≤ s.size → BadIn s (rdL s (quoQ s) f n i acc)
  | 0, n, i, acc, _, _ => by rw [rdL]; exact ⟨by decide, Nat.zero_le _⟩
  | f + 1, n, i, acc, hn, hi => by
    have hb := rdV_in (s := s) f n i hn hi
    cases hv : rdV s (quoQ s) f n i with
    | bad e a' => simp only [rdL, hv]; rw [hv] at hb; exact hb
    | ok u a' =>
      have ha := ok_le hn hi hv
      simp only [rdL, hv]
      split
      · trivial
      split
      · split
        · exact rdL_in f n (a' + 2) _ hn (nxt_in (i := a' + 1) (by omega))
        · exact ⟨by decide, nxt_in (by omega)⟩
      · exact ⟨by decide, ha⟩
end
theorem readR_bad (s : ByteArray) : BadIn s (readR s (quoQ s)) := by
  unfold readR
  split
  · exact ⟨by decide, Nat.zero_le _⟩
  unfold wholeR
  have hb := rdV_in (s := s) (2 * s.size + 1) 0 0 (by decide) (Nat.zero_le _)
  cases hv : rdV s (quoQ s) (2 * s.size + 1) 0 0 with
  | bad e a => rw [hv] at hb; exact hb
  | ok t a =>
    have ha := ok_le (by decide) (Nat.zero_le _) hv
    show BadIn s (if a < s.size then .bad 5 a else if 65536 < t.size then .bad 2 a else .ok t a)
    split
    · exact ⟨by decide, ha⟩
    split
    · exact ⟨by decide, ha⟩
    · trivial
/-- What is read is a value that may be, and its text is what was read. -/
theorem readR_ok {s : ByteArray} {t : T} {a : Nat} (h : readR s (quoQ s) = .ok t a) : t.may ∧ t.fitI ∧ t.wr = s.data.toList ∧ s.size ≤ 1048576 := by
  unfold readR at h
  split at h
  · cases h
  rename_i hs
  unfold wholeR at h
  cases hv : rdV s (quoQ s) (2 * s.size + 1) 0 0 with
  | bad e a' => rw [hv] at h; cases h
  | ok u a' =>
    rw [hv] at h
    have h' : (if a' < s.size then Rs.bad 5 a' else if 65536 < u.size then Rs.bad 2 a' else Rs.ok u a') = .ok t a := h
    split at h'
    · cases h'
    rename_i q1
    split at h'
    · cases h'
    rename_i q2
    cases h'
    obtain ⟨g1, g2, g3, g4, g5⟩ := rdV_bwd _ _ _ _ _ (by decide) hv
    refine ⟨⟨g1, by omega, by omega⟩, g2, ?_, by omega⟩
    have hd := g4.drop
    have e : s.data.toList.length = s.size := by rw [Array.length_toList]; rfl
    rw [List.drop_zero, List.take_of_length_le (by omega)] at hd
    exact hd.symm
/-- A value's text is read as it. -/
theorem readR_text {t : T} (hm : t.may) (hf : t.fitI) (hl : t.wr.length ≤ 1048576) : readR ⟨t.wr.toArray⟩ (quoQ ⟨t.wr.toArray⟩) = .ok t t.wr.length := by
  have hsz : (ByteArray.mk t.wr.toArray).size = t.wr.length := by show t.wr.toArray.size = _; simp
  have hat : At ⟨t.wr.toArray⟩ 0 t.wr := by
    have := At.self (s := ⟨t.wr.toArray⟩) t.wr.length 0 (by rw [hsz]; rfl)
    simpa using this
  have hv := rdV_fwd (2 * (ByteArray.mk t.wr.toArray).size + 1) t 0 0 hm.1 hf (by have := hm.2.2; omega) hat (by rw [nxt_end (by rw [hsz]; omega)]; decide) (by rw [hsz]; omega)
  unfold readR
  rw [if_neg (by rw [hsz]; omega)]
  unfold wholeR
  rw [hv]
  show (if 0 + t.wr.length < (ByteArray.mk t.wr.toArray).size then Rs.bad 5 _ else if 65536 < t.size then Rs.bad 2 _ else Rs.ok t _) = _
  rw [if_neg (by rw [hsz]; omega), if_neg (by have := hm.2.1; omega), Nat.zero_add]
end Go.Proofs.YtecabbifkcnbeaaGreatDoor
