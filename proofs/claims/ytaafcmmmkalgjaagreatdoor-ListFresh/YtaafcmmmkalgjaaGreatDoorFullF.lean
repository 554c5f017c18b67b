/-
  The reader's number by a contract.
-/
import Derived.Test.YtaafcmmmkalgjaaGreatDoorCTItems
import Derived.Lib.ParseIntB
import Derived.Test.YtaafcmmmkalgjaaGreatDoorEqs
import Derived.Test.YtaafcmmmkalgjaaGreatDoorHolds
import Derived.Maps.AppendAt
namespace Go.Proofs.YtaafcmmmkalgjaaGreatDoor
open Go.RowKit
/-- What a value's text is read as: a value and where it ends; or what is amiss, and where. -/
inductive Rs where
  | ok (t : T) (i : Nat)
  | bad (e i : Nat)
def digP (c : Nat) : Prop := 48 ≤ c ∧ c ≤ 57
instance (c : Nat) : Decidable (digP c) := by unfold digP; exact inferInstance
/-- Where the digits end. -/
def digEnd (s : ByteArray) (i : Nat) : Nat := if i < s.size ∧ digP (nxt s i) then digEnd s (i + 1) else i
termination_by s.size - i
theorem digEnd_of (s : ByteArray) : ∀ (k i : Nat), (∀ q, i ≤ q → q < i + k → q < s.size ∧ digP (nxt s q)) → ¬ (i + k < s.size ∧ digP (nxt s (i + k))) → digEnd s i = i + k
  | 0, i, _, h2 => by rw [Nat.add_zero] at h2; unfold digEnd; rw [if_neg h2]; rfl
  | k + 1, i, h1, h2 => by
    unfold digEnd
    rw [if_pos (h1 i (Nat.le_refl _) (by omega)), digEnd_of s k (i + 1) (fun q a b => h1 q (by omega) (by omega)) (by rw [show i + 1 + k = i + (k + 1) by omega]; exact h2)]
    omega
def numAt (s : ByteArray) (i : Nat) : Nat := if nxt s i = 45 then i + 1 else i
def numR (s : ByteArray) (i : Nat) : Rs :=
  if nxt s (numAt s i) = 48 ∧ ¬ nxt s i = 45 then .ok (.node 3 0 ⟨#[]⟩ []) (numAt s i + 1)
  else if nxt s (numAt s i) = 48 ∨ ¬ digP (nxt s (numAt s i)) then .bad 5 (numAt s i)
  else match Lib.parseIntB 64 (s.extract i (digEnd s (numAt s i))).data.toList with
    | .ok v => .ok (.node 3 v ⟨#[]⟩ []) (digEnd s (numAt s i))
    | _ => .bad 21 i
def atOf (b : Nat) (w : World) : Nat := match w.cell? ⟨b, 1, none⟩ with | some v => (intOf v).toNat | none => 0
theorem VOwn.int (w : World) (d : Nat) (n : Int) : VOwn w (d + 1) (.iface 83 (.int .i64 n)) (.node 3 n ⟨#[]⟩ []) [] := .inr (.inr (.inl ⟨rfl, rfl, rfl, rfl, rfl⟩))
end Go.Proofs.YtaafcmmmkalgjaaGreatDoor
/-
  The deferred function of the reader's list, by a contract.
-/
namespace Go.Proofs.YtaafcmmmkalgjaaGreatDoor
open Go.RowKit
end Go.Proofs.YtaafcmmmkalgjaaGreatDoor
/-
  What a value's text is read as, by plain data.
-/
namespace Go.Proofs.YtaafcmmmkalgjaaGreatDoor
open Go.RowKit
def wrdR (s : ByteArray) (i : Nat) (l : List UInt8) (t : T) : Rs := if wordK s i l = l.length then .ok t (i + wordK s i l) else .bad 5 (i + wordK s i l)
mutual
/-- The value that stands at i, within n lists. -/
def rdV (s : ByteArray) (Q : Nat → Rs) : Nat → Nat → Nat → Rs
  | 0, _, _ => .bad 1 0
  | f + 1, n, i =>
    if nxt s i = 117 then wrdR s i [117, 110, 105, 116] (.node 1 0 ⟨#[]⟩ [])
    else if nxt s i = 121 then wrdR s i [121, 101, 115] (.node 2 1 ⟨#[]⟩ [])
    else if nxt s i = 110 then wrdR s i [110, 111] (.node 2 0 ⟨#[]⟩ [])
    else if nxt s i = 45 ∨ digP (nxt s i) then numR s i
    else if nxt s i = 34 then Q i
    else if nxt s i = 91 then (if n = 64 then .bad 2 i else if nxt s (i + 1) = 93 then .ok (.node 5 0 ⟨#[]⟩ []) (i + 2) else rdL s Q f (n + 1) (i + 1) [])
    else .bad 5 i
/-- A list's items from i on, behind acc. -/
def rdL (s : ByteArray) (Q : Nat → Rs) : Nat → Nat → Nat → List T → Rs
  | 0, _, _, _ => .bad 1 0
  | f + 1, n, i, acc =>
    match rdV s Q f n i with
    | .bad e a => .bad e a
    | .ok t a => if nxt s a = 93 then .ok (.node 5 0 ⟨#[]⟩ (acc ++ [t])) (a + 1) else if nxt s a = 44 then (if nxt s (a + 1) = 32 then rdL s Q f n (a + 2) (acc ++ [t]) else .bad 5 (a + 1)) else .bad 5 a
end
theorem digEnd_ge (s : ByteArray) (i : Nat) : i ≤ digEnd s i := by
  unfold digEnd
  split
  · have := digEnd_ge s (i + 1); omega
  · exact Nat.le_refl _
termination_by s.size - i
theorem numR_ge {s : ByteArray} {i : Nat} {t : T} {a : Nat} (h : numR s i = .ok t a) : i ≤ a := by
  have hA : i ≤ numAt s i := by unfold numAt; split <;> omega
  have hD := digEnd_ge s (numAt s i)
  unfold numR at h
  split at h
  · cases h; omega
  split at h
  · cases h
  split at h
  · cases h; omega
  · cases h
theorem wrdR_ge {s : ByteArray} {i : Nat} {l : List UInt8} {t t' : T} {a : Nat} (h : wrdR s i l t = .ok t' a) : i ≤ a := by
  unfold wrdR at h
  split at h
  · cases h; omega
  · cases h
mutual
theorem rdV_ge {s : ByteArray} {Q : Nat → Rs} (hQ : ∀ i t a, Q i = .ok t a → i ≤ a) : ∀ (f n i : Nat) (t : T) (a : Nat), rdV s Q f n i = .ok t a → i ≤ a
  | 0, _, _, _, _, h => by simp [rdV] at h
  | f + 1, n, i, t, a, h => by
    simp only [rdV] at h
    split at h
    · exact wrdR_ge h
    split at h
    · exact wrdR_ge h
    split at h
    · exact wrdR_ge h
    split at h
    · exact numR_ge h
    split at h
    · exact hQ _ _ _ h
    split at h
    · split at h
      · cases h
      split at h
      · cases h; omega
      · have := rdL_ge hQ f (n + 1) (i + 1) [] t a h; omega
    · cases h
theorem rdL_ge {s : ByteArray} {Q : Nat → Rs} (hQ : ∀ i t a, Q i = .ok t a → i ≤ a) : ∀ (f n i : Nat) (acc : List T) (t : T) (a : Nat), rdL s Q f n i acc = .ok t a → i ≤ a
  | 0, _, _, _, _, _, h => by simp [rdL] at h
  | f + 1, n, i, acc, t, a, h => by
    simp only [rdL] at h
    split at h
    · cases h
    · rename_i t1 a1 h1
      have g1 := rdV_ge hQ f n i t1 a1 h1
      split at h
      · cases h; omega
      split at h
      · split at h
        · have := rdL_ge hQ f n (a1 + 2) (acc ++ [t1]) t a h; omega
        · cases h
      · cases h
end
end Go.Proofs.YtaafcmmmkalgjaaGreatDoor
/-
  A list that is being read: its items in memory of their own; one more is appended.
-/
namespace Go.Proofs.YtaafcmmmkalgjaaGreatDoor
open Go.RowKit
/-- The slice lv holds values in memory of their own, as acc tells; its own blocks lie from base on, below N. -/
def Items (w : World) (base N d : Nat) (lv : Value) (acc : List T) : Prop := ∃ (us : List Value) (bss : List (List Nat)), w.ownsRow base 35 1 lv acc.length us ∧ bss.length = acc.length ∧
  (∀ j, (h : j < acc.length) → ∃ u bb, us[j]? = some u ∧ bss[j]? = some bb ∧ VOwn w d u acc[j] bb) ∧ (∀ x ∈ bss.flatten, base ≤ x ∧ x < N ∧ lv.ownBlock ≠ some x) ∧ bss.flatten.Nodup ∧ (∀ g, lv.ownBlock = some g → g < N) ∧ N ≤ w.heap.size
theorem Items.nil {w : World} (base d : Nat) : Items w base w.heap.size d (.slice none 0 0) [] :=
  ⟨[], [], World.ownsRow_nil _ _ _ _, rfl, fun j h => absurd h (Nat.not_lt_zero _), fun x h => (by cases h), List.nodup_nil, fun g h => by simp [Value.ownBlock] at h, Nat.le_refl _⟩
theorem Items.keep {w w' : World} {base N d : Nat} {lv : Value} {acc : List T} {K : Nat → Prop} (h : Items w base N d lv acc) (hk : Kp K w w') (hK : ∀ k, base ≤ k → K k) : Items w' base N d lv acc := by
  obtain ⟨us, bss, ho, hl, hi, hb, hn, hg, hN⟩ := h
  refine ⟨us, bss, ⟨ho.1, ?_⟩, hl, fun j hj => ?_, hb, hn, hg, Nat.le_trans hN hk.size⟩
  · rcases ho.2 with h | ⟨g, cap, cur, hv, hg, hb, hr⟩
    · exact .inl h
    · exact .inr ⟨g, cap, cur, hv, hg, hk.block' hb (hK g hg), hr⟩
  · obtain ⟨u, bb, h1, h2, h3⟩ := hi j hj
    exact ⟨u, bb, h1, h2, h3.keep (hk.mono (fun k _ hk => hK k (hb k (List.mem_flatten.2 ⟨bb, List.mem_of_getElem? h2, hk⟩)).1))⟩
theorem Items.shape {w : World} {base N d : Nat} {lv : Value} {acc : List T} (h : Items w base N d lv acc) : ∃ ao c, lv = .slice ao acc.length c := by
  obtain ⟨us, bss, ho, _⟩ := h
  rcases ho.2 with ⟨hv, h0⟩ | ⟨g, cap, cur, hv, _⟩
  · exact ⟨none, 0, by rw [hv, h0]⟩
  · exact ⟨_, _, hv⟩
theorem run_item {w : World} {ty : TypeId} (base N d : Nat) (lv : Value) (acc : List T) (τ : TypeId) (p : Value) (t : T) (bs : List Nat) (hB : base ≤ w.heap.size) (hit : Items w base N d lv acc) (hown : VOwn w d (.iface τ p) t bs) (hfr : ∀ x ∈ bs, N ≤ x) (hbN : base ≤ N) (hnd : bs.Nodup) (hlim : acc.length ≤ 2000000) :
    ∃ ao c w', (Builtin.append_ #[81, 81] 81 #[lv, .slice (some ⟨w.heap.size, 0, none⟩) 1 1]).run Tryz.prog (w.alloc (.cells #[.iface τ p] ty)) = .ok (.slice ao (acc ++ [t]).length c) w' ∧ Items w' base w'.heap.size d (.slice ao (acc ++ [t]).length c) (acc ++ [t]) ∧ Below base w w' := by
  obtain ⟨us, bss, ho, hl, hi, hb, hn, hg0, hN⟩ := hit
  obtain ⟨ii, hii, hz0, hz1, hz2⟩ := info_parts valueInfo
  have hrow : (w.alloc (.cells #[.iface τ p] ty)).ownsRow base 35 1 lv acc.length us := World.ownsRow.alloc ho _
  obtain ⟨v', w', hr, ho2, hg, _, hat⟩ := run_append_own_at (P := Tryz.prog) (w.alloc (.cells #[.iface τ p] ty)) base 81 81 35 ii .nilIface 1 16 Tryz.underlying81 hii hz0 hz1 hz2 rfl (by decide) lv acc.length us hrow ⟨w.heap.size, 0, none⟩ 1 1 [.iface τ p] rfl (cell_one_new _ _ _) (fun u hu => by simp at hu; subst hu; rfl) (by unfold maxLen; omega) (by omega) (by rw [blkS]; omega)
  have hkp := grown_kp hg
  have hsz : w.heap.size + 1 ≤ w'.heap.size := by have := hg.size; rw [blkS] at this; exact this
  have hI : Items w' base w'.heap.size d v' (acc ++ [t]) := by
    have hold : ∀ (x : Nat), x < w.heap.size → lv.ownBlock ≠ some x → v'.ownBlock ≠ some x := fun x hx hne => by
      rcases hat with e | e
      · rw [e]; exact hne
      · rw [e, blkS]; intro h; injection h with h; omega
    have hnew : ∀ x ∈ bs, lv.ownBlock ≠ some x := fun x hx e => by have := hg0 x e; have := hfr x hx; omega
    refine ⟨us ++ [.iface τ p], bss ++ [bs], by rw [List.length_append]; exact ho2, by rw [List.length_append, List.length_append, hl]; rfl, fun j hj => ?_, fun x hx => ?_, ?_, fun g hg => ?_, Nat.le_refl _⟩
    · by_cases hj' : j < acc.length
      · obtain ⟨u, bb, h1, h2, h3⟩ := hi j hj'
        have hul : us.length = acc.length := by have := ho.1; omega
        refine ⟨u, bb, by rw [List.getElem?_append_left (by omega)]; exact h1, by rw [List.getElem?_append_left (by omega)]; exact h2, ?_⟩
        rw [List.getElem_append_left hj']
        exact (h3.later (Ext.alloc _ _)).keep (hkp.mono (fun k _ hk => (hb k (List.mem_flatten.2 ⟨bb, List.mem_of_getElem? h2, hk⟩)).2.2))
      · have hje : j = acc.length := by simp at hj; omega
        subst hje
        have hul : us.length = acc.length := by have := ho.1; omega
        refine ⟨.iface τ p, bs, by rw [← hul]; simp, by rw [← hl]; simp, ?_⟩
        simp only [List.getElem_append_right (Nat.le_refl _), Nat.sub_self, List.getElem_cons_zero]
        exact (hown.later (Ext.alloc _ _)).keep (hkp.mono (fun k _ hk => hnew k hk))
    · rw [List.flatten_append, List.mem_append] at hx
      rcases hx with hx | hx
      · obtain ⟨q1, q2, q3⟩ := hb x hx
        exact ⟨q1, by omega, hold x (by omega) q3⟩
      · have hx' : x ∈ bs := by simpa using hx
        have := hown.lt x hx'
        exact ⟨Nat.le_trans hbN (hfr x hx'), by omega, hold x this (hnew x hx')⟩
    · rw [List.flatten_append, List.nodup_append]
      refine ⟨hn, by simpa using hnd, fun p hp q hq e => ?_⟩
      have h1 := (hb p hp).2.1
      have h2 := hfr q (by simpa using hq)
      omega
    · rcases ho2.2 with ⟨hv, _⟩ | ⟨g2, cap, cur, hv, _, hb2, _⟩
      · rw [hv] at hg; simp [Value.ownBlock] at hg
      · rw [hv] at hg; simp [Value.ownBlock] at hg; subst hg; exact lt_of_block hb2
  obtain ⟨ao, c, rfl⟩ := hI.shape
  exact ⟨ao, c, w', hr, hI, Below.grown ((Below.refl base w).alloc hB _) hg (by rw [blkS]; omega) (fun k hk => (World.ownsRow.lt ho k hk).1)⟩
theorem app_item {ops : Array Oper} {rest : List Oper} {o : Oper} {a : Act} {Q : Exit → Act → World → Prop} {w : World} {ty : TypeId} (hgd : o.guard = none) (s x : Operand)
    (ho : o.op = .call { callee := .builtin .append, args := #[s, x], argTypes := #[81, 81] }) (hty : o.type = 81) (base N d : Nat) (lv : Value) (acc : List T) (τ : TypeId) (p : Value) (t : T) (bs : List Nat) (hs : a.eval s = lv) (hx : a.eval x = .slice (some ⟨w.heap.size, 0, none⟩) 1 1)
    (hB : base ≤ w.heap.size) (hit : Items w base N d lv acc) (hown : VOwn w d (.iface τ p) t bs) (hfr : ∀ x ∈ bs, N ≤ x) (hbN : base ≤ N) (hnd : bs.Nodup) (hlim : acc.length ≤ 2000000)
    (h : ∀ ao c w', Items w' base w'.heap.size d (.slice ao (acc.length + 1) c) (acc ++ [t]) → Below base w w' → wpList Tryz.prog ops Q rest (a.put o.dst (.slice ao (acc.length + 1) c)) w') : wpList Tryz.prog ops Q (o :: rest) a (w.alloc (.cells #[.iface τ p] ty)) := by
  refine wpList_plain hgd fun K hK => ?_
  obtain ⟨ao, c, w', hr, h2, h3⟩ := run_item (ty := ty) base N d lv acc τ p t bs hB hit hown hfr hbN hnd hlim
  unfold Oper.wp execOp
  rw [List.length_append] at hr h2
  simp only [ho, hty, resolve, invoke, builtin, Sem.run_bind, Sem.run_pure, Result.andThen_ok, List.map_toArray, List.map_cons, List.map_nil, hs, hx, hr]
  exact hK _ _ (h ao c w' h2 h3)
theorem Items.list {w : World} {base N d : Nat} {ao : Option Addr} {c m : Nat} {acc : List T} (h : Items w base N d (.slice ao m c) acc) (h0 : acc ≠ []) (hlim : acc.length ≤ 2000000) :
    ∃ bs, VOwn w (d + 1) (.iface 81 (.slice ao m c)) (.node 5 0 ⟨#[]⟩ acc) bs ∧ (∀ x ∈ bs, base ≤ x) ∧ bs.Nodup := by
  obtain ⟨us, bss, ho, hl, hi, hb, hn, hg, hN⟩ := h
  rcases ho.2 with ⟨hv, h1⟩ | ⟨g, cap, cur, hv, hbg, hbk, h3, h4, h5, h6⟩
  · exact absurd (List.eq_nil_of_length_eq_zero h1) h0
  · injection hv with e1 e2 e3
    subst e1; subst e2; subst e3
    refine ⟨g :: bss.flatten, .inr (.inr (.inr (.inr ⟨rfl, rfl, rfl, by omega, g, c, cur, bss, rfl, h3, hbk, by omega, rfl, hl, fun j hj => ?_⟩))), fun x hx => ?_, ?_⟩
    · obtain ⟨u, bb, q1, q2, q3⟩ := hi j hj
      refine ⟨u, bb, ?_, q2, q3⟩
      rw [← h6, List.getElem?_take_of_lt (by omega)] at q1
      simpa using q1
    · rcases List.mem_cons.1 hx with rfl | hx
      · exact hbg
      · exact (hb x hx).1
    · exact List.nodup_cons.2 ⟨fun h => (hb g h).2.2 rfl, hn⟩
end Go.Proofs.YtaafcmmmkalgjaaGreatDoor
/-
  Full of the statements, by a contract: only the value's own lists are written over.
-/
namespace Go.Proofs.YtaafcmmmkalgjaaGreatDoor
open Go.RowKit
theorem app_room {ops : Array Oper} {rest : List Oper} {o : Oper} {a : Act} {Q : Exit → Act → World → Prop} {w : World} {ty : TypeId} (hgd : o.guard = none) (s x : Operand)
    (ho : o.op = .call { callee := .builtin .append, args := #[s, x], argTypes := #[81, 81] }) (hty : o.type = 81) (g m c : Nat) (cur : Array Value) (u : Value) (h1 : u.oneCell' = true) (hs : a.eval s = .slice (some ⟨g, 0, none⟩) m c) (hx : a.eval x = .slice (some ⟨w.heap.size, 0, none⟩) 1 1)
    (hg : w.heap[g]? = some (.cells cur 35)) (hroom : m + 1 ≤ c) (hfit : m + 1 ≤ cur.size)
    (h : ∀ cur' w', cur'.size = cur.size → w'.heap[g]? = some (.cells cur' 35) → Kp (· ≠ g) w w' → wpList Tryz.prog ops Q rest (a.put o.dst (.slice (some ⟨g, 0, none⟩) (m + 1) c)) w') : wpList Tryz.prog ops Q (o :: rest) a (w.alloc (.cells #[u] ty)) := by
  refine wpList_plain hgd fun K hK => ?_
  obtain ⟨ii, hii, hz0, hz1, hz2⟩ := info_parts valueInfo
  have hr := run_append_room (P := Tryz.prog) (w.alloc (.cells #[u] ty)) 81 81 35 ii Tryz.underlying81 hii g m c cur (blkOld _ hg) ⟨w.heap.size, 0, none⟩ 1 1 [u] (by rw [hz1]; rfl) (cell_one_new _ _ _) (fun v hv => by simp at hv; subst hv; exact h1) hroom (by rw [hz1]; simpa using hfit)
  rw [hz1] at hr
  unfold Oper.wp execOp
  simp only [ho, hty, resolve, invoke, builtin, Sem.run_bind, Sem.run_pure, Result.andThen_ok, List.map_toArray, List.map_cons, List.map_nil, hs, hx, hr]
  refine hK _ _ (h _ _ ?_ (setRow_heap _ g cur _ 35 (0, 0) (blkOld _ hg)) ⟨rfl, rfl, rfl, by simp, fun k hk hne => (setRow_other _ g k _ hne).trans (heap_alloc_old w _ hk)⟩)
  simp
  omega
/-- But for these blocks what lay there lies as it lay. -/
def KpOff (bs : List Nat) (w w' : World) : Prop := Kp (· ∉ bs) w w'
theorem not_before {bss : List (List Nat)} {j : Nat} {b : List Nat} (hn : bss.flatten.Nodup) (hb : bss[j]? = some b) {q : Nat} (hq : q ∈ b) : q ∉ (bss.take j).flatten := fun h => by
  have hj : j < bss.length := by
    rcases Nat.lt_or_ge j bss.length with h | h
    · exact h
    · rw [List.getElem?_eq_none h] at hb; cases hb
  have e : bss = bss.take j ++ bss.drop j := (List.take_append_drop j bss).symm
  rw [e, List.flatten_append, List.nodup_append] at hn
  refine hn.2.2 q h q (List.mem_flatten.2 ⟨b, ?_, hq⟩) rfl
  rw [List.getElem?_eq_getElem hj] at hb
  cases hb
  rw [List.drop_eq_getElem_cons hj]
  exact List.mem_cons_self
theorem nodup_at {bss : List (List Nat)} {j : Nat} {b : List Nat} (hn : bss.flatten.Nodup) (hb : bss[j]? = some b) : b.Nodup := by
  have hj : j < bss.length := by
    rcases Nat.lt_or_ge j bss.length with h | h
    · exact h
    · rw [List.getElem?_eq_none h] at hb; cases hb
  have e : bss = bss.take j ++ bss.drop j := (List.take_append_drop j bss).symm
  rw [e, List.flatten_append, List.nodup_append, List.drop_eq_getElem_cons hj, List.flatten_cons, List.nodup_append] at hn
  rw [List.getElem?_eq_getElem hj] at hb
  cases hb
  exact hn.2.1.1
theorem take_flat {bss : List (List Nat)} {j : Nat} {b : List Nat} (hb : bss[j]? = some b) {q : Nat} : q ∈ (bss.take (j + 1)).flatten ↔ q ∈ (bss.take j).flatten ∨ q ∈ b := by
  rw [List.take_add_one, hb, List.flatten_append, List.mem_append]
  simp
attribute [local go_sem] as_un_li as_tu_li as_in_li as_tx_li as_li_li
set_option maxRecDepth 100000 in
set_option maxHeartbeats 4000000 in
theorem full_any : ∀ (d : Nat) (v : Value) (t : T) (bs : List Nat) (w : World) (m : Int), VOwn w d v t bs → bs.Nodup → t.size ≤ 65536 →
    Calls Tryz.prog 9 #[v, .int .i64 m] w fun e w' => (∃ u, e = .returned u) ∧ KpOff bs w w' := by
  intro d
  induction d with
  | zero => intro v t bs w m h; exact h.elim
  | succ d ih =>
    intro v t bs w m h hnd hsz
    obtain ⟨k, n, x, ks⟩ := t
    rcases h with ⟨rfl, rfl, rfl, rfl, rfl, rfl⟩ | ⟨rfl, rfl, rfl, rfl, B, hn, rfl⟩ | ⟨rfl, rfl, rfl, rfl, rfl⟩ | ⟨rfl, rfl, rfl, rfl, hxs, rfl⟩ | ⟨rfl, rfl, rfl, hll, g, c, cs, bss, rfl, hlc, hg, hcs, rfl, hbl, hks⟩
    · clear ih hsz hnd
      go_enter Tryz.func9, Tryz.ntmps9
      go_wp2_with fail
      (try simp only [Exit.inBlock, Exit.then])
      refine bodyPost_ret (results_none rfl _ _ _) rfl ?_
      exact ⟨⟨_, rfl⟩, Kp.refl _ _⟩
    · clear ih hsz hnd hn
      go_enter Tryz.func9, Tryz.ntmps9
      go_wp2_with fail
      (try simp only [Exit.inBlock, Exit.then])
      refine bodyPost_ret (results_none rfl _ _ _) rfl ?_
      exact ⟨⟨_, rfl⟩, Kp.refl _ _⟩
    · clear ih hsz hnd
      go_enter Tryz.func9, Tryz.ntmps9
      go_wp2_with fail
      (try simp only [Exit.inBlock, Exit.then])
      refine bodyPost_ret (results_none rfl _ _ _) rfl ?_
      exact ⟨⟨_, rfl⟩, Kp.refl _ _⟩
    · clear ih hsz hnd
      go_enter Tryz.func9, Tryz.ntmps9
      go_wp2_with fail
      (try simp only [Exit.inBlock, Exit.then])
      refine bodyPost_ret (results_none rfl _ _ _) rfl ?_
      exact ⟨⟨_, rfl⟩, Kp.refl _ _⟩
    · obtain ⟨hgn, hfn⟩ := List.nodup_cons.1 hnd
      have HIH := hid ih
      have HKS := hid hks
      have HGN := hid hgn
      have HFN := hid hfn
      have HCS := hid hcs
      have HG := hid hg
      have HLC := hid hlc
      have HBL := hid hbl
      have HSZ := hid (show ∀ u ∈ ks, u.size ≤ 65536 from fun u hu => by have := T.sizeL_mem hu; simp only [T.size] at hsz; omega)
      have hl : ks.length ≤ 65536 := by have := T.sizeL_len ks; simp only [T.size] at hsz; omega
      clear ih hks hgn hfn hcs hg hlc hbl hsz hnd
      go_enter Tryz.func9, Tryz.ntmps9
      go_wp2_with fail
      go_loopw [6] (fun i wr => ∃ (j : Nat) (cs' : Array Value), j ≤ ks.length ∧ i = .int .i64 j ∧ Kp (fun q => q ≠ g ∧ q ∉ (bss.take j).flatten) w wr ∧ wr.heap[g]? = some (.cells cs' 35) ∧ cs'.size = c ∧ ∀ i, j ≤ i → cs'[i]? = cs[i]?) (fun i _ => ks.length - (intOf i).toNat)
      case atStart => exact ⟨0, cs, Nat.zero_le _, rfl, Kp.refl _ _, HG.out, HCS.out, fun _ _ => rfl⟩
      case round =>
        obtain ⟨j, cs', hj, rfl, hkp, hb, hc', hsame⟩ := hrel
        have HKP := hid hkp
        have HB := hid hb
        have HC' := hid hc'
        have HSA := hid hsame
        clear hkp hb hc' hsame
        by_cases hlt : j < ks.length
        · have hlt' : (j : Int) < ks.length := by omega
          obtain ⟨u, b, hu, hbj, hown⟩ := HKS.out j hlt
          obtain ⟨τ, p, rfl⟩ := hown.rd.iface
          have HBJ := hid hbj
          have hgb : g ∉ b := fun h => HGN.out (List.mem_flatten.2 ⟨b, List.mem_of_getElem? hbj, h⟩)
          have HGB := hid hgb
          have c0 : wr.cell? ⟨g, j, none⟩ = some (.iface τ p) := cell_of HB.out ((HSA.out j (Nat.le_refl _)).trans hu)
          have HC := hid (HIH.out _ ks[j] b wr m (hown.keep (HKP.out.mono (fun q _ hq => ⟨fun e => hgb (e ▸ hq), not_before HFN.out hbj hq⟩))) (nodup_at HFN.out hbj) (HSZ.out _ (List.getElem_mem hlt)))
          clear hown hgb hbj hu
          go_wp2_with fail
          refine HC.out.mono ?_
          rintro e w2 ⟨⟨u2, rfl⟩, hk2'⟩
          have hk2 : Kp (· ∉ b) wr w2 := hk2'
          clear hk2'
          have hb2 := hk2.block' HB.out HGB.out
          have HB2 := hid hb2
          have HK2 := hid hk2
          have hjc : j < cs'.size := by rw [HC'.out]; have := HLC.out; omega
          have d0 := cell_of (i := j) hb2 (Array.getElem?_eq_getElem hjc)
          have f0 := frozen_of (i := j) hb2
          clear hk2 hb2 c0
          go_wp2_with fail
          go_roundw
          case rel =>
            refine ⟨j + 1, cs'.setIfInBounds j (.iface 83 (.int .i64 m)), hlt, by go_num, ?_, set_at HB2.out j _, by rw [Array.size_setIfInBounds]; exact HC'.out, fun i hi => ?_⟩
            · refine ((HKP.out.mono (fun q _ h => ⟨h.1, fun e => h.2 ((take_flat HBJ.out).2 (.inl e))⟩)).trans (HK2.out.mono (fun q _ h e => h.2 ((take_flat HBJ.out).2 (.inr e))))).trans (Kp.set w2 g j _ (fun h => h.1 rfl))
            · rw [set_get_other _ (by omega)]
              exact HSA.out i (by omega)
          case measure => simp [intOf]; omega
        · have hje : j = ks.length := by omega
          have HK := hid (show Kp (· ∉ g :: bss.flatten) w wr from HKP.out.mono (fun q _ h => ⟨fun e => h (by rw [e]; exact List.mem_cons_self), fun e => h (List.mem_cons_of_mem _ (by rw [hje, ← HBL.out, List.take_length] at e; exact e))⟩))
          clear hje
          go_wp2_with fail
          · have HH := hid h
            have HL := hid hl
            clear h hl hll
            go_loopw [4] (fun lv wq => ∃ (m : Nat) (cs2 : Array Value), lv = .slice (some ⟨g, 0, none⟩) m c ∧ m ≤ c ∧ Kp (· ∉ g :: bss.flatten) w wq ∧ wq.heap[g]? = some (.cells cs2 35) ∧ cs2.size = c) (fun lv _ => c - (match lv with | .slice _ m _ => m | _ => 0))
            case atStart => exact ⟨ks.length, cs', rfl, HLC.out, HK.out, HB.out, HC'.out⟩
            case round =>
              obtain ⟨q, cs2, rfl, hqc, hk2, hb2, hc2⟩ := hrel
              have HK2 := hid hk2
              have HB2 := hid hb2
              have HC2 := hid hc2
              clear hk2 hb2 hc2
              by_cases hlt2 : (q : Int) < (ks.length : Int) + 70000
              · have hqc' : q + 1 ≤ c := by have := HH.out; omega
                have HQ := hid hqc'
                clear hqc hqc' 
                go_wp2_with (at_builtin; refine app_room rfl _ _ rfl rfl g q c cs2 (.iface 83 (.int .i64 m)) rfl rfl rfl HB2.out HQ.out (by rw [HC2.out]; exact HQ.out) ?_; intro cs3 w3 hs3 hb3 hk3)
                go_roundw
                case rel => exact ⟨q + 1, cs3, rfl, HQ.out, HK2.out.trans (hk3.mono (fun z _ hz e => hz (by rw [e]; exact List.mem_cons_self))), hb3, hs3.trans HC2.out⟩
                case measure => simp; have := HQ.out; omega
              · clear hqc
                go_wp2_with fail
                go_end0
                exact ⟨⟨_, rfl⟩, show KpOff _ w _ from HK2.out⟩
          · have HH := hid h
            have HL := hid hl
            clear h hl hll
            go_loopw [4] (fun lv wq => ∃ (m : Nat) (cs2 : Array Value), lv = .slice (some ⟨g, 0, none⟩) m c ∧ m ≤ c ∧ Kp (· ∉ g :: bss.flatten) w wq ∧ wq.heap[g]? = some (.cells cs2 35) ∧ cs2.size = c) (fun lv _ => c - (match lv with | .slice _ m _ => m | _ => 0))
            case atStart => exact ⟨ks.length, cs', rfl, HLC.out, HK.out, HB.out, HC'.out⟩
            case round =>
              obtain ⟨q, cs2, rfl, hqc, hk2, hb2, hc2⟩ := hrel
              have HK2 := hid hk2
              have HB2 := hid hb2
              have HC2 := hid hc2
              clear hk2 hb2 hc2
              by_cases hlt2 : (q : Int) < c
              · have hqc' : q + 1 ≤ c := by have := HH.out; omega
                have HQ := hid hqc'
                clear hqc hqc' 
                go_wp2_with (at_builtin; refine app_room rfl _ _ rfl rfl g q c cs2 (.iface 83 (.int .i64 m)) rfl rfl rfl HB2.out HQ.out (by rw [HC2.out]; exact HQ.out) ?_; intro cs3 w3 hs3 hb3 hk3)
                go_roundw
                case rel => exact ⟨q + 1, cs3, rfl, HQ.out, HK2.out.trans (hk3.mono (fun z _ hz e => hz (by rw [e]; exact List.mem_cons_self))), hb3, hs3.trans HC2.out⟩
                case measure => simp; have := HQ.out; omega
              · clear hqc
                go_wp2_with fail
                go_end0
                exact ⟨⟨_, rfl⟩, show KpOff _ w _ from HK2.out⟩
end Go.Proofs.YtaafcmmmkalgjaaGreatDoor
