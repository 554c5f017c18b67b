/-
  The deferred function of the reader's list, by a contract.
-/
import Derived.Test.YtbpbkihcfdnphaaGreatDoorNumber
import Derived.Test.YtbpbkihcfdnphaaGreatDoorFace
import Derived.Maps.AppendAt
import Derived.Defers
namespace Go.Proofs.YtbpbkihcfdnphaaGreatDoor
open Go.RowKit
set_option maxRecDepth 100000 in
theorem unnest {m : FrameMode} (w : World) (b bx : Nat) (s : ByteArray) (i n : Nat) (h : RdAt w b s i n) (hn : n ≤ 100) (hb : w.heap[bx]? = some (.cells #[.pointer (some ⟨b, 0, none⟩)] 85)) :
    CallsD Tryz.prog 79 #[.pointer (some ⟨bx, 0, none⟩)] m w fun e u' w' => u' = m ∧ (e = .returned (.tuple #[]) ∧ w' = w.setCell ⟨b, 2, none⟩ (.int .i64 ((n : Int) - 1))) := by
  have c0 := cell_of (i := 0) hb rfl
  have c2 := cell_of (i := 2) h rfl
  have f2 := frozen_of (i := 2) h
  simp only [List.getElem_toArray, List.getElem_cons_zero, List.getElem_cons_succ] at c0 c2
  have hn' : (n : Int) ≤ 100 := by omega
  go_enter_d Tryz.func79, Tryz.ntmps79
  go_wp2
  go_end0
  exact ⟨rfl, rfl⟩
end Go.Proofs.YtbpbkihcfdnphaaGreatDoor
/-
  What a value's text is read as, by plain data.
-/
namespace Go.Proofs.YtbpbkihcfdnphaaGreatDoor
open Go.RowKit
def wrdR (s : ByteArray) (i : Nat) (l : List UInt8) (t : T) : Rs := if wordK s i l = l.length then .ok t (i + wordK s i l) else .bad 5 (i + wordK s i l)
mutual
/-- The value that stands at i, within n lists. -/
def rdV (s : ByteArray) (Q : Nat → Rs) : Nat → Nat → Nat → Rs
  | 0, _, _ => .bad 1 0
  | f + 1, n, i =>
    if nxt s i = 117 then wrdR s i [117, 110, 105, 116] (.node 1 0 ⟨#[]⟩ [])
    else if nxt s i = 121 then wrdR s i [121, 101, 115] (.node 2 1 ⟨#[]⟩ [])
    else if nxt s i = 110 then wrdR s i [110, 111] (.node 2 0 ⟨#[]⟩ [])
    else if nxt s i = 45 ∨ digP (nxt s i) then numR s i
    else if nxt s i = 34 then Q i
    else if nxt s i = 91 then (if n = 64 then .bad 2 i else if nxt s (i + 1) = 93 then .ok (.node 5 0 ⟨#[]⟩ []) (i + 2) else rdL s Q f (n + 1) (i + 1) [])
    else .bad 5 i
/-- A list's items from i on, behind acc. -/
def rdL (s : ByteArray) (Q : Nat → Rs) : Nat → Nat → Nat → List T → Rs
  | 0, _, _, _ => .bad 1 0
  | f + 1, n, i, acc =>
    match rdV s Q f n i with
    | .bad e a => .bad e a
    | .ok t a => if nxt s a = 93 then .ok (.node 5 0 ⟨#[]⟩ (acc ++ [t])) (a + 1) else if nxt s a = 44 then (if nxt s (a + 1) = 32 then rdL s Q f n (a + 2) (acc ++ [t]) else .bad 5 (a + 1)) else .bad 5 a
end
/-- What the reader leans on: ParseInt, and texts. -/
structure REnv (b : Nat) (s : ByteArray) (I : World → Prop) (Q : Nat → Rs) : Prop where
  keep : ∀ w w', I w → Kp (· ≠ b) w w' → I w'
  par : ∀ i w, I w → digP (nxt s (numAt s i)) → ParTo s i w
  quo : ∀ w i n d, I w → RdAt w b s i n → i < s.size → nxt s i = 34 → Calls Tryz.prog 66 #[.pointer (some ⟨b, 0, none⟩)] w (RsP w b s n (d + 1) (Q i))
  ahead : ∀ i t a, Q i = .ok t a → i ≤ a
theorem digEnd_ge (s : ByteArray) (i : Nat) : i ≤ digEnd s i := by
  unfold digEnd
  split
  · have := digEnd_ge s (i + 1); omega
  · exact Nat.le_refl _
termination_by s.size - i
theorem numR_ge {s : ByteArray} {i : Nat} {t : T} {a : Nat} (h : numR s i = .ok t a) : i ≤ a := by
  have hA : i ≤ numAt s i := by unfold numAt; split <;> omega
  have hD := digEnd_ge s (numAt s i)
  unfold numR at h
  split at h
  · cases h; omega
  split at h
  · cases h
  split at h
  · cases h; omega
  · cases h
theorem wrdR_ge {s : ByteArray} {i : Nat} {l : List UInt8} {t t' : T} {a : Nat} (h : wrdR s i l t = .ok t' a) : i ≤ a := by
  unfold wrdR at h
  split at h
  · cases h; omega
  · cases h
mutual
theorem rdV_ge {s : ByteArray} {Q : Nat → Rs} (hQ : ∀ i t a, Q i = .ok t a → i ≤ a) : ∀ (f n i : Nat) (t : T) (a : Nat), rdV s Q f n i = .ok t a → i ≤ a
  | 0, _, _, _, _, h => by simp [rdV] at h
  | f + 1, n, i, t, a, h => by
    simp only [rdV] at h
    split at h
    · exact wrdR_ge h
    split at h
    · exact wrdR_ge h
    split at h
    · exact wrdR_ge h
    split at h
    · exact numR_ge h
    split at h
    · exact hQ _ _ _ h
    split at h
    · split at h
      · cases h
      split at h
      · cases h; omega
      · have := rdL_ge hQ f (n + 1) (i + 1) [] t a h; omega
    · cases h
theorem rdL_ge {s : ByteArray} {Q : Nat → Rs} (hQ : ∀ i t a, Q i = .ok t a → i ≤ a) : ∀ (f n i : Nat) (acc : List T) (t : T) (a : Nat), rdL s Q f n i acc = .ok t a → i ≤ a
  | 0, _, _, _, _, _, h => by simp [rdL] at h
  | f + 1, n, i, acc, t, a, h => by
    simp only [rdL] at h
    split at h
    · cases h
    · rename_i t1 a1 h1
      have g1 := rdV_ge hQ f n i t1 a1 h1
      split at h
      · cases h; omega
      split at h
      · split at h
        · have := rdL_ge hQ f n (a1 + 2) (acc ++ [t1]) t a h; omega
        · cases h
      · cases h
end
end Go.Proofs.YtbpbkihcfdnphaaGreatDoor
/-
  A list that is being read: its items in memory of their own; one more is appended.
-/
namespace Go.Proofs.YtbpbkihcfdnphaaGreatDoor
open Go.RowKit
/-- The slice lv holds values in memory of their own, as acc tells; its own blocks lie from base on, below N. -/
def Items (w : World) (base N d : Nat) (lv : Value) (acc : List T) : Prop := ∃ (us : List Value) (bss : List (List Nat)), w.ownsRow base 32 1 lv acc.length us ∧ bss.length = acc.length ∧
  (∀ j, (h : j < acc.length) → ∃ u bb, us[j]? = some u ∧ bss[j]? = some bb ∧ VOwn w d u acc[j] bb) ∧ (∀ x ∈ bss.flatten, base ≤ x ∧ x < N ∧ lv.ownBlock ≠ some x) ∧ bss.flatten.Nodup ∧ (∀ g, lv.ownBlock = some g → g < N) ∧ N ≤ w.heap.size
theorem Items.nil {w : World} (base d : Nat) : Items w base w.heap.size d (.slice none 0 0) [] :=
  ⟨[], [], World.ownsRow_nil _ _ _ _, rfl, fun j h => absurd h (Nat.not_lt_zero _), fun x h => (by cases h), List.nodup_nil, fun g h => by simp [Value.ownBlock] at h, Nat.le_refl _⟩
theorem Items.keep {w w' : World} {base N d : Nat} {lv : Value} {acc : List T} {K : Nat → Prop} (h : Items w base N d lv acc) (hk : Kp K w w') (hK : ∀ k, base ≤ k → K k) : Items w' base N d lv acc := by
  obtain ⟨us, bss, ho, hl, hi, hb, hn, hg, hN⟩ := h
  refine ⟨us, bss, ⟨ho.1, ?_⟩, hl, fun j hj => ?_, hb, hn, hg, Nat.le_trans hN hk.size⟩
  · rcases ho.2 with h | ⟨g, cap, cur, hv, hg, hb, hr⟩
    · exact .inl h
    · exact .inr ⟨g, cap, cur, hv, hg, hk.block' hb (hK g hg), hr⟩
  · obtain ⟨u, bb, h1, h2, h3⟩ := hi j hj
    exact ⟨u, bb, h1, h2, h3.keep (hk.mono (fun k _ hk => hK k (hb k (List.mem_flatten.2 ⟨bb, List.mem_of_getElem? h2, hk⟩)).1))⟩
theorem Items.shape {w : World} {base N d : Nat} {lv : Value} {acc : List T} (h : Items w base N d lv acc) : ∃ ao c, lv = .slice ao acc.length c := by
  obtain ⟨us, bss, ho, _⟩ := h
  rcases ho.2 with ⟨hv, h0⟩ | ⟨g, cap, cur, hv, _⟩
  · exact ⟨none, 0, by rw [hv, h0]⟩
  · exact ⟨_, _, hv⟩
theorem grown_kp {w w' : World} {row : Option Nat} (h : w.grownBy w' row) : Kp (fun k => row ≠ some k) w w' := ⟨h.os, h.tape, h.output, h.size, fun k hk hK => h.block k hk (fun e => hK e.symm)⟩
theorem run_item {w : World} {ty : TypeId} (base N d : Nat) (lv : Value) (acc : List T) (τ : TypeId) (p : Value) (t : T) (bs : List Nat) (hB : base ≤ w.heap.size) (hit : Items w base N d lv acc) (hown : VOwn w d (.iface τ p) t bs) (hfr : ∀ x ∈ bs, N ≤ x) (hbN : base ≤ N) (hnd : bs.Nodup) (hlim : acc.length ≤ 2000000) :
    ∃ ao c w', (Builtin.append_ #[46, 46] 46 #[lv, .slice (some ⟨w.heap.size, 0, none⟩) 1 1]).run Tryz.prog (w.alloc (.cells #[.iface τ p] ty)) = .ok (.slice ao (acc ++ [t]).length c) w' ∧ Items w' base w'.heap.size d (.slice ao (acc ++ [t]).length c) (acc ++ [t]) ∧ Below base w w' := by
  obtain ⟨us, bss, ho, hl, hi, hb, hn, hg0, hN⟩ := hit
  obtain ⟨ii, hii, hz0, hz1, hz2⟩ := info_parts valueInfo
  have hrow : (w.alloc (.cells #[.iface τ p] ty)).ownsRow base 32 1 lv acc.length us := World.ownsRow.alloc ho _
  obtain ⟨v', w', hr, ho2, hg, _, hat⟩ := run_append_own_at (P := Tryz.prog) (w.alloc (.cells #[.iface τ p] ty)) base 46 46 32 ii .nilIface 1 16 Tryz.underlying46 hii hz0 hz1 hz2 rfl (by decide) lv acc.length us hrow ⟨w.heap.size, 0, none⟩ 1 1 [.iface τ p] rfl (cell_one_new _ _ _) (fun u hu => by simp at hu; subst hu; rfl) (by unfold maxLen; omega) (by omega) (by rw [blkS]; omega)
  have hkp := grown_kp hg
  have hsz : w.heap.size + 1 ≤ w'.heap.size := by have := hg.size; rw [blkS] at this; exact this
  have hI : Items w' base w'.heap.size d v' (acc ++ [t]) := by
    have hold : ∀ (x : Nat), x < w.heap.size → lv.ownBlock ≠ some x → v'.ownBlock ≠ some x := fun x hx hne => by
      rcases hat with e | e
      · rw [e]; exact hne
      · rw [e, blkS]; intro h; injection h with h; omega
    have hnew : ∀ x ∈ bs, lv.ownBlock ≠ some x := fun x hx e => by have := hg0 x e; have := hfr x hx; omega
    refine ⟨us ++ [.iface τ p], bss ++ [bs], by rw [List.length_append]; exact ho2, by rw [List.length_append, List.length_append, hl]; rfl, fun j hj => ?_, fun x hx => ?_, ?_, fun g hg => ?_, Nat.le_refl _⟩
    · by_cases hj' : j < acc.length
      · obtain ⟨u, bb, h1, h2, h3⟩ := hi j hj'
        have hul : us.length = acc.length := by have := ho.1; omega
        refine ⟨u, bb, by rw [List.getElem?_append_left (by omega)]; exact h1, by rw [List.getElem?_append_left (by omega)]; exact h2, ?_⟩
        rw [List.getElem_append_left hj']
        exact (h3.later (Ext.alloc _ _)).keep (hkp.mono (fun k _ hk => (hb k (List.mem_flatten.2 ⟨bb, List.mem_of_getElem? h2, hk⟩)).2.2))
      · have hje : j = acc.length := by simp at hj; omega
        subst hje
        have hul : us.length = acc.length := by have := ho.1; omega
        refine ⟨.iface τ p, bs, by rw [← hul]; simp, by rw [← hl]; simp, ?_⟩
        simp only [List.getElem_append_right (Nat.le_refl _), Nat.sub_self, List.getElem_cons_zero]
        exact (hown.later (Ext.alloc _ _)).keep (hkp.mono (fun k _ hk => hnew k hk))
    · rw [List.flatten_append, List.mem_append] at hx
      rcases hx with hx | hx
      · obtain ⟨q1, q2, q3⟩ := hb x hx
        exact ⟨q1, by omega, hold x (by omega) q3⟩
      · have hx' : x ∈ bs := by simpa using hx
        have := hown.lt x hx'
        exact ⟨Nat.le_trans hbN (hfr x hx'), by omega, hold x this (hnew x hx')⟩
    · rw [List.flatten_append, List.nodup_append]
      refine ⟨hn, by simpa using hnd, fun p hp q hq e => ?_⟩
      have h1 := (hb p hp).2.1
      have h2 := hfr q (by simpa using hq)
      omega
    · rcases ho2.2 with ⟨hv, _⟩ | ⟨g2, cap, cur, hv, _, hb2, _⟩
      · rw [hv] at hg; simp [Value.ownBlock] at hg
      · rw [hv] at hg; simp [Value.ownBlock] at hg; subst hg; exact lt_of_block hb2
  obtain ⟨ao, c, rfl⟩ := hI.shape
  exact ⟨ao, c, w', hr, hI, Below.grown ((Below.refl base w).alloc hB _) hg (by rw [blkS]; omega) (fun k hk => (World.ownsRow.lt ho k hk).1)⟩
theorem app_item {ops : Array Oper} {rest : List Oper} {o : Oper} {a : Act} {Q : Exit → Act → World → Prop} {w : World} {ty : TypeId} (hgd : o.guard = none) (s x : Operand)
    (ho : o.op = .call { callee := .builtin .append, args := #[s, x], argTypes := #[46, 46] }) (hty : o.type = 46) (base N d : Nat) (lv : Value) (acc : List T) (τ : TypeId) (p : Value) (t : T) (bs : List Nat) (hs : a.eval s = lv) (hx : a.eval x = .slice (some ⟨w.heap.size, 0, none⟩) 1 1)
    (hB : base ≤ w.heap.size) (hit : Items w base N d lv acc) (hown : VOwn w d (.iface τ p) t bs) (hfr : ∀ x ∈ bs, N ≤ x) (hbN : base ≤ N) (hnd : bs.Nodup) (hlim : acc.length ≤ 2000000)
    (h : ∀ ao c w', Items w' base w'.heap.size d (.slice ao (acc.length + 1) c) (acc ++ [t]) → Below base w w' → wpList Tryz.prog ops Q rest (a.put o.dst (.slice ao (acc.length + 1) c)) w') : wpList Tryz.prog ops Q (o :: rest) a (w.alloc (.cells #[.iface τ p] ty)) := by
  refine wpList_plain hgd fun K hK => ?_
  obtain ⟨ao, c, w', hr, h2, h3⟩ := run_item (ty := ty) base N d lv acc τ p t bs hB hit hown hfr hbN hnd hlim
  unfold Oper.wp execOp
  rw [List.length_append] at hr h2
  simp only [ho, hty, resolve, invoke, builtin, Sem.run_bind, Sem.run_pure, Result.andThen_ok, List.map_toArray, List.map_cons, List.map_nil, hs, hx, hr]
  exact hK _ _ (h ao c w' h2 h3)
theorem Items.list {w : World} {base N d : Nat} {ao : Option Addr} {c m : Nat} {acc : List T} (h : Items w base N d (.slice ao m c) acc) (h0 : acc ≠ []) (hlim : acc.length ≤ 2000000) :
    ∃ bs, VOwn w (d + 1) (.iface 46 (.slice ao m c)) (.node 5 0 ⟨#[]⟩ acc) bs ∧ (∀ x ∈ bs, base ≤ x) ∧ bs.Nodup := by
  obtain ⟨us, bss, ho, hl, hi, hb, hn, hg, hN⟩ := h
  rcases ho.2 with ⟨hv, h1⟩ | ⟨g, cap, cur, hv, hbg, hbk, h3, h4, h5, h6⟩
  · exact absurd (List.eq_nil_of_length_eq_zero h1) h0
  · injection hv with e1 e2 e3
    subst e1; subst e2; subst e3
    refine ⟨g :: bss.flatten, .inr (.inr (.inr (.inr ⟨rfl, rfl, rfl, by omega, g, c, cur, bss, rfl, h3, hbk, by omega, rfl, hl, fun j hj => ?_⟩))), fun x hx => ?_, ?_⟩
    · obtain ⟨u, bb, q1, q2, q3⟩ := hi j hj
      refine ⟨u, bb, ?_, q2, q3⟩
      rw [← h6, List.getElem?_take_of_lt (by omega)] at q1
      simpa using q1
    · rcases List.mem_cons.1 hx with rfl | hx
      · exact hbg
      · exact (hb x hx).1
    · exact List.nodup_cons.2 ⟨fun h => (hb g h).2.2 rfl, hn⟩
end Go.Proofs.YtbpbkihcfdnphaaGreatDoor
/-
  The reader's list by a contract.
-/
namespace Go.Proofs.YtbpbkihcfdnphaaGreatDoor
open Go.RowKit
/-- What is asked of value, with so much fuel. -/
def ValTo (b : Nat) (s : ByteArray) (I : World → Prop) (Q : Nat → Rs) (f : Nat) : Prop := ∀ (w : World) (n i : Nat), I w → RdAt w b s i n → i ≤ s.size → n ≤ 64 → 2 * (s.size - i) + 1 ≤ f →
  Calls Tryz.prog 45 #[.pointer (some ⟨b, 0, none⟩)] w (RsP w b s n (65 - n) (rdV s Q f n i))
def listR (s : ByteArray) (Q : Nat → Rs) (f n i : Nat) : Rs := if n = 64 then .bad 2 i else if nxt s (i + 1) = 93 then .ok (.node 5 0 ⟨#[]⟩ []) (i + 2) else rdL s Q f (n + 1) (i + 1) []
theorem VOwn.empty {w : World} {d g : Nat} (h : w.heap[g]? = some (.cells #[] 32)) : VOwn w (d + 1) (.iface 46 (.slice (some ⟨g, 0, none⟩) 0 0)) (.node 5 0 ⟨#[]⟩ []) [g] :=
  .inr (.inr (.inr (.inr ⟨rfl, rfl, rfl, by decide, g, 0, #[], [], rfl, Nat.le_refl _, h, rfl, rfl, rfl, fun j hj => absurd hj (Nat.not_lt_zero _)⟩)))
theorem rdL_bad {s : ByteArray} {Q : Nat → Rs} {f n i : Nat} {acc : List T} {e a : Nat} (h : rdV s Q f n i = .bad e a) : rdL s Q (f + 1) n i acc = .bad e a := by simp only [rdL, h]
theorem rdL_ok {s : ByteArray} {Q : Nat → Rs} {f n i : Nat} {acc : List T} {t : T} {a : Nat} (h : rdV s Q f n i = .ok t a) : rdL s Q (f + 1) n i acc = if nxt s a = 93 then .ok (.node 5 0 ⟨#[]⟩ (acc ++ [t])) (a + 1) else if nxt s a = 44 then (if nxt s (a + 1) = 32 then rdL s Q f n (a + 2) (acc ++ [t]) else .bad 5 (a + 1)) else .bad 5 a := by simp only [rdL, h]
theorem Kp.below {B b : Nat} {w w1 w2 : World} (h : Kp (· ≠ b) w w1) (hb : Below B w1 w2) (hB : w.heap.size ≤ B := by omega) : Kp (· ≠ b) w w2 :=
  ⟨hb.os.trans h.os, hb.tape.trans h.tape, hb.output.trans h.output, Nat.le_trans h.size hb.size, fun k hk hkb => (hb.block k (by omega)).trans (h.block k hk hkb)⟩
theorem Items.up {w : World} {base N d : Nat} {lv : Value} {acc : List T} (h : Items w base N d lv acc) : Items w base w.heap.size d lv acc := by
  obtain ⟨us, bss, h1, h2, h3, h4, h5, h6, h7⟩ := h
  exact ⟨us, bss, h1, h2, h3, fun x hx => ⟨(h4 x hx).1, Nat.lt_of_lt_of_le (h4 x hx).2.1 h7, (h4 x hx).2.2⟩, h5, fun g hg => Nat.lt_of_lt_of_le (h6 g hg) h7, Nat.le_refl _⟩
theorem rd_back {w : World} {b : Nat} {s : ByteArray} {i n : Nat} (h : RdAt w b s i (n + 1)) : RdAt (w.setCell ⟨b, 2, none⟩ (.int .i64 (((n + 1 : Nat) : Int) - 1))) b s i n := by
  refine (set_at h 2 _).trans ?_
  rw [show (((n + 1 : Nat) : Int) - 1) = (n : Int) by omega]
  rfl
set_option maxRecDepth 100000 in
set_option maxHeartbeats 4000000 in
theorem list_of {b : Nat} {s : ByteArray} {I : World → Prop} {Q : Nat → Rs} (E : REnv b s I Q) {f : Nat} (ih : ∀ f', f' < f → ValTo b s I Q f') (w : World) (n i : Nat) (hI : I w) (h : RdAt w b s i n) (hi : i < s.size) (hn : n ≤ 64) (hs : s.size ≤ 1048576) (hf : 2 * (s.size - i) ≤ f) :
    Calls Tryz.prog 67 #[.pointer (some ⟨b, 0, none⟩)] w (RsP w b s n (65 - n) (listR s Q f n i)) := by
  have HH := hid h
  have HIH := hid ih
  have HI := hid hI
  have hbl := lt_of_block h
  have c1 := cell_of (i := 1) h rfl
  have c2 := cell_of (i := 2) h rfl
  have f1 := frozen_of (i := 1) h
  simp only [List.getElem_toArray, List.getElem_cons_zero, List.getElem_cons_succ] at c1 c2
  have hn' : (n : Int) ≤ 64 := by omega
  have hi' : (i : Int) ≤ 1048576 := by omega
  have hmf : ∀ (fn : Fn) (first cap : Array Value) (w : World), (Instr.makeFunc fn first cap).run Tryz.prog w = .ok (.func fn first cap) w := fun _ _ _ _ => rfl
  clear h ih hI
  by_cases n64 : n = 64
  · have HR := hid (show listR s Q f n i = .bad 2 i by unfold listR; rw [if_pos n64])
    subst n64
    go_enter_defers Tryz.func67, Tryz.ntmps67
    go_wp2_with fail
    refine ⟨_, results_tmp2 rfl _ _ _, ?_⟩
    rw [HR.out]
    exact ⟨(Ext.alloc w _).kp _, rfl, (Ext.alloc w _).block HH.out, by omega, by decide⟩
  · have q1 : ((n : Int) == 64) = false := by rw [beq_eq_false_iff_ne]; omega
    obtain ⟨v1, hv1⟩ : ∃ v1, v1 = (w.setCell ⟨b, 1, none⟩ (.int .i64 ((i : Int) + 1))).alloc (.cells #[.pointer (some ⟨b, 0, none⟩)] 85) := ⟨_, rfl⟩
    have W1 := hid (show RdAt v1 b s (i + 1) n by rw [hv1]; exact blkOld _ ((set_at HH.out 1 _).trans rfl))
    have X1 := hid (show v1.heap[w.heap.size]? = some (.cells #[.pointer (some ⟨b, 0, none⟩)] 85) by rw [hv1]; exact blkN (by rw [size_set]))
    have K1 := hid (show Kp (· ≠ b) w v1 by rw [hv1]; exact (Kp.set _ _ _ _ (fun h => h rfl)).trans ((Ext.alloc _ _).kp _))
    have S1 := hid (show v1.heap.size = w.heap.size + 1 by rw [hv1, blkS, size_set])
    go_enter_defers Tryz.func67, Tryz.ntmps67
    go_wp2_with fail
    rw [← hv1]
    have HT := hid (take_any v1 b s (i + 1) n 93 W1.out hi hs)
    clear hv1 c1 c2 f1
    by_cases h93 : nxt s (i + 1) = 93
    · have HR := hid (show listR s Q f n i = .ok (.node 5 0 ⟨#[]⟩ []) (i + 2) by unfold listR; rw [if_neg n64, if_pos h93])
      have hlt : i + 1 < s.size := by
        rcases Nat.lt_or_ge (i + 1) s.size with h | h
        · exact h
        · rw [nxt_end (by omega)] at h93; cases h93
      rw [decide_eq_true h93, if_pos h93] at HT
      have H65 := hid (show 65 - n = (64 - n) + 1 by omega)
      clear h93
      refine HT.out.mono ?_
      rintro e w2 ⟨rfl, hk2, hs2, hr2⟩
      have HK2 := hid (K1.out.trans hk2)
      have HR2 := hid hr2
      have HS2 := hid hs2
      clear hk2 hr2 hs2
      go_wp2_with fail
      refine ⟨_, results_tmp2 rfl _ _ _, ?_⟩
      rw [HR.out, H65.out]
      exact ⟨HK2.out.alloc _, _, [w2.heap.size], rfl, VOwn.empty (blk0 _ _), fun x hx => by simp at hx; subst hx; have := HK2.out.size; exact this, by simp, blkOld _ HR2.out, hlt⟩
    · have HR := hid (show listR s Q f n i = rdL s Q f (n + 1) (i + 1) [] by unfold listR; rw [if_neg n64, if_neg h93])
      rw [decide_eq_false h93, if_neg h93] at HT
      clear h93
      refine HT.out.mono ?_
      rintro e w2 ⟨rfl, hk2, hs2, hr2⟩
      have HK2 := hid (K1.out.trans hk2)
      have HR2 := hid hr2
      have HX2 := hid (hk2.block' X1.out (show w.heap.size ≠ b by omega))
      have HS2 := hid (hs2.trans S1.out)
      have c0 := cell_of (i := 0) HX2.out rfl
      have c2 := cell_of (i := 2) HR2.out rfl
      have f2 := frozen_of (i := 2) HR2.out
      simp only [List.getElem_toArray, List.getElem_cons_zero, List.getElem_cons_succ] at c0 c2
      clear hk2 hr2 hs2
      go_wp2_with fail
      have HK3 := hid (HK2.out.trans (Kp.set w2 b 2 (.int .i64 ((n : Int) + 1)) (fun h => h rfl)))
      have HR3 := hid (show RdAt (w2.setCell ⟨b, 2, none⟩ (.int .i64 ((n : Int) + 1))) b s (i + 1) (n + 1) from (set_at HR2.out 2 _).trans rfl)
      have HX3 := hid (set_other (i := 2) HX2.out (show w.heap.size ≠ b by omega) (.int .i64 ((n : Int) + 1)))
      have HS3 := hid ((size_set w2 ⟨b, 2, none⟩ (.int .i64 ((n : Int) + 1))).trans HS2.out)
      generalize w2.setCell ⟨b, 2, none⟩ (.int .i64 ((n : Int) + 1)) = w3 at *
      clear c0 c2 f2
      go_loopw [4] (fun lv wr => ∃ (f' j : Nat) (acc : List T), rdL s Q f (n + 1) (i + 1) [] = rdL s Q f' (n + 1) j acc ∧ 2 * (s.size - j) + 2 ≤ f' ∧ f' ≤ f ∧ j ≤ s.size ∧ acc.length ≤ j ∧ Items wr (w.heap.size + 1) wr.heap.size (64 - n) lv acc ∧ RdAt wr b s j (n + 1) ∧ wr.heap[w.heap.size]? = some (.cells #[.pointer (some ⟨b, 0, none⟩)] 85) ∧ Kp (· ≠ b) w wr) (fun _ wr => s.size - atOf b wr)
      case atStart => exact ⟨f, i + 1, [], rfl, by omega, Nat.le_refl _, hi, Nat.zero_le _, Items.nil _ _, HR3.out, HX3.out, HK3.out⟩
      case round =>
        obtain ⟨f', j, acc, hR, hf1, hf2, hj, hal, hit, hrd, hbx, hkp⟩ := hrel
        obtain ⟨F, rfl⟩ : ∃ F, f' = F + 1 := ⟨f' - 1, by omega⟩
        have HIT := hid hit
        have HRD := hid hrd
        have HBX := hid hbx
        have HKP := hid hkp
        have HRW := hid (HR.out.trans hR)
        have HRI := hid HR.out
        have c0 := cell_of (i := 0) HBX.out rfl
        simp only [List.getElem_toArray, List.getElem_cons_zero] at c0
        obtain ⟨ao, c4, rfl⟩ := HIT.out.shape
        have HV := hid (HIH.out F (by omega) wr (n + 1) j (E.keep _ _ HI.out HKP.out) HRD.out hj (by omega) (by omega))
        rw [show 65 - (n + 1) = 64 - n by omega] at HV
        have HGE := hid (fun t a => rdV_ge (s := s) E.ahead F (n + 1) j t a)
        have H65 := hid (show 65 - n = (64 - n) + 1 by omega)
        clear hit hrd hbx hkp hR HR
        have hwb : w.heap.size ≠ b := by omega
        cases hv : rdV s Q F (n + 1) j with
        | bad c a =>
          have HRL := hid (rdL_bad (acc := acc) hv)
          rw [hv] at HV
          clear hv HGE
          go_wp2_with fail
          refine HV.out.mono ?_
          rintro e w4 ⟨hk4, rfl, hr4, ha4, hc4⟩
          have HK4 := hid (HKP.out.trans hk4)
          have HR4 := hid hr4
          have HX4 := hid (hk4.block' HBX.out hwb)
          have q4 : ((c : Int) != 0) = true := by simp; omega
          have q5 : ¬ ((c : Int)) = 0 := by omega
          clear hk4 hr4 hc4
          go_wp2_with fail
          refine leaves_cons (f := 79) (args := #[.pointer (some ⟨w.heap.size, 0, none⟩)]) (by simp) (by simp [go_sem]) ?_
          refine (unnest _ b w.heap.size s a (n + 1) HR4.out (by omega) HX4.out).mono ?_
          rintro e u' w9 ⟨rfl, rfl, rfl⟩
          refine ⟨_, results_tmp2 rfl _ _ _, ?_⟩
          rw [HRW.out, HRL.out]
          have HZ := rd_back HR4.out
          exact ⟨HK4.out.trans (Kp.set _ _ _ _ (fun h => h rfl)), rfl, HZ, ha4, by intro h; exact q5 (by rw [h]; rfl)⟩
        | ok t a =>
          have HRL := hid (rdL_ok (acc := acc) hv)
          rw [hv] at HV
          have hja := HGE.out t a hv
          clear hv HGE
          go_wp2_with fail
          refine HV.out.mono ?_
          rintro e w4 ⟨hk4, u, bs, rfl, ho4, hge4, hnd4, hr4, ha4⟩
          obtain ⟨τ, p, rfl⟩ := ho4.rd.iface
          have HK4 := hid (HKP.out.trans hk4)
          have HR4 := hid hr4
          have HX4 := hid (hk4.block' HBX.out hwb)
          have HO4 := hid ho4
          have HGE4 := hid hge4
          have HND4 := hid hnd4
          have HIT4 := hid (HIT.out.keep hk4 (fun k hk e => by have e' : k = b := e; omega))
          have HB4 := hid (show w.heap.size + 1 ≤ w4.heap.size by have := lt_of_block HX4.out; omega)
          have HBW := hid (show w.heap.size + 1 ≤ wr.heap.size by have := lt_of_block HBX.out; omega)
          clear hk4 ho4 hge4 hnd4 hr4 c0
          go_wp2_with (at_builtin; refine app_item rfl _ _ rfl rfl (w.heap.size + 1) wr.heap.size (64 - n) (.slice ao acc.length c4) acc τ p t bs rfl rfl HB4.out HIT4.out HO4.out HGE4.out HBW.out HND4.out (by omega) ?_; intro a5 c5 w5 hit5 hb5; have HX5 := hid ((Below.block hb5 w.heap.size (by omega)).trans HX4.out); have c0 := cell_of (i := 0) HX5.out rfl; simp only [List.getElem_toArray, List.getElem_cons_zero] at c0)
          have HR5 := hid (show RdAt w5 b s a (n + 1) from (Below.block hb5 b (by omega)).trans HR4.out)
          have HK5 := hid (HK4.out.below hb5)
          have HIT5 := hid hit5
          have hs5 : w.heap.size < w5.heap.size := lt_of_block HX5.out
          clear hit5 hb5
          have HT5 := hid (take_any w5 b s a (n + 1) 93 HR5.out ha4 hs)
          by_cases h93 : nxt s a = 93
          · have hlt : a < s.size := by
              rcases Nat.lt_or_ge a s.size with h | h
              · exact h
              · rw [nxt_end (by omega)] at h93; cases h93
            have HRX := hid (HRL.out.trans (if_pos h93))
            rw [decide_eq_true h93, if_pos h93] at HT5
            clear h93 HRL
            refine HT5.out.mono ?_
            rintro e w6 ⟨rfl, hk6, hs6, hr6⟩
            have HR6 := hid hr6
            have HK6 := hid (HK5.out.trans hk6)
            have HX6 := hid (hk6.block' HX5.out hwb)
            have HIT6 := hid (HIT5.out.keep hk6 (fun k hk e => by have e' : k = b := e; omega))
            clear hk6 hs6 hr6 c0
            go_wp2_with fail
            refine leaves_cons (f := 79) (args := #[.pointer (some ⟨w.heap.size, 0, none⟩)]) (by simp) (by simp [go_sem]) ?_
            refine (unnest _ b w.heap.size s (a + 1) (n + 1) HR6.out (by omega) HX6.out).mono ?_
            rintro e u' w9 ⟨rfl, rfl, rfl⟩
            refine ⟨_, results_tmp2 rfl _ _ _, ?_⟩
            rw [HRW.out, HRX.out, H65.out]
            have HZ := rd_back HR6.out
            have HK9 : Kp (· ≠ b) w6 (w6.setCell ⟨b, 2, none⟩ (.int .i64 (((n + 1 : Nat) : Int) - 1))) := Kp.set w6 b 2 _ (fun h => h rfl)
            obtain ⟨bs9, ho9, hb9, hn9⟩ := (HIT6.out.keep HK9 (fun k hk e => by have e' : k = b := e; omega)).list (by simp) (by simp; omega)
            exact ⟨HK6.out.trans HK9, _, bs9, rfl, ho9, fun x hx => by have := hb9 x hx; omega, hn9, HZ, hlt⟩
          · rw [decide_eq_false h93, if_neg h93] at HT5
            have HRL2 := hid (HRL.out.trans (if_neg h93))
            clear h93 HRL
            refine HT5.out.mono ?_
            rintro e w6 ⟨rfl, hk6, hs6, hr6⟩
            have HR6 := hid hr6
            have HK6 := hid (HK5.out.trans hk6)
            have HX6 := hid (hk6.block' HX5.out hwb)
            have HIT6 := hid (HIT5.out.keep hk6 (fun k hk e => by have e' : k = b := e; omega))
            clear hk6 hs6 hr6 c0
            have c0 := cell_of (i := 0) HX6.out rfl
            simp only [List.getElem_toArray, List.getElem_cons_zero] at c0
            have HT6 := hid (take_any w6 b s a (n + 1) 44 HR6.out ha4 hs)
            by_cases h44 : nxt s a = 44
            · have hlt : a < s.size := by
                rcases Nat.lt_or_ge a s.size with h | h
                · exact h
                · rw [nxt_end (by omega)] at h44; cases h44
              have HRL3 := hid (HRL2.out.trans (if_pos h44))
              rw [decide_eq_true h44, if_pos h44] at HT6
              clear h44 HRL2
              go_wp2_with fail
              refine HT6.out.mono ?_
              rintro e w7 ⟨rfl, hk7, hs7, hr7⟩
              have HR7 := hid hr7
              have HK7 := hid (HK6.out.trans hk7)
              have HX7 := hid (hk7.block' HX6.out hwb)
              have HIT7 := hid (HIT6.out.keep hk7 (fun k hk e => by have e' : k = b := e; omega))
              clear hk7 hs7 hr7 c0
              have c0 := cell_of (i := 0) HX7.out rfl
              simp only [List.getElem_toArray, List.getElem_cons_zero] at c0
              have HT7 := hid (take_any w7 b s (a + 1) (n + 1) 32 HR7.out hlt hs)
              by_cases h32 : nxt s (a + 1) = 32
              · have hlt2 : a + 1 < s.size := by
                  rcases Nat.lt_or_ge (a + 1) s.size with h | h
                  · exact h
                  · rw [nxt_end (by omega)] at h32; cases h32
                have HRL4 := hid (HRL3.out.trans (if_pos h32))
                rw [decide_eq_true h32, if_pos h32] at HT7
                clear h32 HRL3
                go_wp2_with fail
                refine HT7.out.mono ?_
                rintro e w8 ⟨rfl, hk8, hs8, hr8⟩
                have HREL := hid (show ∃ (f' j' : Nat) (acc' : List T), rdL s Q f (n + 1) (i + 1) [] = rdL s Q f' (n + 1) j' acc' ∧ 2 * (s.size - j') + 2 ≤ f' ∧ f' ≤ f ∧ j' ≤ s.size ∧ acc'.length ≤ j' ∧ Items w8 (w.heap.size + 1) w8.heap.size (64 - n) (.slice a5 (acc.length + 1) c5) acc' ∧ RdAt w8 b s j' (n + 1) ∧ w8.heap[w.heap.size]? = some (.cells #[.pointer (some ⟨b, 0, none⟩)] 85) ∧ Kp (· ≠ b) w w8 from
                  ⟨F, a + 2, acc ++ [t], HRI.out.symm.trans (HRW.out.trans HRL4.out), by omega, by omega, hlt2, by simp; omega, (HIT7.out.keep hk8 (fun k hk e => by have e' : k = b := e; omega)).up, hr8, hk8.block' HX7.out hwb, HK7.out.trans hk8⟩)
                have HM := hid (show s.size - atOf b w8 < s.size - atOf b wr by rw [atOf_rd hr8, atOf_rd HRD.out]; omega)
                clear hk8 hs8 hr8 c0
                go_wp2_with fail
                go_roundw
                case rel => first | exact HREL.out | ((repeat apply Exists.intro); exact ⟨HREL.out, rfl⟩)
                case measure => exact HM.out
              · have HRX := hid (HRL3.out.trans (if_neg h32))
                rw [decide_eq_false h32, if_neg h32] at HT7
                clear h32 HRL3
                go_wp2_with fail
                refine HT7.out.mono ?_
                rintro e w8 ⟨rfl, hk8, hs8, hr8⟩
                have HR8 := hid hr8
                have HK8 := hid (HK7.out.trans hk8)
                have HX8 := hid (hk8.block' HX7.out hwb)
                clear hk8 hs8 hr8 c0
                go_wp2_with fail
                refine leaves_cons (f := 79) (args := #[.pointer (some ⟨w.heap.size, 0, none⟩)]) (by simp) (by simp [go_sem]) ?_
                refine (unnest _ b w.heap.size s (a + 1) (n + 1) HR8.out (by omega) HX8.out).mono ?_
                rintro e u' w9 ⟨rfl, rfl, rfl⟩
                refine ⟨_, results_tmp2 rfl _ _ _, ?_⟩
                rw [HRW.out, HRX.out]
                have HZ := rd_back HR8.out
                exact ⟨HK8.out.trans (Kp.set _ _ _ _ (fun h => h rfl)), rfl, HZ, hlt, by decide⟩
            · have HRX := hid (HRL2.out.trans (if_neg h44))
              rw [decide_eq_false h44, if_neg h44] at HT6
              clear h44 HRL2
              go_wp2_with fail
              refine HT6.out.mono ?_
              rintro e w7 ⟨rfl, hk7, hs7, hr7⟩
              have HR7 := hid hr7
              have HK7 := hid (HK6.out.trans hk7)
              have HX7 := hid (hk7.block' HX6.out hwb)
              clear hk7 hs7 hr7 c0
              go_wp2_with fail
              refine leaves_cons (f := 79) (args := #[.pointer (some ⟨w.heap.size, 0, none⟩)]) (by simp) (by simp [go_sem]) ?_
              refine (unnest _ b w.heap.size s a (n + 1) HR7.out (by omega) HX7.out).mono ?_
              rintro e u' w9 ⟨rfl, rfl, rfl⟩
              refine ⟨_, results_tmp2 rfl _ _ _, ?_⟩
              rw [HRW.out, HRX.out]
              have HZ := rd_back HR7.out
              exact ⟨HK7.out.trans (Kp.set _ _ _ _ (fun h => h rfl)), rfl, HZ, ha4, by decide⟩
end Go.Proofs.YtbpbkihcfdnphaaGreatDoor
/-
  The reader's value by a contract.
-/
namespace Go.Proofs.YtbpbkihcfdnphaaGreatDoor
open Go.RowKit
theorem RsP.mono {w w1 w' : World} {b : Nat} {s : ByteArray} {n d : Nat} {r : Rs} {e : Ending} (h : RsP w1 b s n d r e w') (hk : Kp (· ≠ b) w w1) : RsP w b s n d r e w' := by
  obtain ⟨h1, h2⟩ := h
  refine ⟨hk.trans h1, ?_⟩
  cases r with
  | ok t i =>
    obtain ⟨u, bs, h3, h4, h5, h6⟩ := h2
    exact ⟨u, bs, h3, h4, fun x hx => Nat.le_trans hk.size (h5 x hx), h6⟩
  | bad c i => exact h2
/-- An answer of a call within, handed on. -/
theorem RsP.two {w w' : World} {b : Nat} {s : ByteArray} {n d : Nat} {r : Rs} {e : Ending} (h : RsP w b s n d r e w') : ∃ v c, e = .returned (.tuple #[v, .int .i64 c]) := by
  obtain ⟨_, h2⟩ := h
  cases r with
  | ok t i => obtain ⟨u, bs, h3, _⟩ := h2; exact ⟨u, 0, h3⟩
  | bad c i => exact ⟨_, _, h2.1⟩
theorem word_rs {w w' : World} {b : Nat} {s : ByteArray} {n i d : Nat} {l : List UInt8} {v : Value} {t : T} {e : Ending} (hv : ∀ w, VOwn w (d + 1) v t []) (m : Nat) (hm : m = l.length)
    (h : e = .returned (wordV (wordK s i l) m v) ∧ Kp (· ≠ b) w w' ∧ w'.heap.size = w.heap.size ∧ RdAt w' b s (i + wordK s i l) n ∧ i + wordK s i l ≤ s.size) : RsP w b s n (d + 1) (wrdR s i l t) e w' := by
  obtain ⟨rfl, h2, _, h4, h5⟩ := h
  refine ⟨h2, ?_⟩
  unfold wrdR wordV
  subst hm
  by_cases hk : wordK s i l = l.length
  · rw [if_pos hk, if_pos hk]
    exact ⟨v, [], rfl, hv _, fun x hx => (by cases hx), List.nodup_nil, h4, h5⟩
  · rw [if_neg hk, if_neg hk]
    exact ⟨rfl, h4, h5, by decide⟩
set_option maxRecDepth 100000 in
set_option maxHeartbeats 4000000 in
theorem rvalue_any {b : Nat} {s : ByteArray} {I : World → Prop} {Q : Nat → Rs} (E : REnv b s I Q) (hs : s.size ≤ 1048576) : ∀ f, ValTo b s I Q f := by
  intro f
  induction f using Nat.strongRecOn with
  | ind f ih =>
  intro w n i hI hr hi hn hf
  obtain ⟨F, rfl⟩ : ∃ F, f = F + 1 := ⟨f - 1, by omega⟩
  have HNX := hid (next_any w b s i n hr hi hs)
  have HRD := hid hr
  have HI := hid hI
  have HIH := hid ih
  obtain ⟨d, hd⟩ : ∃ d, 65 - n = d + 1 := ⟨64 - n, by omega⟩
  have HD := hid hd
  rw [hd]
  clear hd
  obtain ⟨g, hg⟩ : ∃ g, nxt s i = g := ⟨_, rfl⟩
  have HRW := hid (show rdV s Q (F + 1) n i = if g = 117 then wrdR s i [117, 110, 105, 116] (.node 1 0 ⟨#[]⟩ [])
    else if g = 121 then wrdR s i [121, 101, 115] (.node 2 1 ⟨#[]⟩ [])
    else if g = 110 then wrdR s i [110, 111] (.node 2 0 ⟨#[]⟩ [])
    else if g = 45 ∨ digP g then numR s i
    else if g = 34 then Q i
    else if g = 91 then listR s Q F n i
    else .bad 5 i by rw [← hg]; simp only [rdV, listR])
  rw [hg] at HNX
  have hlt : g ≠ 0 → i < s.size := fun h0 => by
    rcases Nat.lt_or_ge i s.size with h | h
    · exact h
    · exact absurd (by rw [← hg, nxt_end (by omega)]) h0
  have HG := hid hg
  have HLT := hid hlt
  have HDG := hid (fun w => digit_any (g : Int) w)
  clear hr hI ih hg hlt
  go_enter Tryz.func45, Tryz.ntmps45
  go_wp2_with fail
  refine HNX.out.mono ?_
  rintro e w2 ⟨rfl, hk2⟩
  obtain ⟨kd, rfl⟩ := hk2
  have HK := hid (((Ext.refl w).drewN kd).kp (· ≠ b))
  have HR2 := hid (show RdAt (w.drewN kd) b s i n from ((Ext.refl w).drewN kd).block HRD.out)
  have HI2 := hid (E.keep _ _ HI.out HK.out)
  generalize w.drewN kd = W at *
  by_cases g1 : g = 117
  · rw [if_pos g1] at HRW
    have HC := hid (show Calls Tryz.prog 63 #[.pointer (some ⟨b, 0, none⟩), .string ⟨#[117, 110, 105, 116]⟩, .iface 81 (.agg #[])] W (RsP W b s n (d + 1) (wrdR s i [117, 110, 105, 116] (.node 1 0 ⟨#[]⟩ []))) from (word_any W b s i n ⟨#[117, 110, 105, 116]⟩ 81 (.agg #[]) HR2.out hi hs (by decide) (by decide)).mono (fun e w' h => word_rs (l := [117, 110, 105, 116]) (fun w => .inl ⟨rfl, rfl, rfl, rfl, rfl, rfl⟩) 4 rfl h))
    subst g1
    go_wp2_with (first | (go_at_call 64; refine (HDG.out _).mono ?_; rintro e w9 ⟨rfl, rfl⟩) | (go_at_call 63; refine HC.out.mono ?_; intro e w5 h5; obtain ⟨v5, c5, rfl⟩ := RsP.two h5))
    go_ret2
    rw [HRW.out]
    exact h5.mono HK.out
  rw [if_neg g1] at HRW
  have e1 : ((g : Int) == 117) = false := by rw [beq_eq_false_iff_ne]; omega
  by_cases g2 : g = 121
  · rw [if_pos g2] at HRW
    have HC := hid (show Calls Tryz.prog 63 #[.pointer (some ⟨b, 0, none⟩), .string ⟨#[121, 101, 115]⟩, .iface 48 (.bool true)] W (RsP W b s n (d + 1) (wrdR s i [121, 101, 115] (.node 2 1 ⟨#[]⟩ []))) from (word_any W b s i n ⟨#[121, 101, 115]⟩ 48 (.bool true) HR2.out hi hs (by decide) (by decide)).mono (fun e w' h => word_rs (l := [121, 101, 115]) (fun w => .inr (.inl ⟨rfl, rfl, rfl, rfl, true, rfl, rfl⟩)) 3 rfl h))
    subst g2
    go_wp2_with (first | (go_at_call 64; refine (HDG.out _).mono ?_; rintro e w9 ⟨rfl, rfl⟩) | (go_at_call 63; refine HC.out.mono ?_; intro e w5 h5; obtain ⟨v5, c5, rfl⟩ := RsP.two h5))
    go_ret2
    rw [HRW.out]
    exact h5.mono HK.out
  rw [if_neg g2] at HRW
  have e2 : ((g : Int) == 121) = false := by rw [beq_eq_false_iff_ne]; omega
  by_cases g3 : g = 110
  · rw [if_pos g3] at HRW
    have HC := hid (show Calls Tryz.prog 63 #[.pointer (some ⟨b, 0, none⟩), .string ⟨#[110, 111]⟩, .iface 48 (.bool false)] W (RsP W b s n (d + 1) (wrdR s i [110, 111] (.node 2 0 ⟨#[]⟩ []))) from (word_any W b s i n ⟨#[110, 111]⟩ 48 (.bool false) HR2.out hi hs (by decide) (by decide)).mono (fun e w' h => word_rs (l := [110, 111]) (fun w => .inr (.inl ⟨rfl, rfl, rfl, rfl, false, rfl, rfl⟩)) 2 rfl h))
    subst g3
    go_wp2_with (first | (go_at_call 64; refine (HDG.out _).mono ?_; rintro e w9 ⟨rfl, rfl⟩) | (go_at_call 63; refine HC.out.mono ?_; intro e w5 h5; obtain ⟨v5, c5, rfl⟩ := RsP.two h5))
    go_ret2
    rw [HRW.out]
    exact h5.mono HK.out
  rw [if_neg g3] at HRW
  have e3 : ((g : Int) == 110) = false := by rw [beq_eq_false_iff_ne]; omega
  by_cases g4 : g = 45 ∨ digP g
  · rw [if_pos g4] at HRW
    have HC := hid (rnumber_any W b s i n d HR2.out hi hs (fun hd w' hk => E.par i w' (E.keep _ _ HI2.out hk) hd))
    by_cases g5 : g = 45
    · subst g5
      go_wp2_with (first | (go_at_call 64; refine (HDG.out _).mono ?_; rintro e w9 ⟨rfl, rfl⟩) | (go_at_call 65; refine (HC.out).mono ?_; intro e w5 h5; obtain ⟨v5, c5, rfl⟩ := RsP.two h5))
      go_ret2
      rw [HRW.out]
      exact h5.mono HK.out
    · have e4 : ((g : Int) == 45) = false := by rw [beq_eq_false_iff_ne]; omega
      have g6 := g4.resolve_left g5
      rw [show decide ((48 : Int) ≤ (g : Int) ∧ (g : Int) ≤ 57) = true from decide_eq_true ⟨by have := g6.1; omega, by have := g6.2; omega⟩] at HDG
      go_wp2_with (first | (go_at_call 64; refine (HDG.out _).mono ?_; rintro e w9 ⟨rfl, rfl⟩) | (go_at_call 65; refine (HC.out).mono ?_; intro e w5 h5; obtain ⟨v5, c5, rfl⟩ := RsP.two h5))
      go_ret2
      rw [HRW.out]
      exact h5.mono HK.out
  rw [if_neg g4] at HRW
  have e4 : ((g : Int) == 45) = false := by rw [beq_eq_false_iff_ne]; exact fun h => g4 (.inl (by omega))
  rw [show decide ((48 : Int) ≤ (g : Int) ∧ (g : Int) ≤ 57) = false from decide_eq_false (fun h => g4 (.inr ⟨by omega, by omega⟩))] at HDG
  by_cases g5 : g = 34
  · rw [if_pos g5] at HRW
    have HC := hid (E.quo W i n d HI2.out HR2.out (HLT.out (by omega)) (HG.out.trans g5))
    clear g4
    subst g5
    go_wp2_with (first | (go_at_call 64; refine (HDG.out _).mono ?_; rintro e w9 ⟨rfl, rfl⟩) | (go_at_call 66; refine (HC.out).mono ?_; intro e w5 h5; obtain ⟨v5, c5, rfl⟩ := RsP.two h5))
    go_ret2
    rw [HRW.out]
    exact h5.mono HK.out
  rw [if_neg g5] at HRW
  have e5 : ((g : Int) == 34) = false := by rw [beq_eq_false_iff_ne]; omega
  by_cases g6 : g = 91
  · rw [if_pos g6] at HRW
    have HC := hid (list_of E (fun f' hf' => HIH.out f' (by omega)) W n i HI2.out HR2.out (HLT.out (by omega)) hn hs (f := F) (by have := HLT.out (by omega); omega))
    rw [HD.out] at HC
    clear g4
    subst g6
    go_wp2_with (first | (go_at_call 64; refine (HDG.out _).mono ?_; rintro e w9 ⟨rfl, rfl⟩) | (go_at_call 67; refine (HC.out).mono ?_; intro e w5 h5; obtain ⟨v5, c5, rfl⟩ := RsP.two h5))
    go_ret2
    rw [HRW.out]
    exact h5.mono HK.out
  rw [if_neg g6] at HRW
  have e6 : ((g : Int) == 91) = false := by rw [beq_eq_false_iff_ne]; omega
  clear g4
  go_wp2_with (go_at_call 64; refine (HDG.out _).mono ?_; rintro e w9 ⟨rfl, rfl⟩)
  go_ret2
  rw [HRW.out]
  exact ⟨HK.out, rfl, HR2.out, hi, by decide⟩
end Go.Proofs.YtbpbkihcfdnphaaGreatDoor
/-
  The reader's whole, and Read, each by a contract.
-/
namespace Go.Proofs.YtbpbkihcfdnphaaGreatDoor
open Go.RowKit
def wholeR (s : ByteArray) (Q : Nat → Rs) : Rs :=
  match rdV s Q (2 * s.size + 1) 0 0 with
  | .bad c a => .bad c a
  | .ok t a => if a < s.size then .bad 5 a else if 65536 < t.size then .bad 2 a else .ok t a
set_option maxRecDepth 100000 in
set_option maxHeartbeats 2000000 in
theorem whole_any {b : Nat} {s : ByteArray} {I : World → Prop} {Q : Nat → Rs} (E : REnv b s I Q) (hs : s.size ≤ 1048576) (w : World) (hI : I w) (hr : RdAt w b s 0 0) (hsz : ∀ t a, rdV s Q (2 * s.size + 1) 0 0 = .ok t a → t.size ≤ 140737488351232) :
    Calls Tryz.prog 29 #[.pointer (some ⟨b, 0, none⟩)] w (RsP w b s 0 65 (wholeR s Q)) := by
  have HV := hid (rvalue_any E hs (2 * s.size + 1) w 0 0 hI hr (Nat.zero_le _) (by omega) (by omega))
  have hs' : (s.size : Int) ≤ 1048576 := by omega
  cases hv : rdV s Q (2 * s.size + 1) 0 0 with
  | bad c a =>
    have HR := hid (show wholeR s Q = .bad c a by unfold wholeR; rw [hv])
    rw [hv] at HV
    clear hv hsz hr
    go_enter Tryz.func29, Tryz.ntmps29
    go_wp2_with fail
    refine HV.out.mono ?_
    rintro e w4 ⟨hk4, rfl, hr4, ha4, hc4⟩
    have q4 : ((c : Int) != 0) = true := by simp; omega
    have q5 : ¬ ((c : Int)) = 0 := by omega
    go_wp2_with fail
    go_ret2
    rw [HR.out]
    exact ⟨hk4, rfl, hr4, ha4, hc4⟩
  | ok t a =>
    have hz := hsz t a hv
    have HR := hid (show wholeR s Q = if a < s.size then .bad 5 a else if 65536 < t.size then .bad 2 a else .ok t a by unfold wholeR; rw [hv])
    rw [hv] at HV
    clear hv hsz hr
    go_enter Tryz.func29, Tryz.ntmps29
    go_wp2_with fail
    refine HV.out.mono ?_
    rintro e w4 ⟨hk4, u, bs, rfl, ho4, hge4, hnd4, hr4, ha4⟩
    obtain ⟨τ, p, rfl⟩ := ho4.rd.iface
    have HK4 := hid hk4
    have HO4 := hid ho4
    have HR4 := hid hr4
    have HGE4 := hid hge4
    have c0 := cell_of (i := 0) hr4 rfl
    have c1 := cell_of (i := 1) hr4 rfl
    simp only [List.getElem_toArray, List.getElem_cons_zero, List.getElem_cons_succ] at c0 c1
    clear hk4 ho4 hr4 hge4
    by_cases hlt : a < s.size
    · have hlt' : (a : Int) < s.size := by omega
      rw [if_pos hlt] at HR
      go_wp2_with fail
      go_quiet (fail)
      go_wp2_with fail
      go_ret2
      rw [HR.out]
      exact ⟨HK4.out.drewN _, rfl, ((Ext.refl w4).drewN _).block HR4.out, ha4, by decide⟩
    · have hlt' : ¬ (a : Int) < s.size := by omega
      have hlt2 : (s.size : Int) ≤ a := by omega
      rw [if_neg hlt] at HR
      have hz' : (t.size : Int) ≤ 140737488355328 := by omega
      go_wp2_with fail
      go_quiet (fail)
      rename_i nq
      have HO5 := hid (HO4.out.later ((Ext.refl w4).drewN nq))
      have HR5 := hid (((Ext.refl w4).drewN nq).block HR4.out)
      have HK5 := hid (HK4.out.drewN nq)
      by_cases hg : 65536 < t.size
      · rw [if_pos hg] at HR
        have hg' : (65536 : Int) < t.size := by omega
        go_wp2_with (go_at_call 30; refine (size_any 65 _ t _ _ HO5.out.rd hz).mono ?_; rintro e w6 ⟨rfl, rfl⟩)
        go_ret2
        rw [HR.out]
        exact ⟨HK5.out, rfl, HR5.out, ha4, by decide⟩
      · rw [if_neg hg] at HR
        have hg' : (t.size : Int) ≤ 65536 := by omega
        go_wp2_with (go_at_call 30; refine (size_any 65 _ t _ _ HO5.out.rd hz).mono ?_; rintro e w6 ⟨rfl, rfl⟩)
        go_ret2
        rw [HR.out]
        exact ⟨HK5.out, _, bs, rfl, HO5.out, HGE4.out, hnd4, HR5.out, ha4⟩
/-- What Read answers. -/
def ReadR (w : World) (r : Rs) (e : Ending) (w' : World) : Prop := Ext w w' ∧
  match r with
  | .ok t _ => ∃ u bs, e = .returned (.tuple #[u, .int .i64 0, .int .i64 0]) ∧ VOwn w' 65 u t bs ∧ (∀ x ∈ bs, w.heap.size ≤ x) ∧ bs.Nodup
  | .bad c a => e = .returned (.tuple #[.nilIface, .int .i64 a, .int .i64 c])
def readR (s : ByteArray) (Q : Nat → Rs) : Rs := if 1048576 < s.size then .bad 2 0 else wholeR s Q
set_option maxRecDepth 100000 in
set_option maxHeartbeats 2000000 in
theorem read_any (s : ByteArray) {I : World → Prop} {Q : Nat → Rs} (w : World) (hx : s.size ≤ 140737488351232) (HE : s.size ≤ 1048576 → REnv w.heap.size s I Q ∧ ∀ o, I (w.alloc o)) (hsz : s.size ≤ 1048576 → ∀ t a, rdV s Q (2 * s.size + 1) 0 0 = .ok t a → t.size ≤ 140737488351232) :
    Calls Tryz.prog 11 #[.string s] w (ReadR w (readR s Q)) := by
  by_cases hs : 1048576 < s.size
  · have HR := hid (show readR s Q = .bad 2 0 by unfold readR; rw [if_pos hs])
    have hs' : (1048576 : Int) < s.size := by omega
    have hx' : (s.size : Int) ≤ 140737488355328 := by omega
    clear HE hsz
    go_enter Tryz.func11, Tryz.ntmps11
    go_wp2_with fail
    go_ret3
    rw [HR.out]
    exact ⟨Ext.refl _, rfl⟩
  · obtain ⟨E, hI⟩ := HE (by omega)
    have HR := hid (show readR s Q = wholeR s Q by unfold readR; rw [if_neg hs])
    have hs' : (s.size : Int) ≤ 1048576 := by omega
    have HW := hid (whole_any E (by omega) (w.alloc (.cells #[.string s, .int .i64 0, .int .i64 0] 64)) (hI _) (blk0 w _) (hsz (by omega)))
    clear hsz HE hI
    cases hv : wholeR s Q with
    | bad c a =>
      rw [hv] at HW HR
      clear hv
      go_enter Tryz.func11, Tryz.ntmps11
      go_wp2_with fail
      refine HW.out.mono ?_
      rintro e w4 ⟨hk4, rfl, hr4, ha4, hc4⟩
      have q4 : ((c : Int) != 0) = true := by simp; omega
      have q5 : ¬ ((c : Int)) = 0 := by omega
      have c1 := cell_of (i := 1) hr4 rfl
      simp only [List.getElem_toArray, List.getElem_cons_zero, List.getElem_cons_succ] at c1
      have HX := hid (Kp.extOf (Ext.alloc w _) hk4 (Nat.le_refl _))
      clear hr4 hk4
      go_wp2_with fail
      go_quiet (fail)
      go_wp2_with fail
      go_ret3
      rw [HR.out]
      exact ⟨HX.out.drewN _, rfl⟩
    | ok t a =>
      rw [hv] at HW HR
      clear hv
      go_enter Tryz.func11, Tryz.ntmps11
      go_wp2_with fail
      refine HW.out.mono ?_
      rintro e w4 ⟨hk4, u, bs, rfl, ho4, hge4, hnd4, hr4, ha4⟩
      obtain ⟨τ, p, rfl⟩ := ho4.rd.iface
      have HX := hid (Kp.extOf (Ext.alloc w _) hk4 (Nat.le_refl _))
      have HO4 := hid ho4
      have HGE := hid hge4
      clear hr4 hk4 ho4 hge4
      go_wp2_with fail
      go_ret3
      rw [HR.out]
      exact ⟨HX.out, _, bs, rfl, HO4.out, fun x hx => by have := HGE.out x hx; rw [blkS] at this; omega, hnd4⟩
end Go.Proofs.YtbpbkihcfdnphaaGreatDoor
