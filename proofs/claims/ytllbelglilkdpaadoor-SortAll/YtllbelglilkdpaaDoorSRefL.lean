/-
  What the document's own Unify comes to, by the shapes: the same as the program's.
-/
import Derived.Test.YtllbelglilkdpaaDoorSRefG
import Derived.Test.YtllbelglilkdpaaDoorSUniM
import Derived.Deep.CutRange
import Derived.Deep.RegionHeld3
namespace Go.Proofs.YtllbelglilkdpaaDoor
open Go.RowKit
theorem op_eq {n : Nat} {x : ByteArray} (h : leafL x.data.toList = true) : opS ((n : Int), x) = (decide (n = 0) && vrbL x.data.toList) := by
  unfold opS
  have e : decide ((n : Int) = 0) = decide (n = 0) := by simp
  rw [show decide ((((n : Int), x) : Sh).1 = 0) = decide ((n : Int) = 0) from rfl, e]
  show (decide (n = 0) && !grdL x.data.toList) = _
  cases hg : grdL x.data.toList with
  | true =>
    cases hv : vrbL x.data.toList with
    | false => rfl
    | true => exact absurd rfl (grd_ne hg hv)
  | false =>
    unfold leafL at h
    rw [hg, Bool.false_or] at h
    rw [h]
    rfl
/-- The greater and the lesser name. -/
def hiN (x y : ByteArray) : ByteArray := if Op.bytesLess x.toList y.toList = true then y else x
def loN (x y : ByteArray) : ByteArray := if Op.bytesLess x.toList y.toList = true then x else y
/-- What the document's Unify comes to, at chains without the lists that both have. -/
def uniQ (P Q : Nat × ByteArray) : Option (Option (ByteArray × (Nat × ByteArray))) :=
  if P = Q then some none
  else if (decide (P.1 = 0) && vrbL P.2.data.toList && (decide (Q.1 = 0) && vrbL Q.2.data.toList)) = true then some (some (hiN P.2 Q.2, (0, loN P.2 Q.2)))
  else if (decide (P.1 = 0) && vrbL P.2.data.toList && !decide (P.2 = Q.2)) = true then some (some (P.2, Q))
  else if (decide (Q.1 = 0) && vrbL Q.2.data.toList && !decide (P.2 = Q.2)) = true then some (some (Q.2, P))
  else none
theorem barS_eq (a b : Nat × ByteArray) : barS a b = meetPQ (shI (a.1 - min a.1 b.1, a.2)) (shI (b.1 - min a.1 b.1, b.2)) := by
  have e1 : (a.1 : Int) + -(if (b.1 : Int) < a.1 then (b.1 : Int) else a.1) = ((a.1 - min a.1 b.1 : Nat) : Int) := by split <;> omega
  have e2 : (b.1 : Int) + -(if (b.1 : Int) < a.1 then (b.1 : Int) else a.1) = ((b.1 - min a.1 b.1 : Nat) : Int) := by split <;> omega
  unfold barS
  rw [e1, e2]
theorem shI_inj {P Q : Nat × ByteArray} : shI P = shI Q ↔ P = Q := by
  constructor
  · intro h
    have h1 : (P.1 : Int) = Q.1 := (Prod.mk.inj h).1
    have h2 : P.2 = Q.2 := (Prod.mk.inj h).2
    exact Prod.ext (by omega) h2
  · intro h; rw [h]
/-- What is made of two that have met. -/
def uniP (z : Sh × Sh) : Option (Option (ByteArray × (Nat × ByteArray))) := if z.1 = z.2 then some none else if opS z.1 = true ∧ z.1.2 ≠ z.2.2 then some (some (z.1.2, (z.2.1.toNat, z.2.2))) else none
theorem uniP_same (X : Sh) : uniP (X, X) = some none := if_pos rfl
theorem uniP_some {X Y : Nat × ByteArray} (hn : X ≠ Y) (ho : opS (shI X) = true) (hx : X.2 ≠ Y.2) : uniP (shI X, shI Y) = some (some (X.2, Y)) := by
  unfold uniP
  rw [if_neg (show ¬ (shI X, shI Y).1 = (shI X, shI Y).2 from fun h => hn (shI_inj.1 h)), if_pos (show opS (shI X, shI Y).1 = true ∧ (shI X, shI Y).1.2 ≠ (shI X, shI Y).2.2 from ⟨ho, hx⟩)]
  show some (some (X.2, (((Y.1 : Nat) : Int).toNat, Y.2))) = _
  rw [Int.toNat_natCast]
theorem uniP_none {X Y : Nat × ByteArray} (hn : X ≠ Y) (ho : ¬ (opS (shI X) = true ∧ X.2 ≠ Y.2)) : uniP (shI X, shI Y) = none := by
  unfold uniP
  rw [if_neg (show ¬ (shI X, shI Y).1 = (shI X, shI Y).2 from fun h => hn (shI_inj.1 h)), if_neg (show ¬ (opS (shI X, shI Y).1 = true ∧ (shI X, shI Y).1.2 ≠ (shI X, shI Y).2.2) from ho)]
theorem uniQ_meet {P Q : Nat × ByteArray} (hp : leafL P.2.data.toList = true) (hq : leafL Q.2.data.toList = true) : uniP (meetPQ (shI P) (shI Q)) = uniQ P Q := by
  have ep := op_eq (n := P.1) hp
  have eq := op_eq (n := Q.1) hq
  have ep' : opS (shI P) = (decide (P.1 = 0) && vrbL P.2.data.toList) := ep
  have eq' : opS (shI Q) = (decide (Q.1 = 0) && vrbL Q.2.data.toList) := eq
  clear ep eq
  unfold uniQ
  rw [← ep', ← eq']
  unfold meetPQ
  by_cases hPQ : P = Q
  · subst hPQ
    rw [if_pos rfl]
    split <;> exact uniP_same _
  · rw [if_neg hPQ]
    cases op : opS (shI P) with
    | false =>
      cases oq : opS (shI Q) with
      | false =>
        simp only [Bool.false_and, Bool.false_eq_true, if_false, Bool.and_false]
        exact uniP_none hPQ (fun h => by rw [op] at h; cases h.1)
      | true =>
        simp only [Bool.false_and, Bool.false_eq_true, if_false, Bool.not_false, Bool.true_or, Bool.and_true, if_true, Bool.true_and]
        by_cases hx : P.2 = Q.2
        · rw [decide_eq_true hx]
          simp only [Bool.not_true, Bool.false_eq_true, if_false]
          exact uniP_none (fun h => hPQ h.symm) (fun h => h.2 hx.symm)
        · rw [decide_eq_false hx]
          simp only [Bool.not_false, if_true]
          exact uniP_some (fun h => hPQ h.symm) oq (fun h => hx h.symm)
    | true =>
      cases oq : opS (shI Q) with
      | false =>
        simp only [Bool.false_and, Bool.false_eq_true, if_false, Bool.and_false, Bool.true_and]
        by_cases hx : P.2 = Q.2
        · rw [decide_eq_true hx]
          simp only [Bool.not_true, Bool.false_eq_true, if_false]
          exact uniP_none hPQ (fun h => h.2 hx)
        · rw [decide_eq_false hx]
          simp only [Bool.not_false, if_true]
          exact uniP_some hPQ op hx
      | true =>
        have zp : P.1 = 0 := by have := opS_zero op; have h : (P.1 : Int) = 0 := this; omega
        have zq : Q.1 = 0 := by have := opS_zero oq; have h : (Q.1 : Int) = 0 := this; omega
        have hx : P.2 ≠ Q.2 := fun h => hPQ (Prod.ext (by rw [zp, zq]) h)
        simp only [Bool.true_and, Bool.not_true, Bool.false_or, if_true]
        unfold hiN loN
        show uniP (if Op.bytesLess P.2.toList Q.2.toList = true then (shI Q, shI P) else (shI P, shI Q)) = _
        cases hb : Op.bytesLess P.2.toList Q.2.toList with
        | true =>
          simp only [if_true]
          rw [uniP_some (fun h => hPQ h.symm) oq (fun h => hx h.symm)]
          rw [show P = (0, P.2) from Prod.ext zp rfl]
        | false =>
          simp only [Bool.false_eq_true, if_false]
          rw [uniP_some hPQ op hx]
          rw [show Q = (0, Q.2) from Prod.ext zq rfl]
theorem uniS_Q {a b : Nat × ByteArray} (ha : leafL a.2.data.toList = true) (hb : leafL b.2.data.toList = true) : uniS a b = uniQ (a.1 - min a.1 b.1, a.2) (b.1 - min a.1 b.1, b.2) := by
  rw [← uniQ_meet (P := (a.1 - min a.1 b.1, a.2)) (Q := (b.1 - min a.1 b.1, b.2)) ha hb, ← barS_eq]
  rfl
end Go.Proofs.YtllbelglilkdpaaDoor
/-
  What the document's own Apply and Read come to: the mathematics.
-/
namespace Go.Proofs.YtllbelglilkdpaaDoor
open Go.RowKit
theorem tauF_out (l : List (ByteArray × S)) : ∀ (σ : ByteArray → Option Sh) (k : ByteArray), k ∉ l.map Prod.fst → tauF l σ k = σ k := by
  induction l with
  | nil => intro σ k _; rfl
  | cons g r ih =>
    intro σ k hk
    have e : tauF (g :: r) σ = tauF r (fun k => if k = g.1 then some (shO g.2) else σ k) := rfl
    rw [e, ih _ _ (fun h => hk (by rw [List.map_cons]; exact List.mem_cons_of_mem _ h))]
    exact if_neg (fun h => hk (by rw [List.map_cons, h]; exact List.mem_cons_self))
theorem tauG_at {l : List (ByteArray × S)} (h : goodG l) {i : Nat} (hi : i < l.length) : tauG l l[i].1 = some (shO l[i].2) := by
  have e : l = l.take i ++ l[i] :: l.drop (i + 1) := by
    rw [← List.drop_eq_getElem_cons hi, List.take_append_drop]
  have hn := h.1
  generalize hg : l[i] = g at *
  rw [e] at hn
  rw [e]
  rw [List.map_append, List.map_cons, List.nodup_append, List.nodup_cons] at hn
  unfold tauG
  show tauF (l.take i ++ g :: l.drop (i + 1)) (fun _ => none) g.1 = _
  have e2 : tauF (l.take i ++ g :: l.drop (i + 1)) (fun _ => none) = tauF (l.drop (i + 1)) (fun k => if k = g.1 then some (shO g.2) else tauF (l.take i) (fun _ => none) k) := by
    unfold tauF; rw [List.foldl_append]; rfl
  rw [e2, tauF_out _ _ _ hn.2.1.1]
  exact if_pos rfl
theorem tauG_no {l : List (ByteArray × S)} {x : ByteArray} (h : ∀ j, (hj : j < l.length) → l[j].1 ≠ x) : tauG l x = none := by
  cases e : tauG l x with
  | none => rfl
  | some s =>
    have := (tauG_some l x).1 (by rw [e]; rfl)
    obtain ⟨g, hg, rfl⟩ := List.mem_map.1 this
    obtain ⟨j, hj, rfl⟩ := List.getElem_of_mem hg
    exact absurd rfl (h j hj)
theorem good_step {l : List (ByteArray × S)} {i : Nat} (hi : i < l.length) (h : goodG (l.take i)) (hv : vrbL l[i].1.data.toList = true) (hn : ∀ k, (hk : k < l.length) → k < i → l[k].1 ≠ l[i].1) : goodG (l.take (i + 1)) := by
  rw [take_snoc l i hi]
  refine goodG_snoc h hv (tauG_no fun j hj => ?_)
  have hj' : j < i := by rw [List.length_take] at hj; omega
  rw [List.getElem_take]
  exact hn j (by omega) hj'
theorem good_novar {l : List (ByteArray × S)} {i : Nat} (hi : i < l.length) (hv : vrbL l[i].1.data.toList = false) : ¬ goodG l := fun h => by
  have := h.2 l[i] (List.getElem_mem hi)
  rw [hv] at this
  cases this
theorem good_twice {l : List (ByteArray × S)} {i k : Nat} (hi : i < l.length) (hk : k < i) (he : (l[k]'(by omega)).1 = l[i].1) : ¬ goodG l := fun h => by
  have h1 := List.pairwise_iff_getElem.1 h.1 k i (by rw [List.length_map]; omega) (by rw [List.length_map]; omega) hk
  rw [List.getElem_map, List.getElem_map] at h1
  exact h1 he
theorem word_run : ∀ {l : List UInt8} {k : Nat}, k ≤ l.length → (∀ j, (hj : j < l.length) → j < k → l[j] ≠ 32) → (k = l.length ∨ ∃ hk : k < l.length, l[k] = 32) → wordL l = l.take k ∧ ((32 : UInt8) ∈ l ↔ k < l.length)
  | [], k, hk, _, _ => by
    have : k = 0 := by simpa using hk
    subst this
    exact ⟨rfl, by simp⟩
  | c :: r, 0, _, _, he => by
    rcases he with he | ⟨hk, he⟩
    · simp at he
    · have hc : c = 32 := he
      subst hc
      exact ⟨by simp [wordL], by simp⟩
  | c :: r, k + 1, hk, h, he => by
    have hc : ¬ c = 32 := h 0 (by simp) (by omega)
    have ih := word_run (l := r) (k := k) (by simpa using hk) (fun j hj hjk => by
      have := h (j + 1) (by simpa using hj) (by omega)
      simpa using this) (by
      rcases he with he | ⟨hk', he⟩
      · left; simpa using he
      · right; exact ⟨by simpa using hk', by simpa using he⟩)
    rw [wordL, if_neg hc, ih.1, List.take_succ_cons]
    refine ⟨rfl, ?_⟩
    rw [List.mem_cons, ih.2, List.length_cons]
    constructor
    · rintro (h1 | h1)
      · exact absurd h1.symm hc
      · omega
    · intro h1; exact .inr (by omega)
/-- Where the document's reader stands: it has so many lists and words, and perhaps the name. -/
def RSt (L : List UInt8) (r : ShR) (at' n wd : Nat) (nm : List UInt8) : Prop :=
  (nm = [] ∧ n ≤ 64 ∧ wd = n ∧ ∃ f, L.length - at' < f ∧ rdS f (L.drop at') at' n = r) ∨ (nm = [] ∧ n = 65 ∧ wd = 65 ∧ r = .bad 2 0) ∨ (nm ≠ [] ∧ nm.length ≤ 5 ∧ n ≤ 64 ∧ wd = n + 1 ∧ r = .bad 5 at')
/-- What becomes of it at a word's end. -/
theorem rst_long {L : List UInt8} {r : ShR} {at' n wd : Nat} {nm : List UInt8} (h : RSt L r at' n wd nm) (hn : n = 65) : 65 < wd + 1 ∧ r = .bad 2 0 := by
  rcases h with ⟨_, h, _⟩ | ⟨_, _, h, h'⟩ | ⟨_, _, h, _⟩
  · omega
  · exact ⟨by omega, h'⟩
  · omega
theorem rst_named {L : List UInt8} {r : ShR} {at' n wd : Nat} {nm : List UInt8} (h : RSt L r at' n wd nm) (hn : nm ≠ []) : r = .bad 5 at' := by
  rcases h with ⟨h, _⟩ | ⟨h, _⟩ | ⟨_, _, _, _, h⟩
  · exact absurd h hn
  · exact absurd h hn
  · exact h
theorem rst_open {L : List UInt8} {r : ShR} {at' n wd : Nat} (h : RSt L r at' n wd []) (hn : n ≠ 65) : n ≤ 64 ∧ wd = n ∧ ∃ f, L.length - at' ≤ f ∧ rdS (f + 1) (L.drop at') at' n = r := by
  rcases h with ⟨_, h1, h2, f, hf, h⟩ | ⟨_, h, _⟩ | ⟨h, _⟩
  · obtain ⟨f, rfl⟩ : ∃ f', f = f' + 1 := ⟨f - 1, by omega⟩
    exact ⟨h1, h2, f, by omega, h⟩
  · exact absurd h hn
  · exact absurd rfl h
/-- At a word's end. -/
structure RWd (L : List UInt8) (r : ShR) (at' n i f : Nat) : Prop where
  hf : L.length - at' ≤ f
  h : rdS (f + 1) (L.drop at') at' n = r
  ha : at' ≤ i
  hi : i ≤ L.length
  hw : wordL (L.drop at') = (L.drop at').take (i - at')
  hm : (32 : UInt8) ∈ L.drop at' ↔ i < L.length
  hn : n ≤ 64
section
variable {L : List UInt8} {r : ShR} {at' n i f : Nat}
theorem rst_last (H : RWd L r at' n i f) (hl : leafL ((L.drop at').take (i - at')) = true) (hb : i = L.length) : r = .ok n ((L.drop at').take (i - at')) := by
  obtain ⟨hf, h, ha, hi, hw, hm, hn⟩ := H
  have hnm : ¬ (32 : UInt8) ∈ L.drop at' := fun e => by have := hm.1 e; omega
  rw [← h, rdS, if_neg (by rw [hw]; exact (leaf_not hl).1), if_pos (by rw [hw]; exact hl), if_neg hnm, hw]
theorem rst_name (H : RWd L r at' n i f) (hl : leafL ((L.drop at').take (i - at')) = true) (hb : i < L.length) : RSt L r (i + 1) n (n + 1) ((L.drop at').take (i - at')) := by
  obtain ⟨hf, h, ha, hi, hw, hm, hn⟩ := H
  refine .inr (.inr ⟨(leaf_len hl).2, (leaf_len hl).1, hn, rfl, ?_⟩)
  rw [← h, rdS, if_neg (by rw [hw]; exact (leaf_not hl).1), if_pos (by rw [hw]; exact hl), if_pos (hm.2 hb), hw, List.length_take, List.length_drop]
  congr 1
  omega
theorem rst_list (H : RWd L r at' n i f) (hl : (L.drop at').take (i - at') = wL) (hb : i < L.length) : RSt L r (i + 1) (n + 1) (n + 1) [] := by
  obtain ⟨hf, h, ha, hi, hw, hm, hn⟩ := H
  have h4 : i - at' = 4 := by
    have := congrArg List.length hl
    rw [List.length_take, List.length_drop] at this
    have h4 : wL.length = 4 := rfl
    omega
  rw [rdS, if_pos (by rw [hw]; exact hl), if_pos (hm.2 hb)] at h
  by_cases h64 : n = 64
  · rw [if_pos h64] at h
    exact .inr (.inl ⟨rfl, by omega, by omega, h.symm⟩)
  · rw [if_neg h64, List.drop_drop] at h
    refine .inl ⟨rfl, by omega, rfl, f, by omega, ?_⟩
    rw [show i + 1 = at' + 5 by omega]
    exact h
theorem rst_end (H : RWd L r at' n i f) (hl : (L.drop at').take (i - at') = wL) (hb : i = L.length) : r = .bad 5 L.length := by
  obtain ⟨hf, h, ha, hi, hw, hm, hn⟩ := H
  have hnm : ¬ (32 : UInt8) ∈ L.drop at' := fun e => by have := hm.1 e; omega
  rw [← h, rdS, if_pos (by rw [hw]; exact hl), if_neg hnm, List.length_drop]
  congr 1
  omega
theorem rst_bad (H : RWd L r at' n i f) (hl : (L.drop at').take (i - at') ≠ wL) (hl2 : leafL ((L.drop at').take (i - at')) = false) : r = .bad 5 at' := by
  obtain ⟨hf, h, ha, hi, hw, hm, hn⟩ := H
  rw [← h, rdS, if_neg (by rw [hw]; exact hl), if_neg (by rw [hw, hl2]; simp)]
end
end Go.Proofs.YtllbelglilkdpaaDoor
/-
  The greater and the lesser of two texts.
-/
namespace Go.Proofs.YtllbelglilkdpaaDoor
open Go.RowKit
theorem run_max (P : Program) (ts : Array TypeId) (t : TypeId) (x y : ByteArray) (w : World) {b : Bool} (h : Op.bytesLess x.toList y.toList = b) : Sem.run P (Builtin.max_ ts t #[.string x, .string y]) w = .ok (.string (if b = true then y else x)) w := by
  cases b <;> simp [go_sem, Builtin.max_, Builtin.max2, Op.stringOp, h]
theorem run_min (P : Program) (ts : Array TypeId) (t : TypeId) (x y : ByteArray) (w : World) {b : Bool} (hn : ¬ x.toList = y.toList) (h : Op.bytesLess x.toList y.toList = b) : Sem.run P (Builtin.min_ ts t #[.string x, .string y]) w = .ok (.string (if b = true then x else y)) w := by
  cases b <;> simp [go_sem, Builtin.min_, Builtin.min2, Op.stringOp, h, hn]
end Go.Proofs.YtllbelglilkdpaaDoor
/-
  The document's own Unify (package espalierref5), by a contract.
-/
namespace Go.Proofs.YtllbelglilkdpaaDoor
open Go.RowKit
theorem hi_of {x y : ByteArray} {b : Bool} (h : Op.bytesLess x.toList y.toList = b) : hiN x y = if b = true then y else x := by unfold hiN; rw [h]
theorem lo_of {x y : ByteArray} {b : Bool} (h : Op.bytesLess x.toList y.toList = b) : loN x y = if b = true then x else y := by unfold loN; rw [h]
/-- One given. -/
theorem gs_uno {K : Nat → Prop} {w : World} {g d : Nat} {k nm : ByteArray} {a : Option Addr} {kl c : Nat} {t : S} {ty : TypeId} (hb : w.heap[g]? = some (.cells #[.string k, .string nm, .slice a kl c] ty)) (hk : k.size ≤ 140737488351232) (hr : SRd K w d (.agg #[.string nm, .slice a kl c]) t) : GsRd (fun _ => True) w d (.slice (some ⟨g, 0, none⟩) 1 1) [(k, t)] := by
  refine ⟨some ⟨g, 0, none⟩, 1, rfl, by show 1 * 56 ≤ 140737488351232; decide, .inr ⟨g, 0, rfl, trivial, fun i hi => ?_⟩⟩
  have hi0 : i = 0 := by
    have : i < 1 := hi
    omega
  subst hi0
  exact ⟨cell_of hb rfl, hk, _, _, ⟨cell_of hb rfl, cell_of hb rfl⟩, hr.mono (fun _ _ _ => trivial)⟩
set_option maxRecDepth 100000 in
set_option maxHeartbeats 4000000 in
theorem runify_any {K K' : Nat → Prop} {d d' : Nat} {v v' : Value} {t u : S} (w : World) (hr : SRd K w d v t) (hr' : SRd K' w d' v' u) : Calls Tryd.prog 28 #[v, v'] w (UniR w (uniT t u)) := by
  obtain ⟨a, c, rfl⟩ := hr.shape
  obtain ⟨a', c', rfl⟩ := hr'.shape
  have C1 := hid (fun w1 (h : Ext w w1) => cut_any w1 (hr.later h))
  have C2 := hid (fun w1 (h : Ext w w1) => cut_any w1 (hr'.later h))
  rw [cutV_O] at C1 C2
  clear hr hr'
  obtain ⟨R, hR⟩ : ∃ R, uniT t u = R := ⟨_, rfl⟩
  rw [hR]
  have HR0 := hid hR
  clear hR
  generalize t.name = nt at *
  generalize t.kids.length = kt at *
  generalize u.name = nu at *
  generalize u.kids.length = ku at *
  obtain ⟨n0, hn0⟩ : ∃ z, (shO t).1 = z := ⟨_, rfl⟩
  obtain ⟨x, hx⟩ : ∃ z, (shO t).2 = z := ⟨_, rfl⟩
  obtain ⟨m0, hm0⟩ : ∃ z, (shO u).1 = z := ⟨_, rfl⟩
  obtain ⟨y, hy⟩ : ∃ z, (shO u).2 = z := ⟨_, rfl⟩
  obtain ⟨B1, hB1⟩ : ∃ z, (shp t).isSome = z := ⟨_, rfl⟩
  obtain ⟨B2, hB2⟩ : ∃ z, (shp u).isSome = z := ⟨_, rfl⟩
  rw [hn0, hx, hB1] at C1
  rw [hm0, hy, hB2] at C2
  have HV := hid (show ((shO t).1 = n0 ∧ (shO t).2 = x ∧ (shp t).isSome = B1) ∧ ((shO u).1 = m0 ∧ (shO u).2 = y ∧ (shp u).isSome = B2) from ⟨⟨hn0, hx, hB1⟩, hm0, hy, hB2⟩)
  clear hn0 hx hB1 hm0 hy hB2
  obtain ⟨M, hM⟩ : ∃ M, (w.alloc (.cells #[.string nt, .slice a kt c] 27)).alloc (.cells #[.string nu, .slice a' ku c'] 27) = M := ⟨_, rfl⟩
  have XM := hid (show Ext w M from hM ▸ Ext.alloc2 _ _ _)
  have HM0 := hid (show M.heap[w.heap.size]? = some (.cells #[.string nt, .slice a kt c] 27) from hM ▸ blkOld _ (blk0 _ _))
  have HM1 := hid (show M.heap[w.heap.size + 1]? = some (.cells #[.string nu, .slice a' ku c'] 27) from hM ▸ blk1 _ _ _)
  obtain ⟨m0', m1'⟩ := two_of HM0.out
  go_enter Tryd.func28, Tryd.ntmps28
  go_wp2_with fail
  go_at_call 44
  refine (C1.out M XM.out).mono ?_
  rintro e w1 ⟨rfl, hx1⟩
  clear hM m0' m1'
  obtain ⟨V1, hV1⟩ : ∃ V, w1.alloc (.cells #[.int .i64 n0, .string x] 83) = V := ⟨_, rfl⟩
  have X1 := hid (show Ext M V1 from hV1 ▸ hx1.trans (Ext.alloc _ _))
  have HB1 := hid (show V1.heap[w1.heap.size]? = some (.cells #[.int .i64 n0, .string x] 83) from hV1 ▸ blk0 _ _)
  obtain ⟨m0', m1'⟩ := two_of (X1.out.block HM1.out)
  have HLW := hid (show w.heap.size ≤ w1.heap.size from Nat.le_trans XM.out.size hx1.size)
  clear hx1
  go_wp2_with fail
  go_at_call 44
  refine (C2.out V1 (XM.out.trans X1.out)).mono ?_
  rintro e w2 ⟨rfl, hx2⟩
  clear hV1 m0' m1'
  obtain ⟨V2, hV2⟩ : ∃ V, w2.alloc (.cells #[.int .i64 m0, .string y] 83) = V := ⟨_, rfl⟩
  have HLT := hid (show w1.heap.size < w2.heap.size from Nat.lt_of_lt_of_le (lt_of_block HB1.out) hx2.size)
  have Y2 := hid (show Ext V1 V2 from hV2 ▸ hx2.trans (Ext.alloc _ _))
  have X2 := hid (XM.out.trans (X1.out.trans Y2.out))
  have HB2 := hid (show V2.heap[w2.heap.size]? = some (.cells #[.int .i64 m0, .string y] 83) from hV2 ▸ blk0 _ _)
  have HB1 := hid (Y2.out.block HB1.out)
  clear hx2
  cases B1 with
  | false =>
    have HRN := hid (show R = none by
      rw [← HR0.out]
      unfold uniT
      cases hs : shp t with
      | none => rfl
      | some b => have h := HV.out.1.2.2; rw [hs] at h; cases h)
    go_wp2_with fail
    go_ret2
    rw [HRN.out]
    exact ⟨_, 0, rfl, GsRd.none _ _ _, X2.out⟩
  | true =>
  cases B2 with
  | false =>
    have HRN := hid (show R = none by
      rw [← HR0.out]
      unfold uniT
      cases hs : shp u with
      | none => cases shp t <;> rfl
      | some b => have h := HV.out.2.2.2; rw [hs] at h; cases h)
    go_wp2_with fail
    go_ret2
    rw [HRN.out]
    exact ⟨_, 0, rfl, GsRd.none _ _ _, X2.out⟩
  | true =>
  obtain ⟨⟨n, x'⟩, hst⟩ := Option.isSome_iff_exists.1 HV.out.1.2.2
  obtain ⟨⟨m, y'⟩, hsu⟩ := Option.isSome_iff_exists.1 HV.out.2.2.2
  have e1 : n0 = (n : Int) ∧ x = x' := by
    rw [← HV.out.1.1, ← HV.out.1.2.1]; unfold shO; rw [hst]; exact ⟨rfl, rfl⟩
  have e2 : m0 = (m : Int) ∧ y = y' := by
    rw [← HV.out.2.1, ← HV.out.2.2.1]; unfold shO; rw [hsu]; exact ⟨rfl, rfl⟩
  obtain ⟨rfl, rfl⟩ := e1
  obtain ⟨rfl, rfl⟩ := e2
  have HTX := hid (shp_le hst)
  have HUY := hid (shp_le hsu)
  have HRQ := hid (show R = uniQ (n - min n m, x) (m - min n m, y) by
    rw [← HR0.out]
    unfold uniT
    rw [hst, hsu]
    exact uniS_Q HTX.out.2 HUY.out.2)
  clear hst hsu HR0 HV C1 C2
  obtain ⟨p, hp⟩ : ∃ p, n - min n m = p := ⟨_, rfl⟩
  obtain ⟨q, hq⟩ : ∃ q, m - min n m = q := ⟨_, rfl⟩
  rw [hp, hq] at HRQ
  obtain ⟨k, hk⟩ : ∃ k, min n m = k := ⟨_, rfl⟩
  have HNP := hid (show n = p + k ∧ m = q + k ∧ n ≤ 64 ∧ m ≤ 64 from ⟨by omega, by omega, HTX.out.1, HUY.out.1⟩)
  have HK := hid hk
  have hnp : (n : Int) - (k : Int) = (p : Int) := by have := HNP.out; omega
  have hmq : (m : Int) - (k : Int) = (q : Int) := by have := HNP.out; omega
  have hwk : IntKind.i64.wrap (-(k : Int)) = -(k : Int) := by have := HNP.out; rw [IntKind.wrap_i64]; omega
  have hpl : (p : Int) ≤ 64 := by have := HNP.out; omega
  have hql : (q : Int) ≤ 64 := by have := HNP.out; omega
  clear hp hq hk
  obtain ⟨s0, s1⟩ := two_of HB1.out
  obtain ⟨s2, s3⟩ := two_of HB2.out
  go_upto_region 5 with fail
  clear hV2
  obtain ⟨W0, hW0⟩ : ∃ V, V = V2 := ⟨V2, rfl⟩
  subst hW0
  go_cut [10] (fun s10 wx => s10 = .int .i64 (k : Int) ∧ wx = W0)
  case first =>
    go_wp2_with fail
    go_meet
    case rel => exact ⟨congrArg (Value.int .i64) (by have := HK.out; omega), rfl⟩
  case rest =>
  obtain ⟨rfl, rfl⟩ := hcut
  obtain ⟨W0, hW0⟩ : ∃ V, V = wc := ⟨wc, rfl⟩
  subst hW0
  obtain ⟨f0, f1⟩ := two_free HB1.out
  obtain ⟨U1, hU1⟩ : ∃ U, W0.setCell ⟨w1.heap.size, 0, none⟩ (.int .i64 (p : Int)) = U := ⟨_, rfl⟩
  have HU1 := hid (show U1.heap[w1.heap.size]? = some (.cells #[.int .i64 (p : Int), .string x] 83) from hU1 ▸ (set_at HB1.out 0 _).trans rfl)
  have KU1 := hid (show Kp (· ≠ w1.heap.size) W0 U1 from hU1 ▸ Kp.set W0 w1.heap.size 0 _ (fun h => h rfl))
  have HU2 := hid (KU1.out.block' HB2.out (by have := HLT.out; omega))
  obtain ⟨U2, hU2⟩ : ∃ U, U1.setCell ⟨w2.heap.size, 0, none⟩ (.int .i64 (q : Int)) = U := ⟨_, rfl⟩
  have KU2 := hid (show Kp (· ≠ w2.heap.size) U1 U2 from hU2 ▸ Kp.set U1 w2.heap.size 0 _ (fun h => h rfl))
  have HZ2 := hid (show U2.heap[w2.heap.size]? = some (.cells #[.int .i64 (q : Int), .string y] 83) from hU2 ▸ (set_at HU2.out 0 _).trans rfl)
  have HZ1 := hid (KU2.out.block' HU1.out (by have := HLT.out; omega))
  have XU := hid (show Ext w U2 from Kp.extOf (Kp.extOf X2.out KU1.out (by have := HLW.out; omega)) KU2.out (by have := HLW.out; have := HLT.out; omega))
  obtain ⟨g0, g1⟩ := two_of HU2.out
  obtain ⟨g2, g3⟩ := two_free HU2.out
  go_upto_region 8 with fail
  clear s0 s1 s2 s3 f0 f1 g0 g1 g2 g3 hU1 hU2 hnp hmq hwk
  obtain ⟨W, hW⟩ : ∃ V, V = U2 := ⟨U2, rfl⟩
  subst hW
  obtain ⟨s0, s1⟩ := two_of HZ1.out
  obtain ⟨s2, s3⟩ := two_of HZ2.out
  have HVX := hid (fun w1 => rvar_any x w1 (Nat.le_trans (leaf_size HTX.out.2) (by decide)))
  have HVY := hid (fun w1 => rvar_any y w1 (Nat.le_trans (leaf_size HUY.out.2) (by decide)))
  obtain ⟨bp, hbp⟩ : ∃ z, ((p : Int) == (q : Int)) = z := ⟨_, rfl⟩
  obtain ⟨bq, hbq⟩ : ∃ z, (x.toList == y.toList) = z := ⟨_, rfl⟩
  obtain ⟨z1, hz1⟩ : ∃ z, ((p : Int) == 0) = z := ⟨_, rfl⟩
  obtain ⟨z2, hz2⟩ : ∃ z, ((q : Int) == 0) = z := ⟨_, rfl⟩
  obtain ⟨v1, hv1⟩ : ∃ z, vrbL x.data.toList = z := ⟨_, rfl⟩
  obtain ⟨v2, hv2⟩ : ∃ z, vrbL y.data.toList = z := ⟨_, rfl⟩
  rw [hv1] at HVX
  rw [hv2] at HVY
  have hbn : (x.toList != y.toList) = !bq := by rw [← hbq]; rfl
  have HF := hid (show R = if (bp && bq) = true then some none else if (z1 && v1 && (z2 && v2)) = true then some (some (hiN x y, (0, loN x y))) else if (z1 && v1 && !bq) = true then some (some (x, (q, y))) else if (z2 && v2 && !bq) = true then some (some (y, (p, x))) else none by
    rw [HRQ.out]
    unfold uniQ
    have t1 : decide (p = 0) = z1 := by rw [← hz1]; by_cases h : p = 0; rw [decide_eq_true h, h]; rfl; rw [decide_eq_false h]; exact (beq_eq_false_iff_ne.2 (by omega)).symm
    have t2 : decide (q = 0) = z2 := by rw [← hz2]; by_cases h : q = 0; rw [decide_eq_true h, h]; rfl; rw [decide_eq_false h]; exact (beq_eq_false_iff_ne.2 (by omega)).symm
    have t3 : decide (x = y) = bq := by rw [← hbq, str_beq]
    have t4 : (((p, x) : Nat × ByteArray) = (q, y)) = ((bp && bq) = true) := by
      rw [← hbp, ← hbq, sh_beq, decide_eq_true_eq]
    simp only [t1, t2, t3, t4, hv1, hv2])
  have HBQ := hid (show bq = decide (x = y) by rw [← hbq, str_beq])
  clear hv1 hv2 HRQ
  go_cut [42] (fun s42 wx => s42 = .bool (bp && bq) ∧ wx = W)
  case first =>
    cases bp <;> cases bq
    all_goals
      go_wp2_with fail
      go_meet
      case rel => exact ⟨rfl, rfl⟩
  case rest =>
  obtain ⟨rfl, rfl⟩ := hcut
  obtain ⟨W, hW⟩ : ∃ V, V = wc := ⟨wc, rfl⟩
  subst hW
  obtain ⟨c0, hc0⟩ : ∃ z, (bp && bq) = z := ⟨_, rfl⟩
  rw [hc0] at HF ⊢
  have HC0 := hid (show (bp && bq) = c0 from hc0)
  have HBP := hid hbp
  clear hbp hc0
  cases c0 with
  | true =>
    rw [if_pos rfl] at HF
    go_wp2_with fail
    go_ret2
    rw [HF.out]
    exact ⟨_, 0, rfl, GsRd.none _ _ _, XU.out⟩
  | false =>
  rw [if_neg (by simp)] at HF
  go_upto_region 10 with fail
  go_cut [46] (fun s46 wx => s46 = .bool (z1 && v1 && (z2 && v2)) ∧ wx = W)
  case first =>
    cases z1 <;> cases z2
    case true.true =>
      go_wp2_with fail
      go_at_call 46
      refine (HVX.out W).mono ?_
      rintro e w9 ⟨rfl, hw9⟩
      rw [hw9]
      clear hw9 w9
      cases v1 with
      | false =>
        go_wp2_with fail
        go_meet
        case rel => exact ⟨rfl, rfl⟩
      | true =>
        go_wp2_with fail
        go_at_call 46
        refine (HVY.out W).mono ?_
        rintro e w9 ⟨rfl, hw9⟩
        rw [hw9]
        clear hw9 w9
        go_wp2_with fail
        go_meet
        case rel => exact ⟨rfl, rfl⟩
    all_goals
      go_wp2_with fail
      go_meet
      case rel => exact ⟨by simp, rfl⟩
  case rest =>
  obtain ⟨rfl, rfl⟩ := hcut
  obtain ⟨W, hW⟩ : ∃ V, V = wc := ⟨wc, rfl⟩
  subst hW
  obtain ⟨c1, hc1⟩ : ∃ z, (z1 && v1 && (z2 && v2)) = z := ⟨_, rfl⟩
  rw [hc1] at HF ⊢
  cases c1 with
  | true =>
    rw [if_pos rfl] at HF
    have HXY := hid (show x ≠ y by
      simp only [Bool.and_eq_true] at hc1
      obtain ⟨⟨h1, _⟩, h2, _⟩ := hc1
      rw [h1] at hz1
      rw [h2] at hz2
      have e1 : (p : Int) = 0 := by simpa using hz1
      have e2 : (q : Int) = 0 := by simpa using hz2
      have e3 : bp = true := by rw [← HBP.out, e1, e2]; rfl
      have e4 := HC0.out
      rw [e3, Bool.true_and] at e4
      rw [HBQ.out] at e4
      exact of_decide_eq_false e4)
    clear hc1
    have HSX := hid (show x.size ≤ 140737488351232 from Nat.le_trans (leaf_size HTX.out.2) (by decide))
    have HSY := hid (show y.size ≤ 140737488351232 from Nat.le_trans (leaf_size HUY.out.2) (by decide))
    obtain ⟨b, hb⟩ : ∃ z, Op.bytesLess x.toList y.toList = z := ⟨_, rfl⟩
    have HB := hid (show hiN x y = (if b = true then y else x) ∧ loN x y = (if b = true then x else y) from ⟨hi_of hb, lo_of hb⟩)
    have hmx := run_max Tryd.prog #[9, 9] 9 x y W hb
    have hmn := run_min Tryd.prog #[9, 9] 9 x y W (fun e => HXY.out (toList_inj e)) hb
    clear hb
    cases b
    all_goals
      simp only [Bool.false_eq_true, if_false, if_true] at hmx hmn HB
      go_wp2_with fail
      go_ret2
      rw [HF.out, HB.out.1, HB.out.2]
      exact ⟨_, 1, rfl, gs_uno (K := fun _ => True) (blk0 _ _) (by first | exact HSX.out | exact HSY.out) ⟨none, 0, rfl, by first | exact HSY.out | exact HSX.out, by decide, .inl rfl⟩, XU.out.trans (Ext.alloc _ _)⟩
  | false =>
  rw [if_neg (by simp)] at HF
  clear hc1
  have HC := hid (show ∀ W', Ext W W' → (Ext W W' ∧ W'.cell? ⟨w1.heap.size, 0, none⟩ = some (.int .i64 (p : Int)) ∧ W'.cell? ⟨w1.heap.size, 1, none⟩ = some (.string x) ∧ W'.cell? ⟨w2.heap.size, 0, none⟩ = some (.int .i64 (q : Int)) ∧ W'.cell? ⟨w2.heap.size, 1, none⟩ = some (.string y)) from fun W' X => ⟨X, cell_of (X.block HZ1.out) rfl, cell_of (X.block HZ1.out) rfl, cell_of (X.block HZ2.out) rfl, cell_of (X.block HZ2.out) rfl⟩)
  go_upto_region 12 with fail
  go_cut [78] (fun s78 wx => s78 = .bool (z1 && v1 && !bq) ∧ wx = W)
  case first =>
    cases z1 with
    | false =>
      go_wp2_with fail
      go_meet
      case rel => exact ⟨rfl, rfl⟩
    | true =>
      go_wp2_with fail
      go_at_call 46
      refine (HVX.out W).mono ?_
      rintro e w9 ⟨rfl, hw9⟩
      rw [hw9]
      clear hw9 w9
      cases v1 <;> cases bq
      all_goals
        go_wp2_with fail
        go_meet
        case rel => exact ⟨rfl, rfl⟩
  case rest =>
  obtain ⟨rfl, rfl⟩ := hcut
  obtain ⟨W, hW⟩ : ∃ V, V = wc := ⟨wc, rfl⟩
  subst hW
  obtain ⟨c2, hc2⟩ : ∃ z, (z1 && v1 && !bq) = z := ⟨_, rfl⟩
  rw [hc2] at HF ⊢
  clear hc2
  cases c2 with
  | true =>
    rw [if_pos rfl] at HF
    go_wp2_with fail
    go_region_held3 (fun W' => Ext W W' ∧ W'.cell? ⟨w1.heap.size, 0, none⟩ = some (.int .i64 (p : Int)) ∧ W'.cell? ⟨w1.heap.size, 1, none⟩ = some (.string x) ∧ W'.cell? ⟨w2.heap.size, 0, none⟩ = some (.int .i64 (q : Int)) ∧ W'.cell? ⟨w2.heap.size, 1, none⟩ = some (.string y)) (first
      | with_reducible exact HC.out _ (Ext.refl _).drew
      | with_reducible exact HC.out _ Z1
      | with_reducible exact HC.out _ (Z1.trans (Ext.alloc _ _))) (first
      | (go_at_call 47; have ZS := (‹Ext W _ ∧ _›).1; refine (whole_any q y _ (by have := HNP.out; omega) (Nat.le_trans (leaf_size HUY.out.2) (by decide))).mono ?_; rintro e w6 ⟨v6, rfl, hr6, hx6⟩; have Z1 : Ext W w6 := ZS.trans hx6; obtain ⟨a9, c9, rfl⟩ := hr6.shape; have R6 := hid hr6; obtain ⟨nm, hnm⟩ : ∃ nm, (chain q y).name = nm := ⟨_, rfl⟩; obtain ⟨kk, hkk⟩ : ∃ kk, (chain q y).kids.length = kk := ⟨_, rfl⟩; rw [hnm, hkk] at R6 ⊢; clear hnm hkk hr6 hx6))
    all_goals
      go_wp2_with fail
      go_ret2
      rw [HF.out]
      refine ⟨_, q + 1, rfl, gs_uno (blk0 _ _) (Nat.le_trans (leaf_size HTX.out.2) (by decide)) (R6.out.later ?_), XU.out.trans (Z1.trans ?_)⟩
      · repeat (first | with_reducible exact Ext.alloc _ _ | with_reducible refine Ext.drew ?_)
      · repeat (first | with_reducible exact Ext.alloc _ _ | with_reducible refine Ext.drew ?_)
  | false =>
  rw [if_neg (by simp)] at HF
  go_upto_region 14 with fail
  go_cut [100] (fun s100 wx => s100 = .bool (z2 && v2 && !bq) ∧ wx = W)
  case first =>
    cases z2 with
    | false =>
      go_wp2_with fail
      go_meet
      case rel => exact ⟨rfl, rfl⟩
    | true =>
      go_wp2_with fail
      go_at_call 46
      refine (HVY.out W).mono ?_
      rintro e w9 ⟨rfl, hw9⟩
      rw [hw9]
      clear hw9 w9
      cases v2 <;> cases bq
      all_goals
        go_wp2_with fail
        go_meet
        case rel => exact ⟨rfl, rfl⟩
  case rest =>
  obtain ⟨rfl, rfl⟩ := hcut
  obtain ⟨W, hW⟩ : ∃ V, V = wc := ⟨wc, rfl⟩
  subst hW
  obtain ⟨c3, hc3⟩ : ∃ z, (z2 && v2 && !bq) = z := ⟨_, rfl⟩
  rw [hc3] at HF ⊢
  clear hc3
  cases c3 with
  | true =>
    rw [if_pos rfl] at HF
    go_wp2_with fail
    go_region_held3 (fun W' => Ext W W' ∧ W'.cell? ⟨w1.heap.size, 0, none⟩ = some (.int .i64 (p : Int)) ∧ W'.cell? ⟨w1.heap.size, 1, none⟩ = some (.string x) ∧ W'.cell? ⟨w2.heap.size, 0, none⟩ = some (.int .i64 (q : Int)) ∧ W'.cell? ⟨w2.heap.size, 1, none⟩ = some (.string y)) (first
      | with_reducible exact HC.out _ (Ext.refl _).drew
      | with_reducible exact HC.out _ Z1
      | with_reducible exact HC.out _ (Z1.trans (Ext.alloc _ _))) (first
      | (go_at_call 47; have ZS := (‹Ext W _ ∧ _›).1; refine (whole_any p x _ (by have := HNP.out; omega) (Nat.le_trans (leaf_size HTX.out.2) (by decide))).mono ?_; rintro e w6 ⟨v6, rfl, hr6, hx6⟩; have Z1 : Ext W w6 := ZS.trans hx6; obtain ⟨a9, c9, rfl⟩ := hr6.shape; have R6 := hid hr6; obtain ⟨nm, hnm⟩ : ∃ nm, (chain p x).name = nm := ⟨_, rfl⟩; obtain ⟨kk, hkk⟩ : ∃ kk, (chain p x).kids.length = kk := ⟨_, rfl⟩; rw [hnm, hkk] at R6 ⊢; clear hnm hkk hr6 hx6))
    all_goals
      go_wp2_with fail
      go_ret2
      rw [HF.out]
      refine ⟨_, p + 1, rfl, gs_uno (blk0 _ _) (Nat.le_trans (leaf_size HUY.out.2) (by decide)) (R6.out.later ?_), XU.out.trans (Z1.trans ?_)⟩
      · repeat (first | with_reducible exact Ext.alloc _ _ | with_reducible refine Ext.drew ?_)
      · repeat (first | with_reducible exact Ext.alloc _ _ | with_reducible refine Ext.drew ?_)
  | false =>
    rw [if_neg (by simp)] at HF
    go_wp2_with fail
    go_ret2
    rw [HF.out]
    exact ⟨_, 0, rfl, GsRd.none _ _ _, XU.out⟩
end Go.Proofs.YtllbelglilkdpaaDoor
