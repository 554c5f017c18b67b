/-
  The sort of a plain value, by data; what a solver's map says, and how it grows.
-/
import Derived.Test.YtllbelglilkdpaaDoorSFresh
import Derived.Test.YtllbelglilkdpaaDoorSOf
import Derived.Test.YtllbelglilkdpaaDoorSUniG
namespace Go.Proofs.YtllbelglilkdpaaDoor
open Go.RowKit
/-- Two sorts of values brought together: so many lists, and a ground name or none. -/
def uniA (a b : Nat × Option ByteArray) : Option (Nat × Option ByteArray) := match a.2, b.2 with
  | some g, some h => if a.1 = b.1 ∧ g = h then some a else none
  | none, some _ => if a.1 ≤ b.1 then some b else none
  | some _, none => if b.1 ≤ a.1 then some a else none
  | none, none => some (max a.1 b.1, none)
mutual
/-- The sort of a plain value. -/
def srt : T → Option (Nat × Option ByteArray)
  | .node k _ _ ks => if k = 5 then (srtL (0, none) ks).map (fun a => (a.1 + 1, a.2)) else some (0, some (nameB k))
def srtL (acc : Nat × Option ByteArray) : List T → Option (Nat × Option ByteArray)
  | [] => some acc
  | t :: r => match srt t with
    | none => none
    | some b => match uniA acc b with
      | none => none
      | some c => srtL c r
end
theorem srtL_snoc (t : T) : ∀ (l : List T) (acc : Nat × Option ByteArray), srtL acc (l ++ [t]) = match srtL acc l with
    | none => none
    | some a => match srt t with
      | none => none
      | some b => uniA a b
  | [], acc => by
    show srtL acc (t :: []) = _
    rw [show srtL acc [] = some acc by rw [srtL], srtL]
    cases srt t with
    | none => rfl
    | some b =>
      show (match uniA acc b with | none => none | some c => srtL c []) = uniA acc b
      cases uniA acc b with
      | none => rfl
      | some c =>
        show srtL c [] = some c
        rw [srtL]
  | x :: l, acc => by
    show srtL acc (x :: (l ++ [t])) = _
    rw [srtL, srtL]
    cases srt x with
    | none => rfl
    | some b =>
      show (match uniA acc b with | none => none | some c => srtL c (l ++ [t])) = (match (match uniA acc b with | none => none | some c => srtL c l) with | none => none | some a => match srt t with | none => none | some b => uniA a b)
      cases uniA acc b with
      | none => rfl
      | some c => exact srtL_snoc t l c
theorem srtL_app (l r : List T) (acc : Nat × Option ByteArray) (h : srtL acc l = none) : srtL acc (l ++ r) = none := by
  induction l generalizing acc with
  | nil => rw [srtL] at h; cases h
  | cons x l ih =>
    show srtL acc (x :: (l ++ r)) = none
    rw [srtL] at h ⊢
    cases hx : srt x with
    | none => rfl
    | some b =>
      rw [hx] at h
      show (match uniA acc b with | none => none | some c => srtL c (l ++ r)) = none
      have h' : (match uniA acc b with | none => none | some c => srtL c l) = none := h
      cases hu : uniA acc b with
      | none => rfl
      | some c => rw [hu] at h'; exact ih c h'
theorem name_grd (k : Int) : grdL (nameB k).data.toList = true ∧ (nameB k).size ≤ 5 := by
  unfold nameB
  split
  · exact ⟨rfl, by decide⟩
  · split
    · exact ⟨rfl, by decide⟩
    · split
      · exact ⟨rfl, by decide⟩
      · exact ⟨rfl, by decide⟩
/-- Whether ground. -/
def okG (a : Nat × Option ByteArray) (m : Nat) : Prop := a.1 ≤ m ∧ ∀ g, a.2 = some g → grdL g.data.toList = true ∧ g.size ≤ 5
theorem uniA_ok {a b c : Nat × Option ByteArray} {m : Nat} (ha : okG a m) (hb : okG b m) (h : uniA a b = some c) : okG c m := by
  obtain ⟨an, ag⟩ := a
  obtain ⟨bn, bg⟩ := b
  have h1 : an ≤ m := ha.1
  have h2 : bn ≤ m := hb.1
  cases ag with
  | none =>
    cases bg with
    | none =>
      have h' : some (max an bn, none) = some c := h
      rw [← Option.some.inj h']
      exact ⟨by show max an bn ≤ m; omega, fun g hg => by cases hg⟩
    | some y =>
      have h' : (if an ≤ bn then some (bn, some y) else none) = some c := h
      split at h'
      · rw [← Option.some.inj h']; exact hb
      · cases h'
  | some x =>
    cases bg with
    | none =>
      have h' : (if bn ≤ an then some (an, some x) else none) = some c := h
      split at h'
      · rw [← Option.some.inj h']; exact ha
      · cases h'
    | some y =>
      have h' : (if an = bn ∧ x = y then some (an, some x) else none) = some c := h
      split at h'
      · rw [← Option.some.inj h']; exact ha
      · cases h'
mutual
theorem srt_ok : ∀ (t : T) (c : Nat × Option ByteArray), srt t = some c → okG c t.deep
  | .node k n x ks, c, h => by
    rw [srt] at h
    unfold T.deep
    by_cases hk : k = 5
    · rw [if_pos hk] at h ⊢
      cases hl : srtL (0, none) ks with
      | none => rw [hl] at h; cases h
      | some a =>
        rw [hl] at h
        have h' : some (a.1 + 1, a.2) = some c := h
        rw [← Option.some.inj h']
        have := srtL_ok ks (0, none) a (T.deepL ks) ⟨Nat.zero_le _, fun g hg => by cases hg⟩ (Nat.le_refl _) hl
        exact ⟨by show a.1 + 1 ≤ 1 + T.deepL ks; have := this.1; omega, this.2⟩
    · rw [if_neg hk] at h ⊢
      rw [← Option.some.inj h]
      exact ⟨Nat.le_refl _, fun g hg => by rw [← Option.some.inj hg]; exact name_grd k⟩
theorem srtL_ok : ∀ (l : List T) (acc c : Nat × Option ByteArray) (m : Nat), okG acc m → T.deepL l ≤ m → srtL acc l = some c → okG c m
  | [], acc, c, m, ha, _, h => by rw [srtL] at h; rw [← Option.some.inj h]; exact ha
  | t :: r, acc, c, m, ha, hd, h => by
    rw [srtL] at h
    unfold T.deepL at hd
    cases ht : srt t with
    | none => rw [ht] at h; cases h
    | some b =>
      rw [ht] at h
      have h' : (match uniA acc b with | none => none | some c => srtL c r) = some c := h
      have hb := srt_ok t b ht
      cases hu : uniA acc b with
      | none => rw [hu] at h'; cases h'
      | some d =>
        rw [hu] at h'
        exact srtL_ok r d c m (uniA_ok ha ⟨by have := hb.1; omega, hb.2⟩ hu) (by omega) h'
end
/-- A fresh name, of a number between. -/
def isFr (l l' : Nat) (z : ByteArray) : Prop := ∃ i, l < i ∧ i ≤ l' ∧ z = frB i
theorem isFr.grd {l l' : Nat} {z : ByteArray} (h : isFr l l' z) : grdL z.data.toList = false := by obtain ⟨i, _, _, rfl⟩ := h; exact frB_grd i
theorem isFr.mono {l l' m m' : Nat} {z : ByteArray} (h : isFr l l' z) (h1 : m ≤ l) (h2 : l' ≤ m') : isFr m m' z := by obtain ⟨i, a, b, c⟩ := h; exact ⟨i, by omega, by omega, c⟩
theorem isFr.ne {l l' m m' : Nat} {y z : ByteArray} (h : isFr l l' y) (h' : isFr m m' z) (hl : l' ≤ m) : y ≠ z := by
  obtain ⟨i, a, b, rfl⟩ := h
  obtain ⟨j, c, d, rfl⟩ := h'
  intro e
  have := frB_inj e
  omega
/-- A map of fresh names alone, to what is ground or fresh. -/
structure Inv (σ : ByteArray → Option Sh) (l : Nat) : Prop where
  keys : ∀ k s, σ k = some s → isFr 0 l k
  vals : ∀ k s, σ k = some s → grdL s.2.data.toList = true ∨ isFr 0 l s.2
theorem Inv.grd {σ : ByteArray → Option Sh} {l : Nat} (h : Inv σ l) {z : ByteArray} (hz : grdL z.data.toList = true) : σ z = none := by
  cases e : σ z with
  | none => rfl
  | some s => have := (h.keys z s e).grd; rw [hz] at this; cases this
theorem Inv.new {σ : ByteArray → Option Sh} {l i : Nat} (h : Inv σ l) (hi : l < i) : σ (frB i) = none := by
  cases e : σ (frB i) with
  | none => rfl
  | some s => obtain ⟨j, h1, h2, h3⟩ := h.keys _ s e; have := frB_inj h3; omega
theorem Inv.more {σ : ByteArray → Option Sh} {l l' : Nat} (h : Inv σ l) (hl : l ≤ l') : Inv σ l' := ⟨fun k s e => (h.keys k s e).mono (Nat.le_refl _) hl, fun k s e => (h.vals k s e).imp id (fun x => x.mono (Nat.le_refl _) hl)⟩
/-- The same but for fresh names of these numbers. -/
def Agree (σ τ : ByteArray → Option Sh) (l l' : Nat) : Prop := ∀ z, ¬ isFr l l' z → τ z = σ z
theorem Agree.refl (σ : ByteArray → Option Sh) (l l' : Nat) : Agree σ σ l l' := fun _ _ => rfl
theorem Agree.trans {σ τ ρ : ByteArray → Option Sh} {l m n : Nat} (h : Agree σ τ l m) (h' : Agree τ ρ m n) (h1 : l ≤ m) (h2 : m ≤ n) : Agree σ ρ l n := fun z hz => (h' z (fun x => hz (x.mono h1 (Nat.le_refl _)))).trans (h z (fun x => hz (x.mono (Nat.le_refl _) h2)))
theorem Agree.wide {σ τ : ByteArray → Option Sh} {l l' m m' : Nat} (h : Agree σ τ l l') (h1 : m ≤ l) (h2 : l' ≤ m') : Agree σ τ m m' := fun z hz => h z (fun x => hz (x.mono h1 h2))
theorem FndN.pres {σ τ : ByteArray → Option Sh} {l l' : Nat} (hi : Inv σ l) (ha : Agree σ τ l l') : ∀ {k : Nat} {x y : Sh}, ¬ isFr l l' x.2 → FndN σ k x y → FndN τ k x y
  | 0, _, _, hx, ⟨h1, h2, h3⟩ => ⟨h1, by rw [ha _ hx]; exact h2, h3⟩
  | k + 1, x, y, hx, ⟨h1, s, h2, h3, h4⟩ => ⟨h1, s, by rw [ha _ hx]; exact h2, h3, FndN.pres hi ha (x := (s.1 + x.1, s.2)) (fun hf => by
      rcases hi.vals _ s h2 with h | h
      · have := hf.grd; rw [h] at this; cases this
      · exact absurd rfl (h.ne hf (Nat.le_refl _))) h4⟩
/-- A name that is unbound, bound. -/
theorem bind_fnd {σ : ByteArray → Option Sh} {v : ByteArray} {Q : Sh} (hv : σ v = none) (hQ : Q.2 ≠ v) (hQn : σ Q.2 = none) (bQ : Bd Q) : ∀ {k : Nat} {x y : Sh}, y.2 = v → Bd (Q.1 + y.1, Q.2) → FndN σ k x y → FndN (fun q => if q = v then some Q else σ q) (k + 1) x (Q.1 + y.1, Q.2)
  | 0, x, y, hy, hb, ⟨h1, h2, h3⟩ => by
    rw [h3] at hy hb ⊢
    refine ⟨h1, Q, by show (if x.2 = v then some Q else σ x.2) = some Q; rw [if_pos hy], bQ, ?_⟩
    exact ⟨hb, by show (if Q.2 = v then some Q else σ Q.2) = none; rw [if_neg hQ]; exact hQn, rfl⟩
  | k + 1, x, y, hy, hb, ⟨h1, s, h2, h3, h4⟩ => by
    refine ⟨h1, s, ?_, h3, bind_fnd hv hQ hQn bQ hy hb h4⟩
    show (if x.2 = v then some Q else σ x.2) = some s
    rw [if_neg (fun e => by rw [e, hv] at h2; cases h2)]
    exact h2
theorem bind_off {σ : ByteArray → Option Sh} {v : ByteArray} {Q : Sh} (hv : σ v = none) : ∀ {k : Nat} {x y : Sh}, y.2 ≠ v → FndN σ k x y → FndN (fun q => if q = v then some Q else σ q) k x y
  | 0, x, y, hy, ⟨h1, h2, h3⟩ => by
    rw [h3] at hy ⊢
    exact ⟨h1, by show (if x.2 = v then some Q else σ x.2) = none; rw [if_neg hy]; exact h2, rfl⟩
  | k + 1, x, y, hy, ⟨h1, s, h2, h3, h4⟩ => by
    refine ⟨h1, s, ?_, h3, bind_off hv hy h4⟩
    show (if x.2 = v then some Q else σ x.2) = some s
    rw [if_neg (fun e => by rw [e, hv] at h2; cases h2)]
    exact h2
/-- A shape that stands for such a sort, its variable fresh. -/
def Rt (l l' : Nat) (a : Nat × Option ByteArray) (x : Nat × ByteArray) : Prop := x.1 = a.1 ∧ match a.2 with
  | some g => x.2 = g ∧ grdL g.data.toList = true
  | none => isFr l l' x.2
theorem Rt.wide {l l' m m' : Nat} {a : Nat × Option ByteArray} {x : Nat × ByteArray} (h : Rt l l' a x) (h1 : m ≤ l) (h2 : l' ≤ m') : Rt m m' a x := by
  obtain ⟨an, ag⟩ := a
  cases ag with
  | none => exact ⟨h.1, h.2.mono h1 h2⟩
  | some g => exact h
/-- What makes two shapes the same, of any names. -/
theorem uniS_gen (a b : Nat × ByteArray) :
    (uniS a b = some none ∧ a = b) ∨ (∃ k q m, uniS a b = some (some (k, q)) ∧ grdL k.data.toList = false ∧ q.2 ≠ k ∧ ((a = (m, k) ∧ b = (q.1 + m, q.2)) ∨ (b = (m, k) ∧ a = (q.1 + m, q.2)))) ∨
    (uniS a b = none ∧ ((a.2 = b.2 ∧ a.1 ≠ b.1) ∨ (a ≠ b ∧ (a.1 ≤ b.1 → grdL a.2.data.toList = true) ∧ (b.1 ≤ a.1 → grdL b.2.data.toList = true)))) := by
  obtain ⟨p, q, hpq, hor⟩ := barS_two a b
  obtain ⟨an, ax⟩ := a
  obtain ⟨bn, bx⟩ := b
  obtain ⟨pn, px⟩ := p
  obtain ⟨qn, qx⟩ := q
  simp only [Prod.mk.injEq] at hor
  by_cases h1 : (shI (pn, px)) = (shI (qn, qx))
  · left
    have h1' : (pn : Int) = qn ∧ px = qx := by simpa using h1
    refine ⟨by unfold uniS; rw [hpq]; exact if_pos h1, ?_⟩
    rcases hor with ⟨⟨h2, h3⟩, h4, h5⟩ | ⟨⟨h2, h3⟩, h4, h5⟩
    · exact Prod.ext (by show an = bn; omega) (by show ax = bx; rw [← h3, ← h5, h1'.2])
    · exact Prod.ext (by show an = bn; omega) (by show ax = bx; rw [← h3, ← h5, h1'.2])
  · right
    by_cases h2 : opS (shI (pn, px)) = true ∧ px ≠ qx
    · left
      have hv : grdL px.data.toList = false ∧ pn = 0 := by
        have ho := h2.1
        unfold opS at ho
        simp only [Bool.and_eq_true, decide_eq_true_eq, Bool.not_eq_true'] at ho
        exact ⟨ho.2, by have : (pn : Int) = 0 := ho.1; omega⟩
      have h0' := hv.2
      refine ⟨px, (qn, qx), min an bn, ?_, hv.1, fun e => h2.2 e.symm, ?_⟩
      · unfold uniS
        rw [hpq, if_neg h1, if_pos h2]
        simp
      · rcases hor with ⟨⟨h3, h4⟩, h5, h6⟩ | ⟨⟨h3, h4⟩, h5, h6⟩
        · left
          exact ⟨Prod.ext (by show an = min an bn; omega) h4.symm, Prod.ext (by show bn = qn + min an bn; omega) h6.symm⟩
        · right
          exact ⟨Prod.ext (by show bn = min an bn; omega) h6.symm, Prod.ext (by show an = qn + min an bn; omega) h4.symm⟩
    · right
      refine ⟨by unfold uniS; rw [hpq, if_neg h1, if_neg h2], ?_⟩
      by_cases hx : ax = bx
      · left
        refine ⟨hx, fun hn => h1 ?_⟩
        have hn' : an = bn := hn
        rcases hor with ⟨⟨h3, h4⟩, h5, h6⟩ | ⟨⟨h3, h4⟩, h5, h6⟩
        · rw [h4, h6, hx, show pn = qn by omega]
        · rw [h4, h6, hx, show pn = qn by omega]
      · right
        refine ⟨fun e => hx (Prod.mk.inj e).2, ?_⟩
        have hno : opS (shI (pn, px)) = false := by
          cases ho : opS (shI (pn, px)) with
          | false => rfl
          | true =>
            refine absurd ⟨ho, fun e => ?_⟩ h2
            rcases hor with ⟨⟨h3, h4⟩, h5, h6⟩ | ⟨⟨h3, h4⟩, h5, h6⟩
            · exact hx (by rw [← h4, ← h6, e])
            · exact hx (by rw [← h4, ← h6, e])
        have key : ∀ s : Sh, opS s = false → s.1 = 0 → grdL s.2.data.toList = true := fun s hs h0 => by
          unfold opS at hs
          rw [decide_eq_true h0] at hs
          simpa using hs
        have hbar : barS (an, ax) (bn, bx) = meetPQ ((an : Int) + -(if (bn : Int) < an then (bn : Int) else an), ax) ((bn : Int) + -(if (bn : Int) < an then (bn : Int) else an), bx) := rfl
        have hboth : opS ((an : Int) + -(if (bn : Int) < an then (bn : Int) else an), ax) = false ∧ opS ((bn : Int) + -(if (bn : Int) < an then (bn : Int) else an), bx) = false := by
          rw [hbar] at hpq
          generalize ((an : Int) + -(if (bn : Int) < an then (bn : Int) else an), ax) = A at *
          generalize ((bn : Int) + -(if (bn : Int) < an then (bn : Int) else an), bx) = B at *
          unfold meetPQ at hpq
          split at hpq
          · next hh =>
            have e1' : B = shI (pn, px) := congrArg Prod.fst hpq
            rw [← e1'] at hno
            rw [hno] at hh
            simp at hh
          · next hh =>
            have e1' : A = shI (pn, px) := congrArg Prod.fst hpq
            rw [← e1'] at hno
            rw [hno] at hh
            refine ⟨hno, ?_⟩
            simpa using hh
        refine ⟨fun hle => key _ hboth.1 ?_, fun hle => key _ hboth.2 ?_⟩
        · have hle' : an ≤ bn := hle
          show (an : Int) + -(if (bn : Int) < an then (bn : Int) else an) = 0
          split <;> omega
        · have hle' : bn ≤ an := hle
          show (bn : Int) + -(if (bn : Int) < an then (bn : Int) else an) = 0
          split <;> omega
/-- What meet leaves, by what makes them the same. -/
theorem meetR_uni {w w' : World} {kb mb N b1 b2 b3 : Nat} {σ : ByteArray → Option Sh} {a b : Nat × ByteArray} {e : Ending} (hr : MeetR w kb mb N b1 b2 b3 σ (barS a b).1 (barS a b).2 e w') :
    (uniS a b = none ∧ e = .returned (.bool false) ∧ Ext w w') ∨ (uniS a b = some none ∧ e = .returned (.bool true) ∧ Ext w w') ∨ (∃ k q, uniS a b = some (some (k, q)) ∧ e = .returned (.bool true) ∧ Kp (· ≠ mb) w w' ∧ Sol w' kb mb (N + 1) b1 b2 b3 (fun x => if x = k then some (shI q) else σ x)) := by
  obtain ⟨p, q, hpq, _⟩ := barS_two a b
  unfold uniS
  rw [hpq] at hr ⊢
  rcases hr with ⟨h1, h2, h3⟩ | ⟨h1, h2, h3, h4, h5⟩ | ⟨h1, h2, h3, h4⟩
  · exact .inr (.inl ⟨if_pos h1, h2, h3⟩)
  · refine .inr (.inr ⟨p.2, q, ?_, h3, h4, h5⟩)
    rw [if_neg h1, if_pos h2]
    simp
  · refine .inl ⟨?_, h3, h4⟩
    rw [if_neg h1, if_neg h2]
end Go.Proofs.YtllbelglilkdpaaDoor
