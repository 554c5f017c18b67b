/-
  What Unify and Apply come to, held against each other.
-/
import Derived.Test.YtllbelglilkdpaaDoorSApply
import Derived.Test.YtllbelglilkdpaaDoorSSameF
namespace Go.Proofs.YtllbelglilkdpaaDoor
open Go.RowKit
theorem bl_asym : ∀ (x y : List UInt8), Op.bytesLess x y = true → Op.bytesLess y x = false
  | [], [], h => by simp [Op.bytesLess] at h
  | [], _ :: _, _ => by simp [Op.bytesLess]
  | _ :: _, [], h => by simp [Op.bytesLess] at h
  | a :: x, b :: y, h => by
    simp only [Op.bytesLess, Bool.or_eq_true, Bool.and_eq_true, decide_eq_true_eq, beq_iff_eq] at h
    simp only [Op.bytesLess, Bool.or_eq_false_iff, Bool.and_eq_false_iff, decide_eq_false_iff_not, beq_eq_false_iff_ne]
    rcases h with h | ⟨rfl, h⟩
    · rw [UInt8.lt_iff_toNat_lt] at h
      refine ⟨fun h2 => by rw [UInt8.lt_iff_toNat_lt] at h2; omega, .inl (fun e => by subst e; omega)⟩
    · exact ⟨fun h2 => by rw [UInt8.lt_iff_toNat_lt] at h2; omega, .inr (bl_asym x y h)⟩
theorem bl_tri : ∀ (x y : List UInt8), Op.bytesLess x y = false → Op.bytesLess y x = false → x = y
  | [], [], _, _ => rfl
  | [], _ :: _, h, _ => by simp [Op.bytesLess] at h
  | _ :: _, [], _, h => by simp [Op.bytesLess] at h
  | a :: x, b :: y, h, h' => by
    simp only [Op.bytesLess, Bool.or_eq_false_iff, Bool.and_eq_false_iff, decide_eq_false_iff_not, beq_eq_false_iff_ne] at h h'
    have hab : a = b := by
      have h1 := h.1
      have h2 := h'.1
      rw [UInt8.lt_iff_toNat_lt] at h1 h2
      exact UInt8.toNat_inj.1 (by omega)
    subst hab
    rw [bl_tri x y (h.2.resolve_left (fun h => h rfl)) (h'.2.resolve_left (fun h => h rfl))]
theorem opS_zero {s : Sh} (h : opS s = true) : s.1 = 0 := by
  unfold opS at h
  simp only [Bool.and_eq_true, decide_eq_true_eq] at h
  exact h.1
theorem meetPQ_swap (P Q : Sh) : meetPQ P Q = meetPQ Q P ∨ (opS P = false ∧ opS Q = false ∧ meetPQ P Q = (P, Q) ∧ meetPQ Q P = (Q, P)) := by
  unfold meetPQ
  cases hp : opS P with
  | false =>
    cases hq : opS Q with
    | false => exact .inr ⟨rfl, rfl, rfl, rfl⟩
    | true => exact .inl rfl
  | true =>
    cases hq : opS Q with
    | false => exact .inl rfl
    | true =>
      left
      simp only [Bool.not_true, Bool.false_or, Bool.true_and]
      cases h1 : Op.bytesLess P.2.toList Q.2.toList with
      | true => rw [bl_asym _ _ h1]; rfl
      | false =>
        cases h2 : Op.bytesLess Q.2.toList P.2.toList with
        | true => rfl
        | false =>
          have e := toList_inj (bl_tri _ _ h1 h2)
          have e1 : P = Q := Prod.ext ((opS_zero hp).trans (opS_zero hq).symm) e
          subst e1
          rfl
theorem uniS_sym (a b : Nat × ByteArray) : uniS a b = uniS b a := by
  have e1 : (if (b.1 : Int) < a.1 then (b.1 : Int) else a.1) = (if (a.1 : Int) < b.1 then (a.1 : Int) else b.1) := by split <;> split <;> omega
  have hab : barS a b = meetPQ ((a.1 : Int) + -(if (b.1 : Int) < a.1 then (b.1 : Int) else a.1), a.2) ((b.1 : Int) + -(if (b.1 : Int) < a.1 then (b.1 : Int) else a.1), b.2) := rfl
  have hba : barS b a = meetPQ ((b.1 : Int) + -(if (b.1 : Int) < a.1 then (b.1 : Int) else a.1), b.2) ((a.1 : Int) + -(if (b.1 : Int) < a.1 then (b.1 : Int) else a.1), a.2) := by rw [e1]; rfl
  rcases meetPQ_swap ((a.1 : Int) + -(if (b.1 : Int) < a.1 then (b.1 : Int) else a.1), a.2) ((b.1 : Int) + -(if (b.1 : Int) < a.1 then (b.1 : Int) else a.1), b.2) with h | ⟨h1, h2, h3, h4⟩
  · unfold uniS
    rw [hab, hba, h]
  · unfold uniS
    rw [hab, hba, h3, h4]
    generalize ((a.1 : Int) + -(if (b.1 : Int) < a.1 then (b.1 : Int) else a.1), a.2) = P at *
    generalize ((b.1 : Int) + -(if (b.1 : Int) < a.1 then (b.1 : Int) else a.1), b.2) = Q at *
    by_cases e : P = Q
    · rw [if_pos e, if_pos e.symm]
    · have e' : ¬ Q = P := fun h => e h.symm
      rw [if_neg (show ¬ (P, Q).1 = (P, Q).2 from e), if_neg (show ¬ (Q, P).1 = (Q, P).2 from e')]
      rw [if_neg (fun h => by rw [show opS (P, Q).1 = false from h1] at h; cases h.1), if_neg (fun h => by rw [show opS (Q, P).1 = false from h2] at h; cases h.1)]
theorem uniT_sym (t u : S) : uniT t u = uniT u t := by
  unfold uniT
  cases shp t with
  | none =>
    cases shp u with
    | none => rfl
    | some b => rfl
  | some a =>
    cases shp u with
    | none => rfl
    | some b => exact uniS_sym a b
/-- What Unify's answers are. -/
theorem uniS_cases {a b : Nat × ByteArray} (ha : a.1 ≤ 64 ∧ leafL a.2.data.toList = true) (hb : b.1 ≤ 64 ∧ leafL b.2.data.toList = true) :
    (uniS a b = some none ∧ a = b) ∨ (∃ k q m, uniS a b = some (some (k, q)) ∧ vrbL k.data.toList = true ∧ q.2 ≠ k ∧ q.1 ≤ 64 ∧ leafL q.2.data.toList = true ∧ ((a = (m, k) ∧ b = (q.1 + m, q.2)) ∨ (b = (m, k) ∧ a = (q.1 + m, q.2)))) ∨
    (uniS a b = none ∧ ((a.2 = b.2 ∧ a.1 ≠ b.1) ∨ (a ≠ b ∧ (a.1 ≤ b.1 → grdL a.2.data.toList = true) ∧ (b.1 ≤ a.1 → grdL b.2.data.toList = true)))) := by
  obtain ⟨p, q, hpq, hor⟩ := barS_two a b
  obtain ⟨an, ax⟩ := a
  obtain ⟨bn, bx⟩ := b
  obtain ⟨pn, px⟩ := p
  obtain ⟨qn, qx⟩ := q
  simp only [Prod.mk.injEq] at hor ha hb
  by_cases h1 : (shI (pn, px)) = (shI (qn, qx))
  · left
    have h1' : (pn : Int) = qn ∧ px = qx := by simpa using h1
    refine ⟨by unfold uniS; rw [hpq]; exact if_pos h1, ?_⟩
    rcases hor with ⟨⟨h2, h3⟩, h4, h5⟩ | ⟨⟨h2, h3⟩, h4, h5⟩
    · exact Prod.ext (by show an = bn; omega) (by show ax = bx; rw [← h3, ← h5, h1'.2])
    · exact Prod.ext (by show an = bn; omega) (by show ax = bx; rw [← h3, ← h5, h1'.2])
  · right
    by_cases h2 : opS (shI (pn, px)) = true ∧ px ≠ qx
    · left
      have hpl : leafL px.data.toList = true := by
        rcases hor with ⟨⟨_, h3⟩, _⟩ | ⟨_, _, h3⟩
        · rw [h3]; exact ha.2
        · rw [h3]; exact hb.2
      have hql : qn ≤ 64 ∧ leafL qx.data.toList = true := by
        rcases hor with ⟨_, h4, h3⟩ | ⟨⟨h4, h3⟩, _⟩
        · rw [h3]; exact ⟨by omega, hb.2⟩
        · rw [h3]; exact ⟨by omega, ha.2⟩
      obtain ⟨hv, h0⟩ := op_var hpl h2.1
      have h0' : pn = 0 := by have : (pn : Int) = 0 := h0; omega
      refine ⟨px, (qn, qx), min an bn, ?_, hv, fun e => h2.2 e.symm, hql.1, hql.2, ?_⟩
      · unfold uniS
        rw [hpq, if_neg h1, if_pos h2]
        simp
      · rcases hor with ⟨⟨h3, h4⟩, h5, h6⟩ | ⟨⟨h3, h4⟩, h5, h6⟩
        · left
          exact ⟨Prod.ext (by show an = min an bn; omega) h4.symm, Prod.ext (by show bn = qn + min an bn; omega) h6.symm⟩
        · right
          exact ⟨Prod.ext (by show bn = min an bn; omega) h6.symm, Prod.ext (by show an = qn + min an bn; omega) h4.symm⟩
    · right
      refine ⟨by unfold uniS; rw [hpq, if_neg h1, if_neg h2], ?_⟩
      by_cases hx : ax = bx
      · left
        refine ⟨hx, fun hn => h1 ?_⟩
        have hn' : an = bn := hn
        rcases hor with ⟨⟨h3, h4⟩, h5, h6⟩ | ⟨⟨h3, h4⟩, h5, h6⟩
        · rw [h4, h6, hx, show pn = qn by omega]
        · rw [h4, h6, hx, show pn = qn by omega]
      · right
        refine ⟨fun e => hx (Prod.mk.inj e).2, ?_⟩
        have hno : opS (shI (pn, px)) = false := by
          cases ho : opS (shI (pn, px)) with
          | false => rfl
          | true =>
            refine absurd ⟨ho, fun e => ?_⟩ h2
            rcases hor with ⟨⟨h3, h4⟩, h5, h6⟩ | ⟨⟨h3, h4⟩, h5, h6⟩
            · exact hx (by rw [← h4, ← h6, e])
            · exact hx (by rw [← h4, ← h6, e])
        have key : ∀ s : Sh, opS s = false → s.1 = 0 → grdL s.2.data.toList = true := fun s hs h0 => by
          unfold opS at hs
          rw [decide_eq_true h0] at hs
          simpa using hs
        have hbar : barS (an, ax) (bn, bx) = meetPQ ((an : Int) + -(if (bn : Int) < an then (bn : Int) else an), ax) ((bn : Int) + -(if (bn : Int) < an then (bn : Int) else an), bx) := rfl
        have hboth : opS ((an : Int) + -(if (bn : Int) < an then (bn : Int) else an), ax) = false ∧ opS ((bn : Int) + -(if (bn : Int) < an then (bn : Int) else an), bx) = false := by
          rw [hbar] at hpq
          generalize ((an : Int) + -(if (bn : Int) < an then (bn : Int) else an), ax) = A at *
          generalize ((bn : Int) + -(if (bn : Int) < an then (bn : Int) else an), bx) = B at *
          unfold meetPQ at hpq
          split at hpq
          · next hh =>
            have e1' : B = shI (pn, px) := congrArg Prod.fst hpq
            rw [← e1'] at hno
            rw [hno] at hh
            simp at hh
          · next hh =>
            have e1' : A = shI (pn, px) := congrArg Prod.fst hpq
            rw [← e1'] at hno
            rw [hno] at hh
            refine ⟨hno, ?_⟩
            simpa using hh
        refine ⟨fun hle => key _ hboth.1 ?_, fun hle => key _ hboth.2 ?_⟩
        · have hle' : an ≤ bn := hle
          show (an : Int) + -(if (bn : Int) < an then (bn : Int) else an) = 0
          split <;> omega
        · have hle' : bn ≤ an := hle
          show (bn : Int) + -(if (bn : Int) < an then (bn : Int) else an) = 0
          split <;> omega
/-- What the givens make of a variable. -/
def theta (l : List (ByteArray × S)) (y : ByteArray) : Int × ByteArray := (tauG l y).getD (0, y)
theorem apS_ok {t : S} {l : List (ByteArray × S)} {n : Nat} {x : ByteArray} (ht : shp t = some (n, x)) (h : (apS t l).1 = 0) : goodG l ∧ (theta l x).1 + n ≤ 64 ∧ 0 ≤ (theta l x).1 ∧ leafL (theta l x).2.data.toList = true ∧ (apS t l).2 = chain ((theta l x).1 + n).toNat (theta l x).2 := by
  by_cases he : eAt t l = 0
  · have hle := shp_le ht
    rw [apS_zero he ht] at h ⊢
    by_cases hg : goodG l
    · rw [if_pos hg] at h ⊢
      refine ⟨hg, ?_⟩
      unfold theta
      cases hτ : tauG l x with
      | none =>
        refine ⟨by show (0 : Int) + n ≤ 64; omega, Int.le_refl _, hle.2, ?_⟩
        show chain n x = chain ((0 : Int) + n).toNat x
        rw [show ((0 : Int) + n).toNat = n by omega]
      | some s =>
        rw [hτ] at h
        simp only at h ⊢
        obtain ⟨g, hg1, hs⟩ := tauG_mem hτ
        obtain ⟨sn, sx, hsn⟩ := (eAt_all he).2 g hg1
        have hs2 : s = ((sn : Int), sx) := by rw [hs]; unfold shO; rw [hsn]; rfl
        subst hs2
        have hl2 := shp_le hsn
        split at h
        · cases h
        · next hn =>
          rw [if_neg hn]
          have hn' : ¬ (64 : Int) < (sn : Int) + n := hn
          refine ⟨by show (sn : Int) + n ≤ 64; omega, by show (0 : Int) ≤ sn; omega, hl2.2, rfl⟩
    · rw [if_neg hg] at h; cases h
  · rw [(apS_bad he).1] at h; cases h
theorem theta_grd {l : List (ByteArray × S)} (hg : goodG l) {x : ByteArray} (h : grdL x.data.toList = true) : theta l x = (0, x) := by
  unfold theta
  cases hτ : tauG l x with
  | none => rfl
  | some s =>
    have := (tauG_some l x).1 (by rw [hτ]; rfl)
    obtain ⟨g, hg1, rfl⟩ := List.mem_map.1 this
    obtain ⟨b, hb, _⟩ := vrb_one (hg.2 g hg1)
    rw [hb] at h
    simp [grdL] at h
theorem sameS_chains {n m : Nat} {x y : ByteArray} (hn : n ≤ 64) (hm : m ≤ 64) (hx : leafL x.data.toList = true) (hy : leafL y.data.toList = true) : sameS (chain n x) (chain m y) = (decide (n = m) && decide (x = y)) := by
  unfold sameS
  rw [shp_chain hn hx, shp_chain hm hy]
/-- What Unify gives makes both the same. -/
theorem uni_app {t u : S} {a b : Nat × ByteArray} (ht : shp t = some a) (hu : shp u = some b) (ho : (uniS a b).isSome = true) : apS t (uniL (uniS a b)) = apS u (uniL (uniS a b)) ∧ (apS t (uniL (uniS a b))).1 = 0 ∧ sameS (apS t (uniL (uniS a b))).2 (apS t (uniL (uniS a b))).2 = true := by
  obtain ⟨an, ax⟩ := a
  obtain ⟨bn, bx⟩ := b
  have ha := shp_le ht
  have hb := shp_le hu
  rcases uniS_cases (a := (an, ax)) (b := (bn, bx)) ha hb with ⟨h1, h2⟩ | ⟨k, q, m, h1, hv, hqk, hq1, hq2, hor⟩ | ⟨h1, _⟩
  · obtain ⟨rfl, rfl⟩ := Prod.mk.inj h2
    rw [h1]
    have key : ∀ s : S, shp s = some (an, ax) → apS s (uniL (some none)) = (0, chain an ax) := fun s hs => by
      have he : eAt s [] = 0 := by rw [eAt_nil]; unfold mayS; rw [hs]; rfl
      show apS s [] = _
      rw [apS_zero he hs, if_pos ⟨by simp, by simp⟩]
      rfl
    rw [key t ht, key u hu]
    exact ⟨rfl, rfl, by rw [sameS_chains ha.1 ha.1 ha.2 ha.2]; simp⟩
  · rw [h1]
    obtain ⟨qn, qx⟩ := q
    have hL : uniL (some (some (k, (qn, qx)))) = [(k, chain qn qx)] := rfl
    rw [hL]
    have hsh : shp (chain qn qx) = some (qn, qx) := shp_chain hq1 hq2
    have hgd : goodG [(k, chain qn qx)] := ⟨by simp, by simpa using hv⟩
    have he : ∀ (s : S) (c : Nat × ByteArray), shp s = some c → eAt s [(k, chain qn qx)] = 0 := fun s c hs => by
      unfold eAt
      rw [hs]
      simp [hsh]
    have hτ : ∀ y, tauG [(k, chain qn qx)] y = if y = k then some ((qn : Int), qx) else none := fun y => by
      have e : tauG [(k, chain qn qx)] y = if y = k then some (shO (chain qn qx)) else none := rfl
      rw [e]
      have e2 : shO (chain qn qx) = ((qn : Int), qx) := by unfold shO; rw [hsh]; rfl
      rw [e2]
    have k1 : ∀ (s : S), shp s = some (m, k) → qn + m ≤ 64 → apS s [(k, chain qn qx)] = (0, chain (qn + m) qx) := fun s hs hle => by
      rw [apS_zero (he s _ hs) hs, if_pos hgd, hτ, if_pos rfl]
      show (if (64 : Int) < (qn : Int) + m then ((2 : Int), S.node ⟨#[]⟩ []) else (0, chain ((qn : Int) + m).toNat qx)) = _
      rw [if_neg (by omega), show ((qn : Int) + m).toNat = qn + m by omega]
    have k2 : ∀ (s : S), shp s = some (qn + m, qx) → apS s [(k, chain qn qx)] = (0, chain (qn + m) qx) := fun s hs => by
      rw [apS_zero (he s _ hs) hs, if_pos hgd, hτ, if_neg hqk]
    rcases hor with ⟨e1, e2⟩ | ⟨e1, e2⟩
    · rw [e1] at ht
      rw [e2] at hu
      have hle := (shp_le hu).1
      rw [k1 t ht hle, k2 u hu]
      exact ⟨rfl, rfl, by rw [sameS_chains hle hle hq2 hq2]; simp⟩
    · rw [e1] at hu
      rw [e2] at ht
      have hle := (shp_le ht).1
      rw [k1 u hu hle, k2 t ht]
      exact ⟨rfl, rfl, by rw [sameS_chains hle hle hq2 hq2]; simp⟩
  · rw [h1] at ho; cases ho
/-- Any other sorts that make both the same come of it. -/
theorem uni_most {t u : S} {a b : Nat × ByteArray} {l : List (ByteArray × S)} (ht : shp t = some a) (hu : shp u = some b) (h1 : (apS t l).1 = 0) (h2 : (apS u l).1 = 0) (hs : sameS (apS t l).2 (apS u l).2 = true) :
    (uniS a b).isSome = true ∧ ∀ k q, uniS a b = some (some (k, q)) → (apS (.node k []) l).1 = 0 → (apS (chain q.1 q.2) l).1 = 0 → sameS (apS (.node k []) l).2 (apS (chain q.1 q.2) l).2 = true := by
  obtain ⟨an, ax⟩ := a
  obtain ⟨bn, bx⟩ := b
  have ha := shp_le ht
  have hb := shp_le hu
  obtain ⟨hg, ga, ga0, gal, ge⟩ := apS_ok ht h1
  obtain ⟨_, gb, gb0, gbl, ge'⟩ := apS_ok hu h2
  rw [ge, ge', sameS_chains (by omega) (by omega) gal gbl] at hs
  simp only [Bool.and_eq_true, decide_eq_true_eq] at hs
  obtain ⟨hs1, hs2⟩ := hs
  rcases uniS_cases (a := (an, ax)) (b := (bn, bx)) ha hb with ⟨e1, e2⟩ | ⟨k, q, m, e1, hv, hqk, hq1, hq2, hor⟩ | ⟨e1, hor⟩
  · exact ⟨by rw [e1]; rfl, fun k q h => by rw [e1] at h; cases h⟩
  · refine ⟨by rw [e1]; rfl, fun k' q' h => ?_⟩
    rw [e1] at h
    obtain ⟨rfl, rfl⟩ := Prod.mk.inj (Option.some.inj (Option.some.inj h))
    intro z1 z2
    obtain ⟨qn, qx⟩ := q
    have hkl : leafL k.data.toList = true := by unfold leafL; rw [hv]; simp
    have hk : shp (.node k []) = some (0, k) := shp_chain (n := 0) (by omega) hkl
    have hq : shp (chain qn qx) = some (qn, qx) := shp_chain hq1 hq2
    obtain ⟨_, ka, ka0, kal, ke⟩ := apS_ok hk z1
    obtain ⟨_, qa, qa0, qal, qe⟩ := apS_ok hq z2
    rw [ke]
    show sameS _ (apS (chain qn qx) l).2 = true
    rw [qe, sameS_chains (by omega) (by omega) kal qal]
    simp only [Bool.and_eq_true, decide_eq_true_eq]
    rcases hor with ⟨c1, c2⟩ | ⟨c1, c2⟩
    · obtain ⟨rfl, rfl⟩ := Prod.mk.inj c1
      obtain ⟨rfl, rfl⟩ := Prod.mk.inj c2
      exact ⟨by omega, hs2⟩
    · obtain ⟨rfl, rfl⟩ := Prod.mk.inj c1
      obtain ⟨rfl, rfl⟩ := Prod.mk.inj c2
      exact ⟨by omega, hs2.symm⟩
  · exfalso
    rcases hor with ⟨c1, c2⟩ | ⟨c1, c2, c3⟩
    · have c1' : ax = bx := c1
      subst c1'
      exact c2 (by show an = bn; omega)
    · by_cases hle : an ≤ bn
      · have g1 := theta_grd hg (c2 hle)
        have g1' : theta l ax = (0, ax) := g1
        rw [g1'] at hs1 hs2
        simp only at hs1 hs2
        have hle2 : bn ≤ an := by omega
        have g2 : theta l bx = (0, bx) := theta_grd hg (c3 hle2)
        rw [g2] at hs1 hs2
        simp only at hs1 hs2
        exact c1 (Prod.ext (by show an = bn; omega) hs2)
      · have hle2 : bn ≤ an := by omega
        have g2 : theta l bx = (0, bx) := theta_grd hg (c3 hle2)
        rw [g2] at hs1 hs2
        simp only at hs1 hs2
        omega
end Go.Proofs.YtllbelglilkdpaaDoor
