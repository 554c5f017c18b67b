/-
  Sorts of values, held against what Unify and Apply come to.
-/
import Derived.Test.YtllbelglilkdpaaDoorSUniM
import Derived.Test.YtllbelglilkdpaaDoorSIsS
import Derived.Test.YtllbelglilkdpaaDoorSApart
namespace Go.Proofs.YtllbelglilkdpaaDoor
open Go.RowKit
/-- A shape that stands for a value's sort. -/
def Std (a : Nat × Option ByteArray) (X : Nat × ByteArray) : Prop := X.1 = a.1 ∧ match a.2 with
  | some g => X.2 = g ∧ grdL g.data.toList = true
  | none => grdL X.2.data.toList = false
theorem Std.fr {a : Nat × Option ByteArray} {X : Nat × ByteArray} (h : Std a X) (hg : grdL X.2.data.toList = false) : a = (X.1, none) := by
  obtain ⟨an, ag⟩ := a
  cases ag with
  | none => rw [h.1]
  | some g =>
    have h1 : X.2 = g := h.2.1
    rw [h1, h.2.2] at hg
    cases hg
theorem Std.gr {a : Nat × Option ByteArray} {X : Nat × ByteArray} (h : Std a X) (hg : grdL X.2.data.toList = true) : a = (X.1, some X.2) := by
  obtain ⟨an, ag⟩ := a
  cases ag with
  | none => have h2 : grdL X.2.data.toList = false := h.2; rw [hg] at h2; cases h2
  | some g =>
    have h1 : X.2 = g := h.2.1
    rw [h1, h.1]
theorem uni_pair {a b : Nat × Option ByteArray} {X W : Nat × ByteArray} (hX : Std a X) (hW : Std b W) (hne : X.2 = W.2 → grdL X.2.data.toList = true) : (uniS X W).isSome = (uniA a b).isSome := by
  obtain ⟨Xn, Xz⟩ := X
  obtain ⟨Wn, Wz⟩ := W
  have hne' : Xz = Wz → grdL Xz.data.toList = true := hne
  rcases uniS_gen (Xn, Xz) (Wn, Wz) with ⟨g1, g2⟩ | ⟨k, q, m, g1, hkg, hqk, hor⟩ | ⟨g1, hor⟩
  · obtain ⟨e1, e2⟩ := Prod.mk.inj g2
    have hg := hne' e2
    rw [g1, hX.gr hg, hW.gr (by show grdL Wz.data.toList = true; rw [← e2]; exact hg)]
    show true = (if Xn = Wn ∧ Xz = Wz then some (Xn, some Xz) else none).isSome
    rw [if_pos ⟨e1, e2⟩]
    rfl
  · rw [g1]
    obtain ⟨qn, qx⟩ := q
    rcases hor with ⟨c1, c2⟩ | ⟨c1, c2⟩
    · obtain ⟨e1, e2⟩ := Prod.mk.inj c1
      obtain ⟨e3, e4⟩ := Prod.mk.inj c2
      have hkg' : grdL Xz.data.toList = false := by rw [e2]; exact hkg
      rw [hX.fr hkg']
      cases gb : grdL Wz.data.toList with
      | true =>
        rw [hW.gr gb]
        show true = (if Xn ≤ Wn then some (Wn, some Wz) else none).isSome
        rw [if_pos (by omega)]
        rfl
      | false => rw [hW.fr gb]; rfl
    · obtain ⟨e1, e2⟩ := Prod.mk.inj c1
      obtain ⟨e3, e4⟩ := Prod.mk.inj c2
      have hkg' : grdL Wz.data.toList = false := by rw [e2]; exact hkg
      rw [hW.fr hkg']
      cases ga : grdL Xz.data.toList with
      | true =>
        rw [hX.gr ga]
        show true = (if Wn ≤ Xn then some (Xn, some Xz) else none).isSome
        rw [if_pos (by omega)]
        rfl
      | false => rw [hX.fr ga]; rfl
  · rw [g1]
    rcases hor with ⟨e1, e2⟩ | ⟨e1, e2, e3⟩
    · have e1' : Xz = Wz := e1
      have e2' : Xn ≠ Wn := e2
      have hg := hne' e1'
      rw [hX.gr hg, hW.gr (by show grdL Wz.data.toList = true; rw [← e1']; exact hg)]
      show false = (if Xn = Wn ∧ Xz = Wz then some (Xn, some Xz) else none).isSome
      rw [if_neg (fun h => e2' h.1)]
      rfl
    · have e2' : Xn ≤ Wn → grdL Xz.data.toList = true := e2
      have e3' : Wn ≤ Xn → grdL Wz.data.toList = true := e3
      cases ga : grdL Xz.data.toList with
      | true =>
        rw [hX.gr ga]
        cases gb : grdL Wz.data.toList with
        | true =>
          rw [hW.gr gb]
          show false = (if Xn = Wn ∧ Xz = Wz then some (Xn, some Xz) else none).isSome
          rw [if_neg (fun h => e1 (Prod.ext h.1 h.2))]
          rfl
        | false =>
          rw [hW.fr gb]
          show false = (if Wn ≤ Xn then some (Xn, some Xz) else none).isSome
          rw [if_neg (fun h => by have := e3' h; rw [gb] at this; cases this)]
          rfl
      | false =>
        rw [hX.fr ga]
        cases gb : grdL Wz.data.toList with
        | true =>
          rw [hW.gr gb]
          show false = (if Xn ≤ Wn then some (Wn, some Wz) else none).isSome
          rw [if_neg (fun h => by have := e2' h; rw [ga] at this; cases this)]
          rfl
        | false =>
          exfalso
          rcases Nat.le_total Xn Wn with h | h
          · have := e2' h; rw [ga] at this; cases this
          · have := e3' h; rw [gb] at this; cases this
/-- A ground name, or the variable. -/
theorem std_of {n : Nat} {g : Option ByteArray} {x : ByteArray} (hg : ∀ y, g = some y → grdL y.data.toList = true) (hx : vrbL x.data.toList = true) : Std (n, g) (n, g.getD x) := by
  cases g with
  | none =>
    refine ⟨rfl, ?_⟩
    obtain ⟨b, e, h1, h2⟩ := vrb_one hx
    show grdL x.data.toList = false
    rw [e]
    simp [grdL]
  | some y => exact ⟨rfl, rfl, hg y rfl⟩
theorem getD_leaf {g : Option ByteArray} {x : ByteArray} (hg : ∀ y, g = some y → grdL y.data.toList = true) (hx : vrbL x.data.toList = true) : leafL (g.getD x).data.toList = true := by
  unfold leafL
  cases g with
  | none => show (grdL x.data.toList || vrbL x.data.toList) = true; rw [hx]; simp
  | some y => show (grdL y.data.toList || vrbL y.data.toList) = true; rw [hg y rfl]; simp
theorem vrb_leaf {x : ByteArray} (hx : vrbL x.data.toList = true) : leafL x.data.toList = true := by unfold leafL; rw [hx]; simp
theorem ap_one {n : Nat} {z x y : ByteArray} (hn : n ≤ 64) (hz : leafL z.data.toList = true) (hx : vrbL x.data.toList = true) {m : Nat} (hm : m ≤ 64) (hy : leafL y.data.toList = true) : apS (chain n z) [(x, chain m y)] = if z = x then (if (64 : Int) < (m : Int) + n then (2, .node ⟨#[]⟩ []) else (0, chain (m + n) y)) else (0, chain n z) := by
  have hsy : shp (chain m y) = some (m, y) := shp_chain hm hy
  have hsz : shp (chain n z) = some (n, z) := shp_chain hn hz
  have he : eAt (chain n z) [(x, chain m y)] = 0 := by unfold eAt; rw [hsz]; simp [hsy]
  have hgd : goodG [(x, chain m y)] := ⟨by simp, by simpa using hx⟩
  have hτ : tauG [(x, chain m y)] z = if z = x then some ((m : Int), y) else none := by
    have e : tauG [(x, chain m y)] z = if z = x then some (shO (chain m y)) else none := rfl
    rw [e]
    have e2 : shO (chain m y) = ((m : Int), y) := by unfold shO; rw [hsy]; rfl
    rw [e2]
  rw [apS_zero he hsz, if_pos hgd, hτ]
  by_cases h : z = x
  · rw [if_pos h, if_pos h]
    show (if (64 : Int) < (m : Int) + n then ((2 : Int), S.node ⟨#[]⟩ []) else (0, chain ((m : Int) + n).toNat y)) = _
    rw [show ((m : Int) + n).toNat = m + n by omega]
  · rw [if_neg h, if_neg h]
theorem ren_chain {n : Nat} {z x y : ByteArray} (hn : n ≤ 64) (hz : leafL z.data.toList = true) (hx : vrbL x.data.toList = true) (hy : leafL y.data.toList = true) : renS (chain n z) x y = chain n (if z = x then y else z) := by
  have e := ap_one (m := 0) hn hz hx (Nat.zero_le _) hy
  have e' : apS (chain n z) [(x, .node y [])] = if z = x then (if (64 : Int) < ((0 : Nat) : Int) + n then (2, .node ⟨#[]⟩ []) else (0, chain (0 + n) y)) else (0, chain n z) := e
  unfold renS
  rw [e']
  by_cases h : z = x
  · rw [if_pos h, if_pos h]
    have hlt : ¬ (64 : Int) < ((0 : Nat) : Int) + n := by omega
    rw [if_neg hlt]
    show (if (0 : Int) = 0 then chain (0 + n) y else chain n z) = _
    rw [if_pos rfl, Nat.zero_add]
  · rw [if_neg h, if_neg h]
    rfl
theorem vA : vrbL yA.data.toList = true := rfl
theorem vY : vrbL yY.data.toList = true := rfl
theorem vX : vrbL yX.data.toList = true := rfl
theorem grd_ne {g : ByteArray} {x : ByteArray} (hg : grdL g.data.toList = true) (hx : vrbL x.data.toList = true) : g ≠ x := fun e => by
  obtain ⟨b, e1, h1, h2⟩ := vrb_one hx
  rw [e, e1] at hg
  simp [grdL] at hg
theorem ren_get {n : Nat} {g : Option ByteArray} {x y : ByteArray} (hn : n ≤ 64) (hg : ∀ y, g = some y → grdL y.data.toList = true) (hx : vrbL x.data.toList = true) (hy : vrbL y.data.toList = true) : renS (chain n (g.getD x)) x y = chain n (g.getD y) := by
  rw [ren_chain hn (getD_leaf hg hx) hx (vrb_leaf hy)]
  cases g with
  | none => show chain n (if x = x then y else x) = chain n y; rw [if_pos rfl]
  | some z => show chain n (if z = x then y else z) = chain n z; rw [if_neg (grd_ne (hg z rfl) hx)]
theorem grO_get {g : Option ByteArray} {x : ByteArray} (hg : ∀ y, g = some y → grdL y.data.toList = true) (hx : vrbL x.data.toList = true) : grO (g.getD x) = g := by
  cases g with
  | none =>
    obtain ⟨b, e, h1, h2⟩ := vrb_one hx
    show grO x = none
    unfold grO
    rw [e, if_neg (by simp [grdL])]
  | some z => exact if_pos (hg z rfl)
/-- Of at a value that has a sort. -/
theorem ofS_ok {p : T} (h : (ofS p).1 = 0) : p.may ∧ ∃ n g, srt p = some (n, g) ∧ n ≤ p.deep ∧ n ≤ 64 ∧ (∀ y, g = some y → grdL y.data.toList = true) ∧ ofS p = (0, chain n (g.getD yA)) := by
  unfold ofS at h
  split at h
  · next hm =>
    cases hs : srt p with
    | none => rw [hs] at h; cases h
    | some a =>
      have hok := srt_ok p a hs
      have hd := hm.2.2
      refine ⟨hm, a.1, a.2, rfl, hok.1, Nat.le_trans hok.1 hd, fun y hy => (hok.2 y hy).1, ?_⟩
      unfold ofS
      rw [if_pos hm, hs]
  · cases h
theorem ofS_bad {p : T} (h : ¬ (ofS p).1 = 0) (s : S) : ((ofS p).1 = 1 ∨ (ofS p).1 = 14) ∧ isS p s = false := by
  unfold ofS at h ⊢
  unfold isS
  by_cases hm : p.may
  · rw [if_pos hm] at h ⊢
    cases hs : srt p with
    | none =>
      refine ⟨.inr rfl, ?_⟩
      cases shp s with
      | none => rfl
      | some b => show (if p.may then false else false) = false; rw [if_pos hm]
    | some a => rw [hs] at h; exact absurd rfl h
  · rw [if_neg hm] at h ⊢
    refine ⟨.inl rfl, ?_⟩
    cases shp s with
    | none => rfl
    | some b => show (if p.may then _ else false) = false; rw [if_neg hm]
theorem isS_eq {p : T} {s : S} {n wn : Nat} {g : Option ByteArray} {wx : ByteArray} (hm : p.may) (hp : srt p = some (n, g)) (hs : shp s = some (wn, wx)) : isS p s = (uniA (n, g) (wn, grO wx)).isSome := by
  unfold isS
  rw [hs]
  show (if p.may then (match srt p with | none => false | some a => (uniA a (wn, grO wx)).isSome) else false) = _
  rw [if_pos hm, hp]
theorem is_own {p : T} {n : Nat} {g : Option ByteArray} (hm : p.may) (hp : srt p = some (n, g)) (hn : n ≤ 64) (hg : ∀ y, g = some y → grdL y.data.toList = true) : isS p (chain n (g.getD yA)) = true := by
  rw [isS_eq hm hp (shp_chain hn (getD_leaf hg vA)), grO_get hg vA]
  cases g with
  | none => rfl
  | some z => show (if n = n ∧ z = z then some (n, some z) else none).isSome = true; rw [if_pos ⟨rfl, rfl⟩]; rfl
theorem is_z {p : T} {n : Nat} {g : Option ByteArray} {x : ByteArray} (hm : p.may) (hp : srt p = some (n, g)) (hx : vrbL x.data.toList = true) : isS p (.node x []) = true := by
  rw [isS_eq hm hp (show shp (.node x []) = some (0, x) from shp_chain (n := 0) (by omega) (vrb_leaf hx))]
  have : grO x = none := grO_get (g := none) (fun y h => by cases h) hx
  rw [this]
  cases g with
  | none => rfl
  | some z => show (if 0 ≤ n then some (n, some z) else none).isSome = true; rw [if_pos (Nat.zero_le _)]; rfl
/-- What is of a sort is what unifies with it, its variable another one. -/
theorem is_apart {p : T} {s : S} {n wn : Nat} {g : Option ByteArray} {wx nm : ByteArray} (hm : p.may) (hp : srt p = some (n, g)) (hn : n ≤ 64) (hg : ∀ y, g = some y → grdL y.data.toList = true) (hs : shp s = some (wn, wx)) (hv : vrbL nm.data.toList = true) (hne : nm ≠ wx) : isS p s = (uniT (renS (chain n (g.getD yA)) yA nm) s).isSome := by
  rw [isS_eq hm hp hs, ren_get hn hg vA hv]
  have hwl := (shp_le hs).2
  unfold uniT
  rw [shp_chain hn (getD_leaf hg hv), hs]
  show _ = (uniS (n, g.getD nm) (wn, wx)).isSome
  refine (uni_pair (std_of hg hv) ?_ ?_).symm
  · unfold grO
    by_cases hw : grdL wx.data.toList = true
    · rw [if_pos hw]; exact ⟨rfl, rfl, hw⟩
    · rw [if_neg hw]; exact ⟨rfl, by cases h : grdL wx.data.toList with
        | false => rfl
        | true => exact absurd h hw⟩
  · intro e
    cases g with
    | none => exact absurd e hne
    | some z => exact hg z rfl
abbrev twoT (p q : T) : T := .node 5 0 ⟨#[]⟩ [p, q]
theorem two_may {p q : T} (h : (twoT p q).may) : p.may ∧ q.may := by
  obtain ⟨h1, h2, h3⟩ := h
  unfold T.good at h1
  obtain ⟨_, hp, hq, _⟩ := h1
  unfold T.size at h2
  unfold T.deep at h3
  rw [if_pos rfl] at h3
  simp only [T.sizeL, T.deepL] at h2 h3
  exact ⟨⟨hp, by omega, by omega⟩, ⟨hq, by omega, by omega⟩⟩
theorem two_srt {p q : T} {a : Nat × Option ByteArray} (hp : srt p = some a) : srt (twoT p q) = match srt q with
    | none => none
    | some b => (uniA a b).map (fun c => (c.1 + 1, c.2)) := by
  have h0 : uniA (0, none) a = some a := by
    obtain ⟨n, g⟩ := a
    cases g with
    | none => show some (max 0 n, none) = some (n, none); rw [Nat.zero_max]
    | some z => show (if 0 ≤ n then some (n, some z) else none) = _; rw [if_pos (Nat.zero_le _)]
  unfold twoT
  rw [srt, if_pos rfl, srtL, hp]
  show Option.map _ (match uniA (0, none) a with | none => none | some c => srtL c [q]) = _
  rw [h0]
  show Option.map _ (srtL a [q]) = _
  rw [srtL]
  cases srt q with
  | none => rfl
  | some b =>
    show Option.map (fun a => (a.1 + 1, a.2)) (match uniA a b with | none => none | some c => srtL c []) = (uniA a b).map (fun c => (c.1 + 1, c.2))
    cases uniA a b with
    | none => rfl
    | some c => show Option.map _ (srtL c []) = _; rw [srtL]
/-- A list of two: refused where one has no sort. -/
theorem two_bad {p q : T} (hp : (ofS p).1 = 0) (hq : ¬ (ofS q).1 = 0) : ¬ (ofS (twoT p q)).1 = 0 := by
  intro h
  obtain ⟨hm, n, g, hs, _⟩ := ofS_ok h
  obtain ⟨_, n1, g1, hs1, _⟩ := ofS_ok hp
  have hqm := (two_may hm).2
  rw [two_srt hs1] at hs
  cases hsq : srt q with
  | none => rw [hsq] at hs; cases hs
  | some b =>
    apply hq
    unfold ofS
    rw [if_pos hqm, hsq]
theorem two_kind {p q : T} (hp : (ofS p).1 = 0) (hq : (ofS q).1 = 0) (hl : ¬ (ofS (twoT p q)).1 = 1) : ((ofS (twoT p q)).1 = 0 ∨ (ofS (twoT p q)).1 = 14) ∧ (decide ((ofS (twoT p q)).1 = 0) = (uniT (ofS p).2 (renS (ofS q).2 yA yY)).isSome) ∧
    ((ofS (twoT p q)).1 = 0 → (apS (.node wList [(ofS p).2]) (uniL (uniT (ofS p).2 (renS (ofS q).2 yA yY)))).1 = 0 → sameS (ofS (twoT p q)).2 (renS (apS (.node wList [(ofS p).2]) (uniL (uniT (ofS p).2 (renS (ofS q).2 yA yY)))).2 yY yA) = true) := by
  obtain ⟨hpm, n1, g1, hs1, hd1, hn1, hg1, he1⟩ := ofS_ok hp
  obtain ⟨hqm, n2, g2, hs2, hd2, hn2, hg2, he2⟩ := ofS_ok hq
  have hm : (twoT p q).may := by
    cases hd : decide (twoT p q).may with
    | true => exact of_decide_eq_true hd
    | false => exact absurd (by unfold ofS; rw [if_neg (of_decide_eq_false hd)]) hl
  have hsl := two_srt (q := q) hs1
  rw [hs2] at hsl
  have hsl' : srt (twoT p q) = (uniA (n1, g1) (n2, g2)).map (fun c => (c.1 + 1, c.2)) := hsl
  rw [he1, he2]
  show _ ∧ (_ = (uniT (chain n1 (g1.getD yA)) (renS (chain n2 (g2.getD yA)) yA yY)).isSome) ∧ (_ → (apS (chain (n1 + 1) (g1.getD yA)) (uniL (uniT (chain n1 (g1.getD yA)) (renS (chain n2 (g2.getD yA)) yA yY)))).1 = 0 → sameS (ofS (twoT p q)).2 (renS (apS (chain (n1 + 1) (g1.getD yA)) (uniL (uniT (chain n1 (g1.getD yA)) (renS (chain n2 (g2.getD yA)) yA yY)))).2 yY yA) = true)
  rw [ren_get hn2 hg2 vA vY]
  have hut : uniT (chain n1 (g1.getD yA)) (chain n2 (g2.getD yY)) = uniS (n1, g1.getD yA) (n2, g2.getD yY) := by
    unfold uniT
    rw [shp_chain hn1 (getD_leaf hg1 vA), shp_chain hn2 (getD_leaf hg2 vY)]
  rw [hut]
  have hpair : (uniS (n1, g1.getD yA) (n2, g2.getD yY)).isSome = (uniA (n1, g1) (n2, g2)).isSome := by
    refine uni_pair (std_of hg1 vA) (std_of hg2 vY) ?_
    intro e
    cases g1 with
    | some z => exact hg1 z rfl
    | none =>
      cases g2 with
      | none => exact absurd (show yA = yY from e) (by decide)
      | some z =>
        have e' : yA = z := e
        exact absurd e'.symm (grd_ne (hg2 z rfl) vA)
  have hdl : n1 + 1 ≤ 64 := by
    have h3 := hm.2.2
    unfold twoT T.deep at h3
    rw [if_pos rfl] at h3
    simp only [T.deepL] at h3
    omega
  cases hu : uniA (n1, g1) (n2, g2) with
  | none =>
    rw [hu] at hsl'
    have hof : ofS (twoT p q) = (14, .node ⟨#[]⟩ []) := by unfold ofS; rw [if_pos hm, hsl']; rfl
    rw [hof, hpair, hu]
    exact ⟨.inr rfl, by simp, fun h => by cases h⟩
  | some c =>
    rw [hu] at hsl'
    have hof : ofS (twoT p q) = (0, chain (c.1 + 1) (c.2.getD yA)) := by unfold ofS; rw [if_pos hm, hsl']; rfl
    rw [hof, hpair, hu]
    refine ⟨.inl rfl, by simp, fun _ hap => ?_⟩
    have hcok := srt_ok (twoT p q) (c.1 + 1, c.2) (by rw [hsl']; rfl)
    have hc64 : c.1 + 1 ≤ 64 := Nat.le_trans hcok.1 hm.2.2
    have hcg : ∀ y, c.2 = some y → grdL y.data.toList = true := fun y hy => (hcok.2 y hy).1
    show sameS (chain (c.1 + 1) (c.2.getD yA)) _ = true
    have fin : ∀ (n : Nat) (z : ByteArray), n ≤ 64 → leafL z.data.toList = true → n = c.1 + 1 → (if z = yY then yA else z) = c.2.getD yA → sameS (chain (c.1 + 1) (c.2.getD yA)) (renS (chain n z) yY yA) = true := fun n z h1 h2 h3 h4 => by
      rw [ren_chain h1 h2 vY (vrb_leaf vA), h4, h3, sameS_chains hc64 hc64 (getD_leaf hcg vA) (getD_leaf hcg vA)]
      simp
    rcases uniS_gen (n1, g1.getD yA) (n2, g2.getD yY) with ⟨k1, k2⟩ | ⟨k, q', m, k1, hkg, hqk, hor⟩ | ⟨k1, _⟩
    · obtain ⟨e1, e2⟩ := Prod.mk.inj k2
      rw [k1]
      have hap0 : apS (chain (n1 + 1) (g1.getD yA)) (uniL (some none)) = (0, chain (n1 + 1) (g1.getD yA)) := by
        have hs : shp (chain (n1 + 1) (g1.getD yA)) = some (n1 + 1, g1.getD yA) := shp_chain hdl (getD_leaf hg1 vA)
        have he : eAt (chain (n1 + 1) (g1.getD yA)) [] = 0 := by rw [eAt_nil]; unfold mayS; rw [hs]; rfl
        show apS (chain (n1 + 1) (g1.getD yA)) [] = _
        rw [apS_zero he hs, if_pos ⟨by simp, by simp⟩]
        rfl
      rw [hap0]
      have hgz : ∃ z, g1 = some z ∧ g2 = some z := by
        cases g1 with
        | some z =>
          cases g2 with
          | some z' => have : z = z' := e2; exact ⟨z, rfl, by rw [this]⟩
          | none => have : z = yY := e2; exact absurd this (grd_ne (hg1 z rfl) vY)
        | none =>
          cases g2 with
          | some z' => have : yA = z' := e2; exact absurd this.symm (grd_ne (hg2 z' rfl) vA)
          | none => exact absurd (show yA = yY from e2) (by decide)
      obtain ⟨z, rfl, rfl⟩ := hgz
      have hc : c = (n1, some z) := by
        have h' : (if n1 = n2 ∧ z = z then some (n1, some z) else none) = some c := hu
        rw [if_pos ⟨e1, rfl⟩] at h'
        exact (Option.some.inj h').symm
      subst hc
      exact fin _ _ hdl (getD_leaf hg1 vA) rfl (by show (if z = yY then yA else z) = z; rw [if_neg (grd_ne (hg1 z rfl) vY)])
    · obtain ⟨qn, qx⟩ := q'
      rw [k1]
      have hLL : uniL (some (some (k, (qn, qx)))) = [(k, chain qn qx)] := rfl
      rw [k1, hLL] at hap
      rw [hLL]
      rcases hor with ⟨c1, c2⟩ | ⟨c1, c2⟩
      · obtain ⟨e1, e2⟩ := Prod.mk.inj c1
        obtain ⟨e3, e4⟩ := Prod.mk.inj c2
        have hg1n : g1 = none := by
          cases g1 with
          | none => rfl
          | some z => have e2' : z = k := e2; rw [← e2', hg1 z rfl] at hkg; cases hkg
        subst hg1n
        have hka : yA = k := e2
        subst hka
        have hql : qn ≤ 64 ∧ leafL qx.data.toList = true := ⟨by omega, by have e4' : g2.getD yY = qx := e4; rw [← e4']; exact getD_leaf hg2 vY⟩
        have h1 := ap_one (m := qn) hdl (vrb_leaf vA) vA hql.1 hql.2 (z := yA) (x := yA) (y := qx)
        rw [if_pos rfl] at h1
        have h1' : apS (chain (n1 + 1) ((none : Option ByteArray).getD yA)) [(yA, chain qn qx)] = _ := h1
        rw [h1'] at hap ⊢
        by_cases hgt : (64 : Int) < (qn : Int) + ((n1 + 1 : Nat) : Int)
        · rw [if_pos hgt] at hap; cases hap
        · rw [if_neg hgt]
          refine fin (qn + (n1 + 1)) qx (by omega) hql.2 ?_ ?_
          · cases g2 with
            | none =>
              have h' : some (max n1 n2, none) = some c := hu
              rw [← Option.some.inj h']
              show qn + (n1 + 1) = max n1 n2 + 1
              omega
            | some z =>
              have h' : (if n1 ≤ n2 then some (n2, some z) else none) = some c := hu
              rw [if_pos (by omega)] at h'
              rw [← Option.some.inj h']
              show qn + (n1 + 1) = n2 + 1
              omega
          · cases g2 with
            | none =>
              have h' : some (max n1 n2, none) = some c := hu
              rw [← Option.some.inj h']
              have e4' : yY = qx := e4
              rw [← e4']
              rfl
            | some z =>
              have h' : (if n1 ≤ n2 then some (n2, some z) else none) = some c := hu
              rw [if_pos (by omega)] at h'
              rw [← Option.some.inj h']
              have e4' : z = qx := e4
              rw [← e4']
              show (if z = yY then yA else z) = z
              rw [if_neg (grd_ne (hg2 z rfl) vY)]
      · obtain ⟨e1, e2⟩ := Prod.mk.inj c1
        obtain ⟨e3, e4⟩ := Prod.mk.inj c2
        have hg2n : g2 = none := by
          cases g2 with
          | none => rfl
          | some z => have e2' : z = k := e2; rw [← e2', hg2 z rfl] at hkg; cases hkg
        subst hg2n
        have hky : yY = k := e2
        subst hky
        have hql : qn ≤ 64 ∧ leafL qx.data.toList = true := ⟨by omega, by have e4' : g1.getD yA = qx := e4; rw [← e4']; exact getD_leaf hg1 vA⟩
        have hxy : g1.getD yA ≠ yY := by
          cases g1 with
          | none => decide
          | some z => exact grd_ne (hg1 z rfl) vY
        have h1 := ap_one (m := qn) hdl (getD_leaf hg1 vA) vY hql.1 hql.2 (z := g1.getD yA) (x := yY) (y := qx)
        rw [if_neg hxy] at h1
        rw [h1]
        refine fin (n1 + 1) (g1.getD yA) hdl (getD_leaf hg1 vA) ?_ ?_
        · cases g1 with
          | none =>
            have h' : some (max n1 n2, none) = some c := hu
            rw [← Option.some.inj h']
            show n1 + 1 = max n1 n2 + 1
            omega
          | some z =>
            have h' : (if n2 ≤ n1 then some (n1, some z) else none) = some c := hu
            rw [if_pos (by omega)] at h'
            rw [← Option.some.inj h']
        · rw [if_neg hxy]
          cases g1 with
          | none =>
            have h' : some (max n1 n2, none) = some c := hu
            rw [← Option.some.inj h']
          | some z =>
            have h' : (if n2 ≤ n1 then some (n1, some z) else none) = some c := hu
            rw [if_pos (by omega)] at h'
            rw [← Option.some.inj h']
    · rw [k1] at hpair
      rw [hu] at hpair
      cases hpair
end Go.Proofs.YtllbelglilkdpaaDoor
