/-
  Givens as data: what a slice of givens reads as; what Unify and Apply come to.
-/
import Derived.Test.YtllbelglilkdpaaDoorSMeet
namespace Go.Proofs.YtllbelglilkdpaaDoor
open Go.RowKit
/-- Three cells in a row: a name, and a sort. -/
def Gv (K : Nat → Prop) (w : World) (d g i : Nat) (x : ByteArray) (t : S) : Prop := w.cell? ⟨g, i, none⟩ = some (.string x) ∧ x.size ≤ 140737488351232 ∧ ∃ u0 u1, Two w g (i + 1) u0 u1 ∧ SRd K w d (.agg #[u0, u1]) t
theorem Gv.keep {K : Nat → Prop} {w w' : World} {d g i : Nat} {x : ByteArray} {t : S} (h : Gv K w d g i x t) (hk : Kp K w w') (hg : K g) : Gv K w' d g i x t := by
  obtain ⟨h1, h2, u0, u1, h3, h4⟩ := h
  exact ⟨hk.cell h1 hg, h2, u0, u1, h3.keep hk hg, h4.keep hk⟩
/-- What a slice of givens reads as. -/
def GsRd (K : Nat → Prop) (w : World) (d : Nat) (v : Value) (l : List (ByteArray × S)) : Prop := ∃ a c, v = .slice a l.length c ∧ l.length * 56 ≤ 140737488351232 ∧ (l = [] ∨ ∃ g off, a = some ⟨g, off, none⟩ ∧ K g ∧ ∀ j, (h : j < l.length) → Gv K w d g (off + j * 3) l[j].1 l[j].2)
theorem GsRd.keep {K : Nat → Prop} {w w' : World} {d : Nat} {v : Value} {l : List (ByteArray × S)} (h : GsRd K w d v l) (hk : Kp K w w') : GsRd K w' d v l := by
  obtain ⟨a, c, h1, h2, h3⟩ := h
  exact ⟨a, c, h1, h2, h3.imp id fun ⟨g, off, ha, hg, hc⟩ => ⟨g, off, ha, hg, fun j hj => (hc j hj).keep hk hg⟩⟩
theorem GsRd.later {K : Nat → Prop} {w w' : World} {d : Nat} {v : Value} {l : List (ByteArray × S)} (h : GsRd K w d v l) (hx : Ext w w') : GsRd K w' d v l := h.keep (hx.kp K)
theorem GsRd.none (K : Nat → Prop) (w : World) (d : Nat) : GsRd K w d (.slice none 0 0) [] := ⟨_, _, rfl, by decide, .inl rfl⟩
/-- A shape as the program has it. -/
abbrev shI (a : Nat × ByteArray) : Sh := ((a.1 : Int), a.2)
/-- Both without the lists that both have; which is to stand for which. -/
def barS (a b : Nat × ByteArray) : Sh × Sh := meetPQ ((a.1 : Int) + -(if (b.1 : Int) < a.1 then (b.1 : Int) else a.1), a.2) ((b.1 : Int) + -(if (b.1 : Int) < a.1 then (b.1 : Int) else a.1), b.2)
/-- What makes two shapes the same: nothing; nothing is wanted; a variable that is to be a shape. -/
def uniS (a b : Nat × ByteArray) : Option (Option (ByteArray × (Nat × ByteArray))) := if (barS a b).1 = (barS a b).2 then some none else if opS (barS a b).1 = true ∧ (barS a b).1.2 ≠ (barS a b).2.2 then some (some ((barS a b).1.2, ((barS a b).2.1.toNat, (barS a b).2.2))) else none
def uniT (t u : S) : Option (Option (ByteArray × (Nat × ByteArray))) := match shp t, shp u with
  | some a, some b => uniS a b
  | _, _ => none
def uniL : Option (Option (ByteArray × (Nat × ByteArray))) → List (ByteArray × S)
  | some (some (k, q)) => [(k, chain q.1 q.2)]
  | _ => []
def uniN (o : Option (Option (ByteArray × (Nat × ByteArray)))) : Int := if o.isSome then 0 else 14
/-- The shape of a sort that may be. -/
def shO (t : S) : Sh := shI ((shp t).getD (0, ⟨#[]⟩))
/-- What the givens say of a variable. -/
def tauF (l : List (ByteArray × S)) (σ : ByteArray → Option Sh) : ByteArray → Option Sh := l.foldl (fun σ g => fun k => if k = g.1 then some (shO g.2) else σ k) σ
def tauG (l : List (ByteArray × S)) : ByteArray → Option Sh := tauF l (fun _ => none)
/-- Each is of a variable, none of the same. -/
def goodG (l : List (ByteArray × S)) : Prop := (l.map Prod.fst).Nodup ∧ ∀ g ∈ l, vrbL g.1.data.toList = true
instance (l : List (ByteArray × S)) : Decidable (goodG l) := by unfold goodG; infer_instance
theorem tauF_some (l : List (ByteArray × S)) : ∀ (σ : ByteArray → Option Sh) (k : ByteArray), (tauF l σ k).isSome = true ↔ k ∈ l.map Prod.fst ∨ (σ k).isSome = true := by
  induction l with
  | nil => intro σ k; simp [tauF]
  | cons g r ih =>
    intro σ k
    have e : tauF (g :: r) σ = tauF r (fun k => if k = g.1 then some (shO g.2) else σ k) := rfl
    rw [e, ih]
    by_cases h : k = g.1
    · subst h; simp
    · simp [h]
theorem tauG_some (l : List (ByteArray × S)) (k : ByteArray) : (tauG l k).isSome = true ↔ k ∈ l.map Prod.fst := by
  unfold tauG; rw [tauF_some]; simp
theorem tauG_snoc (l : List (ByteArray × S)) (g : ByteArray × S) : tauG (l ++ [g]) = fun k => if k = g.1 then some (shO g.2) else tauG l k := by
  unfold tauG tauF; rw [List.foldl_append]; rfl
theorem goodG_snoc {l : List (ByteArray × S)} {g : ByteArray × S} (h : goodG l) (hv : vrbL g.1.data.toList = true) (hn : tauG l g.1 = none) : goodG (l ++ [g]) := by
  refine ⟨?_, fun x hx => ?_⟩
  · rw [List.map_append, List.nodup_append]
    refine ⟨h.1, by simp, fun a ha b hb => ?_⟩
    simp only [List.map_cons, List.map_nil, List.mem_singleton] at hb
    subst hb
    intro e
    subst e
    have := (tauG_some l g.1).2 ha
    rw [hn] at this
    cases this
  · rcases List.mem_append.1 hx with hx | hx
    · exact h.2 x hx
    · rw [List.mem_singleton] at hx; subst hx; exact hv
theorem goodG_pre {l r : List (ByteArray × S)} (h : goodG (l ++ r)) : goodG l := by
  refine ⟨?_, fun x hx => h.2 x (List.mem_append.2 (.inl hx))⟩
  have := h.1
  rw [List.map_append, List.nodup_append] at this
  exact this.1
theorem goodG_at {l r : List (ByteArray × S)} {g : ByteArray × S} (h : goodG (l ++ g :: r)) : vrbL g.1.data.toList = true ∧ tauG l g.1 = none := by
  refine ⟨h.2 g (by simp), ?_⟩
  have h1 := h.1
  rw [List.map_append, List.nodup_append] at h1
  cases e : tauG l g.1 with
  | none => rfl
  | some s =>
    have := (tauG_some l g.1).1 (by rw [e]; rfl)
    exact absurd rfl (h1.2.2 _ this g.1 (by simp))
theorem nodup_le : ∀ (k : Nat) (l : List Nat), l.Nodup → (∀ x ∈ l, x < k) → l.length ≤ k
  | 0, l, _, h => by
    cases l with
    | nil => simp
    | cons x r => exact absurd (h x (by simp)) (by omega)
  | k + 1, l, hn, h => by
    have := nodup_le k (l.erase k) (hn.erase k) (fun x hx => by
      have h1 := (hn.mem_erase_iff).1 hx
      have := h x h1.2
      omega)
    have h2 := List.length_erase_le (a := k) (l := l)
    have h3 : l.length ≤ (l.erase k).length + 1 := by
      rw [List.length_erase]
      split <;> omega
    omega
theorem vrb_one {l : List UInt8} (h : vrbL l = true) : ∃ b, l = [b] ∧ 97 ≤ b.toNat ∧ b.toNat ≤ 122 := by
  match l, h with
  | [b], h =>
    refine ⟨b, rfl, ?_⟩
    simp only [vrbL, Bool.and_eq_true, decide_eq_true_eq] at h
    exact h
/-- There are 26 variables. -/
theorem goodG_few {l : List (ByteArray × S)} (h : goodG l) : l.length ≤ 256 := by
  have key : (l.map (fun g => (g.1.data.toList.headD 0).toNat)).Nodup := by
    have h1 := h.1
    have h2 := h.2
    clear h
    induction l with
    | nil => simp
    | cons g r ih =>
      simp only [List.map_cons, List.nodup_cons] at h1 ⊢
      refine ⟨fun hm => ?_, ih h1.2 (fun x hx => h2 x (by simp [hx]))⟩
      obtain ⟨g', hg', he⟩ := List.mem_map.1 hm
      obtain ⟨b, e1, _⟩ := vrb_one (h2 g (by simp))
      obtain ⟨b', e1', _⟩ := vrb_one (h2 g' (by simp [hg']))
      rw [e1, e1'] at he
      have hb : b' = b := UInt8.toNat_inj.1 he
      have : g'.1 = g.1 := data_inj (by rw [e1, e1', hb])
      exact h1.1 (this ▸ List.mem_map.2 ⟨g', hg', rfl⟩)
  have := nodup_le 256 _ key (fun x hx => by
    obtain ⟨g, _, rfl⟩ := List.mem_map.1 hx
    exact UInt8.toNat_lt _)
  simpa using this
/-- What Apply comes to. -/
def apS (t : S) (l : List (ByteArray × S)) : Int × S := match shp t with
  | none => (14, .node ⟨#[]⟩ [])
  | some (n, x) => if l.all (fun g => (shp g.2).isSome) = true then
      if goodG l then
        match tauG l x with
        | none => (0, chain n x)
        | some s => if 64 < s.1 + n then (2, .node ⟨#[]⟩ []) else (0, chain (s.1 + n).toNat s.2)
      else (1, .node ⟨#[]⟩ [])
    else (14, .node ⟨#[]⟩ [])
end Go.Proofs.YtllbelglilkdpaaDoor
