/-
  A kit's map of kinds: what it tells; a kind more.
-/
import Derived.Test.YtecabbifkcnbeaaGreatDoorKMay
import Derived.Maps.OwnSet
import Derived.Maps.Keyed
namespace Go.Proofs.YtecabbifkcnbeaaGreatDoor
open Go.RowKit
/-- How a number in the map reads. -/
def inE : Value → Option (DataW Unit × List MemPlace)
  | .int .i64 n => some (.lit (.int .i64 n), [])
  | _ => none
theorem inE_mk (n : Int) : inE (.int .i64 n) = some (.lit (.int .i64 n), []) := rfl
theorem inE_inv {v : Value} {n : Int} {ps : List MemPlace} (h : inE v = some (.lit (.int .i64 n), ps)) : v = .int .i64 n := by
  unfold inE at h
  split at h
  · simp only [Option.some.injEq, Prod.mk.injEq, DataW.lit.injEq, Lit.int.injEq, true_and] at h
    rw [h.1]
  · cases h
/-- The map stands for these. -/
def MapN (D : DataW Unit) (σ : ByteArray → Option Nat) : Prop := Maps.IsMap D ∧ ∀ k : ByteArray, Maps.has D (.string k.data.toList) = (σ k).isSome ∧ ∀ s, σ k = some s → ∀ z, D.atKey (.string k.data.toList) z = .lit (.int .i64 (s : Int))
theorem MapN.nil : MapN (.map []) (fun _ => none) := ⟨⟨_, rfl⟩, fun k => ⟨by simp [Maps.has_eq], fun s h => by cases h⟩⟩
theorem MapN.put {D : DataW Unit} {σ : ByteArray → Option Nat} (h : MapN D σ) (x : ByteArray) (s : Nat) : MapN (D.put (.string x.data.toList) (.lit (.int .i64 (s : Int)))) (fun k => if k = x then some s else σ k) := by
  refine ⟨h.1.put _ _, fun k => ?_⟩
  by_cases e : k = x
  · subst e
    have e2 : (fun k_1 => if k_1 = k then some s else σ k_1) k = some s := if_pos rfl
    rw [e2]
    exact ⟨Maps.has_put_same h.1 (show WideAt.IsKeyLit (.string k.data.toList) from trivial) _, fun s' h' z => by cases h'; exact Maps.atKey_put_same h.1 (show WideAt.IsKeyLit (.string k.data.toList) from trivial) _ _⟩
  · have hne : Lit.string k.data.toList ≠ .string x.data.toList := fun e' => e (data_inj (Lit.string.inj e'))
    dsimp only
    rw [if_neg e]
    exact ⟨(Maps.has_put_other hne _).trans (h.2 k).1, fun s' h' z => (Maps.atKey_put_other hne _ _).trans ((h.2 k).2 s' h' z)⟩
/-- The map lies there, after N writes. -/
def MapAt (w : World) (mb N : Nat) (σ : ByteArray → Option Nat) : Prop := ∃ D, w.ownsMap Tryz.prog 9 inE mb N D ∧ MapN D σ
theorem MapAt.keep {K : Nat → Prop} {w w' : World} {mb N : Nat} {σ : ByteArray → Option Nat} (h : MapAt w mb N σ) (hk : Kp K w w') (h2 : K mb) : MapAt w' mb N σ := by
  obtain ⟨D, ⟨es, clock, a4, a5⟩, a6⟩ := h
  exact ⟨D, ⟨es, clock, hk.block' a4 h2, a5⟩, a6⟩
theorem MapAt.later {w w' : World} {mb N : Nat} {σ : ByteArray → Option Nat} (h : MapAt w mb N σ) (hx : Ext w w') : MapAt w' mb N σ := h.keep (hx.kp (fun _ => True)) trivial
theorem MapAt.lt {w : World} {mb N : Nat} {σ : ByteArray → Option Nat} (h : MapAt w mb N σ) : mb < w.heap.size := by
  obtain ⟨D, a4, _⟩ := h
  exact a4.lt
theorem MapAt.nocells {w : World} {mb N : Nat} {σ : ByteArray → Option Nat} (h : MapAt w mb N σ) {cs : Array Value} {t : TypeId} {m : Nat × Nat} : w.heap[mb]? ≠ some (.cells cs t m) := by
  obtain ⟨D, ⟨es, clock, a4, a5⟩, a6⟩ := h
  rw [a4]
  intro e
  cases e
theorem zero_it (w : World) : (zeroValue 3).run Tryz.prog w = .ok (.int .i64 0) w := by kernel_rfl
/-- What the map tells. -/
def itV (o : Option Nat) : Value := .tuple #[.int .i64 ((o.getD 0 : Nat) : Int), .bool o.isSome]
theorem MapAt.look {w : World} {mb N : Nat} {σ : ByteArray → Option Nat} (h : MapAt w mb N σ) (x : ByteArray) (hx : x.size ≤ 140737488351232) : (Instr.lookup 103 (.map (some mb)) (.string x) true).run Tryz.prog w = .ok (itV (σ x)) w := by
  obtain ⟨D, a4, a5⟩ := h
  have hkey := WideMaps.keyOf_string_mk (P := Tryz.prog) (k := 9) Tryz.underlying9 (s := x) (by unfold maxLen; omega)
  obtain ⟨v, ps, hrun, hv⟩ := a4.look_ok (Maps.string_keyed Tryz.underlying9) Tryz.underlying103 (zero_it w) (inE_mk 0) hkey
  rw [hrun, (a5.2 x).1]
  unfold itV
  cases hs : σ x with
  | none =>
    have h0 : Maps.has D (.string x.data.toList) = false := by rw [(a5.2 x).1, hs]; rfl
    rw [Maps.atKey_of_not_has h0] at hv
    have := inE_inv (n := 0) hv
    rw [this]
    rfl
  | some s =>
    rw [(a5.2 x).2 s hs] at hv
    rw [inE_inv hv]
    rfl
theorem MapAt.put {w : World} {mb N : Nat} {σ : ByteArray → Option Nat} (h : MapAt w mb N σ) (x : ByteArray) (t : Nat) (hx : x.size ≤ 140737488351232) (hN : N ≤ 1000000) : ∃ w', (Instr.mapUpdate 103 (.map (some mb)) (.string x) (.int .i64 (t : Int))).run Tryz.prog w = .ok () w' ∧ MapAt w' mb (N + 1) (fun k => if k = x then some t else σ k) ∧ Kp (· ≠ mb) w w' := by
  obtain ⟨D, a4, a5⟩ := h
  have hkey := WideMaps.keyOf_string_mk (P := Tryz.prog) (k := 9) Tryz.underlying9 (s := x) (by unfold maxLen; omega)
  obtain ⟨w', hrun, ho, hg⟩ := a4.update (Maps.string_keyed Tryz.underlying9) Tryz.underlying103 (by unfold maxLen; omega) hkey (inE_mk t)
  have hk : Kp (· ≠ mb) w w' := ⟨hg.os, hg.tape, hg.output, hg.size, fun q hq hne => hg.block q hq (fun e => hne (Option.some.inj e))⟩
  exact ⟨w', hrun, ⟨_, ho, a5.put x t⟩, hk⟩
/-- Texts in a block of their own. -/
def TB (w : World) (a : Option Addr) (xs : List ByteArray) : Prop := xs = [] ∨ ∃ g cur, a = some ⟨g, 0, none⟩ ∧ w.heap[g]? = some (.cells cur 9) ∧ ∀ j, (h : j < xs.length) → cur[j]? = some (.string xs[j])
theorem TB.row {w : World} {a : Option Addr} {xs : List ByteArray} (h : TB w a xs) : TRow w a xs := by
  rcases h with h | ⟨g, cur, ha, hb, hc⟩
  · exact .inl h
  · exact .inr ⟨g, 0, ha, fun j hj => by rw [Nat.zero_add]; exact cell_of hb (hc j hj)⟩
theorem TB.keep {K : Nat → Prop} {w w' : World} {a : Option Addr} {xs : List ByteArray} (h : TB w a xs) (hk : Kp K w w') (hK : ∀ g cur, w.heap[g]? = some (.cells cur 9) → K g) : TB w' a xs := by
  rcases h with h | ⟨g, cur, ha, hb, hc⟩
  · exact .inl h
  · exact .inr ⟨g, cur, ha, hk.block' hb (hK g cur hb), hc⟩
theorem TB.later {w w' : World} {a : Option Addr} {xs : List ByteArray} (h : TB w a xs) (hx : Ext w w') : TB w' a xs := h.keep (hx.kp (fun _ => True)) (fun _ _ _ => trivial)
/-- Texts copied. -/
theorem cloneT (a : Option Addr) (c : Nat) (xs : List ByteArray) (w : World) (hl : xs.length ≤ 100) (h : TB w a xs) : Calls Tryz.prog 224 #[.slice a xs.length c] w fun e w' => ∃ a' c', e = .returned (.slice a' xs.length c') ∧ TB w' a' xs ∧ Ext w w' := by
  have fin : ∀ v' w', World.ownsRow w' w.heap.size 9 1 v' xs.length (xs.map Value.string) → ∃ a' c', v' = .slice a' xs.length c' ∧ TB w' a' xs := fun v' w' ho => by
    rcases ho.2 with ⟨rfl, h0⟩ | ⟨g, cap, cur, rfl, _, hb, h1, h2, h3, h4⟩
    · exact ⟨none, 0, by rw [h0], .inl (List.eq_nil_of_length_eq_zero h0)⟩
    · refine ⟨_, _, rfl, .inr ⟨g, cur, rfl, hb, fun j hj => ?_⟩⟩
      have : (cur.toList.take (xs.length * 1))[j]? = some (.string xs[j]) := by rw [h4, List.getElem?_map, List.getElem?_eq_getElem hj]; rfl
      rw [List.getElem?_take_of_lt (by omega)] at this
      simpa using this
  rcases h with h | ⟨g, cur, rfl, hb, hc⟩
  · subst h
    cases a with
    | none =>
      refine (Tryz.slices_Clone_string_nil 0 c w).mono ?_
      rintro e w' ⟨rfl, rfl⟩
      exact ⟨none, 0, rfl, .inl rfl, Ext.refl _⟩
    | some a =>
      refine (Tryz.slices_Clone_string_zero a c w).mono ?_
      rintro e w' ⟨v', rfl, ho, _, hx⟩
      obtain ⟨a', c', rfl, ht⟩ := fin v' w' ho
      exact ⟨a', c', rfl, ht, hx⟩
  · refine (Tryz.slices_Clone_string g 0 xs.length c xs w (Nat.le_refl _) (by omega) (fun j hj => ?_)).mono ?_
    · rw [Nat.zero_add, List.getD_eq_getElem?_getD, List.getElem?_eq_getElem hj]
      exact cell_of hb (hc j hj)
    · rintro e w' ⟨v', rfl, ho, _, hx⟩
      rw [List.take_length] at ho
      obtain ⟨a', c', rfl, ht⟩ := fin v' w' ho
      exact ⟨a', c', rfl, ht, hx⟩
end Go.Proofs.YtecabbifkcnbeaaGreatDoor
