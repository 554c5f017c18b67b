/-
  standing's two closures, within, open of package sort, each by a contract.
-/
import Derived.Test.YtllbelglilkdpaaDoorSFace
import Derived.Maps.OwnSet
import Derived.Maps.Keyed
namespace Go.Proofs.YtllbelglilkdpaaDoor
open Go.RowKit
/-- A shape: lists, and the name within. -/
abbrev Sh := Int × ByteArray
abbrev shV (s : Sh) : Value := .agg #[.int .i64 s.1, .string s.2]
/-- How a shape in the map reads. -/
def shE : Value → Option (DataW Unit × List MemPlace)
  | .agg cs => match cs.toList with
    | [.int .i64 n, .string x] => some (.agg [.lit (.int .i64 n), .lit (.string x.data.toList)], [])
    | _ => none
  | _ => none
theorem shE_mk (s : Sh) : shE (shV s) = some (.agg [.lit (.int .i64 s.1), .lit (.string s.2.data.toList)], []) := rfl
theorem shE_inv {v : Value} {s : Sh} {ps : List MemPlace} (h : shE v = some (.agg [.lit (.int .i64 s.1), .lit (.string s.2.data.toList)], ps)) : v = shV s := by
  unfold shE at h
  split at h
  · rename_i cs
    split at h
    · rename_i n x hcs
      have hv : cs = #[.int .i64 n, .string x] := Array.toList_inj.1 (hcs.trans rfl)
      simp only [Option.some.injEq, Prod.mk.injEq, DataW.agg.injEq, List.cons.injEq, DataW.lit.injEq, Lit.int.injEq, Lit.string.injEq, true_and, and_true] at h
      obtain ⟨⟨h1, h2⟩, _⟩ := h
      rw [hv, h1, data_inj h2]
    · cases h
  · cases h
abbrev shD (s : Sh) : DataW Unit := .agg [.lit (.int .i64 s.1), .lit (.string s.2.data.toList)]
/-- The map stands for these. -/
def MapIs (D : DataW Unit) (σ : ByteArray → Option Sh) : Prop := Maps.IsMap D ∧ ∀ k : ByteArray, Maps.has D (.string k.data.toList) = (σ k).isSome ∧ ∀ s, σ k = some s → ∀ z, D.atKey (.string k.data.toList) z = shD s
theorem MapIs.nil : MapIs (.map []) (fun _ => none) := ⟨⟨_, rfl⟩, fun k => ⟨by simp [Maps.has_eq], fun s h => by cases h⟩⟩
theorem MapIs.put {D : DataW Unit} {σ : ByteArray → Option Sh} (h : MapIs D σ) (x : ByteArray) (s : Sh) : MapIs (D.put (.string x.data.toList) (shD s)) (fun k => if k = x then some s else σ k) := by
  refine ⟨h.1.put _ _, fun k => ?_⟩
  by_cases e : k = x
  · subst e
    have e2 : (fun k_1 => if k_1 = k then some s else σ k_1) k = some s := if_pos rfl
    rw [e2]
    exact ⟨Maps.has_put_same h.1 (show WideAt.IsKeyLit (.string k.data.toList) from trivial) _, fun s' h' z => by cases h'; exact Maps.atKey_put_same h.1 (show WideAt.IsKeyLit (.string k.data.toList) from trivial) _ _⟩
  · have hne : Lit.string k.data.toList ≠ .string x.data.toList := fun e' => e (data_inj (Lit.string.inj e'))
    dsimp only
    rw [if_neg e]
    exact ⟨(Maps.has_put_other hne _).trans (h.2 k).1, fun s' h' z => (Maps.atKey_put_other hne _ _).trans ((h.2 k).2 s' h' z)⟩
/-- The solver's map lies there. -/
def SolM (w : World) (kb mb N : Nat) (σ : ByteArray → Option Sh) : Prop := w.heap[kb]? = some (.cells #[.map (some mb)] 108) ∧ kb ≠ mb ∧ ∃ D, w.ownsMap Tryd.prog 9 shE mb N D ∧ MapIs D σ
theorem SolM.keep {K : Nat → Prop} {w w' : World} {kb mb N : Nat} {σ : ByteArray → Option Sh} (h : SolM w kb mb N σ) (hk : Kp K w w') (h1 : K kb) (h2 : K mb) : SolM w' kb mb N σ := by
  obtain ⟨a1, a2, D, ⟨es, clock, a4, a5⟩, a6⟩ := h
  exact ⟨hk.block' a1 h1, a2, D, ⟨es, clock, hk.block' a4 h2, a5⟩, a6⟩
theorem SolM.later {w w' : World} {kb mb N : Nat} {σ : ByteArray → Option Sh} (h : SolM w kb mb N σ) (hx : Ext w w') : SolM w' kb mb N σ := h.keep (hx.kp (fun _ => True)) trivial trivial
theorem SolM.lt {w : World} {kb mb N : Nat} {σ : ByteArray → Option Sh} (h : SolM w kb mb N σ) : kb < w.heap.size ∧ mb < w.heap.size := by
  obtain ⟨a1, _, D, a4, _⟩ := h
  exact ⟨lt_of_block a1, a4.lt⟩
theorem zero_sh (w : World) : (zeroValue 58).run Tryd.prog w = .ok (.agg #[.int .i64 0, .string ⟨#[]⟩]) w := by kernel_rfl
/-- What the map tells. -/
def stV (o : Option Sh) : Value := .tuple #[shV (o.getD (0, ⟨#[]⟩)), .bool o.isSome]
theorem SolM.look {w : World} {kb mb N : Nat} {σ : ByteArray → Option Sh} (h : SolM w kb mb N σ) (x : ByteArray) (hx : x.size ≤ 140737488351232) : (Instr.lookup 108 (.map (some mb)) (.string x) true).run Tryd.prog w = .ok (stV (σ x)) w := by
  obtain ⟨_, _, D, a4, a5⟩ := h
  have hkey := WideMaps.keyOf_string_mk (P := Tryd.prog) (k := 9) Tryd.underlying9 (s := x) (by unfold maxLen; omega)
  obtain ⟨v, ps, hrun, hv⟩ := a4.look_ok (Maps.string_keyed Tryd.underlying9) Tryd.underlying108 (zero_sh w) (shE_mk (0, ⟨#[]⟩)) hkey
  rw [hrun, (a5.2 x).1]
  unfold stV
  cases hs : σ x with
  | none =>
    have h0 : Maps.has D (.string x.data.toList) = false := by rw [(a5.2 x).1, hs]; rfl
    rw [Maps.atKey_of_not_has h0] at hv
    have := shE_inv (s := (0, ⟨#[]⟩)) hv
    rw [this]
    rfl
  | some s =>
    rw [(a5.2 x).2 s hs] at hv
    rw [shE_inv hv]
    rfl
set_option maxRecDepth 100000 in
theorem stands_any (x : ByteArray) (w : World) {kb mb N : Nat} {σ : ByteArray → Option Sh} (h : SolM w kb mb N σ) (hx : x.size ≤ 140737488351232) : Calls Tryd.prog 63 #[.string x, .pointer (some ⟨kb, 0, none⟩)] w fun e w' => e = .returned (stV (σ x)) ∧ Ext w w' := by
  have HL := hid (h.later (Ext.alloc w (.cells #[.int .i64 0, .string ⟨#[]⟩] 58)) |>.look x hx)
  have c0 : w.cell? ⟨kb, 0, none⟩ = some (.map (some mb)) := cell_of h.1 rfl
  have hk := h.lt.1
  obtain ⟨s, hs⟩ : ∃ s, (σ x).getD (0, ⟨#[]⟩) = s := ⟨_, rfl⟩
  obtain ⟨bo, hbo⟩ : ∃ bo, (σ x).isSome = bo := ⟨_, rfl⟩
  have hst : stV (σ x) = .tuple #[shV s, .bool bo] := by unfold stV; rw [hs, hbo]
  rw [hst] at HL ⊢
  obtain ⟨n, y⟩ := s
  have hl := HL.out
  have HB := hid (blk0 w (.cells #[.int .i64 0, .string ⟨#[]⟩] 58))
  clear h hs hbo hst HL
  go_enter Tryd.func63, Tryd.ntmps63
  go_wp2_with fail
  refine bodyPost_ret (v := .tuple #[shV (n, y), .bool bo]) (by simp [results, Tryd.results63, go_sem]) rfl ?_
  exact ⟨rfl, Ext.alloc2 _ _ _⟩
set_option maxRecDepth 100000 in
theorem within_any (n m : Int) (x : ByteArray) (w : World) (h1 : -140737488351232 ≤ n) (h2 : n ≤ 140737488351232) (h3 : -140737488351232 ≤ m) (h4 : m ≤ 140737488351232) : Calls Tryd.prog 41 #[shV (n, x), .int .i64 m] w fun e w' => e = .returned (shV (n + m, x)) ∧ Ext w w' := by
  have hw : IntKind.i64.wrap (n + m) = n + m := by rw [IntKind.wrap_i64]; omega
  go_enter Tryd.func41, Tryd.ntmps41
  go_wp2_with fail
  refine bodyPost_ret (v := shV (n + m, x)) (by simp [results, Tryd.results41, go_sem]) rfl ?_
  exact ⟨rfl, Ext.alloc2 _ _ _⟩
/-- A variable? -/
def opS (s : Sh) : Bool := decide (s.1 = 0) && !grdL s.2.data.toList
set_option maxRecDepth 100000 in
theorem open_any (s : Sh) (w : World) : Calls Tryd.prog 60 #[shV s] w fun e w' => e = .returned (.bool (opS s)) ∧ Ext w w' := by
  obtain ⟨n, x⟩ := s
  have HG := hid (fun w1 => ground_any x w1)
  have HO := hid (show opS (n, x) = (decide (n = 0) && !grdL x.data.toList) from rfl)
  generalize opS (n, x) = o at *
  generalize grdL x.data.toList = b at *
  by_cases hn : n = 0
  · subst hn
    go_enter Tryd.func60, Tryd.ntmps60
    go_wp2_with (first | (go_at_call 35; refine (HG.out _).mono ?_; rintro e w9 ⟨rfl, hw9⟩; rw [hw9]; clear hw9 w9))
    go_ret
    exact ⟨by rw [HO.out]; simp, Ext.alloc _ _⟩
  · have q : (n == 0) = false := by rw [beq_eq_false_iff_ne]; exact hn
    rw [decide_eq_false hn] at HO
    go_enter Tryd.func60, Tryd.ntmps60
    go_wp2_with fail
    go_ret
    exact ⟨by rw [HO.out]; rfl, Ext.alloc _ _⟩
theorem SolM.put {w : World} {kb mb N : Nat} {σ : ByteArray → Option Sh} (h : SolM w kb mb N σ) (x : ByteArray) (t : Sh) (hx : x.size ≤ 140737488351232) (hN : N ≤ 1000000) : ∃ w', (Instr.mapUpdate 108 (.map (some mb)) (.string x) (shV t)).run Tryd.prog w = .ok () w' ∧ SolM w' kb mb (N + 1) (fun k => if k = x then some t else σ k) ∧ Kp (· ≠ mb) w w' := by
  obtain ⟨a1, a2, D, a4, a5⟩ := h
  have hkey := WideMaps.keyOf_string_mk (P := Tryd.prog) (k := 9) Tryd.underlying9 (s := x) (by unfold maxLen; omega)
  obtain ⟨w', hrun, ho, hg⟩ := a4.update (Maps.string_keyed Tryd.underlying9) Tryd.underlying108 (by unfold maxLen; omega) hkey (shE_mk t)
  have hk : Kp (· ≠ mb) w w' := ⟨hg.os, hg.tape, hg.output, hg.size, fun q hq hne => hg.block q hq (fun e => hne (Option.some.inj e))⟩
  exact ⟨w', hrun, ⟨hk.block' a1 a2, a2, _, ho, a5.put x t⟩, hk⟩
/-- What stand leaves. -/
def StandR (w : World) (kb mb N : Nat) (σ : ByteArray → Option Sh) (x : ByteArray) (t : Sh) (e : Ending) (w' : World) : Prop :=
  ((σ x).isSome = true ∧ e = .returned (.bool false) ∧ Ext w w') ∨ (σ x = none ∧ e = .returned (.bool true) ∧ Kp (· ≠ mb) w w' ∧ SolM w' kb mb (N + 1) (fun k => if k = x then some t else σ k))
set_option maxRecDepth 100000 in
theorem stand_any (x : ByteArray) (t : Sh) (w : World) {kb mb N : Nat} {σ : ByteArray → Option Sh} (h : SolM w kb mb N σ) (hx : x.size ≤ 140737488351232) (hN : N ≤ 1000000) : Calls Tryd.prog 64 #[.string x, shV t, .pointer (some ⟨kb, 0, none⟩)] w (StandR w kb mb N σ x t) := by
  obtain ⟨n, y⟩ := t
  have hl := h.later (Ext.alloc w (.cells #[.int .i64 n, .string y] 58)) |>.look x hx
  have c0 : w.cell? ⟨kb, 0, none⟩ = some (.map (some mb)) := cell_of h.1 rfl
  have hk := h.lt.1
  cases hs : σ x with
  | some u =>
    obtain ⟨m, z⟩ := u
    rw [hs] at hl
    have hl' : (Instr.lookup 108 (.map (some mb)) (.string x) true).run Tryd.prog (w.alloc (.cells #[.int .i64 n, .string y] 58)) = .ok (.tuple #[shV (m, z), .bool true]) _ := hl
    have HS := hid hs
    clear h hs hl
    go_enter Tryd.func64, Tryd.ntmps64
    go_wp2_with fail
    go_ret
    exact .inl ⟨by rw [HS.out]; rfl, rfl, Ext.alloc2 _ _ _⟩
  | none =>
    rw [hs] at hl
    have hl' : (Instr.lookup 108 (.map (some mb)) (.string x) true).run Tryd.prog (w.alloc (.cells #[.int .i64 n, .string y] 58)) = .ok (.tuple #[.agg #[.int .i64 0, .string ⟨#[]⟩], .bool false]) _ := hl
    have HS := hid hs
    obtain ⟨w3, hrun, hsol, hk3⟩ := (h.later (Ext.alloc2 w (.cells #[.int .i64 n, .string y] 58) (.cells #[.int .i64 0, .string ⟨#[]⟩] 58))).put x (n, y) hx hN
    have HSOL := hid hsol
    have HK := hid (show Kp (· ≠ mb) w w3 from ((Ext.alloc2 w (.cells #[.int .i64 n, .string y] 58) (.cells #[.int .i64 0, .string ⟨#[]⟩] 58)).kp _).trans hk3)
    have hrun' : (Instr.mapUpdate 108 (.map (some mb)) (.string x) (.agg #[.int .i64 n, .string y])).run Tryd.prog ((w.alloc (.cells #[.int .i64 n, .string y] 58)).alloc (.cells #[.int .i64 0, .string ⟨#[]⟩] 58)) = .ok () w3 := hrun
    clear h hs hl hrun hsol hk3
    go_enter Tryd.func64, Tryd.ntmps64
    go_wp2_with fail
    go_ret
    exact .inr ⟨HS.out, rfl, HK.out, HSOL.out⟩
end Go.Proofs.YtllbelglilkdpaaDoor
