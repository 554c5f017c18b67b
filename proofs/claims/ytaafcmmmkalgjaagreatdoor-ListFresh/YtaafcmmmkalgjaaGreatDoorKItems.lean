/-
  Rows of kinds as data; kit.may of a row that may be, kit.copied: by contracts.
-/
import Derived.Test.YtaafcmmmkalgjaaGreatDoorKOrd
import Derived.Test.YtaafcmmmkalgjaaGreatDoorCut
import Derived.Deep.RegionHeld3
import Derived.Maps.OwnSet
import Derived.Maps.Keyed
import Derived.Test.YtaafcmmmkalgjaaGreatDoorValue
import Derived.Maps.AppendAt
namespace Go.Proofs.YtaafcmmmkalgjaaGreatDoor
open Go.RowKit
/-- A row. -/
structure Rw where
  kind : ByteArray
  min : Int
  max : Int
  num : Bool
  text : Int
  abs : List ByteArray
/-- A row that may be, of the kit pre. -/
structure GoodR (pre : List UInt8) (r : Rw) : Prop where
  name : ∃ post, r.kind.data.toList = pre ++ 46 :: post ∧ speltB wordI 16 post = true
  nod : (46 : UInt8) ∉ pre
  word : speltB wordI 16 pre = true
  size : r.kind.size ≤ 4000
  min : 0 ≤ r.min
  max : r.max = -1 ∨ r.min ≤ r.max ∧ r.max ≤ 1023
  text : 0 ≤ r.text ∧ r.text ≤ 4
  names : ¬ (r.text = 3 ∧ r.min = 0)
  ord : ordQ 0 false r.abs = true
  len : r.abs.length ≤ 100
theorem GoodR.kind_ok {pre : List UInt8} {r : Rw} (h : GoodR pre r) (w : World) : ∃ P : ByteArray, Calls Tryz.prog 108 #[.string r.kind] w fun e w' => e = .returned (.tuple #[.string ⟨pre.toArray⟩, .string P, .bool true]) ∧ Ext w w' := by
  obtain ⟨post, h1, h2⟩ := h.name
  refine ⟨⟨post.toArray⟩, ?_⟩
  have := kind_found r.kind pre post w h1 h.nod (Nat.le_trans h.size (by decide))
  unfold kindV at this
  rw [if_pos (by rw [h.word, h2]; rfl)] at this
  exact this
/-- Six cells. -/
theorem six_of {w : World} {b : Nat} {v0 v1 v2 v3 v4 v5 : Value} {t : TypeId} (h : w.heap[b]? = some (.cells #[v0, v1, v2, v3, v4, v5] t)) : w.cell? ⟨b, 0, none⟩ = some v0 ∧ w.cell? ⟨b, 1, none⟩ = some v1 ∧ w.cell? ⟨b, 2, none⟩ = some v2 ∧ w.cell? ⟨b, 3, none⟩ = some v3 ∧ w.cell? ⟨b, 4, none⟩ = some v4 ∧ w.cell? ⟨b, 5, none⟩ = some v5 := ⟨cell_of h rfl, cell_of h rfl, cell_of h rfl, cell_of h rfl, cell_of h rfl, cell_of h rfl⟩
def Rw.val (r : Rw) (a : Option Addr) (c : Nat) : Value := .agg #[.string r.kind, .int .i64 r.min, .int .i64 r.max, .bool r.num, .int .i64 r.text, .slice a r.abs.length c]
set_option maxRecDepth 100000 in
set_option maxHeartbeats 2000000 in
theorem may_good {pre : List UInt8} {r : Rw} (hg : GoodR pre r) (a : Option Addr) (c : Nat) (w : World) (hr : TRow w a r.abs) : Calls Tryz.prog 107 #[r.val a c] w fun e w' => e = .returned (.int .i64 0) ∧ Ext w w' := by
  have HK := hid (fun w => hg.kind_ok w)
  have HO := hid (fun w1 (hx : Ext w w1) => ordered_any a c r.abs w1 (by have := hg.len; omega) (hr.later hx))
  rw [hg.ord] at HO
  obtain ⟨_, _, _, _, h1, h2, h3, h4, _, _⟩ := hg
  unfold Rw.val
  obtain ⟨k, mn, mx, nm, tx, abs⟩ := r
  dsimp only at *
  generalize abs.length = l at *
  clear hr
  obtain ⟨M, hM⟩ : ∃ M, w.alloc (.cells #[.string k, .int .i64 mn, .int .i64 mx, .bool nm, .int .i64 tx, .slice a l c] 102) = M := ⟨_, rfl⟩
  have XM := hid (show Ext w M from hM ▸ Ext.alloc _ _)
  have HM0 := hid (show M.heap[w.heap.size]? = some (.cells #[.string k, .int .i64 mn, .int .i64 mx, .bool nm, .int .i64 tx, .slice a l c] 102) from hM ▸ blk0 _ _)
  obtain ⟨z0, z1, z2, z3, z4, z5⟩ := six_of HM0.out
  obtain ⟨P, hP⟩ := HK.out M
  have HP := hid hP
  obtain ⟨h3a, h3b⟩ := h3
  have HH4 := hid h4
  have HH2 := hid h2
  clear hP h4 h2 HK
  by_cases hmx : mx = -1
  · have hmx1 : (mx == -1) = true := by rw [beq_iff_eq]; exact hmx
    have hmx2 : (mx != -1) = false := by unfold bne; rw [hmx1]; rfl
    have hmx3 : mx ≤ -1 := by omega
    have hmx4 : -1 ≤ mx := by omega
    clear hmx
    by_cases htx : tx = 3
    · have htx1 : (tx == 3) = true := by rw [beq_iff_eq]; exact htx
      have hmn : (mn == 0) = false := by rw [beq_eq_false_iff_ne]; exact fun h => HH4.out ⟨htx, h⟩
      clear htx
      go_enter Tryz.func107, Tryz.ntmps107
      go_wp2_with fail
      clear hM
      refine HP.out.mono ?_
      rintro e w1 ⟨rfl, hx1⟩
      have X1 := hid (XM.out.trans hx1)
      obtain ⟨y0, y1, y2, y3, y4, y5⟩ := six_of (hx1.block HM0.out)
      clear hx1
      go_wp2_with fail
      refine (HO.out _ X1.out).mono ?_
      rintro e w2 ⟨rfl, hx2⟩
      have X2 := hid (X1.out.trans hx2)
      clear hx2
      go_wp2_with fail
      go_ret
      exact ⟨rfl, X2.out⟩
    · have htx1 : (tx == 3) = false := by rw [beq_eq_false_iff_ne]; exact htx
      clear htx
      go_enter Tryz.func107, Tryz.ntmps107
      go_wp2_with fail
      clear hM
      refine HP.out.mono ?_
      rintro e w1 ⟨rfl, hx1⟩
      have X1 := hid (XM.out.trans hx1)
      obtain ⟨y0, y1, y2, y3, y4, y5⟩ := six_of (hx1.block HM0.out)
      clear hx1
      go_wp2_with fail
      refine (HO.out _ X1.out).mono ?_
      rintro e w2 ⟨rfl, hx2⟩
      have X2 := hid (X1.out.trans hx2)
      clear hx2
      go_wp2_with fail
      go_ret
      exact ⟨rfl, X2.out⟩
  · have hmx1 : (mx == -1) = false := by rw [beq_eq_false_iff_ne]; exact hmx
    have hq1 : mn ≤ mx := by have := HH2.out; omega
    have hq2 : mx ≤ 1023 := by have := HH2.out; omega
    clear hmx
    by_cases htx : tx = 3
    · have htx1 : (tx == 3) = true := by rw [beq_iff_eq]; exact htx
      have hmn : (mn == 0) = false := by rw [beq_eq_false_iff_ne]; exact fun h => HH4.out ⟨htx, h⟩
      clear htx
      go_enter Tryz.func107, Tryz.ntmps107
      go_wp2_with fail
      clear hM
      refine HP.out.mono ?_
      rintro e w1 ⟨rfl, hx1⟩
      have X1 := hid (XM.out.trans hx1)
      obtain ⟨y0, y1, y2, y3, y4, y5⟩ := six_of (hx1.block HM0.out)
      clear hx1
      go_wp2_with fail
      refine (HO.out _ X1.out).mono ?_
      rintro e w2 ⟨rfl, hx2⟩
      have X2 := hid (X1.out.trans hx2)
      clear hx2
      go_wp2_with fail
      go_ret
      exact ⟨rfl, X2.out⟩
    · have htx1 : (tx == 3) = false := by rw [beq_eq_false_iff_ne]; exact htx
      clear htx
      go_enter Tryz.func107, Tryz.ntmps107
      go_wp2_with fail
      clear hM
      refine HP.out.mono ?_
      rintro e w1 ⟨rfl, hx1⟩
      have X1 := hid (XM.out.trans hx1)
      obtain ⟨y0, y1, y2, y3, y4, y5⟩ := six_of (hx1.block HM0.out)
      clear hx1
      go_wp2_with fail
      refine (HO.out _ X1.out).mono ?_
      rintro e w2 ⟨rfl, hx2⟩
      have X2 := hid (X1.out.trans hx2)
      clear hx2
      go_wp2_with fail
      go_ret
      exact ⟨rfl, X2.out⟩
end Go.Proofs.YtaafcmmmkalgjaaGreatDoor
/-
  A kit's map of kinds: what it tells; a kind more.
-/
namespace Go.Proofs.YtaafcmmmkalgjaaGreatDoor
open Go.RowKit
/-- How a number in the map reads. -/
def inE : Value → Option (DataW Unit × List MemPlace)
  | .int .i64 n => some (.lit (.int .i64 n), [])
  | _ => none
theorem inE_mk (n : Int) : inE (.int .i64 n) = some (.lit (.int .i64 n), []) := rfl
theorem inE_inv {v : Value} {n : Int} {ps : List MemPlace} (h : inE v = some (.lit (.int .i64 n), ps)) : v = .int .i64 n := by
  unfold inE at h
  split at h
  · simp only [Option.some.injEq, Prod.mk.injEq, DataW.lit.injEq, Lit.int.injEq, true_and] at h
    rw [h.1]
  · cases h
/-- The map stands for these. -/
def MapN (D : DataW Unit) (σ : ByteArray → Option Nat) : Prop := Maps.IsMap D ∧ ∀ k : ByteArray, Maps.has D (.string k.data.toList) = (σ k).isSome ∧ ∀ s, σ k = some s → ∀ z, D.atKey (.string k.data.toList) z = .lit (.int .i64 (s : Int))
theorem MapN.nil : MapN (.map []) (fun _ => none) := ⟨⟨_, rfl⟩, fun k => ⟨by simp [Maps.has_eq], fun s h => by cases h⟩⟩
theorem MapN.put {D : DataW Unit} {σ : ByteArray → Option Nat} (h : MapN D σ) (x : ByteArray) (s : Nat) : MapN (D.put (.string x.data.toList) (.lit (.int .i64 (s : Int)))) (fun k => if k = x then some s else σ k) := by
  refine ⟨h.1.put _ _, fun k => ?_⟩
  by_cases e : k = x
  · subst e
    have e2 : (fun k_1 => if k_1 = k then some s else σ k_1) k = some s := if_pos rfl
    rw [e2]
    exact ⟨Maps.has_put_same h.1 (show WideAt.IsKeyLit (.string k.data.toList) from trivial) _, fun s' h' z => by cases h'; exact Maps.atKey_put_same h.1 (show WideAt.IsKeyLit (.string k.data.toList) from trivial) _ _⟩
  · have hne : Lit.string k.data.toList ≠ .string x.data.toList := fun e' => e (data_inj (Lit.string.inj e'))
    dsimp only
    rw [if_neg e]
    exact ⟨(Maps.has_put_other hne _).trans (h.2 k).1, fun s' h' z => (Maps.atKey_put_other hne _ _).trans ((h.2 k).2 s' h' z)⟩
/-- The map lies there, after N writes. -/
def MapAt (w : World) (mb N : Nat) (σ : ByteArray → Option Nat) : Prop := ∃ D, w.ownsMap Tryz.prog 9 inE mb N D ∧ MapN D σ
theorem MapAt.keep {K : Nat → Prop} {w w' : World} {mb N : Nat} {σ : ByteArray → Option Nat} (h : MapAt w mb N σ) (hk : Kp K w w') (h2 : K mb) : MapAt w' mb N σ := by
  obtain ⟨D, ⟨es, clock, a4, a5⟩, a6⟩ := h
  exact ⟨D, ⟨es, clock, hk.block' a4 h2, a5⟩, a6⟩
theorem MapAt.later {w w' : World} {mb N : Nat} {σ : ByteArray → Option Nat} (h : MapAt w mb N σ) (hx : Ext w w') : MapAt w' mb N σ := h.keep (hx.kp (fun _ => True)) trivial
theorem MapAt.lt {w : World} {mb N : Nat} {σ : ByteArray → Option Nat} (h : MapAt w mb N σ) : mb < w.heap.size := by
  obtain ⟨D, a4, _⟩ := h
  exact a4.lt
theorem MapAt.nocells {w : World} {mb N : Nat} {σ : ByteArray → Option Nat} (h : MapAt w mb N σ) {cs : Array Value} {t : TypeId} {m : Nat × Nat} : w.heap[mb]? ≠ some (.cells cs t m) := by
  obtain ⟨D, ⟨es, clock, a4, a5⟩, a6⟩ := h
  rw [a4]
  intro e
  cases e
theorem zero_it (w : World) : (zeroValue 3).run Tryz.prog w = .ok (.int .i64 0) w := by kernel_rfl
/-- What the map tells. -/
def itV (o : Option Nat) : Value := .tuple #[.int .i64 ((o.getD 0 : Nat) : Int), .bool o.isSome]
theorem MapAt.look {w : World} {mb N : Nat} {σ : ByteArray → Option Nat} (h : MapAt w mb N σ) (x : ByteArray) (hx : x.size ≤ 140737488351232) : (Instr.lookup 130 (.map (some mb)) (.string x) true).run Tryz.prog w = .ok (itV (σ x)) w := by
  obtain ⟨D, a4, a5⟩ := h
  have hkey := WideMaps.keyOf_string_mk (P := Tryz.prog) (k := 9) Tryz.underlying9 (s := x) (by unfold maxLen; omega)
  obtain ⟨v, ps, hrun, hv⟩ := a4.look_ok (Maps.string_keyed Tryz.underlying9) Tryz.underlying130 (zero_it w) (inE_mk 0) hkey
  rw [hrun, (a5.2 x).1]
  unfold itV
  cases hs : σ x with
  | none =>
    have h0 : Maps.has D (.string x.data.toList) = false := by rw [(a5.2 x).1, hs]; rfl
    rw [Maps.atKey_of_not_has h0] at hv
    have := inE_inv (n := 0) hv
    rw [this]
    rfl
  | some s =>
    rw [(a5.2 x).2 s hs] at hv
    rw [inE_inv hv]
    rfl
theorem MapAt.put {w : World} {mb N : Nat} {σ : ByteArray → Option Nat} (h : MapAt w mb N σ) (x : ByteArray) (t : Nat) (hx : x.size ≤ 140737488351232) (hN : N ≤ 1000000) : ∃ w', (Instr.mapUpdate 130 (.map (some mb)) (.string x) (.int .i64 (t : Int))).run Tryz.prog w = .ok () w' ∧ MapAt w' mb (N + 1) (fun k => if k = x then some t else σ k) ∧ Kp (· ≠ mb) w w' := by
  obtain ⟨D, a4, a5⟩ := h
  have hkey := WideMaps.keyOf_string_mk (P := Tryz.prog) (k := 9) Tryz.underlying9 (s := x) (by unfold maxLen; omega)
  obtain ⟨w', hrun, ho, hg⟩ := a4.update (Maps.string_keyed Tryz.underlying9) Tryz.underlying130 (by unfold maxLen; omega) hkey (inE_mk t)
  have hk : Kp (· ≠ mb) w w' := ⟨hg.os, hg.tape, hg.output, hg.size, fun q hq hne => hg.block q hq (fun e => hne (Option.some.inj e))⟩
  exact ⟨w', hrun, ⟨_, ho, a5.put x t⟩, hk⟩
/-- Texts in a block of their own. -/
def TB (w : World) (a : Option Addr) (xs : List ByteArray) : Prop := xs = [] ∨ ∃ g cur, a = some ⟨g, 0, none⟩ ∧ w.heap[g]? = some (.cells cur 9) ∧ ∀ j, (h : j < xs.length) → cur[j]? = some (.string xs[j])
theorem TB.row {w : World} {a : Option Addr} {xs : List ByteArray} (h : TB w a xs) : TRow w a xs := by
  rcases h with h | ⟨g, cur, ha, hb, hc⟩
  · exact .inl h
  · exact .inr ⟨g, 0, ha, fun j hj => by rw [Nat.zero_add]; exact cell_of hb (hc j hj)⟩
theorem TB.keep {K : Nat → Prop} {w w' : World} {a : Option Addr} {xs : List ByteArray} (h : TB w a xs) (hk : Kp K w w') (hK : ∀ g cur, w.heap[g]? = some (.cells cur 9) → K g) : TB w' a xs := by
  rcases h with h | ⟨g, cur, ha, hb, hc⟩
  · exact .inl h
  · exact .inr ⟨g, cur, ha, hk.block' hb (hK g cur hb), hc⟩
theorem TB.later {w w' : World} {a : Option Addr} {xs : List ByteArray} (h : TB w a xs) (hx : Ext w w') : TB w' a xs := h.keep (hx.kp (fun _ => True)) (fun _ _ _ => trivial)
/-- Texts copied. -/
theorem cloneT (a : Option Addr) (c : Nat) (xs : List ByteArray) (w : World) (hl : xs.length ≤ 100) (h : TB w a xs) : Calls Tryz.prog 147 #[.slice a xs.length c] w fun e w' => ∃ a' c', e = .returned (.slice a' xs.length c') ∧ TB w' a' xs ∧ Ext w w' := by
  have fin : ∀ v' w', World.ownsRow w' w.heap.size 9 1 v' xs.length (xs.map Value.string) → ∃ a' c', v' = .slice a' xs.length c' ∧ TB w' a' xs := fun v' w' ho => by
    rcases ho.2 with ⟨rfl, h0⟩ | ⟨g, cap, cur, rfl, _, hb, h1, h2, h3, h4⟩
    · exact ⟨none, 0, by rw [h0], .inl (List.eq_nil_of_length_eq_zero h0)⟩
    · refine ⟨_, _, rfl, .inr ⟨g, cur, rfl, hb, fun j hj => ?_⟩⟩
      have : (cur.toList.take (xs.length * 1))[j]? = some (.string xs[j]) := by rw [h4, List.getElem?_map, List.getElem?_eq_getElem hj]; rfl
      rw [List.getElem?_take_of_lt (by omega)] at this
      simpa using this
  rcases h with h | ⟨g, cur, rfl, hb, hc⟩
  · subst h
    cases a with
    | none =>
      refine (Tryz.slices_Clone_string_nil 0 c w).mono ?_
      rintro e w' ⟨rfl, rfl⟩
      exact ⟨none, 0, rfl, .inl rfl, Ext.refl _⟩
    | some a =>
      refine (Tryz.slices_Clone_string_zero a c w).mono ?_
      rintro e w' ⟨v', rfl, ho, _, hx⟩
      obtain ⟨a', c', rfl, ht⟩ := fin v' w' ho
      exact ⟨a', c', rfl, ht, hx⟩
  · refine (Tryz.slices_Clone_string g 0 xs.length c xs w (Nat.le_refl _) (by omega) (fun j hj => ?_)).mono ?_
    · rw [Nat.zero_add, List.getD_eq_getElem?_getD, List.getElem?_eq_getElem hj]
      exact cell_of hb (hc j hj)
    · rintro e w' ⟨v', rfl, ho, _, hx⟩
      rw [List.take_length] at ho
      obtain ⟨a', c', rfl, ht⟩ := fin v' w' ho
      exact ⟨a', c', rfl, ht, hx⟩
end Go.Proofs.YtaafcmmmkalgjaaGreatDoor
/-
  A list of plain values that is being made; one more is appended.
-/
namespace Go.Proofs.YtaafcmmmkalgjaaGreatDoor
open Go.RowKit
theorem grown_kp {w w' : World} {row : Option Nat} (h : w.grownBy w' row) : Kp (fun k => row ≠ some k) w w' := ⟨h.os, h.tape, h.output, h.size, fun k hk hK => h.block k hk (fun e => hK e.symm)⟩
theorem plainInfo : (Tryz.prog.info? 30).map (fun i => (i.zero, i.size, i.bytes)) = some (some (.agg #[.int .i64 0, .int .i64 0, .string ⟨#[]⟩, .slice none 0 0]), 4, 56) := by kernel_rfl
/-- The slice lv holds plain values that were made, as acc tells; its own blocks lie from base on, below N. -/
def PItems (w : World) (base N d : Nat) (lv : Value) (acc : List T) : Prop := ∃ (us : List Value), w.ownsRow base 30 4 lv acc.length us ∧
  (∀ j, (h : j < acc.length) → ∃ u0 u1 u2 u3, us[j * 4]? = some u0 ∧ us[j * 4 + 1]? = some u1 ∧ us[j * 4 + 2]? = some u2 ∧ us[j * 4 + 3]? = some u3 ∧ Rd (fun x => base ≤ x ∧ x < N ∧ lv.ownBlock ≠ some x) w d (.agg #[u0, u1, u2, u3]) acc[j]) ∧
  (∀ g, lv.ownBlock = some g → g < N) ∧ N ≤ w.heap.size
theorem PItems.nil {w : World} (base d : Nat) : PItems w base w.heap.size d (.slice none 0 0) [] :=
  ⟨[], World.ownsRow_nil _ _ _ _, fun j h => absurd h (Nat.not_lt_zero _), fun g h => by simp [Value.ownBlock] at h, Nat.le_refl _⟩
theorem PItems.keep {w w' : World} {base N d : Nat} {lv : Value} {acc : List T} {K : Nat → Prop} (h : PItems w base N d lv acc) (hk : Kp K w w') (hK : ∀ k, base ≤ k → K k) : PItems w' base N d lv acc := by
  obtain ⟨us, ho, hi, hg, hN⟩ := h
  refine ⟨us, ⟨ho.1, ?_⟩, fun j hj => ?_, hg, Nat.le_trans hN hk.size⟩
  · rcases ho.2 with h | ⟨g, cap, cur, hv, hg, hb, hr⟩
    · exact .inl h
    · exact .inr ⟨g, cap, cur, hv, hg, hk.block' hb (hK g hg), hr⟩
  · obtain ⟨u0, u1, u2, u3, h0, h1, h2, h3, hr⟩ := hi j hj
    exact ⟨u0, u1, u2, u3, h0, h1, h2, h3, hr.keep (hk.mono (fun k _ hk => hK k hk.1))⟩
theorem PItems.up {w : World} {base N d : Nat} {lv : Value} {acc : List T} (h : PItems w base N d lv acc) : PItems w base w.heap.size d lv acc := by
  obtain ⟨us, ho, hi, hg, hN⟩ := h
  refine ⟨us, ho, fun j hj => ?_, fun g h => Nat.lt_of_lt_of_le (hg g h) hN, Nat.le_refl _⟩
  obtain ⟨u0, u1, u2, u3, h0, h1, h2, h3, hr⟩ := hi j hj
  exact ⟨u0, u1, u2, u3, h0, h1, h2, h3, hr.mono (fun k hk h => ⟨h.1, hk, h.2.2⟩)⟩
theorem PItems.shape {w : World} {base N d : Nat} {lv : Value} {acc : List T} (h : PItems w base N d lv acc) : ∃ ao c, lv = .slice ao acc.length c := by
  obtain ⟨us, ho, _⟩ := h
  rcases ho.2 with ⟨hv, h0⟩ | ⟨g, cap, cur, hv, _⟩
  · exact ⟨none, 0, by rw [hv, h0]⟩
  · exact ⟨_, _, hv⟩
theorem run_pitem {w : World} {ty : TypeId} (base N d : Nat) (lv : Value) (acc : List T) (k n : Int) (x : ByteArray) (a : Option Addr) (l c : Nat) (t : T) (hB : base ≤ w.heap.size) (hit : PItems w base N d lv acc) (hrd : Rd (fun x => N ≤ x) w d (.agg #[.int .i64 k, .int .i64 n, .string x, .slice a l c]) t) (hbN : base ≤ N) (hlim : acc.length ≤ 2000000) :
    ∃ ao c' w', (Builtin.append_ #[25, 25] 25 #[lv, .slice (some ⟨w.heap.size, 0, none⟩) 1 1]).run Tryz.prog (w.alloc (.cells #[.int .i64 k, .int .i64 n, .string x, .slice a l c] ty)) = .ok (.slice ao (acc ++ [t]).length c') w' ∧ PItems w' base w'.heap.size d (.slice ao (acc ++ [t]).length c') (acc ++ [t]) ∧ Below base w w' := by
  obtain ⟨us, ho, hi, hg0, hN⟩ := hit
  obtain ⟨ii, hii, hz0, hz1, hz2⟩ := info_parts plainInfo
  have hrow : (w.alloc (.cells #[.int .i64 k, .int .i64 n, .string x, .slice a l c] ty)).ownsRow base 30 4 lv acc.length us := World.ownsRow.alloc ho _
  have hnews : ∀ (j : Nat) (u : Value), [Value.int .i64 k, .int .i64 n, .string x, .slice a l c][j]? = some u → (w.alloc (.cells #[.int .i64 k, .int .i64 n, .string x, .slice a l c] ty)).cell? (Addr.add ⟨w.heap.size, 0, none⟩ j) = some u := by
    intro j u hu
    have e : Addr.add ⟨w.heap.size, 0, none⟩ j = ⟨w.heap.size, j, none⟩ := by
      by_cases hj : j = 0
      · subst hj; simp [Addr.add]
      · simp [Addr.add, hj]
    rw [e]
    exact cell_of (blk0 w _) (by simpa using hu)
  obtain ⟨v', w', hr, ho2, hg, _, hat⟩ := run_append_own_at (P := Tryz.prog) (w.alloc (.cells #[.int .i64 k, .int .i64 n, .string x, .slice a l c] ty)) base 25 25 30 ii _ 4 56 Tryz.underlying25 hii hz0 hz1 hz2 rfl (by decide) lv acc.length us hrow ⟨w.heap.size, 0, none⟩ 1 1 [.int .i64 k, .int .i64 n, .string x, .slice a l c] rfl hnews (fun u hu => by simp at hu; rcases hu with rfl | rfl | rfl | rfl <;> rfl) (by unfold maxLen; omega) (by omega) (by rw [blkS]; omega)
  have hkp := grown_kp hg
  have hsz : w.heap.size + 1 ≤ w'.heap.size := by have := hg.size; rw [blkS] at this; exact this
  have hI : PItems w' base w'.heap.size d v' (acc ++ [t]) := by
    have hold : ∀ (x : Nat), x < w.heap.size → lv.ownBlock ≠ some x → v'.ownBlock ≠ some x := fun x hx hne => by
      rcases hat with e | e
      · rw [e]; exact hne
      · rw [e, blkS]; intro h; injection h with h; omega
    have hul : us.length = acc.length * 4 := ho.1
    refine ⟨us ++ [.int .i64 k, .int .i64 n, .string x, .slice a l c], by rw [List.length_append]; exact ho2, fun j hj => ?_, fun g hg => ?_, Nat.le_refl _⟩
    · by_cases hj' : j < acc.length
      · obtain ⟨u0, u1, u2, u3, h0, h1, h2, h3, hr3⟩ := hi j hj'
        refine ⟨u0, u1, u2, u3, by rw [List.getElem?_append_left (by omega)]; exact h0, by rw [List.getElem?_append_left (by omega)]; exact h1, by rw [List.getElem?_append_left (by omega)]; exact h2, by rw [List.getElem?_append_left (by omega)]; exact h3, ?_⟩
        rw [List.getElem_append_left hj']
        exact ((hr3.later (Ext.alloc _ _)).keep (hkp.mono (fun k _ hk => hk.2.2))).mono (fun q _ hq => ⟨hq.1, by have := hq.2.1; omega, hold q (by have := hq.2.1; omega) hq.2.2⟩)
      · have hje : j = acc.length := by simp at hj; omega
        subst hje
        refine ⟨.int .i64 k, .int .i64 n, .string x, .slice a l c, by rw [← hul]; simp, by rw [← hul]; simp, by rw [← hul]; simp, by rw [← hul]; simp, ?_⟩
        simp only [List.getElem_append_right (Nat.le_refl _), Nat.sub_self, List.getElem_cons_zero]
        have hne : ∀ q, N ≤ q → lv.ownBlock ≠ some q := fun q hq e => by have := hg0 q e; omega
        have hlow : Rd (fun q => N ≤ q ∧ q < w.heap.size) w d (.agg #[.int .i64 k, .int .i64 n, .string x, .slice a l c]) t := hrd.mono (fun q hq h => ⟨h, hq⟩)
        exact ((hlow.later (Ext.alloc _ _)).keep (hkp.mono (fun q _ hq => hne q hq.1))).mono (fun q _ hq => ⟨by omega, by omega, hold q hq.2 (hne q hq.1)⟩)
    · rcases ho2.2 with ⟨hv, _⟩ | ⟨g2, cap, cur, hv, _, hb2, _⟩
      · rw [hv] at hg; simp [Value.ownBlock] at hg
      · rw [hv] at hg; simp [Value.ownBlock] at hg; subst hg; exact lt_of_block hb2
  obtain ⟨ao, c', rfl⟩ := hI.shape
  exact ⟨ao, c', w', hr, hI, Below.grown ((Below.refl base w).alloc hB _) hg (by rw [blkS]; omega) (fun k hk => (World.ownsRow.lt ho k hk).1)⟩
theorem app_pitem {ops : Array Oper} {rest : List Oper} {o : Oper} {ac : Act} {Q : Exit → Act → World → Prop} {w : World} {ty : TypeId} (hgd : o.guard = none) (s y : Operand)
    (ho : o.op = .call { callee := .builtin .append, args := #[s, y], argTypes := #[25, 25] }) (hty : o.type = 25) (base N d : Nat) (lv : Value) (acc : List T) (k n : Int) (x : ByteArray) (a : Option Addr) (l c : Nat) (t : T) (hs : ac.eval s = lv) (hx : ac.eval y = .slice (some ⟨w.heap.size, 0, none⟩) 1 1)
    (hB : base ≤ w.heap.size) (hit : PItems w base N d lv acc) (hrd : Rd (fun x => N ≤ x) w d (.agg #[.int .i64 k, .int .i64 n, .string x, .slice a l c]) t) (hbN : base ≤ N) (hlim : acc.length ≤ 2000000)
    (h : ∀ ao c' w', PItems w' base w'.heap.size d (.slice ao (acc.length + 1) c') (acc ++ [t]) → Below base w w' → wpList Tryz.prog ops Q rest (ac.put o.dst (.slice ao (acc.length + 1) c')) w') : wpList Tryz.prog ops Q (o :: rest) ac (w.alloc (.cells #[.int .i64 k, .int .i64 n, .string x, .slice a l c] ty)) := by
  refine wpList_plain hgd fun K hK => ?_
  obtain ⟨ao, c', w', hr, h2, h3⟩ := run_pitem (ty := ty) base N d lv acc k n x a l c t hB hit hrd hbN hlim
  unfold Oper.wp execOp
  rw [List.length_append] at hr h2
  simp only [ho, hty, resolve, invoke, builtin, Sem.run_bind, Sem.run_pure, Result.andThen_ok, List.map_toArray, List.map_cons, List.map_nil, hs, hx, hr]
  exact hK _ _ (h ao c' w' h2 h3)
theorem PItems.list {w : World} {base N d m c : Nat} {ao : Option Addr} {acc : List T} (h : PItems w base N d (.slice ao m c) acc) (hlim : acc.length ≤ 2000000) :
    Rd (fun x => base ≤ x) w (d + 1) (.agg #[.int .i64 5, .int .i64 0, .string ⟨#[]⟩, .slice ao m c]) (.node 5 0 ⟨#[]⟩ acc) := by
  obtain ⟨us, ho, hi, hg, hN⟩ := h
  rcases ho.2 with ⟨hv, h1⟩ | ⟨g, cap, cur, hv, hbg, hbk, h3, h4, h5, h6⟩
  · have h0 := List.eq_nil_of_length_eq_zero h1
    subst h0
    injection hv with e1 e2 e3
    subst e1; subst e2; subst e3
    exact ⟨none, 0, rfl, by decide, by decide, .inl rfl⟩
  · injection hv with e1 e2 e3
    subst e1; subst e2; subst e3
    refine ⟨_, c, rfl, by decide, by omega, .inr ⟨g, 0, rfl, hbg, fun j hj => ?_⟩⟩
    obtain ⟨u0, u1, u2, u3, q0, q1, q2, q3, hr⟩ := hi j hj
    have key : ∀ i u, i < acc.length * 4 → us[i]? = some u → w.cell? ⟨g, 0 + i, none⟩ = some u := fun i u hi hu => by
      rw [← h6, List.getElem?_take_of_lt hi] at hu
      rw [Nat.zero_add]
      exact cell_of hbk (by simpa using hu)
    exact ⟨u0, u1, u2, u3, ⟨key _ _ (by omega) q0, key _ _ (by omega) q1, key _ _ (by omega) q2, key _ _ (by omega) q3⟩, hr.mono (fun q _ hq => hq.1)⟩
end Go.Proofs.YtaafcmmmkalgjaaGreatDoor
/-
  A list of rows that is being made; one more is appended. kit.copied.
-/
namespace Go.Proofs.YtaafcmmmkalgjaaGreatDoor
open Go.RowKit
theorem rowInfo : (Tryz.prog.info? 102).map (fun i => (i.zero, i.size, i.bytes)) = some (some (.agg #[.string ⟨#[]⟩, .int .i64 0, .int .i64 0, .bool false, .int .i64 0, .slice none 0 0]), 6, 72) := by kernel_rfl
def Rw.cells (r : Rw) (a : Option Addr) (c : Nat) : List Value := [.string r.kind, .int .i64 r.min, .int .i64 r.max, .bool r.num, .int .i64 r.text, .slice a r.abs.length c]
/-- Six values of a list are a row's. -/
def RAt (us : List Value) (i : Nat) (r : Rw) (a : Option Addr) (c : Nat) : Prop := us[i]? = some (.string r.kind) ∧ us[i + 1]? = some (.int .i64 r.min) ∧ us[i + 2]? = some (.int .i64 r.max) ∧ us[i + 3]? = some (.bool r.num) ∧ us[i + 4]? = some (.int .i64 r.text) ∧ us[i + 5]? = some (.slice a r.abs.length c)
/-- The slice lv holds rows that were made; each row's texts in a block of their own. -/
def RItems (w : World) (base : Nat) (lv : Value) (acc : List Rw) : Prop := ∃ us : List Value, w.ownsRow base 102 6 lv acc.length us ∧ ∀ j, (h : j < acc.length) → ∃ a c, RAt us (j * 6) acc[j] a c ∧ TB w a acc[j].abs
theorem RItems.nil (w : World) (base : Nat) : RItems w base (.slice none 0 0) [] := ⟨[], World.ownsRow_nil _ _ _ _, fun _ h => absurd h (Nat.not_lt_zero _)⟩
theorem RItems.keep {w w' : World} {base : Nat} {lv : Value} {acc : List Rw} {K : Nat → Prop} (h : RItems w base lv acc) (hk : Kp K w w') (h1 : ∀ g, lv.ownBlock = some g → K g) (h2 : ∀ g cur, w.heap[g]? = some (.cells cur 9) → K g) : RItems w' base lv acc := by
  obtain ⟨us, ho, hi⟩ := h
  refine ⟨us, ⟨ho.1, ?_⟩, fun j hj => ?_⟩
  · rcases ho.2 with h | ⟨g, cap, cur, hv, hg, hb, hr⟩
    · exact .inl h
    · exact .inr ⟨g, cap, cur, hv, hg, hk.block' hb (h1 g (by rw [hv]; rfl)), hr⟩
  · obtain ⟨a, c, h3, h4⟩ := hi j hj
    exact ⟨a, c, h3, h4.keep hk h2⟩
theorem RItems.later {w w' : World} {base : Nat} {lv : Value} {acc : List Rw} (h : RItems w base lv acc) (hx : Ext w w') : RItems w' base lv acc := h.keep (hx.kp (fun _ => True)) (fun _ _ => trivial) (fun _ _ _ => trivial)
theorem RItems.shape {w : World} {base : Nat} {lv : Value} {acc : List Rw} (h : RItems w base lv acc) : ∃ ao c, lv = .slice ao acc.length c := by
  obtain ⟨us, ho, _⟩ := h
  rcases ho.2 with ⟨hv, h0⟩ | ⟨g, cap, cur, hv, _⟩
  · exact ⟨none, 0, by rw [hv, h0]⟩
  · exact ⟨_, _, hv⟩
/-- Its block is one of rows. -/
theorem RItems.block {w : World} {base : Nat} {lv : Value} {acc : List Rw} (h : RItems w base lv acc) {g : Nat} (hg : lv.ownBlock = some g) : base ≤ g ∧ ∃ cur, w.heap[g]? = some (.cells cur 102) := by
  obtain ⟨us, ho, _⟩ := h
  rcases ho.2 with ⟨hv, h0⟩ | ⟨g', cap, cur, hv, hb, hbl, _⟩
  · rw [hv] at hg; simp [Value.ownBlock] at hg
  · rw [hv] at hg; simp [Value.ownBlock] at hg; subst hg; exact ⟨hb, cur, hbl⟩
theorem run_ritem {w : World} {ty : TypeId} (base g : Nat) (lv : Value) (acc : List Rw) (r : Rw) (a : Option Addr) (c : Nat) (hB : base ≤ w.heap.size) (hit : RItems w base lv acc) (hg : w.heap[g]? = some (.cells (r.cells a c).toArray ty)) (htb : TB w a r.abs) (hlim : acc.length ≤ 2000000) :
    ∃ ao c' w', (Builtin.append_ #[98, 98] 98 #[lv, .slice (some ⟨g, 0, none⟩) 1 1]).run Tryz.prog w = .ok (.slice ao (acc ++ [r]).length c') w' ∧ RItems w' base (.slice ao (acc ++ [r]).length c') (acc ++ [r]) ∧ w.grownBy w' lv.ownBlock := by
  have HB := fun g' h => hit.block (g := g') h
  obtain ⟨us, ho, hi⟩ := hit
  obtain ⟨ii, hii, hz0, hz1, hz2⟩ := info_parts rowInfo
  have hnews : ∀ (j : Nat) (u : Value), (r.cells a c)[j]? = some u → w.cell? (Addr.add ⟨g, 0, none⟩ j) = some u := by
    intro j u hu
    have e : Addr.add ⟨g, 0, none⟩ j = ⟨g, j, none⟩ := by
      by_cases hj : j = 0
      · subst hj; simp [Addr.add]
      · simp [Addr.add, hj]
    rw [e]
    exact cell_of hg (by simpa using hu)
  obtain ⟨v', w', hr, ho2, hgr, _, hat⟩ := run_append_own_at (P := Tryz.prog) w base 98 98 102 ii _ 6 72 Tryz.underlying98 hii hz0 hz1 hz2 rfl (by decide) lv acc.length us ho ⟨g, 0, none⟩ 1 1 (r.cells a c) rfl hnews (fun u hu => by simp [Rw.cells] at hu; rcases hu with rfl | rfl | rfl | rfl | rfl | rfl <;> rfl) (by unfold maxLen; omega) (by omega) (by omega)
  have hkp := grown_kp hgr
  have hKst : ∀ q cur, w.heap[q]? = some (.cells cur 9) → lv.ownBlock ≠ some q := fun q cur hq e => by
    obtain ⟨_, cur', hc'⟩ := HB q e
    rw [hc'] at hq
    cases hq
  have hul : us.length = acc.length * 6 := ho.1
  have hI : RItems w' base v' (acc ++ [r]) := by
    refine ⟨us ++ r.cells a c, by rw [List.length_append]; exact ho2, fun j hj => ?_⟩
    by_cases hj' : j < acc.length
    · obtain ⟨a', c', ⟨h0, h1, h2, h3, h4, h5⟩, h6⟩ := hi j hj'
      rw [List.getElem_append_left hj']
      exact ⟨a', c', ⟨by rw [List.getElem?_append_left (by omega)]; exact h0, by rw [List.getElem?_append_left (by omega)]; exact h1, by rw [List.getElem?_append_left (by omega)]; exact h2, by rw [List.getElem?_append_left (by omega)]; exact h3, by rw [List.getElem?_append_left (by omega)]; exact h4, by rw [List.getElem?_append_left (by omega)]; exact h5⟩, h6.keep hkp hKst⟩
    · have hje : j = acc.length := by simp at hj; omega
      subst hje
      simp only [List.getElem_append_right (Nat.le_refl _), Nat.sub_self, List.getElem_cons_zero]
      exact ⟨a, c, ⟨by rw [← hul]; simp [Rw.cells], by rw [← hul]; simp [Rw.cells], by rw [← hul]; simp [Rw.cells], by rw [← hul]; simp [Rw.cells], by rw [← hul]; simp [Rw.cells], by rw [← hul]; simp [Rw.cells]⟩, htb.keep hkp hKst⟩
  obtain ⟨ao, c', rfl⟩ := hI.shape
  exact ⟨ao, c', w', hr, hI, hgr⟩
theorem step_ritem {ops : Array Oper} {o : Oper} {ac : Act} {K : Act → World → Prop} {Q : Exit → Act → World → Prop} {E : Prop} {ty : TypeId} (w : World) (hgd : o.guard = none) (x y : Operand)
    (ho : o.op = .call { callee := .builtin .append, args := #[x, y], argTypes := #[98, 98] }) (hty : o.type = 98)
    (base g : Nat) (lv : Value) (acc : List Rw) (r : Rw) (a : Option Addr) (c : Nat) (hx : ac.eval x = lv) (hy : ac.eval y = .slice (some ⟨g, 0, none⟩) 1 1) (hB : base ≤ w.heap.size)
    (hit : RItems w base lv acc) (hg : w.heap[g]? = some (.cells (r.cells a c).toArray ty)) (htb : TB w a r.abs) (hlim : acc.length ≤ 2000000)
    (h : ∀ ao n c' w', RItems w' base (.slice ao n c') (acc ++ [r]) → w.grownBy w' lv.ownBlock → K (ac.put o.dst (.slice ao n c')) w') :
    if Region.wanted o (yielded ops ac.tmps) = true then Oper.wp Tryz.prog o ac w K Q else E := by
  have hw : Region.wanted o (yielded ops ac.tmps) = true := by simp [Region.wanted, hgd]
  rw [if_pos hw]
  obtain ⟨ao, c', w', hr, h2, h3⟩ := run_ritem (ty := ty) base g lv acc r a c hB hit hg htb hlim
  unfold Oper.wp execOp
  simp only [ho, hty, resolve, invoke, builtin, Sem.run_bind, Sem.run_pure, Result.andThen_ok, List.map_toArray, List.map_cons, List.map_nil, hx, hy, hr]
  exact h ao _ c' w' h2 h3
theorem six_set {w : World} {b : Nat} {v0 v1 v2 v3 v4 v5 u0 u1 u2 u3 u4 u5 : Value} {t : TypeId} (h : w.heap[b]? = some (.cells #[v0, v1, v2, v3, v4, v5] t)) : ((((((w.setCell ⟨b, 0, none⟩ u0).setCell ⟨b, 1, none⟩ u1).setCell ⟨b, 2, none⟩ u2).setCell ⟨b, 3, none⟩ u3).setCell ⟨b, 4, none⟩ u4).setCell ⟨b, 5, none⟩ u5).heap[b]? = some (.cells #[u0, u1, u2, u3, u4, u5] t) := (set_at (set_at (set_at (set_at (set_at (set_at h 0 u0) 1 u1) 2 u2) 3 u3) 4 u4) 5 u5).trans (by simp)
theorem Kp.set6 (w : World) (g : Nat) (v0 v1 v2 v3 v4 v5 : Value) : Kp (· ≠ g) w ((((((w.setCell ⟨g, 0, none⟩ v0).setCell ⟨g, 1, none⟩ v1).setCell ⟨g, 2, none⟩ v2).setCell ⟨g, 3, none⟩ v3).setCell ⟨g, 4, none⟩ v4).setCell ⟨g, 5, none⟩ v5) :=
  (((((Kp.set w g 0 v0 (fun h => h rfl)).trans (Kp.set _ g 1 v1 (fun h => h rfl))).trans (Kp.set _ g 2 v2 (fun h => h rfl))).trans (Kp.set _ g 3 v3 (fun h => h rfl))).trans (Kp.set _ g 4 v4 (fun h => h rfl))).trans (Kp.set _ g 5 v5 (fun h => h rfl))
set_option maxRecDepth 100000 in
theorem copied_any (r : Rw) (a : Option Addr) (c : Nat) (w : World) (hl : r.abs.length ≤ 100) (h : TB w a r.abs) : Calls Tryz.prog 109 #[r.val a c] w fun e w' => ∃ a' c', e = .returned (r.val a' c') ∧ TB w' a' r.abs ∧ Ext w w' := by
  have HC := hid (fun w1 (hx : Ext w w1) => cloneT a c r.abs w1 hl (h.later hx))
  unfold Rw.val
  obtain ⟨k, mn, mx, nm, tx, abs⟩ := r
  dsimp only at *
  generalize abs.length = l at *
  clear h hl
  obtain ⟨M, hM⟩ : ∃ M, (w.alloc (.cells #[.string k, .int .i64 mn, .int .i64 mx, .bool nm, .int .i64 tx, .slice a l c] 102)).alloc (.cells #[.string ⟨#[]⟩, .int .i64 0, .int .i64 0, .bool false, .int .i64 0, .slice none 0 0] 102) = M := ⟨_, rfl⟩
  have XM := hid (show Ext w M from hM ▸ Ext.alloc2 _ _ _)
  have HM0 := hid (show M.heap[w.heap.size]? = some (.cells #[.string k, .int .i64 mn, .int .i64 mx, .bool nm, .int .i64 tx, .slice a l c] 102) from hM ▸ blkOld _ (blk0 _ _))
  have HM1 := hid (show M.heap[w.heap.size + 1]? = some (.cells #[.string ⟨#[]⟩, .int .i64 0, .int .i64 0, .bool false, .int .i64 0, .slice none 0 0] 102) from hM ▸ blk1 _ _ _)
  obtain ⟨z0, z1, z2, z3, z4, z5⟩ := six_of HM0.out
  go_enter Tryz.func109, Tryz.ntmps109
  go_wp2_with fail
  clear hM
  refine (HC.out _ XM.out).mono ?_
  rintro e w1 ⟨a', c', rfl, htb, hx1⟩
  have HTB := hid htb
  have X1 := hid (XM.out.trans hx1)
  have B0 := hid (hx1.block HM0.out)
  have B1 := hid (hx1.block HM1.out)
  obtain ⟨y0, y1, y2, y3, y4, y5⟩ := six_of B0.out
  obtain ⟨f0, f1, f2, f3, f4, f5⟩ : w1.frozen? ⟨w.heap.size + 1, 0, none⟩ = false ∧ w1.frozen? ⟨w.heap.size + 1, 1, none⟩ = false ∧ w1.frozen? ⟨w.heap.size + 1, 2, none⟩ = false ∧ w1.frozen? ⟨w.heap.size + 1, 3, none⟩ = false ∧ w1.frozen? ⟨w.heap.size + 1, 4, none⟩ = false ∧ w1.frozen? ⟨w.heap.size + 1, 5, none⟩ = false := ⟨frozen_of B1.out, frozen_of B1.out, frozen_of B1.out, frozen_of B1.out, frozen_of B1.out, frozen_of B1.out⟩
  have fz : w1.frozen? ⟨w.heap.size, 5, none⟩ = false := frozen_of B0.out
  obtain ⟨x0, x1, x2, x3, x4, x5⟩ := six_of B1.out
  clear htb hx1
  go_wp2_with fail
  have BS := set_other (i := 5) B1.out (show w.heap.size + 1 ≠ w.heap.size by omega) (.slice a' l c')
  obtain ⟨q0, q1, q2, q3, q4, q5⟩ := six_of (six_set (u0 := .string k) (u1 := .int .i64 mn) (u2 := .int .i64 mx) (u3 := .bool nm) (u4 := .int .i64 tx) (u5 := .slice a' l c') BS)
  refine bodyPost_ret (v := .agg #[.string k, .int .i64 mn, .int .i64 mx, .bool nm, .int .i64 tx, .slice a' l c']) (by simp [results, Tryz.results109, go_sem, q0, q1, q2, q3, q4, q5]) rfl ?_
  have K1 : Kp (fun q => q ≠ w.heap.size ∧ q ≠ w.heap.size + 1) w1 _ := ((Kp.set w1 w.heap.size 5 (.slice a' l c') (fun h => h rfl)).mono (L := fun q => q ≠ w.heap.size ∧ q ≠ w.heap.size + 1) (fun q _ h => h.1)).trans ((Kp.set6 _ (w.heap.size + 1) (.string k) (.int .i64 mn) (.int .i64 mx) (.bool nm) (.int .i64 tx) (.slice a' l c')).mono (fun q _ h => h.2))
  refine ⟨a', c', rfl, HTB.out.keep K1 (fun q cur hq => ⟨fun e => ?_, fun e => ?_⟩), ?_⟩
  · rw [e, B0.out] at hq; cases hq
  · rw [e, B1.out] at hq; cases hq
  · exact ⟨K1.os.trans X1.out.os, K1.tape.trans X1.out.tape, K1.output.trans X1.out.output, Nat.le_trans X1.out.size K1.size, fun i hi => (K1.block i (Nat.lt_of_lt_of_le hi X1.out.size) ⟨by omega, by omega⟩).trans (Below.block X1.out i hi)⟩
end Go.Proofs.YtaafcmmmkalgjaaGreatDoor
