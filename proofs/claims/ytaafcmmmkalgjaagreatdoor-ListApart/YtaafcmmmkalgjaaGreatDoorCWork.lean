/-
  Rows of kinds as data; kit.may of a row that may be, kit.copied: by contracts.
-/
import Derived.Test.YtaafcmmmkalgjaaGreatDoorKOrd
import Derived.Test.YtaafcmmmkalgjaaGreatDoorCut
import Derived.Deep.RegionHeld3
import Derived.Maps.OwnSet
import Derived.Maps.Keyed
import Derived.Test.YtaafcmmmkalgjaaGreatDoorCMay
import Derived.Test.YtaafcmmmkalgjaaGreatDoorCRightW
import Derived.Test.YtaafcmmmkalgjaaGreatDoorBKind
import Derived.Test.YtaafcmmmkalgjaaGreatDoorEqs
import Derived.Laws.OwnMore
import Derived.Test.YtaafcmmmkalgjaaGreatDoorHolds
namespace Go.Proofs.YtaafcmmmkalgjaaGreatDoor
open Go.RowKit
/-- A row. -/
structure Rw where
  kind : ByteArray
  min : Int
  max : Int
  num : Bool
  text : Int
  abs : List ByteArray
/-- A row that may be, of the kit pre. -/
structure GoodR (pre : List UInt8) (r : Rw) : Prop where
  name : ∃ post, r.kind.data.toList = pre ++ 46 :: post ∧ speltB wordI 16 post = true
  nod : (46 : UInt8) ∉ pre
  word : speltB wordI 16 pre = true
  size : r.kind.size ≤ 4000
  min : 0 ≤ r.min
  max : r.max = -1 ∨ r.min ≤ r.max ∧ r.max ≤ 1023
  text : 0 ≤ r.text ∧ r.text ≤ 4
  names : ¬ (r.text = 3 ∧ r.min = 0)
  ord : ordQ 0 false r.abs = true
  len : r.abs.length ≤ 100
theorem GoodR.kind_ok {pre : List UInt8} {r : Rw} (h : GoodR pre r) (w : World) : ∃ P : ByteArray, Calls Tryz.prog 108 #[.string r.kind] w fun e w' => e = .returned (.tuple #[.string ⟨pre.toArray⟩, .string P, .bool true]) ∧ Ext w w' := by
  obtain ⟨post, h1, h2⟩ := h.name
  refine ⟨⟨post.toArray⟩, ?_⟩
  have := kind_found r.kind pre post w h1 h.nod (Nat.le_trans h.size (by decide))
  unfold kindV at this
  rw [if_pos (by rw [h.word, h2]; rfl)] at this
  exact this
/-- Six cells. -/
theorem six_of {w : World} {b : Nat} {v0 v1 v2 v3 v4 v5 : Value} {t : TypeId} (h : w.heap[b]? = some (.cells #[v0, v1, v2, v3, v4, v5] t)) : w.cell? ⟨b, 0, none⟩ = some v0 ∧ w.cell? ⟨b, 1, none⟩ = some v1 ∧ w.cell? ⟨b, 2, none⟩ = some v2 ∧ w.cell? ⟨b, 3, none⟩ = some v3 ∧ w.cell? ⟨b, 4, none⟩ = some v4 ∧ w.cell? ⟨b, 5, none⟩ = some v5 := ⟨cell_of h rfl, cell_of h rfl, cell_of h rfl, cell_of h rfl, cell_of h rfl, cell_of h rfl⟩
def Rw.val (r : Rw) (a : Option Addr) (c : Nat) : Value := .agg #[.string r.kind, .int .i64 r.min, .int .i64 r.max, .bool r.num, .int .i64 r.text, .slice a r.abs.length c]
set_option maxRecDepth 100000 in
set_option maxHeartbeats 2000000 in
theorem may_good {pre : List UInt8} {r : Rw} (hg : GoodR pre r) (a : Option Addr) (c : Nat) (w : World) (hr : TRow w a r.abs) : Calls Tryz.prog 107 #[r.val a c] w fun e w' => e = .returned (.int .i64 0) ∧ Ext w w' := by
  have HK := hid (fun w => hg.kind_ok w)
  have HO := hid (fun w1 (hx : Ext w w1) => ordered_any a c r.abs w1 (by have := hg.len; omega) (hr.later hx))
  rw [hg.ord] at HO
  obtain ⟨_, _, _, _, h1, h2, h3, h4, _, _⟩ := hg
  unfold Rw.val
  obtain ⟨k, mn, mx, nm, tx, abs⟩ := r
  dsimp only at *
  generalize abs.length = l at *
  clear hr
  obtain ⟨M, hM⟩ : ∃ M, w.alloc (.cells #[.string k, .int .i64 mn, .int .i64 mx, .bool nm, .int .i64 tx, .slice a l c] 102) = M := ⟨_, rfl⟩
  have XM := hid (show Ext w M from hM ▸ Ext.alloc _ _)
  have HM0 := hid (show M.heap[w.heap.size]? = some (.cells #[.string k, .int .i64 mn, .int .i64 mx, .bool nm, .int .i64 tx, .slice a l c] 102) from hM ▸ blk0 _ _)
  obtain ⟨z0, z1, z2, z3, z4, z5⟩ := six_of HM0.out
  obtain ⟨P, hP⟩ := HK.out M
  have HP := hid hP
  obtain ⟨h3a, h3b⟩ := h3
  have HH4 := hid h4
  have HH2 := hid h2
  clear hP h4 h2 HK
  by_cases hmx : mx = -1
  · have hmx1 : (mx == -1) = true := by rw [beq_iff_eq]; exact hmx
    have hmx2 : (mx != -1) = false := by unfold bne; rw [hmx1]; rfl
    have hmx3 : mx ≤ -1 := by omega
    have hmx4 : -1 ≤ mx := by omega
    clear hmx
    by_cases htx : tx = 3
    · have htx1 : (tx == 3) = true := by rw [beq_iff_eq]; exact htx
      have hmn : (mn == 0) = false := by rw [beq_eq_false_iff_ne]; exact fun h => HH4.out ⟨htx, h⟩
      clear htx
      go_enter Tryz.func107, Tryz.ntmps107
      go_wp2_with fail
      clear hM
      refine HP.out.mono ?_
      rintro e w1 ⟨rfl, hx1⟩
      have X1 := hid (XM.out.trans hx1)
      obtain ⟨y0, y1, y2, y3, y4, y5⟩ := six_of (hx1.block HM0.out)
      clear hx1
      go_wp2_with fail
      refine (HO.out _ X1.out).mono ?_
      rintro e w2 ⟨rfl, hx2⟩
      have X2 := hid (X1.out.trans hx2)
      clear hx2
      go_wp2_with fail
      go_ret
      exact ⟨rfl, X2.out⟩
    · have htx1 : (tx == 3) = false := by rw [beq_eq_false_iff_ne]; exact htx
      clear htx
      go_enter Tryz.func107, Tryz.ntmps107
      go_wp2_with fail
      clear hM
      refine HP.out.mono ?_
      rintro e w1 ⟨rfl, hx1⟩
      have X1 := hid (XM.out.trans hx1)
      obtain ⟨y0, y1, y2, y3, y4, y5⟩ := six_of (hx1.block HM0.out)
      clear hx1
      go_wp2_with fail
      refine (HO.out _ X1.out).mono ?_
      rintro e w2 ⟨rfl, hx2⟩
      have X2 := hid (X1.out.trans hx2)
      clear hx2
      go_wp2_with fail
      go_ret
      exact ⟨rfl, X2.out⟩
  · have hmx1 : (mx == -1) = false := by rw [beq_eq_false_iff_ne]; exact hmx
    have hq1 : mn ≤ mx := by have := HH2.out; omega
    have hq2 : mx ≤ 1023 := by have := HH2.out; omega
    clear hmx
    by_cases htx : tx = 3
    · have htx1 : (tx == 3) = true := by rw [beq_iff_eq]; exact htx
      have hmn : (mn == 0) = false := by rw [beq_eq_false_iff_ne]; exact fun h => HH4.out ⟨htx, h⟩
      clear htx
      go_enter Tryz.func107, Tryz.ntmps107
      go_wp2_with fail
      clear hM
      refine HP.out.mono ?_
      rintro e w1 ⟨rfl, hx1⟩
      have X1 := hid (XM.out.trans hx1)
      obtain ⟨y0, y1, y2, y3, y4, y5⟩ := six_of (hx1.block HM0.out)
      clear hx1
      go_wp2_with fail
      refine (HO.out _ X1.out).mono ?_
      rintro e w2 ⟨rfl, hx2⟩
      have X2 := hid (X1.out.trans hx2)
      clear hx2
      go_wp2_with fail
      go_ret
      exact ⟨rfl, X2.out⟩
    · have htx1 : (tx == 3) = false := by rw [beq_eq_false_iff_ne]; exact htx
      clear htx
      go_enter Tryz.func107, Tryz.ntmps107
      go_wp2_with fail
      clear hM
      refine HP.out.mono ?_
      rintro e w1 ⟨rfl, hx1⟩
      have X1 := hid (XM.out.trans hx1)
      obtain ⟨y0, y1, y2, y3, y4, y5⟩ := six_of (hx1.block HM0.out)
      clear hx1
      go_wp2_with fail
      refine (HO.out _ X1.out).mono ?_
      rintro e w2 ⟨rfl, hx2⟩
      have X2 := hid (X1.out.trans hx2)
      clear hx2
      go_wp2_with fail
      go_ret
      exact ⟨rfl, X2.out⟩
end Go.Proofs.YtaafcmmmkalgjaaGreatDoor
/-
  A kit's map of kinds: what it tells; a kind more.
-/
namespace Go.Proofs.YtaafcmmmkalgjaaGreatDoor
open Go.RowKit
/-- How a number in the map reads. -/
def inE : Value → Option (DataW Unit × List MemPlace)
  | .int .i64 n => some (.lit (.int .i64 n), [])
  | _ => none
theorem inE_mk (n : Int) : inE (.int .i64 n) = some (.lit (.int .i64 n), []) := rfl
theorem inE_inv {v : Value} {n : Int} {ps : List MemPlace} (h : inE v = some (.lit (.int .i64 n), ps)) : v = .int .i64 n := by
  unfold inE at h
  split at h
  · simp only [Option.some.injEq, Prod.mk.injEq, DataW.lit.injEq, Lit.int.injEq, true_and] at h
    rw [h.1]
  · cases h
/-- The map stands for these. -/
def MapN (D : DataW Unit) (σ : ByteArray → Option Nat) : Prop := Maps.IsMap D ∧ ∀ k : ByteArray, Maps.has D (.string k.data.toList) = (σ k).isSome ∧ ∀ s, σ k = some s → ∀ z, D.atKey (.string k.data.toList) z = .lit (.int .i64 (s : Int))
theorem MapN.nil : MapN (.map []) (fun _ => none) := ⟨⟨_, rfl⟩, fun k => ⟨by simp [Maps.has_eq], fun s h => by cases h⟩⟩
theorem MapN.put {D : DataW Unit} {σ : ByteArray → Option Nat} (h : MapN D σ) (x : ByteArray) (s : Nat) : MapN (D.put (.string x.data.toList) (.lit (.int .i64 (s : Int)))) (fun k => if k = x then some s else σ k) := by
  refine ⟨h.1.put _ _, fun k => ?_⟩
  by_cases e : k = x
  · subst e
    have e2 : (fun k_1 => if k_1 = k then some s else σ k_1) k = some s := if_pos rfl
    rw [e2]
    exact ⟨Maps.has_put_same h.1 (show WideAt.IsKeyLit (.string k.data.toList) from trivial) _, fun s' h' z => by cases h'; exact Maps.atKey_put_same h.1 (show WideAt.IsKeyLit (.string k.data.toList) from trivial) _ _⟩
  · have hne : Lit.string k.data.toList ≠ .string x.data.toList := fun e' => e (data_inj (Lit.string.inj e'))
    dsimp only
    rw [if_neg e]
    exact ⟨(Maps.has_put_other hne _).trans (h.2 k).1, fun s' h' z => (Maps.atKey_put_other hne _ _).trans ((h.2 k).2 s' h' z)⟩
/-- The map lies there, after N writes. -/
def MapAt (w : World) (mb N : Nat) (σ : ByteArray → Option Nat) : Prop := ∃ D, w.ownsMap Tryz.prog 9 inE mb N D ∧ MapN D σ
theorem MapAt.keep {K : Nat → Prop} {w w' : World} {mb N : Nat} {σ : ByteArray → Option Nat} (h : MapAt w mb N σ) (hk : Kp K w w') (h2 : K mb) : MapAt w' mb N σ := by
  obtain ⟨D, ⟨es, clock, a4, a5⟩, a6⟩ := h
  exact ⟨D, ⟨es, clock, hk.block' a4 h2, a5⟩, a6⟩
theorem MapAt.later {w w' : World} {mb N : Nat} {σ : ByteArray → Option Nat} (h : MapAt w mb N σ) (hx : Ext w w') : MapAt w' mb N σ := h.keep (hx.kp (fun _ => True)) trivial
theorem MapAt.lt {w : World} {mb N : Nat} {σ : ByteArray → Option Nat} (h : MapAt w mb N σ) : mb < w.heap.size := by
  obtain ⟨D, a4, _⟩ := h
  exact a4.lt
theorem MapAt.nocells {w : World} {mb N : Nat} {σ : ByteArray → Option Nat} (h : MapAt w mb N σ) {cs : Array Value} {t : TypeId} {m : Nat × Nat} : w.heap[mb]? ≠ some (.cells cs t m) := by
  obtain ⟨D, ⟨es, clock, a4, a5⟩, a6⟩ := h
  rw [a4]
  intro e
  cases e
theorem zero_it (w : World) : (zeroValue 3).run Tryz.prog w = .ok (.int .i64 0) w := by kernel_rfl
/-- What the map tells. -/
def itV (o : Option Nat) : Value := .tuple #[.int .i64 ((o.getD 0 : Nat) : Int), .bool o.isSome]
theorem MapAt.look {w : World} {mb N : Nat} {σ : ByteArray → Option Nat} (h : MapAt w mb N σ) (x : ByteArray) (hx : x.size ≤ 140737488351232) : (Instr.lookup 130 (.map (some mb)) (.string x) true).run Tryz.prog w = .ok (itV (σ x)) w := by
  obtain ⟨D, a4, a5⟩ := h
  have hkey := WideMaps.keyOf_string_mk (P := Tryz.prog) (k := 9) Tryz.underlying9 (s := x) (by unfold maxLen; omega)
  obtain ⟨v, ps, hrun, hv⟩ := a4.look_ok (Maps.string_keyed Tryz.underlying9) Tryz.underlying130 (zero_it w) (inE_mk 0) hkey
  rw [hrun, (a5.2 x).1]
  unfold itV
  cases hs : σ x with
  | none =>
    have h0 : Maps.has D (.string x.data.toList) = false := by rw [(a5.2 x).1, hs]; rfl
    rw [Maps.atKey_of_not_has h0] at hv
    have := inE_inv (n := 0) hv
    rw [this]
    rfl
  | some s =>
    rw [(a5.2 x).2 s hs] at hv
    rw [inE_inv hv]
    rfl
theorem MapAt.put {w : World} {mb N : Nat} {σ : ByteArray → Option Nat} (h : MapAt w mb N σ) (x : ByteArray) (t : Nat) (hx : x.size ≤ 140737488351232) (hN : N ≤ 1000000) : ∃ w', (Instr.mapUpdate 130 (.map (some mb)) (.string x) (.int .i64 (t : Int))).run Tryz.prog w = .ok () w' ∧ MapAt w' mb (N + 1) (fun k => if k = x then some t else σ k) ∧ Kp (· ≠ mb) w w' := by
  obtain ⟨D, a4, a5⟩ := h
  have hkey := WideMaps.keyOf_string_mk (P := Tryz.prog) (k := 9) Tryz.underlying9 (s := x) (by unfold maxLen; omega)
  obtain ⟨w', hrun, ho, hg⟩ := a4.update (Maps.string_keyed Tryz.underlying9) Tryz.underlying130 (by unfold maxLen; omega) hkey (inE_mk t)
  have hk : Kp (· ≠ mb) w w' := ⟨hg.os, hg.tape, hg.output, hg.size, fun q hq hne => hg.block q hq (fun e => hne (Option.some.inj e))⟩
  exact ⟨w', hrun, ⟨_, ho, a5.put x t⟩, hk⟩
/-- Texts in a block of their own. -/
def TB (w : World) (a : Option Addr) (xs : List ByteArray) : Prop := xs = [] ∨ ∃ g cur, a = some ⟨g, 0, none⟩ ∧ w.heap[g]? = some (.cells cur 9) ∧ ∀ j, (h : j < xs.length) → cur[j]? = some (.string xs[j])
theorem TB.row {w : World} {a : Option Addr} {xs : List ByteArray} (h : TB w a xs) : TRow w a xs := by
  rcases h with h | ⟨g, cur, ha, hb, hc⟩
  · exact .inl h
  · exact .inr ⟨g, 0, ha, fun j hj => by rw [Nat.zero_add]; exact cell_of hb (hc j hj)⟩
theorem TB.keep {K : Nat → Prop} {w w' : World} {a : Option Addr} {xs : List ByteArray} (h : TB w a xs) (hk : Kp K w w') (hK : ∀ g cur, w.heap[g]? = some (.cells cur 9) → K g) : TB w' a xs := by
  rcases h with h | ⟨g, cur, ha, hb, hc⟩
  · exact .inl h
  · exact .inr ⟨g, cur, ha, hk.block' hb (hK g cur hb), hc⟩
theorem TB.later {w w' : World} {a : Option Addr} {xs : List ByteArray} (h : TB w a xs) (hx : Ext w w') : TB w' a xs := h.keep (hx.kp (fun _ => True)) (fun _ _ _ => trivial)
/-- Texts copied. -/
theorem cloneT (a : Option Addr) (c : Nat) (xs : List ByteArray) (w : World) (hl : xs.length ≤ 100) (h : TB w a xs) : Calls Tryz.prog 147 #[.slice a xs.length c] w fun e w' => ∃ a' c', e = .returned (.slice a' xs.length c') ∧ TB w' a' xs ∧ Ext w w' := by
  have fin : ∀ v' w', World.ownsRow w' w.heap.size 9 1 v' xs.length (xs.map Value.string) → ∃ a' c', v' = .slice a' xs.length c' ∧ TB w' a' xs := fun v' w' ho => by
    rcases ho.2 with ⟨rfl, h0⟩ | ⟨g, cap, cur, rfl, _, hb, h1, h2, h3, h4⟩
    · exact ⟨none, 0, by rw [h0], .inl (List.eq_nil_of_length_eq_zero h0)⟩
    · refine ⟨_, _, rfl, .inr ⟨g, cur, rfl, hb, fun j hj => ?_⟩⟩
      have : (cur.toList.take (xs.length * 1))[j]? = some (.string xs[j]) := by rw [h4, List.getElem?_map, List.getElem?_eq_getElem hj]; rfl
      rw [List.getElem?_take_of_lt (by omega)] at this
      simpa using this
  rcases h with h | ⟨g, cur, rfl, hb, hc⟩
  · subst h
    cases a with
    | none =>
      refine (Tryz.slices_Clone_string_nil 0 c w).mono ?_
      rintro e w' ⟨rfl, rfl⟩
      exact ⟨none, 0, rfl, .inl rfl, Ext.refl _⟩
    | some a =>
      refine (Tryz.slices_Clone_string_zero a c w).mono ?_
      rintro e w' ⟨v', rfl, ho, _, hx⟩
      obtain ⟨a', c', rfl, ht⟩ := fin v' w' ho
      exact ⟨a', c', rfl, ht, hx⟩
  · refine (Tryz.slices_Clone_string g 0 xs.length c xs w (Nat.le_refl _) (by omega) (fun j hj => ?_)).mono ?_
    · rw [Nat.zero_add, List.getD_eq_getElem?_getD, List.getElem?_eq_getElem hj]
      exact cell_of hb (hc j hj)
    · rintro e w' ⟨v', rfl, ho, _, hx⟩
      rw [List.take_length] at ho
      obtain ⟨a', c', rfl, ht⟩ := fin v' w' ho
      exact ⟨a', c', rfl, ht, hx⟩
end Go.Proofs.YtaafcmmmkalgjaaGreatDoor
/-
  (Kind).done by a contract: what an operation of a kit comes to, given what its function does.
-/
namespace Go.Proofs.YtaafcmmmkalgjaaGreatDoor
open Go.RowKit
/-- An answer of an operation on numbers. -/
def NRes (R : Value) : Prop := (∃ n, R = cameV n) ∨ (∃ b, R = toldV b) ∨ (∃ c, (c == 0) = false ∧ R = refV c) ∨ (∃ s : ByteArray, s.size ≤ 65535 ∧ R = wroteV s)
/-- A function is entered when it is called. -/
def Enters (f : Nat) : Prop := ∀ (a : Array Value) (w : World), (callFunc f a).run Tryz.prog w = .ok (.enter f a) w
set_option maxRecDepth 100000 in
set_option maxHeartbeats 2000000 in
theorem done_any (k : Kd) (f : Nat) (hf : k.does = some f) (he : Enters f) (g : Nat) (ks : List Int) (R : Value) (w : World) (hs : k.signs.size ≤ 4000) (hn : ks.length ≤ 100000000) (hm : MaxAt w) (hv : VRow w g ks)
    (hd : rightB k.signs.data.toList ks = true → NRes R ∧ ∀ w1, Ext w w1 → Calls Tryz.prog f #[.slice (some ⟨g, 0, none⟩) ks.length ks.length] w1 fun e w' => e = .returned R ∧ Ext w1 w') :
    Calls Tryz.prog 52 #[k.val, .slice (some ⟨g, 0, none⟩) ks.length ks.length] w fun e w' => e = .returned (if rightB k.signs.data.toList ks = true then R else refV 20) ∧ Ext w w' := by
  obtain ⟨k0, k1, k2, k3, k4, k5, k6, k7, k8⟩ := k
  dsimp only [Kd.val] at *
  subst hf
  show Calls Tryz.prog 52 #[.agg #[.string k0, .int .i64 k1, .int .i64 k2, .int .i64 k3, .string k4, .string k5, .func (.func k6) #[] #[], .func (.func f) #[] #[], .bool k8], .slice (some ⟨g, 0, none⟩) ks.length ks.length] w _
  obtain ⟨M, hM⟩ : ∃ M, w.alloc (.cells #[.string k0, .int .i64 k1, .int .i64 k2, .int .i64 k3, .string k4, .string k5, .func (.func k6) #[] #[], .func (.func f) #[] #[], .bool k8] 76) = M := ⟨_, rfl⟩
  have XM := hid (show Ext w M from hM ▸ Ext.alloc _ _)
  have HM0 := hid (show M.heap[w.heap.size]? = some (.cells #[.string k0, .int .i64 k1, .int .i64 k2, .int .i64 k3, .string k4, .string k5, .func (.func k6) #[] #[], .func (.func f) #[] #[], .bool k8] 76) from hM ▸ blk0 _ _)
  have HRI := hid (right_any k5 g ks M hs hn (hm.later XM.out) (hv.later XM.out))
  have HD := hid hd
  generalize ks.length = n at *
  obtain ⟨b, hb⟩ : ∃ b, rightB k5.data.toList ks = b := ⟨_, rfl⟩
  rw [hb] at HRI HD ⊢
  have he' : ∀ (a : Array Value) (w : World), (callFunc f a).run Tryz.prog w = .ok (.enter f a) w := he
  obtain ⟨z0, z1, z2, z3, z4, z5, z6, z7, z8⟩ := nine_of HM0.out
  clear hb hd hm hv hs hn he
  go_enter Tryz.func52, Tryz.ntmps52
  go_wp2_with fail
  clear hM
  refine HRI.out.mono ?_
  rintro e w1 ⟨rfl, hx1⟩
  have X1 := hid (XM.out.trans hx1)
  obtain ⟨y0, y1, y2, y3, y4, y5, y6, y7, y8⟩ := nine_of (hx1.block HM0.out)
  clear hx1
  cases b with
  | false =>
    go_wp2_with fail
    go_ret3
    exact ⟨rfl, X1.out⟩
  | true =>
    obtain ⟨hR, hC⟩ := HD.out rfl
    have HC := hid (hC _ X1.out)
    have HR := hid hR
    clear hR hC
    go_wp2_with fail
    refine HC.out.mono ?_
    rintro e w2 ⟨rfl, hx2⟩
    have X2 := hid (X1.out.trans hx2)
    clear hx2
    rcases HR.out with ⟨nn, rfl⟩ | ⟨bb, rfl⟩ | ⟨cc, hcc, rfl⟩ | ⟨ss, hss, rfl⟩
    · unfold cameV
      go_wp2_with fail
      refine (cmay_in _ _).mono ?_
      rintro e w3 ⟨rfl, hx3⟩
      have X3 := hid (X2.out.trans hx3)
      clear hx3
      go_wp2_with fail
      go_ret3
      exact ⟨rfl, X3.out⟩
    · unfold toldV
      go_wp2_with fail
      refine (cmay_tu _ _).mono ?_
      rintro e w3 ⟨rfl, hx3⟩
      have X3 := hid (X2.out.trans hx3)
      clear hx3
      go_wp2_with fail
      go_ret3
      exact ⟨rfl, X3.out⟩
    · unfold refV
      go_wp2_with fail
      go_ret3
      exact ⟨rfl, X2.out⟩
    · have HS := hid hss
      clear hss
      unfold wroteV
      go_wp2_with fail
      refine (cmay_tx _ HS.out _).mono ?_
      rintro e w3 ⟨rfl, hx3⟩
      have X3 := hid (X2.out.trans hx3)
      clear hx3
      go_wp2_with fail
      go_ret3
      exact ⟨rfl, X3.out⟩
end Go.Proofs.YtaafcmmmkalgjaaGreatDoor
/-
  craft.Work by a contract: an operation of a table on plain values, given what its function does; of a table no kind of which joins.
-/
namespace Go.Proofs.YtaafcmmmkalgjaaGreatDoor
open Go.RowKit
theorem valueInfoC : (Tryz.prog.info? 35).map (fun i => (i.zero, i.size, i.bytes)) = some (some .nilIface, 1, 16) := by kernel_rfl
/-- Plain values in a row. -/
def PRow (w : World) (a : Option Addr) (ts : List T) : Prop := ts = [] ∨ ∃ g off, a = some ⟨g, off, none⟩ ∧ ∀ j, (h : j < ts.length) → ∃ K d u0 u1 u2 u3, Four w g (off + j * 4) u0 u1 u2 u3 ∧ Rd K w d (.agg #[u0, u1, u2, u3]) ts[j]
theorem Four.later {w w' : World} {g i : Nat} {v0 v1 v2 v3 : Value} (h : Four w g i v0 v1 v2 v3) (hx : Ext w w') : Four w' g i v0 v1 v2 v3 :=
  ⟨(Below.cell hx (lt_of_cell h.1)).trans h.1, (Below.cell hx (lt_of_cell h.2.1)).trans h.2.1, (Below.cell hx (lt_of_cell h.2.2.1)).trans h.2.2.1, (Below.cell hx (lt_of_cell h.2.2.2)).trans h.2.2.2⟩
theorem PRow.later {w w' : World} {a : Option Addr} {ts : List T} (h : PRow w a ts) (hx : Ext w w') : PRow w' a ts := by
  rcases h with h | ⟨g, off, ha, h⟩
  · exact .inl h
  · refine .inr ⟨g, off, ha, fun j hj => ?_⟩
    obtain ⟨K, d, u0, u1, u2, u3, h1, h2⟩ := h j hj
    exact ⟨K, d, u0, u1, u2, u3, h1.later hx, h2.later hx⟩
/-- Values in a row, of these plain ones. -/
def VCells (w : World) (g : Nat) (ts : List T) : Prop := ∀ j, (h : j < ts.length) → ∃ K d v, w.cell? ⟨g, j, none⟩ = some v ∧ VRd K w d v ts[j]
theorem VCells.later {w w' : World} {g : Nat} {ts : List T} (h : VCells w g ts) (hx : Ext w w') : VCells w' g ts := fun j hj => by
  obtain ⟨K, d, v, h1, h2⟩ := h j hj
  exact ⟨K, d, v, (Below.cell hx (lt_of_cell h1)).trans h1, h2.later hx⟩
theorem VCells.row {w : World} {g : Nat} {ts : List T} (h : VCells w g ts) : VRow w g (ts.map T.kind) := fun j hj => by
  obtain ⟨K, d, v, h1, h2⟩ := h j (by simpa using hj)
  exact ⟨K, d, v, _, h1, h2, by simp⟩
/-- How many values a kind may have. -/
def cntOk (k : Kd) (n : Nat) : Bool := decide (k.min ≤ n) && (decide (k.max < 0) || decide ((n : Int) ≤ k.max))
/-- What Work answers; R: what the function does. -/
def workV (ks : List Kd) (op : ByteArray) (ts : List T) (R : Value) : Value :=
  match kdFind ks op with
  | none => refV 1
  | some k => match k.does with
    | none => refV 1
    | some _ => if cntOk k ts.length = false then refV 11 else if ∀ t ∈ ts, t.may then (if rightB k.signs.data.toList (ts.map T.kind) = true then R else refV 20) else refV 1
set_option maxRecDepth 100000 in
set_option maxHeartbeats 4000000 in
theorem work_any (ks : List Kd) (tb : Nat) (op : ByteArray) (a : Option Addr) (c : Nat) (ts : List T) (R : Value) (w : World) (hl : ks.length ≤ 1000) (ht : TabAt w tb ks) (hm : MaxAt w) (hp : PRow w a ts) (hn : ts.length ≤ 1000000)
    (hj : ∀ k ∈ ks, k.joins = false ∧ k.signs.size ≤ 4000)
    (hd : ∀ k f, kdFind ks op = some k → k.does = some f → cntOk k ts.length = true → (∀ t ∈ ts, t.may) → rightB k.signs.data.toList (ts.map T.kind) = true → NRes R ∧ ∀ w1 g, Ext w w1 → VCells w1 g ts → Calls Tryz.prog f #[.slice (some ⟨g, 0, none⟩) ts.length ts.length] w1 fun e w' => e = .returned R ∧ Ext w1 w')
    (he : ∀ k f, kdFind ks op = some k → k.does = some f → Enters f) :
    Calls Tryz.prog 24 #[.slice (some ⟨tb, 0, none⟩) ks.length ks.length, .string op, .slice a ts.length c] w fun e w' => e = .returned (workV ks op ts R) ∧ Ext w w' := by
  have HF := hid (fun w1 (hx : Ext w w1) => find_any ks tb op w1 hl (ht.later hx))
  have HMX := hid hm
  have HP := hid hp
  have HD := hid hd
  have HJ := hid (show ∀ k, kdFind ks op = some k → k.joins = false ∧ k.signs.size ≤ 4000 from fun k h => hj k (List.mem_of_find?_eq_some h))
  have HE := hid he
  have hn' : (ts.length : Int) ≤ 1000000 := by omega
  have hqn : ∀ w : World, (binOp .eql 74 .nilFunc .nilFunc).run Tryz.prog w = .ok (.bool true) w := fun _ => by kernel_rfl
  have hqf : ∀ (f : Nat) (w : World), (binOp .eql 74 (.func (.func f) #[] #[]) .nilFunc).run Tryz.prog w = .ok (.bool false) w := fun _ _ => by kernel_rfl
  clear hl ht hm hp hj hd he
  obtain ⟨kn, hkn⟩ : ∃ n, ks.length = n := ⟨_, rfl⟩
  rw [hkn] at HF ⊢
  clear hkn
  obtain ⟨o, ho⟩ : ∃ o, kdFind ks op = o := ⟨_, rfl⟩
  cases o with
  | none =>
    have HV := hid (show workV ks op ts R = refV 1 by unfold workV; rw [ho])
    rw [ho] at HF
    clear ho
    go_enter Tryz.func24, Tryz.ntmps24
    go_wp2_with fail
    refine (HF.out _ (Ext.refl _)).mono ?_
    rintro e w1 ⟨rfl, hx1⟩
    have X1 := hid hx1
    clear hx1
    unfold kdVal
    go_wp2_with fail
    go_ret3
    exact ⟨by rw [HV.out]; rfl, X1.out.trans (Ext.alloc _ _)⟩
  | some k =>
    have HJK := hid (HJ.out k ho)
    have HEK := hid (fun f h => HE.out k f ho h)
    have HDK := hid (fun f h => HD.out k f ho h)
    have HW := hid (show workV ks op ts R = match k.does with | none => refV 1 | some _ => if cntOk k ts.length = false then refV 11 else if ∀ t ∈ ts, t.may then (if rightB k.signs.data.toList (ts.map T.kind) = true then R else refV 20) else refV 1 by unfold workV; rw [ho])
    rw [ho] at HF
    have HDN := hid (fun f h g ks R w h1 h2 h3 h4 h5 h6 => done_any k f h h1 g ks R w h2 h3 h4 h5 h6)
    have HCN := hid (show cntOk k ts.length = (decide (k.min ≤ ts.length) && (decide (k.max < 0) || decide ((ts.length : Int) ≤ k.max))) from rfl)
    clear ho HJ HE HD
    obtain ⟨k0, k1, k2, k3, k4, k5, k6, k7, k8⟩ := k
    obtain rfl : k8 = false := HJK.out.1
    dsimp only at HW HDK HEK HCN
    cases k7 with
    | none =>
      have HV := hid (show workV ks op ts R = refV 1 from HW.out)
      go_enter Tryz.func24, Tryz.ntmps24
      go_wp2_with fail
      refine (HF.out _ (Ext.refl _)).mono ?_
      rintro e w1 ⟨rfl, hx1⟩
      have X1 := hid hx1
      clear hx1
      unfold kdVal Kd.val fnV
      dsimp only
      go_wp2_with fail
      go_ret3
      exact ⟨by rw [HV.out]; rfl, X1.out.trans (Ext.alloc _ _)⟩
    | some f =>
      have HW' := hid (show workV ks op ts R = if cntOk ⟨k0, k1, k2, k3, k4, k5, k6, some f, false⟩ ts.length = false then refV 11 else if ∀ t ∈ ts, t.may then (if rightB k5.data.toList (ts.map T.kind) = true then R else refV 20) else refV 1 from HW.out)
      clear HW
      obtain ⟨n, hne⟩ : ∃ n, ts.length = n := ⟨_, rfl⟩
      have HNE := hid hne
      rw [hne] at hn' ⊢
      clear hne
      rw [HNE.out] at HCN HW'
      obtain ⟨cb, hcb⟩ : ∃ b, cntOk ⟨k0, k1, k2, k3, k4, k5, k6, some f, false⟩ n = b := ⟨_, rfl⟩
      rw [hcb] at HW' HCN
      cases cb with
      | false =>
        have HV := hid (show workV ks op ts R = refV 11 from HW'.out)
        have HCF := hid (show ¬ (k1 ≤ (n : Int) ∧ (k2 < 0 ∨ (n : Int) ≤ k2)) from fun h => by
          have := HCN.out
          simp only [Bool.false_eq, Bool.and_eq_false_iff, Bool.or_eq_false_iff, decide_eq_false_iff_not] at this
          omega)
        by_cases h1 : k1 ≤ (n : Int)
        · have h2 : 0 ≤ k2 := by have := HCF.out; omega
          have h3 : k2 < (n : Int) := by have := HCF.out; omega
          go_enter Tryz.func24, Tryz.ntmps24
          go_wp2_with fail
          refine (HF.out _ (Ext.refl _)).mono ?_
          rintro e w1 ⟨rfl, hx1⟩
          have X1 := hid hx1
          clear hx1
          unfold kdVal Kd.val fnV
          dsimp only
          go_wp2_with fail
          go_ret3
          exact ⟨by rw [HV.out]; rfl, X1.out.trans (Ext.alloc _ _)⟩
        · go_enter Tryz.func24, Tryz.ntmps24
          go_wp2_with fail
          refine (HF.out _ (Ext.refl _)).mono ?_
          rintro e w1 ⟨rfl, hx1⟩
          have X1 := hid hx1
          clear hx1
          unfold kdVal Kd.val fnV
          dsimp only
          go_wp2_with fail
          go_ret3
          exact ⟨by rw [HV.out]; rfl, X1.out.trans (Ext.alloc _ _)⟩
      | true =>
        have HV := hid (show workV ks op ts R = if ∀ t ∈ ts, t.may then (if rightB k5.data.toList (ts.map T.kind) = true then R else refV 20) else refV 1 from HW'.out)
        have HCT := hid (show k1 ≤ (n : Int) ∧ (k2 < 0 ∨ (n : Int) ≤ k2) by
          have := HCN.out
          simp only [Bool.true_eq, Bool.and_eq_true, Bool.or_eq_true, decide_eq_true_eq] at this
          exact this)
        have h1 : k1 ≤ (n : Int) := HCT.out.1
        have HK2 := hid HCT.out.2
        clear HW' HCN HCT
        obtain ⟨ti, hi, hz0, hz1, hz2⟩ := info_parts valueInfoC
        obtain ⟨cz, hcz, hmk⟩ : ∃ cz : Array Value, cz.size = n ∧ ∀ w, (Instr.makeSlice 24 (.int .i64 (n : Int)) (.int .i64 (n : Int))).run Tryz.prog w = .ok (.slice (some ⟨w.heap.size, 0, none⟩) n n) (w.alloc (.cells cz 35)) := by
          refine ⟨madeCells (Value.nilIface).cells (n * 1), by rw [size_madeCells]; omega, fun w => ?_⟩
          have := run_make (P := Tryz.prog) w 24 35 ti _ Tryz.underlying24 hi hz0 .i64 .i64 n n (by omega) (Int.le_refl _) (by rw [hz2]; omega) (by omega)
          rw [hz1] at this
          simpa using this
        have HCZ := hid hcz
        clear hcz hi hz0 hz1 hz2
        by_cases hk2 : k2 < 0
        · go_enter Tryz.func24, Tryz.ntmps24
          go_wp2_with fail
          refine (HF.out _ (Ext.refl _)).mono ?_
          rintro e w1 ⟨rfl, hx1⟩
          have X1 := hid hx1
          clear hx1
          unfold kdVal Kd.val fnV
          dsimp only
          go_wp2_with fail
          have HMK := hid hmk
          clear hmk hqn hqf
          go_loopw [59] (fun q59 wr => ∃ (j : Nat) (cs : Array Value), j ≤ n ∧ q59 = .int .i64 j ∧ Ext w wr ∧ wr.heap[w1.heap.size]? = some (.cells #[.string k0, .int .i64 k1, .int .i64 k2, .int .i64 k3, .string k4, .string k5, .func (.func k6) #[] #[], .func (.func f) #[] #[], .bool false] 76) ∧ wr.heap[w1.heap.size + 1]? = some (.cells cs 35) ∧ cs.size = n ∧
              (∀ i, (h : i < ts.length) → i < j → ts[i].may ∧ ∃ d u, cs[i]? = some u ∧ VRd (fun q => w1.heap.size + 1 < q) wr d u ts[i])) (fun q59 _ => n - (intOf q59).toNat)
          case atStart => exact ⟨0, cz, Nat.zero_le _, rfl, X1.out.trans (Ext.alloc2 _ _ _), blkOld _ (blk0 _ _), blk1 _ _ _, HCZ.out, fun i _ h => absurd h (Nat.not_lt_zero _)⟩
          case round =>
            obtain ⟨j, cs, hj, rfl, hx, hb1, hb3, hcs, hall⟩ := hrel
            have HX := hid hx
            have HB1 := hid hb1
            have HB3 := hid hb3
            have HCS := hid hcs
            have HALL := hid hall
            clear hx hb1 hb3 hcs hall
            by_cases hlt : j < n
            · have hlt' : (j : Int) < n := by omega
              have hjt : j < ts.length := by rw [HNE.out]; exact hlt
              rcases HP.out with e0 | ⟨g, off, rfl, hcells⟩
              · rw [e0] at hjt; exact absurd hjt (Nat.not_lt_zero _)
              obtain ⟨K, d, u0, u1, u2, u3, h4, hrd⟩ := hcells j hjt
              obtain ⟨pk, pn, px, pa, pc, rfl, rfl, rfl, rfl⟩ := hrd.shape
              have HR := hid (fun o => hrd.later (HX.out.trans (Ext.alloc wr o)))
              obtain ⟨m0, m1, m2, m3⟩ := h4.later HX.out
              have hgl := lt_of_cell m0
              have HIN := hid (List.getElem_mem hjt)
              have HST := hid (show ts[j].may → ∀ (cs' : Array Value) (w' : World), (∀ i, i ≠ j → cs'[i]? = cs[i]?) → (∀ i d u, (h : i < ts.length) → VRd (fun q => w1.heap.size + 1 < q) wr d u ts[i] → VRd (fun q => w1.heap.size + 1 < q) w' d u ts[i]) → (∃ d u, cs'[j]? = some u ∧ VRd (fun q => w1.heap.size + 1 < q) w' d u ts[j]) → ∀ i, (h : i < ts.length) → i < j + 1 → ts[i].may ∧ ∃ d u, cs'[i]? = some u ∧ VRd (fun q => w1.heap.size + 1 < q) w' d u ts[i] from fun hm cs' w' h1 h2 h3 i hi hij => by
                by_cases e : i = j
                · subst e; exact ⟨hm, h3⟩
                · obtain ⟨hmi, d', u', hu', hv'⟩ := HALL.out i hi (by omega)
                  exact ⟨hmi, d', u', by rw [h1 i e]; exact hu', h2 i d' u' hi hv'⟩)
              clear hrd hcells h4
              generalize hkl : ts[j].kids.length = kl at m3 HR
              clear hkl
              generalize ts[j] = tj at HR HIN HST
              go_wp2_with fail
              refine (of_any _ (HR.out _)).mono ?_
              rintro e w2 ⟨hy, ⟨htm, u, bs, rfl, hown, hge, hnd⟩ | ⟨htm, rfl⟩⟩
              · obtain ⟨τ, p, rfl⟩ := hown.rd.iface
                have HY := hid ((Ext.alloc wr _).trans hy)
                have HO := hid (hown.rd.mono (L := fun q => w1.heap.size + 1 < q) (fun q _ hq => by
                  have h1 := hge q hq
                  have h2 := lt_of_block HB3.out
                  rw [blkS] at h1
                  omega))
                have HTM := hid htm
                clear hy hown hge hnd htm
                have hb3' := HY.out.block HB3.out
                have hf3 : w2.frozen? ⟨w1.heap.size + 1, j, none⟩ = false := frozen_of hb3'
                have hc3 : w2.cell? ⟨w1.heap.size + 1, j, none⟩ = some cs[j]! := cell_of hb3' (by
                  have hs : j < cs.size := by rw [HCS.out]; exact hlt
                  rw [Array.getElem?_eq_getElem hs, getElem!_pos cs j hs])
                clear hb3'
                go_wp2_with fail
                go_roundw
                case rel =>
                  have KS : Kp (· ≠ w1.heap.size + 1) w2 (w2.setCell ⟨w1.heap.size + 1, j, none⟩ (.iface τ p)) := Kp.set w2 _ j _ (fun h => h rfl)
                  have hle : w.heap.size ≤ w1.heap.size + 1 := Nat.le_succ_of_le X1.out.size
                  refine ⟨j + 1, cs.setIfInBounds j (.iface τ p), by omega, by go_num, Kp.extOf (HX.out.trans HY.out) KS hle, set_other (HY.out.block HB1.out) (by omega) _, set_at (HY.out.block HB3.out) j _, by rw [Array.size_setIfInBounds]; exact HCS.out, HST.out HTM.out _ _ (fun i hi => set_get_other _ hi) (fun i d' u' hi hv => (hv.later HY.out).keep (KS.mono (fun q _ hq => by omega))) ⟨_, _, set_get _ (by rw [HCS.out]; exact hlt), HO.out.keep (KS.mono (fun q _ hq => by omega))⟩⟩
                case measure => simp [intOf]; omega
              · have HV1 := hid (show workV ks op ts R = refV 1 by rw [HV.out, if_neg (fun h => htm (h _ HIN.out))])
                have HY := hid ((Ext.alloc wr _).trans hy)
                clear hy htm
                go_wp2_with fail
                go_ret3
                exact ⟨by rw [HV1.out]; rfl, HX.out.trans HY.out⟩
            · have hje : j = n := by omega
              have hlt2 : decide ((j : Int) < n) = false := decide_eq_false (by omega)
              have hlt3 : ¬ (j : Int) < n := by omega
              have hmay : ∀ t ∈ ts, t.may := fun t htm => by
                obtain ⟨i, hi, rfl⟩ := List.getElem_of_mem htm
                exact (HALL.out i hi (by have := HNE.out; omega)).1
              have HV1 := hid (show workV ks op ts R = if rightB k5.data.toList (ts.map T.kind) = true then R else refV 20 by rw [HV.out, if_pos hmay])
              have HVC := hid (show VCells wr (w1.heap.size + 1) ts from fun i hi => by
                obtain ⟨_, d', u', hu', hv'⟩ := HALL.out i hi (by have := HNE.out; omega)
                exact ⟨_, d', u', cell_of HB3.out hu', hv'⟩)
              have HDD := hid (HDN.out f rfl (w1.heap.size + 1) (ts.map T.kind) R wr (HEK.out f rfl) HJK.out.2 (by rw [List.length_map, HNE.out]; omega) (HMX.out.later HX.out) HVC.out.row (fun hr => by
                obtain ⟨h1, h2⟩ := HDK.out f rfl (by rw [HNE.out]; exact hcb) hmay hr
                exact ⟨h1, fun w3 hx3 => by rw [List.length_map]; exact h2 w3 _ (HX.out.trans hx3) (HVC.out.later hx3)⟩))
              rw [List.length_map, HNE.out] at HDD
              unfold Kd.val fnV at HDD
              dsimp only at HDD
              have HX3 := hid (show ∃ x y z, (if rightB k5.data.toList (ts.map T.kind) = true then R else refV 20) = .tuple #[x, y, z] by
                by_cases hr : rightB k5.data.toList (ts.map T.kind) = true
                · rw [if_pos hr]
                  rcases (HDK.out f rfl (by rw [HNE.out]; exact hcb) hmay hr).1 with ⟨_, rfl⟩ | ⟨_, rfl⟩ | ⟨_, _, rfl⟩ | ⟨_, _, rfl⟩ <;> exact ⟨_, _, _, rfl⟩
                · rw [if_neg hr]; exact ⟨_, _, _, rfl⟩)
              obtain ⟨z0, z1, z2, z3, z4, z5, z6, z7, z8⟩ := nine_of HB1.out
              clear hje hmay
              go_wp2_with fail
              refine HDD.out.mono ?_
              rintro e w2 ⟨rfl, hy⟩
              have HY := hid (HX.out.trans hy)
              obtain ⟨x, y, z, hxyz⟩ : ∃ x y z, (if rightB k5.data.toList (ts.map T.kind) = true then R else refV 20) = .tuple #[x, y, z] := HX3.out
              have HXY := hid hxyz
              clear hy hxyz
              rw [HXY.out]
              go_wp2_with fail
              go_ret3
              exact ⟨by rw [HV1.out, HXY.out]; rfl, HY.out⟩
        · have hk3 : (n : Int) ≤ k2 := by have := HK2.out; omega
          go_enter Tryz.func24, Tryz.ntmps24
          go_wp2_with fail
          refine (HF.out _ (Ext.refl _)).mono ?_
          rintro e w1 ⟨rfl, hx1⟩
          have X1 := hid hx1
          clear hx1
          unfold kdVal Kd.val fnV
          dsimp only
          go_wp2_with fail
          have HMK := hid hmk
          clear hmk hqn hqf
          go_loopw [59] (fun q59 wr => ∃ (j : Nat) (cs : Array Value), j ≤ n ∧ q59 = .int .i64 j ∧ Ext w wr ∧ wr.heap[w1.heap.size]? = some (.cells #[.string k0, .int .i64 k1, .int .i64 k2, .int .i64 k3, .string k4, .string k5, .func (.func k6) #[] #[], .func (.func f) #[] #[], .bool false] 76) ∧ wr.heap[w1.heap.size + 1]? = some (.cells cs 35) ∧ cs.size = n ∧
              (∀ i, (h : i < ts.length) → i < j → ts[i].may ∧ ∃ d u, cs[i]? = some u ∧ VRd (fun q => w1.heap.size + 1 < q) wr d u ts[i])) (fun q59 _ => n - (intOf q59).toNat)
          case atStart => exact ⟨0, cz, Nat.zero_le _, rfl, X1.out.trans (Ext.alloc2 _ _ _), blkOld _ (blk0 _ _), blk1 _ _ _, HCZ.out, fun i _ h => absurd h (Nat.not_lt_zero _)⟩
          case round =>
            obtain ⟨j, cs, hj, rfl, hx, hb1, hb3, hcs, hall⟩ := hrel
            have HX := hid hx
            have HB1 := hid hb1
            have HB3 := hid hb3
            have HCS := hid hcs
            have HALL := hid hall
            clear hx hb1 hb3 hcs hall
            by_cases hlt : j < n
            · have hlt' : (j : Int) < n := by omega
              have hjt : j < ts.length := by rw [HNE.out]; exact hlt
              rcases HP.out with e0 | ⟨g, off, rfl, hcells⟩
              · rw [e0] at hjt; exact absurd hjt (Nat.not_lt_zero _)
              obtain ⟨K, d, u0, u1, u2, u3, h4, hrd⟩ := hcells j hjt
              obtain ⟨pk, pn, px, pa, pc, rfl, rfl, rfl, rfl⟩ := hrd.shape
              have HR := hid (fun o => hrd.later (HX.out.trans (Ext.alloc wr o)))
              obtain ⟨m0, m1, m2, m3⟩ := h4.later HX.out
              have hgl := lt_of_cell m0
              have HIN := hid (List.getElem_mem hjt)
              have HST := hid (show ts[j].may → ∀ (cs' : Array Value) (w' : World), (∀ i, i ≠ j → cs'[i]? = cs[i]?) → (∀ i d u, (h : i < ts.length) → VRd (fun q => w1.heap.size + 1 < q) wr d u ts[i] → VRd (fun q => w1.heap.size + 1 < q) w' d u ts[i]) → (∃ d u, cs'[j]? = some u ∧ VRd (fun q => w1.heap.size + 1 < q) w' d u ts[j]) → ∀ i, (h : i < ts.length) → i < j + 1 → ts[i].may ∧ ∃ d u, cs'[i]? = some u ∧ VRd (fun q => w1.heap.size + 1 < q) w' d u ts[i] from fun hm cs' w' h1 h2 h3 i hi hij => by
                by_cases e : i = j
                · subst e; exact ⟨hm, h3⟩
                · obtain ⟨hmi, d', u', hu', hv'⟩ := HALL.out i hi (by omega)
                  exact ⟨hmi, d', u', by rw [h1 i e]; exact hu', h2 i d' u' hi hv'⟩)
              clear hrd hcells h4
              generalize hkl : ts[j].kids.length = kl at m3 HR
              clear hkl
              generalize ts[j] = tj at HR HIN HST
              go_wp2_with fail
              refine (of_any _ (HR.out _)).mono ?_
              rintro e w2 ⟨hy, ⟨htm, u, bs, rfl, hown, hge, hnd⟩ | ⟨htm, rfl⟩⟩
              · obtain ⟨τ, p, rfl⟩ := hown.rd.iface
                have HY := hid ((Ext.alloc wr _).trans hy)
                have HO := hid (hown.rd.mono (L := fun q => w1.heap.size + 1 < q) (fun q _ hq => by
                  have h1 := hge q hq
                  have h2 := lt_of_block HB3.out
                  rw [blkS] at h1
                  omega))
                have HTM := hid htm
                clear hy hown hge hnd htm
                have hb3' := HY.out.block HB3.out
                have hf3 : w2.frozen? ⟨w1.heap.size + 1, j, none⟩ = false := frozen_of hb3'
                have hc3 : w2.cell? ⟨w1.heap.size + 1, j, none⟩ = some cs[j]! := cell_of hb3' (by
                  have hs : j < cs.size := by rw [HCS.out]; exact hlt
                  rw [Array.getElem?_eq_getElem hs, getElem!_pos cs j hs])
                clear hb3'
                go_wp2_with fail
                go_roundw
                case rel =>
                  have KS : Kp (· ≠ w1.heap.size + 1) w2 (w2.setCell ⟨w1.heap.size + 1, j, none⟩ (.iface τ p)) := Kp.set w2 _ j _ (fun h => h rfl)
                  have hle : w.heap.size ≤ w1.heap.size + 1 := Nat.le_succ_of_le X1.out.size
                  refine ⟨j + 1, cs.setIfInBounds j (.iface τ p), by omega, by go_num, Kp.extOf (HX.out.trans HY.out) KS hle, set_other (HY.out.block HB1.out) (by omega) _, set_at (HY.out.block HB3.out) j _, by rw [Array.size_setIfInBounds]; exact HCS.out, HST.out HTM.out _ _ (fun i hi => set_get_other _ hi) (fun i d' u' hi hv => (hv.later HY.out).keep (KS.mono (fun q _ hq => by omega))) ⟨_, _, set_get _ (by rw [HCS.out]; exact hlt), HO.out.keep (KS.mono (fun q _ hq => by omega))⟩⟩
                case measure => simp [intOf]; omega
              · have HV1 := hid (show workV ks op ts R = refV 1 by rw [HV.out, if_neg (fun h => htm (h _ HIN.out))])
                have HY := hid ((Ext.alloc wr _).trans hy)
                clear hy htm
                go_wp2_with fail
                go_ret3
                exact ⟨by rw [HV1.out]; rfl, HX.out.trans HY.out⟩
            · have hje : j = n := by omega
              have hlt2 : decide ((j : Int) < n) = false := decide_eq_false (by omega)
              have hlt3 : ¬ (j : Int) < n := by omega
              have hmay : ∀ t ∈ ts, t.may := fun t htm => by
                obtain ⟨i, hi, rfl⟩ := List.getElem_of_mem htm
                exact (HALL.out i hi (by have := HNE.out; omega)).1
              have HV1 := hid (show workV ks op ts R = if rightB k5.data.toList (ts.map T.kind) = true then R else refV 20 by rw [HV.out, if_pos hmay])
              have HVC := hid (show VCells wr (w1.heap.size + 1) ts from fun i hi => by
                obtain ⟨_, d', u', hu', hv'⟩ := HALL.out i hi (by have := HNE.out; omega)
                exact ⟨_, d', u', cell_of HB3.out hu', hv'⟩)
              have HDD := hid (HDN.out f rfl (w1.heap.size + 1) (ts.map T.kind) R wr (HEK.out f rfl) HJK.out.2 (by rw [List.length_map, HNE.out]; omega) (HMX.out.later HX.out) HVC.out.row (fun hr => by
                obtain ⟨h1, h2⟩ := HDK.out f rfl (by rw [HNE.out]; exact hcb) hmay hr
                exact ⟨h1, fun w3 hx3 => by rw [List.length_map]; exact h2 w3 _ (HX.out.trans hx3) (HVC.out.later hx3)⟩))
              rw [List.length_map, HNE.out] at HDD
              unfold Kd.val fnV at HDD
              dsimp only at HDD
              have HX3 := hid (show ∃ x y z, (if rightB k5.data.toList (ts.map T.kind) = true then R else refV 20) = .tuple #[x, y, z] by
                by_cases hr : rightB k5.data.toList (ts.map T.kind) = true
                · rw [if_pos hr]
                  rcases (HDK.out f rfl (by rw [HNE.out]; exact hcb) hmay hr).1 with ⟨_, rfl⟩ | ⟨_, rfl⟩ | ⟨_, _, rfl⟩ | ⟨_, _, rfl⟩ <;> exact ⟨_, _, _, rfl⟩
                · rw [if_neg hr]; exact ⟨_, _, _, rfl⟩)
              obtain ⟨z0, z1, z2, z3, z4, z5, z6, z7, z8⟩ := nine_of HB1.out
              clear hje hmay
              go_wp2_with fail
              refine HDD.out.mono ?_
              rintro e w2 ⟨rfl, hy⟩
              have HY := hid (HX.out.trans hy)
              obtain ⟨x, y, z, hxyz⟩ : ∃ x y z, (if rightB k5.data.toList (ts.map T.kind) = true then R else refV 20) = .tuple #[x, y, z] := HX3.out
              have HXY := hid hxyz
              clear hy hxyz
              rw [HXY.out]
              go_wp2_with fail
              go_ret3
              exact ⟨by rw [HV1.out, HXY.out]; rfl, HY.out⟩
end Go.Proofs.YtaafcmmmkalgjaaGreatDoor
