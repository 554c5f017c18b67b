/-
  strings.Cut at one sign, sign.Kind, each by a contract.
-/
import Derived.Test.YtecabbifkcnbeaaGreatDoorSpelt
import Derived.Test.YtecabbifkcnbeaaGreatDoorShelf
import Derived.Deep.RegionHeld3
import Derived.Maps.OwnSet
import Derived.Maps.Keyed
namespace Go.Proofs.YtecabbifkcnbeaaGreatDoor
open Go.RowKit

theorem indexByte_found (pre post : List UInt8) (c : UInt8) (h : c ∉ pre) : Lib.indexByte (pre ++ c :: post) c = pre.length := by
  induction pre with
  | nil => simp [Lib.indexByte]
  | cons x pre ih =>
    have hx : (x == c) = false := by simp; intro e; exact h (by simp [e])
    have := ih (fun hc => h (List.mem_cons_of_mem _ hc))
    simp only [List.cons_append, Lib.indexByte, hx, this]
    have : ((pre.length : Int) == -1) = false := by simp
    simp [this]
theorem indexByte_none (l : List UInt8) (c : UInt8) (h : c ∉ l) : Lib.indexByte l c = -1 := by
  induction l with
  | nil => rfl
  | cons x l ih =>
    have hx : (x == c) = false := by simp; intro e; exact h (by simp [e])
    have := ih (fun hc => h (List.mem_cons_of_mem _ hc))
    simp [Lib.indexByte, hx, this]
theorem bytes_of (s : ByteArray) (l : List UInt8) (h : s.data.toList = l) : s = ⟨l.toArray⟩ := data_inj (by simpa using h)
theorem parts_of (l : List UInt8) (c : UInt8) : c ∉ l ∨ ∃ pre post, l = pre ++ c :: post ∧ c ∉ pre := by
  induction l with
  | nil => exact .inl (by simp)
  | cons x l ih =>
    by_cases hx : x = c
    · exact .inr ⟨[], l, by simp [hx], by simp⟩
    · rcases ih with h | ⟨pre, post, rfl, h⟩
      · exact .inl (by simp only [List.mem_cons, not_or]; exact ⟨fun e => hx e.symm, h⟩)
      · exact .inr ⟨x :: pre, post, rfl, by simp only [List.mem_cons, not_or]; exact ⟨fun e => hx e.symm, h⟩⟩

theorem cutL_none (s : ByteArray) (c : UInt8) (w : World) (h : c ∉ s.data.toList) :
    Calls Tryz.prog 187 #[.string s, .string ⟨#[c]⟩] w fun e w' => e = .returned (.tuple #[.string s, .string ⟨#[]⟩, .bool false]) ∧ Ext w w' := by
  have HI := hid (indexByte_none _ c h)
  clear h
  go_enter Tryz.func187, Tryz.ntmps187
  go_wp2_with (go_at_call 138; refine (Tryz.stringslite_Index_one s c _).mono ?_; rw [HI.out]; rintro e w' ⟨rfl, rfl⟩)
  go_ret3
  exact ⟨rfl, Ext.refl _⟩
set_option maxRecDepth 100000 in
theorem cutL_found (s : ByteArray) (c : UInt8) (pre post : List UInt8) (w : World) (hs : s.data.toList = pre ++ c :: post) (h : c ∉ pre) (hb : s.size ≤ 140737488355328) :
    Calls Tryz.prog 187 #[.string s, .string ⟨#[c]⟩] w fun e w' => e = .returned (.tuple #[.string ⟨pre.toArray⟩, .string ⟨post.toArray⟩, .bool true]) ∧ Ext w w' := by
  have hl : s.size = pre.length + (post.length + 1) := by rw [← size_list, hs]; simp
  have HI := hid (show Lib.indexByte s.data.toList c = pre.length by rw [hs]; exact indexByte_found pre post c h)
  have H1 := hid (show s.extract 0 pre.length = ⟨pre.toArray⟩ from data_inj (by rw [Lib.extract_data, hs]; simp))
  have H2 := hid (show s.extract (pre.length + 1) s.size = ⟨post.toArray⟩ from data_inj (by rw [Lib.extract_data, hs, show pre ++ c :: post = (pre ++ [c]) ++ post by simp, List.drop_left' (by simp), List.take_of_length_le (by omega)]))
  have hi1 : (pre.length : Int) ≤ 140737488355328 := by omega
  have hi2 : (pre.length : Int) + 1 ≤ s.size := by omega
  have hi3 : (pre.length : Int) ≤ s.size := by omega
  clear h hs hl
  go_enter Tryz.func187, Tryz.ntmps187
  go_wp2_with (go_at_call 138; refine (Tryz.stringslite_Index_one s c _).mono ?_; rw [HI.out]; rintro e w' ⟨rfl, rfl⟩)
  go_quiet (fail)
  go_wp2
  go_ret3
  exact ⟨by rw [H1.out, H2.out]; rfl, (Ext.refl _).drewN _⟩
theorem cut_none (s : ByteArray) (c : UInt8) (w : World) (h : c ∉ s.data.toList) :
    Calls Tryz.prog 149 #[.string s, .string ⟨#[c]⟩] w fun e w' => e = .returned (.tuple #[.string s, .string ⟨#[]⟩, .bool false]) ∧ Ext w w' := by
  have HH := hid h
  clear h
  go_enter Tryz.func149, Tryz.ntmps149
  go_wp2_with (go_at_call 187; refine (cutL_none s c _ HH.out).mono ?_; rintro e w' ⟨rfl, hx⟩)
  go_ret3
  exact ⟨rfl, hx⟩
theorem cut_found (s : ByteArray) (c : UInt8) (pre post : List UInt8) (w : World) (hs : s.data.toList = pre ++ c :: post) (h : c ∉ pre) (hb : s.size ≤ 140737488355328) :
    Calls Tryz.prog 149 #[.string s, .string ⟨#[c]⟩] w fun e w' => e = .returned (.tuple #[.string ⟨pre.toArray⟩, .string ⟨post.toArray⟩, .bool true]) ∧ Ext w w' := by
  have HH := hid h
  have HS := hid hs
  clear h hs
  go_enter Tryz.func149, Tryz.ntmps149
  go_wp2_with (go_at_call 187; refine (cutL_found s c pre post _ HS.out HH.out hb).mono ?_; rintro e w' ⟨rfl, hx⟩)
  go_ret3
  exact ⟨rfl, hx⟩

def kindV (a b : List UInt8) : Value := if speltB wordI 16 a && speltB wordI 16 b then .tuple #[.string ⟨a.toArray⟩, .string ⟨b.toArray⟩, .bool true] else .tuple #[.string ⟨#[]⟩, .string ⟨#[]⟩, .bool false]
theorem word_list (l : List UInt8) (w : World) : Calls Tryz.prog 134 #[.string ⟨l.toArray⟩] w fun e w' => e = .returned (.bool (speltB wordI 16 l)) ∧ Ext w w' := by
  have := word_any ⟨l.toArray⟩ w
  simpa using this
theorem kind_none (s : ByteArray) (w : World) (h : 46 ∉ s.data.toList) :
    Calls Tryz.prog 169 #[.string s] w fun e w' => e = .returned (.tuple #[.string ⟨#[]⟩, .string ⟨#[]⟩, .bool false]) ∧ Ext w w' := by
  have HH := hid h
  clear h
  have hE : ∀ w, Calls Tryz.prog 134 #[.string ⟨#[]⟩] w fun e w' => e = .returned (.bool false) ∧ Ext w w' := fun w => word_list [] w
  by_cases hw : speltB wordI 16 s.data.toList = true
  · go_enter Tryz.func169, Tryz.ntmps169
    go_wp2_with fail
    refine (cut_none s 46 _ HH.out).mono ?_
    rintro e w1 ⟨rfl, hx1⟩
    go_wp2_with fail
    refine (word_any s _).mono ?_
    rintro e w2 ⟨rfl, hx2⟩
    go_wp2_with fail
    refine (hE _).mono ?_
    rintro e w3 ⟨rfl, hx3⟩
    go_wp2
    go_ret3
    exact ⟨rfl, (hx1.trans hx2).trans hx3⟩
  · have hw' : speltB wordI 16 s.data.toList = false := by simpa using hw
    clear hw
    go_enter Tryz.func169, Tryz.ntmps169
    go_wp2_with fail
    refine (cut_none s 46 _ HH.out).mono ?_
    rintro e w1 ⟨rfl, hx1⟩
    go_wp2_with fail
    refine (word_any s _).mono ?_
    rintro e w2 ⟨rfl, hx2⟩
    go_wp2
    go_ret3
    exact ⟨rfl, hx1.trans hx2⟩
theorem kind_found (s : ByteArray) (pre post : List UInt8) (w : World) (hs : s.data.toList = pre ++ 46 :: post) (h : 46 ∉ pre) (hb : s.size ≤ 140737488355328) :
    Calls Tryz.prog 169 #[.string s] w fun e w' => e = .returned (kindV pre post) ∧ Ext w w' := by
  have HH := hid h
  have HS := hid hs
  clear h hs
  by_cases hw : speltB wordI 16 pre = true
  · by_cases hv : speltB wordI 16 post = true
    · have HR := hid (show kindV pre post = .tuple #[.string ⟨pre.toArray⟩, .string ⟨post.toArray⟩, .bool true] by simp [kindV, hw, hv])
      go_enter Tryz.func169, Tryz.ntmps169
      go_wp2_with fail
      refine (cut_found s 46 pre post _ HS.out HH.out hb).mono ?_
      rintro e w1 ⟨rfl, hx1⟩
      go_wp2_with fail
      refine (word_list pre _).mono ?_
      rintro e w2 ⟨rfl, hx2⟩
      go_wp2_with fail
      refine (word_list post _).mono ?_
      rintro e w3 ⟨rfl, hx3⟩
      go_wp2
      go_ret3
      exact ⟨by rw [HR.out]; rfl, (hx1.trans hx2).trans hx3⟩
    · have hv' : speltB wordI 16 post = false := by simpa using hv
      clear hv
      have HR := hid (show kindV pre post = .tuple #[.string ⟨#[]⟩, .string ⟨#[]⟩, .bool false] by simp [kindV, hv'])
      go_enter Tryz.func169, Tryz.ntmps169
      go_wp2_with fail
      refine (cut_found s 46 pre post _ HS.out HH.out hb).mono ?_
      rintro e w1 ⟨rfl, hx1⟩
      go_wp2_with fail
      refine (word_list pre _).mono ?_
      rintro e w2 ⟨rfl, hx2⟩
      go_wp2_with fail
      refine (word_list post _).mono ?_
      rintro e w3 ⟨rfl, hx3⟩
      go_wp2
      go_ret3
      exact ⟨by rw [HR.out]; rfl, (hx1.trans hx2).trans hx3⟩
  · have hw' : speltB wordI 16 pre = false := by simpa using hw
    clear hw
    have HR := hid (show kindV pre post = .tuple #[.string ⟨#[]⟩, .string ⟨#[]⟩, .bool false] by simp [kindV, hw'])
    go_enter Tryz.func169, Tryz.ntmps169
    go_wp2_with fail
    refine (cut_found s 46 pre post _ HS.out HH.out hb).mono ?_
    rintro e w1 ⟨rfl, hx1⟩
    go_wp2_with fail
    refine (word_list pre _).mono ?_
    rintro e w2 ⟨rfl, hx2⟩
    go_wp2
    go_ret3
    exact ⟨by rw [HR.out]; rfl, hx1.trans hx2⟩
end Go.Proofs.YtecabbifkcnbeaaGreatDoor
/-
  Rows of kinds as data; kit.may of a row that may be, kit.copied: by contracts.
-/
namespace Go.Proofs.YtecabbifkcnbeaaGreatDoor
open Go.RowKit
/-- A row. -/
structure Rw where
  kind : ByteArray
  min : Int
  max : Int
  num : Bool
  text : Int
  abs : List ByteArray
/-- A row that may be, of the kit pre. -/
structure GoodR (pre : List UInt8) (r : Rw) : Prop where
  name : ∃ post, r.kind.data.toList = pre ++ 46 :: post ∧ speltB wordI 16 post = true
  nod : (46 : UInt8) ∉ pre
  word : speltB wordI 16 pre = true
  size : r.kind.size ≤ 4000
  min : 0 ≤ r.min
  max : r.max = -1 ∨ r.min ≤ r.max ∧ r.max ≤ 1023
  text : 0 ≤ r.text ∧ r.text ≤ 4
  names : ¬ (r.text = 3 ∧ r.min = 0)
  ord : ordQ 0 false r.abs = true
  len : r.abs.length ≤ 100
theorem GoodR.kind_ok {pre : List UInt8} {r : Rw} (h : GoodR pre r) (w : World) : ∃ P : ByteArray, Calls Tryz.prog 169 #[.string r.kind] w fun e w' => e = .returned (.tuple #[.string ⟨pre.toArray⟩, .string P, .bool true]) ∧ Ext w w' := by
  obtain ⟨post, h1, h2⟩ := h.name
  refine ⟨⟨post.toArray⟩, ?_⟩
  have := kind_found r.kind pre post w h1 h.nod (Nat.le_trans h.size (by decide))
  unfold kindV at this
  rw [if_pos (by rw [h.word, h2]; rfl)] at this
  exact this
/-- Six cells. -/
theorem six_of {w : World} {b : Nat} {v0 v1 v2 v3 v4 v5 : Value} {t : TypeId} (h : w.heap[b]? = some (.cells #[v0, v1, v2, v3, v4, v5] t)) : w.cell? ⟨b, 0, none⟩ = some v0 ∧ w.cell? ⟨b, 1, none⟩ = some v1 ∧ w.cell? ⟨b, 2, none⟩ = some v2 ∧ w.cell? ⟨b, 3, none⟩ = some v3 ∧ w.cell? ⟨b, 4, none⟩ = some v4 ∧ w.cell? ⟨b, 5, none⟩ = some v5 := ⟨cell_of h rfl, cell_of h rfl, cell_of h rfl, cell_of h rfl, cell_of h rfl, cell_of h rfl⟩
def Rw.val (r : Rw) (a : Option Addr) (c : Nat) : Value := .agg #[.string r.kind, .int .i64 r.min, .int .i64 r.max, .bool r.num, .int .i64 r.text, .slice a r.abs.length c]
set_option maxRecDepth 100000 in
set_option maxHeartbeats 2000000 in
theorem may_good {pre : List UInt8} {r : Rw} (hg : GoodR pre r) (a : Option Addr) (c : Nat) (w : World) (hr : TRow w a r.abs) : Calls Tryz.prog 168 #[r.val a c] w fun e w' => e = .returned (.int .i64 0) ∧ Ext w w' := by
  have HK := hid (fun w => hg.kind_ok w)
  have HO := hid (fun w1 (hx : Ext w w1) => ordered_any a c r.abs w1 (by have := hg.len; omega) (hr.later hx))
  rw [hg.ord] at HO
  obtain ⟨_, _, _, _, h1, h2, h3, h4, _, _⟩ := hg
  unfold Rw.val
  obtain ⟨k, mn, mx, nm, tx, abs⟩ := r
  dsimp only at *
  generalize abs.length = l at *
  clear hr
  obtain ⟨M, hM⟩ : ∃ M, w.alloc (.cells #[.string k, .int .i64 mn, .int .i64 mx, .bool nm, .int .i64 tx, .slice a l c] 118) = M := ⟨_, rfl⟩
  have XM := hid (show Ext w M from hM ▸ Ext.alloc _ _)
  have HM0 := hid (show M.heap[w.heap.size]? = some (.cells #[.string k, .int .i64 mn, .int .i64 mx, .bool nm, .int .i64 tx, .slice a l c] 118) from hM ▸ blk0 _ _)
  obtain ⟨z0, z1, z2, z3, z4, z5⟩ := six_of HM0.out
  obtain ⟨P, hP⟩ := HK.out M
  have HP := hid hP
  obtain ⟨h3a, h3b⟩ := h3
  have HH4 := hid h4
  have HH2 := hid h2
  clear hP h4 h2 HK
  by_cases hmx : mx = -1
  · have hmx1 : (mx == -1) = true := by rw [beq_iff_eq]; exact hmx
    have hmx2 : (mx != -1) = false := by unfold bne; rw [hmx1]; rfl
    have hmx3 : mx ≤ -1 := by omega
    have hmx4 : -1 ≤ mx := by omega
    clear hmx
    by_cases htx : tx = 3
    · have htx1 : (tx == 3) = true := by rw [beq_iff_eq]; exact htx
      have hmn : (mn == 0) = false := by rw [beq_eq_false_iff_ne]; exact fun h => HH4.out ⟨htx, h⟩
      clear htx
      go_enter Tryz.func168, Tryz.ntmps168
      go_wp2_with fail
      clear hM
      refine HP.out.mono ?_
      rintro e w1 ⟨rfl, hx1⟩
      have X1 := hid (XM.out.trans hx1)
      obtain ⟨y0, y1, y2, y3, y4, y5⟩ := six_of (hx1.block HM0.out)
      clear hx1
      go_wp2_with fail
      refine (HO.out _ X1.out).mono ?_
      rintro e w2 ⟨rfl, hx2⟩
      have X2 := hid (X1.out.trans hx2)
      clear hx2
      go_wp2_with fail
      go_ret
      exact ⟨rfl, X2.out⟩
    · have htx1 : (tx == 3) = false := by rw [beq_eq_false_iff_ne]; exact htx
      clear htx
      go_enter Tryz.func168, Tryz.ntmps168
      go_wp2_with fail
      clear hM
      refine HP.out.mono ?_
      rintro e w1 ⟨rfl, hx1⟩
      have X1 := hid (XM.out.trans hx1)
      obtain ⟨y0, y1, y2, y3, y4, y5⟩ := six_of (hx1.block HM0.out)
      clear hx1
      go_wp2_with fail
      refine (HO.out _ X1.out).mono ?_
      rintro e w2 ⟨rfl, hx2⟩
      have X2 := hid (X1.out.trans hx2)
      clear hx2
      go_wp2_with fail
      go_ret
      exact ⟨rfl, X2.out⟩
  · have hmx1 : (mx == -1) = false := by rw [beq_eq_false_iff_ne]; exact hmx
    have hq1 : mn ≤ mx := by have := HH2.out; omega
    have hq2 : mx ≤ 1023 := by have := HH2.out; omega
    clear hmx
    by_cases htx : tx = 3
    · have htx1 : (tx == 3) = true := by rw [beq_iff_eq]; exact htx
      have hmn : (mn == 0) = false := by rw [beq_eq_false_iff_ne]; exact fun h => HH4.out ⟨htx, h⟩
      clear htx
      go_enter Tryz.func168, Tryz.ntmps168
      go_wp2_with fail
      clear hM
      refine HP.out.mono ?_
      rintro e w1 ⟨rfl, hx1⟩
      have X1 := hid (XM.out.trans hx1)
      obtain ⟨y0, y1, y2, y3, y4, y5⟩ := six_of (hx1.block HM0.out)
      clear hx1
      go_wp2_with fail
      refine (HO.out _ X1.out).mono ?_
      rintro e w2 ⟨rfl, hx2⟩
      have X2 := hid (X1.out.trans hx2)
      clear hx2
      go_wp2_with fail
      go_ret
      exact ⟨rfl, X2.out⟩
    · have htx1 : (tx == 3) = false := by rw [beq_eq_false_iff_ne]; exact htx
      clear htx
      go_enter Tryz.func168, Tryz.ntmps168
      go_wp2_with fail
      clear hM
      refine HP.out.mono ?_
      rintro e w1 ⟨rfl, hx1⟩
      have X1 := hid (XM.out.trans hx1)
      obtain ⟨y0, y1, y2, y3, y4, y5⟩ := six_of (hx1.block HM0.out)
      clear hx1
      go_wp2_with fail
      refine (HO.out _ X1.out).mono ?_
      rintro e w2 ⟨rfl, hx2⟩
      have X2 := hid (X1.out.trans hx2)
      clear hx2
      go_wp2_with fail
      go_ret
      exact ⟨rfl, X2.out⟩
end Go.Proofs.YtecabbifkcnbeaaGreatDoor
/-
  A kit's map of kinds: what it tells; a kind more.
-/
namespace Go.Proofs.YtecabbifkcnbeaaGreatDoor
open Go.RowKit
/-- How a number in the map reads. -/
def inE : Value → Option (DataW Unit × List MemPlace)
  | .int .i64 n => some (.lit (.int .i64 n), [])
  | _ => none
theorem inE_mk (n : Int) : inE (.int .i64 n) = some (.lit (.int .i64 n), []) := rfl
theorem inE_inv {v : Value} {n : Int} {ps : List MemPlace} (h : inE v = some (.lit (.int .i64 n), ps)) : v = .int .i64 n := by
  unfold inE at h
  split at h
  · simp only [Option.some.injEq, Prod.mk.injEq, DataW.lit.injEq, Lit.int.injEq, true_and] at h
    rw [h.1]
  · cases h
/-- The map stands for these. -/
def MapN (D : DataW Unit) (σ : ByteArray → Option Nat) : Prop := Maps.IsMap D ∧ ∀ k : ByteArray, Maps.has D (.string k.data.toList) = (σ k).isSome ∧ ∀ s, σ k = some s → ∀ z, D.atKey (.string k.data.toList) z = .lit (.int .i64 (s : Int))
theorem MapN.nil : MapN (.map []) (fun _ => none) := ⟨⟨_, rfl⟩, fun k => ⟨by simp [Maps.has_eq], fun s h => by cases h⟩⟩
theorem MapN.put {D : DataW Unit} {σ : ByteArray → Option Nat} (h : MapN D σ) (x : ByteArray) (s : Nat) : MapN (D.put (.string x.data.toList) (.lit (.int .i64 (s : Int)))) (fun k => if k = x then some s else σ k) := by
  refine ⟨h.1.put _ _, fun k => ?_⟩
  by_cases e : k = x
  · subst e
    have e2 : (fun k_1 => if k_1 = k then some s else σ k_1) k = some s := if_pos rfl
    rw [e2]
    exact ⟨Maps.has_put_same h.1 (show WideAt.IsKeyLit (.string k.data.toList) from trivial) _, fun s' h' z => by cases h'; exact Maps.atKey_put_same h.1 (show WideAt.IsKeyLit (.string k.data.toList) from trivial) _ _⟩
  · have hne : Lit.string k.data.toList ≠ .string x.data.toList := fun e' => e (data_inj (Lit.string.inj e'))
    dsimp only
    rw [if_neg e]
    exact ⟨(Maps.has_put_other hne _).trans (h.2 k).1, fun s' h' z => (Maps.atKey_put_other hne _ _).trans ((h.2 k).2 s' h' z)⟩
/-- The map lies there, after N writes. -/
def MapAt (w : World) (mb N : Nat) (σ : ByteArray → Option Nat) : Prop := ∃ D, w.ownsMap Tryz.prog 9 inE mb N D ∧ MapN D σ
theorem MapAt.keep {K : Nat → Prop} {w w' : World} {mb N : Nat} {σ : ByteArray → Option Nat} (h : MapAt w mb N σ) (hk : Kp K w w') (h2 : K mb) : MapAt w' mb N σ := by
  obtain ⟨D, ⟨es, clock, a4, a5⟩, a6⟩ := h
  exact ⟨D, ⟨es, clock, hk.block' a4 h2, a5⟩, a6⟩
theorem MapAt.later {w w' : World} {mb N : Nat} {σ : ByteArray → Option Nat} (h : MapAt w mb N σ) (hx : Ext w w') : MapAt w' mb N σ := h.keep (hx.kp (fun _ => True)) trivial
theorem MapAt.lt {w : World} {mb N : Nat} {σ : ByteArray → Option Nat} (h : MapAt w mb N σ) : mb < w.heap.size := by
  obtain ⟨D, a4, _⟩ := h
  exact a4.lt
theorem MapAt.nocells {w : World} {mb N : Nat} {σ : ByteArray → Option Nat} (h : MapAt w mb N σ) {cs : Array Value} {t : TypeId} {m : Nat × Nat} : w.heap[mb]? ≠ some (.cells cs t m) := by
  obtain ⟨D, ⟨es, clock, a4, a5⟩, a6⟩ := h
  rw [a4]
  intro e
  cases e
theorem zero_it (w : World) : (zeroValue 3).run Tryz.prog w = .ok (.int .i64 0) w := by kernel_rfl
/-- What the map tells. -/
def itV (o : Option Nat) : Value := .tuple #[.int .i64 ((o.getD 0 : Nat) : Int), .bool o.isSome]
theorem MapAt.look {w : World} {mb N : Nat} {σ : ByteArray → Option Nat} (h : MapAt w mb N σ) (x : ByteArray) (hx : x.size ≤ 140737488351232) : (Instr.lookup 103 (.map (some mb)) (.string x) true).run Tryz.prog w = .ok (itV (σ x)) w := by
  obtain ⟨D, a4, a5⟩ := h
  have hkey := WideMaps.keyOf_string_mk (P := Tryz.prog) (k := 9) Tryz.underlying9 (s := x) (by unfold maxLen; omega)
  obtain ⟨v, ps, hrun, hv⟩ := a4.look_ok (Maps.string_keyed Tryz.underlying9) Tryz.underlying103 (zero_it w) (inE_mk 0) hkey
  rw [hrun, (a5.2 x).1]
  unfold itV
  cases hs : σ x with
  | none =>
    have h0 : Maps.has D (.string x.data.toList) = false := by rw [(a5.2 x).1, hs]; rfl
    rw [Maps.atKey_of_not_has h0] at hv
    have := inE_inv (n := 0) hv
    rw [this]
    rfl
  | some s =>
    rw [(a5.2 x).2 s hs] at hv
    rw [inE_inv hv]
    rfl
theorem MapAt.put {w : World} {mb N : Nat} {σ : ByteArray → Option Nat} (h : MapAt w mb N σ) (x : ByteArray) (t : Nat) (hx : x.size ≤ 140737488351232) (hN : N ≤ 1000000) : ∃ w', (Instr.mapUpdate 103 (.map (some mb)) (.string x) (.int .i64 (t : Int))).run Tryz.prog w = .ok () w' ∧ MapAt w' mb (N + 1) (fun k => if k = x then some t else σ k) ∧ Kp (· ≠ mb) w w' := by
  obtain ⟨D, a4, a5⟩ := h
  have hkey := WideMaps.keyOf_string_mk (P := Tryz.prog) (k := 9) Tryz.underlying9 (s := x) (by unfold maxLen; omega)
  obtain ⟨w', hrun, ho, hg⟩ := a4.update (Maps.string_keyed Tryz.underlying9) Tryz.underlying103 (by unfold maxLen; omega) hkey (inE_mk t)
  have hk : Kp (· ≠ mb) w w' := ⟨hg.os, hg.tape, hg.output, hg.size, fun q hq hne => hg.block q hq (fun e => hne (Option.some.inj e))⟩
  exact ⟨w', hrun, ⟨_, ho, a5.put x t⟩, hk⟩
/-- Texts in a block of their own. -/
def TB (w : World) (a : Option Addr) (xs : List ByteArray) : Prop := xs = [] ∨ ∃ g cur, a = some ⟨g, 0, none⟩ ∧ w.heap[g]? = some (.cells cur 9) ∧ ∀ j, (h : j < xs.length) → cur[j]? = some (.string xs[j])
theorem TB.row {w : World} {a : Option Addr} {xs : List ByteArray} (h : TB w a xs) : TRow w a xs := by
  rcases h with h | ⟨g, cur, ha, hb, hc⟩
  · exact .inl h
  · exact .inr ⟨g, 0, ha, fun j hj => by rw [Nat.zero_add]; exact cell_of hb (hc j hj)⟩
theorem TB.keep {K : Nat → Prop} {w w' : World} {a : Option Addr} {xs : List ByteArray} (h : TB w a xs) (hk : Kp K w w') (hK : ∀ g cur, w.heap[g]? = some (.cells cur 9) → K g) : TB w' a xs := by
  rcases h with h | ⟨g, cur, ha, hb, hc⟩
  · exact .inl h
  · exact .inr ⟨g, cur, ha, hk.block' hb (hK g cur hb), hc⟩
theorem TB.later {w w' : World} {a : Option Addr} {xs : List ByteArray} (h : TB w a xs) (hx : Ext w w') : TB w' a xs := h.keep (hx.kp (fun _ => True)) (fun _ _ _ => trivial)
/-- Texts copied. -/
theorem cloneT (a : Option Addr) (c : Nat) (xs : List ByteArray) (w : World) (hl : xs.length ≤ 100) (h : TB w a xs) : Calls Tryz.prog 224 #[.slice a xs.length c] w fun e w' => ∃ a' c', e = .returned (.slice a' xs.length c') ∧ TB w' a' xs ∧ Ext w w' := by
  have fin : ∀ v' w', World.ownsRow w' w.heap.size 9 1 v' xs.length (xs.map Value.string) → ∃ a' c', v' = .slice a' xs.length c' ∧ TB w' a' xs := fun v' w' ho => by
    rcases ho.2 with ⟨rfl, h0⟩ | ⟨g, cap, cur, rfl, _, hb, h1, h2, h3, h4⟩
    · exact ⟨none, 0, by rw [h0], .inl (List.eq_nil_of_length_eq_zero h0)⟩
    · refine ⟨_, _, rfl, .inr ⟨g, cur, rfl, hb, fun j hj => ?_⟩⟩
      have : (cur.toList.take (xs.length * 1))[j]? = some (.string xs[j]) := by rw [h4, List.getElem?_map, List.getElem?_eq_getElem hj]; rfl
      rw [List.getElem?_take_of_lt (by omega)] at this
      simpa using this
  rcases h with h | ⟨g, cur, rfl, hb, hc⟩
  · subst h
    cases a with
    | none =>
      refine (Tryz.slices_Clone_string_nil 0 c w).mono ?_
      rintro e w' ⟨rfl, rfl⟩
      exact ⟨none, 0, rfl, .inl rfl, Ext.refl _⟩
    | some a =>
      refine (Tryz.slices_Clone_string_zero a c w).mono ?_
      rintro e w' ⟨v', rfl, ho, _, hx⟩
      obtain ⟨a', c', rfl, ht⟩ := fin v' w' ho
      exact ⟨a', c', rfl, ht, hx⟩
  · refine (Tryz.slices_Clone_string g 0 xs.length c xs w (Nat.le_refl _) (by omega) (fun j hj => ?_)).mono ?_
    · rw [Nat.zero_add, List.getD_eq_getElem?_getD, List.getElem?_eq_getElem hj]
      exact cell_of hb (hc j hj)
    · rintro e w' ⟨v', rfl, ho, _, hx⟩
      rw [List.take_length] at ho
      obtain ⟨a', c', rfl, ht⟩ := fin v' w' ho
      exact ⟨a', c', rfl, ht, hx⟩
end Go.Proofs.YtecabbifkcnbeaaGreatDoor
