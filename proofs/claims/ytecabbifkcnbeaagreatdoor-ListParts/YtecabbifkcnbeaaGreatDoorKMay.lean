/-
  Rows of kinds as data; kit.may of a row that may be, kit.copied: by contracts.
-/
import Derived.Test.YtecabbifkcnbeaaGreatDoorKOrd
import Derived.Test.YtecabbifkcnbeaaGreatDoorCut
import Derived.Deep.RegionHeld3
namespace Go.Proofs.YtecabbifkcnbeaaGreatDoor
open Go.RowKit
/-- A row. -/
structure Rw where
  kind : ByteArray
  min : Int
  max : Int
  num : Bool
  text : Int
  abs : List ByteArray
/-- A row that may be, of the kit pre. -/
structure GoodR (pre : List UInt8) (r : Rw) : Prop where
  name : ∃ post, r.kind.data.toList = pre ++ 46 :: post ∧ speltB wordI 16 post = true
  nod : (46 : UInt8) ∉ pre
  word : speltB wordI 16 pre = true
  size : r.kind.size ≤ 4000
  min : 0 ≤ r.min
  max : r.max = -1 ∨ r.min ≤ r.max ∧ r.max ≤ 1023
  text : 0 ≤ r.text ∧ r.text ≤ 4
  names : ¬ (r.text = 3 ∧ r.min = 0)
  ord : ordQ 0 false r.abs = true
  len : r.abs.length ≤ 100
theorem GoodR.kind_ok {pre : List UInt8} {r : Rw} (h : GoodR pre r) (w : World) : ∃ P : ByteArray, Calls Tryz.prog 169 #[.string r.kind] w fun e w' => e = .returned (.tuple #[.string ⟨pre.toArray⟩, .string P, .bool true]) ∧ Ext w w' := by
  obtain ⟨post, h1, h2⟩ := h.name
  refine ⟨⟨post.toArray⟩, ?_⟩
  have := kind_found r.kind pre post w h1 h.nod (Nat.le_trans h.size (by decide))
  unfold kindV at this
  rw [if_pos (by rw [h.word, h2]; rfl)] at this
  exact this
/-- Six cells. -/
theorem six_of {w : World} {b : Nat} {v0 v1 v2 v3 v4 v5 : Value} {t : TypeId} (h : w.heap[b]? = some (.cells #[v0, v1, v2, v3, v4, v5] t)) : w.cell? ⟨b, 0, none⟩ = some v0 ∧ w.cell? ⟨b, 1, none⟩ = some v1 ∧ w.cell? ⟨b, 2, none⟩ = some v2 ∧ w.cell? ⟨b, 3, none⟩ = some v3 ∧ w.cell? ⟨b, 4, none⟩ = some v4 ∧ w.cell? ⟨b, 5, none⟩ = some v5 := ⟨cell_of h rfl, cell_of h rfl, cell_of h rfl, cell_of h rfl, cell_of h rfl, cell_of h rfl⟩
def Rw.val (r : Rw) (a : Option Addr) (c : Nat) : Value := .agg #[.string r.kind, .int .i64 r.min, .int .i64 r.max, .bool r.num, .int .i64 r.text, .slice a r.abs.length c]
set_option maxRecDepth 100000 in
set_option maxHeartbeats 2000000 in
theorem may_good {pre : List UInt8} {r : Rw} (hg : GoodR pre r) (a : Option Addr) (c : Nat) (w : World) (hr : TRow w a r.abs) : Calls Tryz.prog 168 #[r.val a c] w fun e w' => e = .returned (.int .i64 0) ∧ Ext w w' := by
  have HK := hid (fun w => hg.kind_ok w)
  have HO := hid (fun w1 (hx : Ext w w1) => ordered_any a c r.abs w1 (by have := hg.len; omega) (hr.later hx))
  rw [hg.ord] at HO
  obtain ⟨_, _, _, _, h1, h2, h3, h4, _, _⟩ := hg
  unfold Rw.val
  obtain ⟨k, mn, mx, nm, tx, abs⟩ := r
  dsimp only at *
  generalize abs.length = l at *
  clear hr
  obtain ⟨M, hM⟩ : ∃ M, w.alloc (.cells #[.string k, .int .i64 mn, .int .i64 mx, .bool nm, .int .i64 tx, .slice a l c] 118) = M := ⟨_, rfl⟩
  have XM := hid (show Ext w M from hM ▸ Ext.alloc _ _)
  have HM0 := hid (show M.heap[w.heap.size]? = some (.cells #[.string k, .int .i64 mn, .int .i64 mx, .bool nm, .int .i64 tx, .slice a l c] 118) from hM ▸ blk0 _ _)
  obtain ⟨z0, z1, z2, z3, z4, z5⟩ := six_of HM0.out
  obtain ⟨P, hP⟩ := HK.out M
  have HP := hid hP
  obtain ⟨h3a, h3b⟩ := h3
  have HH4 := hid h4
  have HH2 := hid h2
  clear hP h4 h2 HK
  by_cases hmx : mx = -1
  · have hmx1 : (mx == -1) = true := by rw [beq_iff_eq]; exact hmx
    have hmx2 : (mx != -1) = false := by unfold bne; rw [hmx1]; rfl
    have hmx3 : mx ≤ -1 := by omega
    have hmx4 : -1 ≤ mx := by omega
    clear hmx
    by_cases htx : tx = 3
    · have htx1 : (tx == 3) = true := by rw [beq_iff_eq]; exact htx
      have hmn : (mn == 0) = false := by rw [beq_eq_false_iff_ne]; exact fun h => HH4.out ⟨htx, h⟩
      clear htx
      go_enter Tryz.func168, Tryz.ntmps168
      go_wp2_with fail
      clear hM
      refine HP.out.mono ?_
      rintro e w1 ⟨rfl, hx1⟩
      have X1 := hid (XM.out.trans hx1)
      obtain ⟨y0, y1, y2, y3, y4, y5⟩ := six_of (hx1.block HM0.out)
      clear hx1
      go_wp2_with fail
      refine (HO.out _ X1.out).mono ?_
      rintro e w2 ⟨rfl, hx2⟩
      have X2 := hid (X1.out.trans hx2)
      clear hx2
      go_wp2_with fail
      go_ret
      exact ⟨rfl, X2.out⟩
    · have htx1 : (tx == 3) = false := by rw [beq_eq_false_iff_ne]; exact htx
      clear htx
      go_enter Tryz.func168, Tryz.ntmps168
      go_wp2_with fail
      clear hM
      refine HP.out.mono ?_
      rintro e w1 ⟨rfl, hx1⟩
      have X1 := hid (XM.out.trans hx1)
      obtain ⟨y0, y1, y2, y3, y4, y5⟩ := six_of (hx1.block HM0.out)
      clear hx1
      go_wp2_with fail
      refine (HO.out _ X1.out).mono ?_
      rintro e w2 ⟨rfl, hx2⟩
      have X2 := hid (X1.out.trans hx2)
      clear hx2
      go_wp2_with fail
      go_ret
      exact ⟨rfl, X2.out⟩
  · have hmx1 : (mx == -1) = false := by rw [beq_eq_false_iff_ne]; exact hmx
    have hq1 : mn ≤ mx := by have := HH2.out; omega
    have hq2 : mx ≤ 1023 := by have := HH2.out; omega
    clear hmx
    by_cases htx : tx = 3
    · have htx1 : (tx == 3) = true := by rw [beq_iff_eq]; exact htx
      have hmn : (mn == 0) = false := by rw [beq_eq_false_iff_ne]; exact fun h => HH4.out ⟨htx, h⟩
      clear htx
      go_enter Tryz.func168, Tryz.ntmps168
      go_wp2_with fail
      clear hM
      refine HP.out.mono ?_
      rintro e w1 ⟨rfl, hx1⟩
      have X1 := hid (XM.out.trans hx1)
      obtain ⟨y0, y1, y2, y3, y4, y5⟩ := six_of (hx1.block HM0.out)
      clear hx1
      go_wp2_with fail
      refine (HO.out _ X1.out).mono ?_
      rintro e w2 ⟨rfl, hx2⟩
      have X2 := hid (X1.out.trans hx2)
      clear hx2
      go_wp2_with fail
      go_ret
      exact ⟨rfl, X2.out⟩
    · have htx1 : (tx == 3) = false := by rw [beq_eq_false_iff_ne]; exact htx
      clear htx
      go_enter Tryz.func168, Tryz.ntmps168
      go_wp2_with fail
      clear hM
      refine HP.out.mono ?_
      rintro e w1 ⟨rfl, hx1⟩
      have X1 := hid (XM.out.trans hx1)
      obtain ⟨y0, y1, y2, y3, y4, y5⟩ := six_of (hx1.block HM0.out)
      clear hx1
      go_wp2_with fail
      refine (HO.out _ X1.out).mono ?_
      rintro e w2 ⟨rfl, hx2⟩
      have X2 := hid (X1.out.trans hx2)
      clear hx2
      go_wp2_with fail
      go_ret
      exact ⟨rfl, X2.out⟩
end Go.Proofs.YtecabbifkcnbeaaGreatDoor
