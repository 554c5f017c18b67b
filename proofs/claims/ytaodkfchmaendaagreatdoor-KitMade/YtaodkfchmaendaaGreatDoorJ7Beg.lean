/-
  espalierlaw7.begun: it tells true.
-/
import Derived.Test.YtaodkfchmaendaaGreatDoorJBMake
import Derived.Test.YtaodkfchmaendaaGreatDoorJMay
import Derived.Test.YtaodkfchmaendaaGreatDoorJTold
import Derived.Test.YtaodkfchmaendaaGreatDoorCFNew
namespace Go.Proofs.YtaodkfchmaendaaGreatDoor.Nd
open Go.RowKit
theorem kname_any {w : World} {base kb mb : Nat} {nm : ByteArray} {mk lv : Value} {acc : List Rw} (h : KitM w base kb mb nm mk lv acc) : Calls Tryz.prog 24 #[.pointer (some ⟨kb, 0, none⟩)] w fun e w' => e = .returned (.string nm) ∧ w' = w := by
  obtain ⟨k0, k1, k2, k3⟩ := h.four
  clear h
  go_enter Tryz.func24, Tryz.ntmps24
  go_wp2_with fail
  go_ret
  exact ⟨rfl, rfl⟩
theorem worth_any (b : Nat) (v : Value) (w : World) (h : LitW w b v) : Calls Tryz.prog 185 #[.pointer (some ⟨b, 0, none⟩)] w fun e w' => e = .returned v ∧ w' = w := by
  have h' : w.cell? ⟨b, 6, none⟩ = some v := h
  go_enter Tryz.func185, Tryz.ntmps185
  go_wp2
  go_ret
  exact ⟨rfl, rfl⟩
theorem eqInt (a b : Int) (w : World) : (binOp .eql 79 (.iface 81 (.int .i64 a)) (.iface 81 (.int .i64 b))).run Tryz.prog w = .ok (.bool (a == b)) w := by kernel_rfl
theorem eqErr (t : TypeId) (v : Value) (w : World) : (binOp .neq 41 (.iface t v) .nilIface).run Tryz.prog w = .ok (.bool true) w := by kernel_rfl
def bInt : ByteArray := ⟨#[98, 97, 115, 101, 46, 105, 110, 116]⟩
def bNot : ByteArray := ⟨#[98, 97, 115, 101, 46, 110, 111, 116, 104, 105, 110, 103]⟩
theorem bInt_find : kdFind bInt = some 3 := by decide
theorem bNot_find : kdFind bNot = none := by decide
theorem fit_int5 : fitsK (minK 3) (maxK 3) (numK 3) (textK 3) 5 ⟨#[]⟩ 0 = 0 := by simp [fitsK, takesK, minK, maxK, numK, textK]; try decide
theorem fit_intx : fitsK (minK 3) (maxK 3) (numK 3) (textK 3) 0 ⟨#[120]⟩ 0 = 12 := by simp [fitsK, takesK, minK, maxK, numK, textK]; try decide
def rowAB : Rw := ⟨⟨#[97, 46, 98]⟩, 1, 2, false, 2, []⟩
def rowA : Rw := ⟨⟨#[97]⟩, 0, 0, false, 0, []⟩
theorem may_AB : mayR rowAB = 0 := by kernel_rfl
theorem may_A : mayR rowA = 10 := by kernel_rfl
theorem fits_AB : fitsV rowAB ⟨#[97, 46, 98]⟩ 0 ⟨#[49, 120]⟩ 1 = 12 := by
  unfold fitsV
  rw [if_pos may_AB]
  unfold fitsR takesR rowAB
  rw [if_pos rfl, if_neg (by decide), if_neg (by decide), if_neg (by decide), if_neg (by decide)]
attribute [local go_sem] isLitLiteral mLitWorth eqInt
set_option maxRecDepth 100000 in
set_option maxHeartbeats 4000000 in
theorem begun7_any (w : World) (hl : Laid w) : Calls Tryz.prog 9 #[] w fun e w' => e = .returned (.bool true) ∧ Ext w w' := by
  have HB := hid (base_any w hl)
  clear hl
  go_enter Tryz.func9, Tryz.ntmps9
  go_wp2_with fail
  refine HB.out.mono ?_
  rintro e w1 ⟨B, kb, mb, lv, rfl, hkm, _, hx1⟩
  have HK := hid hkm
  have X1 := hid hx1
  clear hkm hx1
  go_wp2_with fail
  refine (bmake_yes 3 bInt ⟨#[]⟩ 5 none none 0 0 0 0 (fun _ => 0) _ HK.out (by decide) (by decide) bInt_find (by decide) (.inl ⟨rfl, rfl, rfl⟩) fit_int5).mono ?_
  rintro e w2 ⟨q, v, rfl, ⟨b, a, c, rfl, hhd, ⟨b', e1, e2, e3, e4⟩, hrow, hq⟩, hx2⟩
  obtain rfl : b' = b := by
    injection e1 with _ e1
    injection e1 with e1
    injection e1 with e1
    injection e1 with e1
    exact e1.symm
  have HW := hid (e4 (by decide))
  have HC := hid (show ∀ W', Ext w2 W' → W'.cell? ⟨q, 0, none⟩ = some (.iface 175 (.pointer (some ⟨b', 0, none⟩))) from fun W' X => (X.kp (fun _ => True)).cell (cell_of hhd rfl) trivial)
  have X2 := hid (X1.out.trans hx2)
  have HK := hid (HK.out.later hx2)
  have hneq := nil_iface 175 (.pointer (some ⟨b', 0, none⟩))
  clear hhd e1 e2 e3 e4 hrow hq hx2
  go_wp2_with fail
  refine (node_cell q _ _ (HC.out _ (Ext.refl _))).mono ?_
  rintro e w3 ⟨rfl, hw3⟩
  rw [hw3]
  clear hw3 w3
  go_wp2_with fail
  refine (node_cell q _ _ (HC.out _ (Ext.refl _))).mono ?_
  rintro e w3 ⟨rfl, hw3⟩
  rw [hw3]
  clear hw3 w3
  go_wp2_with fail
  refine (bmake_bad 3 bInt ⟨#[120]⟩ 0 none none 0 0 0 0 (fun _ => 0) _ HK.out (by decide) (by decide) bInt_find (by decide) (.inl ⟨rfl, rfl, rfl⟩) 12 (by decide) fit_intx).mono ?_
  rintro e w3 ⟨f, rfl, hf, hx3⟩
  have HF := hid (show ∀ W', Ext w3 W' → W'.cell? ⟨f, 0, none⟩ = some (.int .i64 12) from fun W' X => (X.kp (fun _ => True)).cell hf trivial)
  have X3 := hid (X2.out.trans hx3)
  have HK := hid (HK.out.later hx3)
  have HW := hid (HW.out.later hx3)
  clear hf hx3
  go_wp2_with fail
  refine (bmake_kind bNot ⟨#[]⟩ 0 none none 0 0 0 0 _ HK.out (by decide) bNot_find).mono ?_
  rintro e w4 ⟨g, rfl, hg, hx4⟩
  have HG := hid (show ∀ W', Ext w4 W' → W'.cell? ⟨g, 0, none⟩ = some (.int .i64 3) from fun W' X => (X.kp (fun _ => True)).cell hg trivial)
  have X4 := hid (X3.out.trans hx4)
  have HF := hid (fun W' (X : Ext w4 W') => HF.out W' (hx4.trans X))
  have HK := hid (HK.out.later hx4)
  have HW := hid (HW.out.later hx4)
  clear hg hx4
  have XM := hid (Ext.alloc w4 (.cells #[.string ⟨#[97, 46, 98]⟩, .int .i64 1, .int .i64 2, .bool false, .int .i64 2, .slice none 0 0] 37))
  have HR := hid (show ∀ W', Ext (w4.alloc (.cells #[.string ⟨#[97, 46, 98]⟩, .int .i64 1, .int .i64 2, .bool false, .int .i64 2, .slice none 0 0] 37)) W' → W'.heap[w4.heap.size]? = some (.cells #[.string ⟨#[97, 46, 98]⟩, .int .i64 1, .int .i64 2, .bool false, .int .i64 2, .slice none 0 0] 37) from fun W' X => X.block (blk0 _ _))
  go_wp2_with fail
  refine (worth_any b' _ _ (HW.out.later XM.out)).mono ?_
  rintro e w5 ⟨rfl, hw5⟩
  rw [hw5]
  clear hw5 w5
  obtain ⟨M, hM⟩ : ∃ M, w4.alloc (.cells #[.string ⟨#[97, 46, 98]⟩, .int .i64 1, .int .i64 2, .bool false, .int .i64 2, .slice none 0 0] 37) = M := ⟨_, rfl⟩
  rw [hM] at XM HR ⊢
  clear hM
  have hwv : worthV 5 ⟨#[]⟩ 3 = .iface 81 (.int .i64 5) := rfl
  rw [hwv]
  go_wp2_with fail
  refine (fcode_any f 12 _ (HF.out _ XM.out)).mono ?_
  rintro e w5 ⟨rfl, hx5⟩
  have X5 := hid hx5
  clear hx5
  go_wp2_with fail
  refine (fcode_any g 3 _ (HG.out _ (XM.out.trans X5.out))).mono ?_
  rintro e w6 ⟨rfl, hx6⟩
  have X6 := hid (X5.out.trans hx6)
  obtain ⟨y0, y1, y2, y3, y4, y5⟩ := six_of (HR.out _ X6.out)
  clear hx6
  go_wp2_with fail
  refine (kMay_any rowAB none 0 _ (by decide) (by decide) (.inl rfl)).mono ?_
  rw [may_AB]
  rintro e w7 ⟨v7, rfl, hv7, hx7⟩
  obtain rfl : v7 = .nilIface := by
    rcases hv7 with ⟨_, h⟩ | ⟨h, _⟩
    · exact h
    · cases h
  have X7 := hid (X6.out.trans hx7)
  clear hx7 hv7 y0 y1 y2 y3 y4 y5
  obtain ⟨y0, y1, y2, y3, y4, y5⟩ := six_of (HR.out _ X7.out)
  go_wp2_with fail
  refine (kFits_any rowAB none 0 ⟨#[97, 46, 98]⟩ ⟨#[49, 120]⟩ 0 _ 1 _ _ (by decide) (by decide) (by decide) (by decide) (.inl rfl)).mono ?_
  rw [show ((1 : Nat) : Int) = 1 from rfl, fits_AB]
  rintro e w8 ⟨v8, rfl, hv8, hx8⟩
  obtain ⟨f8, rfl, hf8⟩ : ∃ f8, v8 = .iface 137 (.pointer (some ⟨f8, 0, none⟩)) ∧ w8.cell? ⟨f8, 0, none⟩ = some (.int .i64 12) := by
    rcases hv8 with ⟨h, _⟩ | ⟨_, b, h1, h2⟩
    · cases h
    · exact ⟨b, h1, h2⟩
  have X8 := hid (X7.out.trans ((Ext.alloc _ _).trans hx8))
  clear hx8 hv8 y0 y1 y2 y3 y4 y5
  go_wp2_with fail
  refine (fcode_any f8 12 _ hf8).mono ?_
  rintro e w9 ⟨rfl, hx9⟩
  have X9 := hid (X8.out.trans hx9)
  clear hx9 hf8
  go_wp2_with fail
  refine (kMay_any rowA none 0 _ (by decide) (by decide) (.inl rfl)).mono ?_
  rw [may_A]
  rintro e wa ⟨va, rfl, hva, hxa⟩
  obtain ⟨fa, rfl, hfa⟩ : ∃ fa, va = .iface 137 (.pointer (some ⟨fa, 0, none⟩)) ∧ wa.cell? ⟨fa, 0, none⟩ = some (.int .i64 10) := by
    rcases hva with ⟨h, _⟩ | ⟨_, b, h1, h2⟩
    · cases h
    · exact ⟨b, h1, h2⟩
  have Xa := hid (X9.out.trans hxa)
  clear hxa hva
  go_wp2_with fail
  refine (fcode_any fa 10 _ hfa).mono ?_
  rintro e wb ⟨rfl, hxb⟩
  have Xb := hid (Xa.out.trans hxb)
  clear hxb hfa
  go_wp2_with fail
  refine (kname_any (HK.out.later (XM.out.trans Xb.out))).mono ?_
  rintro e wc ⟨rfl, hwc⟩
  rw [hwc]
  clear hwc wc
  unfold baseB
  go_wp2_with fail
  go_ret
  exact ⟨rfl, X4.out.trans (XM.out.trans Xb.out)⟩
end Go.Proofs.YtaodkfchmaendaaGreatDoor.Nd
