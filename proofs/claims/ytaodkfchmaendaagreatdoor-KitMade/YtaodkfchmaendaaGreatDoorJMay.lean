/-
  kit.may of any row, kit.May and kit.Fits: the errors that tell what is amiss; by contracts.
-/
import Derived.Test.YtaodkfchmaendaaGreatDoorJFitR
import Derived.Test.YtaodkfchmaendaaGreatDoorJMake
import Derived.Test.YtaodkfchmaendaaGreatDoorKOrdB
namespace Go.Proofs.YtaodkfchmaendaaGreatDoor.Nd
open Go.RowKit
/-- Whether a text is a kind's name. -/
def kindOkB (l : List UInt8) : Bool := l.contains 46 && (speltB wordI 16 (l.takeWhile (· != 46)) && speltB wordI 16 ((l.dropWhile (· != 46)).drop 1))
theorem kindOk_none {l : List UInt8} (h : (46 : UInt8) ∉ l) : kindOkB l = false := by
  unfold kindOkB
  rw [show l.contains 46 = false by simpa using h]
  rfl
theorem kindOk_found {pre post : List UInt8} (h : (46 : UInt8) ∉ pre) : kindOkB (pre ++ 46 :: post) = (speltB wordI 16 pre && speltB wordI 16 post) := by
  have h1 : (pre ++ 46 :: post).takeWhile (· != 46) = pre := by
    rw [List.takeWhile_append_of_pos (fun a ha => by
      have : a ≠ 46 := fun e => h (by rw [← e]; exact ha)
      simpa using this)]
    simp
  have h2 : (pre ++ 46 :: post).dropWhile (· != 46) = 46 :: post := by
    rw [List.dropWhile_append_of_pos (fun a ha => by
      have : a ≠ 46 := fun e => h (by rw [← e]; exact ha)
      simpa using this)]
    simp
  unfold kindOkB
  rw [h1, h2]
  simp
theorem kind_dec (s : ByteArray) (w : World) (hb : s.size ≤ 140737488355328) : Calls Tryz.prog 71 #[.string s] w fun e w' => (∃ a b : ByteArray, e = .returned (.tuple #[.string a, .string b, .bool (kindOkB s.data.toList)])) ∧ Ext w w' := by
  rcases parts_of s.data.toList 46 with h | ⟨pre, post, hs, h⟩
  · refine (kind_none s w h).mono ?_
    rintro e w' ⟨rfl, hx⟩
    rw [kindOk_none h]
    exact ⟨⟨_, _, rfl⟩, hx⟩
  · refine (kind_found s pre post w hs h hb).mono ?_
    rintro e w' ⟨rfl, hx⟩
    rw [hs, kindOk_found h]
    unfold kindV
    by_cases hh : (speltB wordI 16 pre && speltB wordI 16 post) = true
    · rw [if_pos hh, hh]
      exact ⟨⟨_, _, rfl⟩, hx⟩
    · rw [if_neg hh, show (speltB wordI 16 pre && speltB wordI 16 post) = false by simpa using hh]
      exact ⟨⟨_, _, rfl⟩, hx⟩
/-- What is amiss with a row. -/
def mayR (r : Rw) : Int := if kindOkB r.kind.data.toList = false then 10 else if r.min < 0 ∨ (r.max ≠ -1 ∧ (r.max < r.min ∨ 1023 < r.max)) then 11 else if r.text < 0 ∨ 4 < r.text ∨ (r.text = 3 ∧ r.min = 0) then 1 else if ordQ 0 false r.abs = true then 0 else 1
set_option maxRecDepth 100000 in
set_option maxHeartbeats 4000000 in
theorem rmay_row (r : Rw) (a : Option Addr) (c : Nat) (w : World) (hk : r.kind.size ≤ 140737488355328) (hl : r.abs.length ≤ 140737488351232) (hr : TRow w a r.abs) : Calls Tryz.prog 45 #[r.val a c] w fun e w' => e = .returned (.int .i64 (mayR r)) ∧ Ext w w' := by
  have HK := hid (fun w => kind_dec r.kind w hk)
  have HO := hid (fun w1 (hx : Ext w w1) => ordered_big a c r.abs w1 hl (hr.later hx))
  have HV := hid (show mayR r = if kindOkB r.kind.data.toList = false then 10 else if r.min < 0 ∨ (r.max ≠ -1 ∧ (r.max < r.min ∨ 1023 < r.max)) then 11 else if r.text < 0 ∨ 4 < r.text ∨ (r.text = 3 ∧ r.min = 0) then 1 else if ordQ 0 false r.abs = true then 0 else 1 from rfl)
  clear hk hl hr
  generalize mayR r = V at *
  unfold Rw.val
  obtain ⟨k, mn, mx, nm, tx, abs⟩ := r
  dsimp only at *
  generalize abs.length = l at *
  generalize ordQ 0 false abs = ob at *
  generalize kindOkB k.data.toList = kb at *
  obtain ⟨M, hM⟩ : ∃ M, w.alloc (.cells #[.string k, .int .i64 mn, .int .i64 mx, .bool nm, .int .i64 tx, .slice a l c] 37) = M := ⟨_, rfl⟩
  have XM := hid (show Ext w M from hM ▸ Ext.alloc _ _)
  have HM0 := hid (show M.heap[w.heap.size]? = some (.cells #[.string k, .int .i64 mn, .int .i64 mx, .bool nm, .int .i64 tx, .slice a l c] 37) from hM ▸ blk0 _ _)
  obtain ⟨z0, z1, z2, z3, z4, z5⟩ := six_of HM0.out
  cases kb with
  | false =>
    have HW := hid (show V = 10 by rw [HV.out, if_pos rfl])
    clear HV HO
    go_enter Tryz.func45, Tryz.ntmps45
    go_wp2_with fail
    clear hM
    refine (HK.out _).mono ?_
    rintro e w1 ⟨⟨ka, kc, rfl⟩, hx1⟩
    have X1 := hid (XM.out.trans hx1)
    obtain ⟨y0, y1, y2, y3, y4, y5⟩ := six_of (hx1.block HM0.out)
    clear hx1 z0 z1 z2 z3 z4 z5
    go_wp2_with fail
    go_ret
    exact ⟨by rw [HW.out]; rfl, X1.out⟩
  | true =>
    by_cases n1 : mn < 0
    · have HW := hid (show V = 11 by rw [HV.out, if_neg (by decide), if_pos (.inl n1)])
      clear HV HO
      go_enter Tryz.func45, Tryz.ntmps45
      go_wp2_with fail
      clear hM
      refine (HK.out _).mono ?_
      rintro e w1 ⟨⟨ka, kc, rfl⟩, hx1⟩
      have X1 := hid (XM.out.trans hx1)
      obtain ⟨y0, y1, y2, y3, y4, y5⟩ := six_of (hx1.block HM0.out)
      clear hx1 z0 z1 z2 z3 z4 z5
      go_wp2_with fail
      go_ret
      exact ⟨by rw [HW.out]; rfl, X1.out⟩
    by_cases m0 : mx = -1
    · subst m0
      have HN2 := hid (show ¬ (mn < 0 ∨ ((-1 : Int) ≠ -1 ∧ ((-1 : Int) < mn ∨ (1023 : Int) < -1))) by omega)
      by_cases t1 : tx < 0
      · have HW := hid (show V = 1 by rw [HV.out, if_neg (by decide), if_neg HN2.out, if_pos (.inl t1)])
        clear HV HO
        go_enter Tryz.func45, Tryz.ntmps45
        go_wp2_with fail
        clear hM
        refine (HK.out _).mono ?_
        rintro e w1 ⟨⟨ka, kc, rfl⟩, hx1⟩
        have X1 := hid (XM.out.trans hx1)
        obtain ⟨y0, y1, y2, y3, y4, y5⟩ := six_of (hx1.block HM0.out)
        clear hx1 z0 z1 z2 z3 z4 z5
        go_wp2_with fail
        go_ret
        exact ⟨by rw [HW.out]; rfl, X1.out⟩
      by_cases t2 : 4 < tx
      · have HW := hid (show V = 1 by rw [HV.out, if_neg (by decide), if_neg HN2.out, if_pos (.inr (.inl t2))])
        clear HV HO
        go_enter Tryz.func45, Tryz.ntmps45
        go_wp2_with fail
        clear hM
        refine (HK.out _).mono ?_
        rintro e w1 ⟨⟨ka, kc, rfl⟩, hx1⟩
        have X1 := hid (XM.out.trans hx1)
        obtain ⟨y0, y1, y2, y3, y4, y5⟩ := six_of (hx1.block HM0.out)
        clear hx1 z0 z1 z2 z3 z4 z5
        go_wp2_with fail
        go_ret
        exact ⟨by rw [HW.out]; rfl, X1.out⟩
      by_cases t3 : tx = 3
      · subst t3
        by_cases t4 : mn = 0
        · have HW := hid (show V = 1 by rw [HV.out, if_neg (by decide), if_neg HN2.out, if_pos (.inr (.inr ⟨rfl, t4⟩))])
          subst t4
          clear HV HO
          go_enter Tryz.func45, Tryz.ntmps45
          go_wp2_with fail
          clear hM
          refine (HK.out _).mono ?_
          rintro e w1 ⟨⟨ka, kc, rfl⟩, hx1⟩
          have X1 := hid (XM.out.trans hx1)
          obtain ⟨y0, y1, y2, y3, y4, y5⟩ := six_of (hx1.block HM0.out)
          clear hx1 z0 z1 z2 z3 z4 z5
          go_wp2_with fail
          go_ret
          exact ⟨by rw [HW.out]; rfl, X1.out⟩
        have t5 : (mn == 0) = false := by rw [beq_eq_false_iff_ne]; exact t4
        have HN3 := hid (show ¬ ((3 : Int) < 0 ∨ (4 : Int) < 3 ∨ ((3 : Int) = 3 ∧ mn = 0)) by omega)
        clear t4
        go_enter Tryz.func45, Tryz.ntmps45
        go_wp2_with fail
        clear hM
        refine (HK.out _).mono ?_
        rintro e w1 ⟨⟨ka, kc, rfl⟩, hx1⟩
        have X1 := hid (XM.out.trans hx1)
        obtain ⟨y0, y1, y2, y3, y4, y5⟩ := six_of (hx1.block HM0.out)
        clear hx1 z0 z1 z2 z3 z4 z5
        go_wp2_with fail
        refine (HO.out _ X1.out).mono ?_
        rintro e w2 ⟨rfl, hx2⟩
        have X2 := hid (X1.out.trans hx2)
        clear hx2
        cases ob with
        | true =>
          have HW := hid (show V = 0 by rw [HV.out, if_neg (by decide), if_neg HN2.out, if_neg HN3.out]; rfl)
          clear HV
          go_wp2_with fail
          go_ret
          exact ⟨by rw [HW.out]; rfl, X2.out⟩
        | false =>
          have HW := hid (show V = 1 by rw [HV.out, if_neg (by decide), if_neg HN2.out, if_neg HN3.out]; rfl)
          clear HV
          go_wp2_with fail
          go_ret
          exact ⟨by rw [HW.out]; rfl, X2.out⟩
      have t5 : (tx == 3) = false := by rw [beq_eq_false_iff_ne]; exact t3
      have HN3 := hid (show ¬ (tx < 0 ∨ 4 < tx ∨ (tx = 3 ∧ mn = 0)) by omega)
      clear t3
      go_enter Tryz.func45, Tryz.ntmps45
      go_wp2_with fail
      clear hM
      refine (HK.out _).mono ?_
      rintro e w1 ⟨⟨ka, kc, rfl⟩, hx1⟩
      have X1 := hid (XM.out.trans hx1)
      obtain ⟨y0, y1, y2, y3, y4, y5⟩ := six_of (hx1.block HM0.out)
      clear hx1 z0 z1 z2 z3 z4 z5
      go_wp2_with fail
      refine (HO.out _ X1.out).mono ?_
      rintro e w2 ⟨rfl, hx2⟩
      have X2 := hid (X1.out.trans hx2)
      clear hx2
      cases ob with
      | true =>
        have HW := hid (show V = 0 by rw [HV.out, if_neg (by decide), if_neg HN2.out, if_neg HN3.out]; rfl)
        clear HV
        go_wp2_with fail
        go_ret
        exact ⟨by rw [HW.out]; rfl, X2.out⟩
      | false =>
        have HW := hid (show V = 1 by rw [HV.out, if_neg (by decide), if_neg HN2.out, if_neg HN3.out]; rfl)
        clear HV
        go_wp2_with fail
        go_ret
        exact ⟨by rw [HW.out]; rfl, X2.out⟩
    have m1 : (mx == -1) = false := by rw [beq_eq_false_iff_ne]; exact m0
    have m2 : (mx != -1) = true := by unfold bne; rw [m1]; rfl
    by_cases m3 : mx < mn
    · have HW := hid (show V = 11 by rw [HV.out, if_neg (by decide), if_pos (.inr ⟨m0, .inl m3⟩)])
      clear HV HO m0
      go_enter Tryz.func45, Tryz.ntmps45
      go_wp2_with fail
      clear hM
      refine (HK.out _).mono ?_
      rintro e w1 ⟨⟨ka, kc, rfl⟩, hx1⟩
      have X1 := hid (XM.out.trans hx1)
      obtain ⟨y0, y1, y2, y3, y4, y5⟩ := six_of (hx1.block HM0.out)
      clear hx1 z0 z1 z2 z3 z4 z5
      go_wp2_with fail
      go_ret
      exact ⟨by rw [HW.out]; rfl, X1.out⟩
    by_cases m4 : 1023 < mx
    · have HW := hid (show V = 11 by rw [HV.out, if_neg (by decide), if_pos (.inr ⟨m0, .inr m4⟩)])
      clear HV HO m0
      go_enter Tryz.func45, Tryz.ntmps45
      go_wp2_with fail
      clear hM
      refine (HK.out _).mono ?_
      rintro e w1 ⟨⟨ka, kc, rfl⟩, hx1⟩
      have X1 := hid (XM.out.trans hx1)
      obtain ⟨y0, y1, y2, y3, y4, y5⟩ := six_of (hx1.block HM0.out)
      clear hx1 z0 z1 z2 z3 z4 z5
      go_wp2_with fail
      go_ret
      exact ⟨by rw [HW.out]; rfl, X1.out⟩
    have HN2 := hid (show ¬ (mn < 0 ∨ (mx ≠ -1 ∧ (mx < mn ∨ 1023 < mx))) by omega)
    clear m0
    by_cases t1 : tx < 0
    · have HW := hid (show V = 1 by rw [HV.out, if_neg (by decide), if_neg HN2.out, if_pos (.inl t1)])
      clear HV HO
      go_enter Tryz.func45, Tryz.ntmps45
      go_wp2_with fail
      clear hM
      refine (HK.out _).mono ?_
      rintro e w1 ⟨⟨ka, kc, rfl⟩, hx1⟩
      have X1 := hid (XM.out.trans hx1)
      obtain ⟨y0, y1, y2, y3, y4, y5⟩ := six_of (hx1.block HM0.out)
      clear hx1 z0 z1 z2 z3 z4 z5
      go_wp2_with fail
      go_ret
      exact ⟨by rw [HW.out]; rfl, X1.out⟩
    by_cases t2 : 4 < tx
    · have HW := hid (show V = 1 by rw [HV.out, if_neg (by decide), if_neg HN2.out, if_pos (.inr (.inl t2))])
      clear HV HO
      go_enter Tryz.func45, Tryz.ntmps45
      go_wp2_with fail
      clear hM
      refine (HK.out _).mono ?_
      rintro e w1 ⟨⟨ka, kc, rfl⟩, hx1⟩
      have X1 := hid (XM.out.trans hx1)
      obtain ⟨y0, y1, y2, y3, y4, y5⟩ := six_of (hx1.block HM0.out)
      clear hx1 z0 z1 z2 z3 z4 z5
      go_wp2_with fail
      go_ret
      exact ⟨by rw [HW.out]; rfl, X1.out⟩
    by_cases t3 : tx = 3
    · subst t3
      by_cases t4 : mn = 0
      · have HW := hid (show V = 1 by rw [HV.out, if_neg (by decide), if_neg HN2.out, if_pos (.inr (.inr ⟨rfl, t4⟩))])
        subst t4
        clear HV HO
        go_enter Tryz.func45, Tryz.ntmps45
        go_wp2_with fail
        clear hM
        refine (HK.out _).mono ?_
        rintro e w1 ⟨⟨ka, kc, rfl⟩, hx1⟩
        have X1 := hid (XM.out.trans hx1)
        obtain ⟨y0, y1, y2, y3, y4, y5⟩ := six_of (hx1.block HM0.out)
        clear hx1 z0 z1 z2 z3 z4 z5
        go_wp2_with fail
        go_ret
        exact ⟨by rw [HW.out]; rfl, X1.out⟩
      have t5 : (mn == 0) = false := by rw [beq_eq_false_iff_ne]; exact t4
      have HN3 := hid (show ¬ ((3 : Int) < 0 ∨ (4 : Int) < 3 ∨ ((3 : Int) = 3 ∧ mn = 0)) by omega)
      clear t4
      go_enter Tryz.func45, Tryz.ntmps45
      go_wp2_with fail
      clear hM
      refine (HK.out _).mono ?_
      rintro e w1 ⟨⟨ka, kc, rfl⟩, hx1⟩
      have X1 := hid (XM.out.trans hx1)
      obtain ⟨y0, y1, y2, y3, y4, y5⟩ := six_of (hx1.block HM0.out)
      clear hx1 z0 z1 z2 z3 z4 z5
      go_wp2_with fail
      refine (HO.out _ X1.out).mono ?_
      rintro e w2 ⟨rfl, hx2⟩
      have X2 := hid (X1.out.trans hx2)
      clear hx2
      cases ob with
      | true =>
        have HW := hid (show V = 0 by rw [HV.out, if_neg (by decide), if_neg HN2.out, if_neg HN3.out]; rfl)
        clear HV
        go_wp2_with fail
        go_ret
        exact ⟨by rw [HW.out]; rfl, X2.out⟩
      | false =>
        have HW := hid (show V = 1 by rw [HV.out, if_neg (by decide), if_neg HN2.out, if_neg HN3.out]; rfl)
        clear HV
        go_wp2_with fail
        go_ret
        exact ⟨by rw [HW.out]; rfl, X2.out⟩
    have t5 : (tx == 3) = false := by rw [beq_eq_false_iff_ne]; exact t3
    have HN3 := hid (show ¬ (tx < 0 ∨ 4 < tx ∨ (tx = 3 ∧ mn = 0)) by omega)
    clear t3
    go_enter Tryz.func45, Tryz.ntmps45
    go_wp2_with fail
    clear hM
    refine (HK.out _).mono ?_
    rintro e w1 ⟨⟨ka, kc, rfl⟩, hx1⟩
    have X1 := hid (XM.out.trans hx1)
    obtain ⟨y0, y1, y2, y3, y4, y5⟩ := six_of (hx1.block HM0.out)
    clear hx1 z0 z1 z2 z3 z4 z5
    go_wp2_with fail
    refine (HO.out _ X1.out).mono ?_
    rintro e w2 ⟨rfl, hx2⟩
    have X2 := hid (X1.out.trans hx2)
    clear hx2
    cases ob with
    | true =>
      have HW := hid (show V = 0 by rw [HV.out, if_neg (by decide), if_neg HN2.out, if_neg HN3.out]; rfl)
      clear HV
      go_wp2_with fail
      go_ret
      exact ⟨by rw [HW.out]; rfl, X2.out⟩
    | false =>
      have HW := hid (show V = 1 by rw [HV.out, if_neg (by decide), if_neg HN2.out, if_neg HN3.out]; rfl)
      clear HV
      go_wp2_with fail
      go_ret
      exact ⟨by rw [HW.out]; rfl, X2.out⟩

/-- An error that is just a number; none: 0. -/
def ErrR (c : Int) (w : World) (e : Ending) (w' : World) : Prop := ∃ v, e = .returned v ∧ ((c = 0 ∧ v = .nilIface) ∨ ((c == 0) = false ∧ ∃ b, v = .iface 137 (.pointer (some ⟨b, 0, none⟩)) ∧ w'.cell? ⟨b, 0, none⟩ = some (.int .i64 c))) ∧ Ext w w'
theorem fnew_err (c : Int) (w : World) : Calls Tryz.prog 37 #[.int .i64 c] w (ErrR c w) := by
  by_cases hc : c = 0
  · subst hc
    go_enter Tryz.func37, Tryz.ntmps37
    go_wp2_with fail
    go_ret
    exact ⟨_, rfl, .inl ⟨rfl, rfl⟩, Ext.refl _⟩
  · have h : (c == 0) = false := by rw [beq_eq_false_iff_ne]; exact hc
    refine (fnew_j c h w).mono ?_
    rintro e w' ⟨rfl, rfl⟩
    exact ⟨_, rfl, .inr ⟨h, _, rfl, cell_of (blk0 _ _) rfl⟩, Ext.alloc _ _⟩
theorem ErrR.base {c : Int} {w w1 w' : World} {e : Ending} (h : ErrR c w1 e w') (hx : Ext w w1) : ErrR c w e w' := by
  obtain ⟨v, h1, h2, h3⟩ := h
  exact ⟨v, h1, h2, hx.trans h3⟩
set_option maxRecDepth 100000 in
theorem kMay_any (r : Rw) (a : Option Addr) (c : Nat) (w : World) (hk : r.kind.size ≤ 140737488355328) (hl : r.abs.length ≤ 140737488351232) (hr : TRow w a r.abs) : Calls Tryz.prog 15 #[r.val a c] w (ErrR (mayR r) w) := by
  have HM := hid (fun w1 (hx : Ext w w1) => rmay_row r a c w1 hk hl (hr.later hx))
  clear hk hl hr
  generalize mayR r = V at *
  unfold Rw.val at *
  obtain ⟨k, mn, mx, nm, tx, abs⟩ := r
  dsimp only at *
  generalize abs.length = l at *
  obtain ⟨z0, z1, z2, z3, z4, z5⟩ := six_of (blk0 w (.cells #[.string k, .int .i64 mn, .int .i64 mx, .bool nm, .int .i64 tx, .slice a l c] 37))
  go_enter Tryz.func15, Tryz.ntmps15
  go_wp2_with fail
  refine (HM.out _ (Ext.alloc _ _)).mono ?_
  rintro e w1 ⟨rfl, hx1⟩
  have X1 := hid ((Ext.alloc w _).trans hx1)
  clear hx1
  go_wp2_with fail
  refine (fnew_err V _).mono ?_
  rintro e w2 ⟨v, rfl, hv, hx2⟩
  have HV := hid hv
  have X2 := hid (X1.out.trans hx2)
  clear hv hx2
  go_wp2_with fail
  go_ret
  exact ⟨v, rfl, HV.out, X2.out⟩
/-- What kit.Fits tells of. -/
noncomputable def fitsV (r : Rw) (k : ByteArray) (n : Int) (x : ByteArray) (nk : Int) : Int := if mayR r = 0 then fitsR r k n x nk else mayR r
set_option maxRecDepth 100000 in
set_option maxHeartbeats 1000000 in
theorem kFits_any (r : Rw) (a : Option Addr) (c : Nat) (k x : ByteArray) (n : Int) (ka : Option Addr) (kl kc : Nat) (w : World) (hk : r.kind.size ≤ 140737488355328) (hl : r.abs.length ≤ 140737488351232) (hx : x.size ≤ 140737488355328) (hkl : kl ≤ 140737488355328) (hr : TRow w a r.abs) : Calls Tryz.prog 17 #[r.val a c, .agg #[.string k, .int .i64 n, .string x, .slice ka kl kc]] w (ErrR (fitsV r k n x kl) w) := by
  have HM := hid (fun w1 (hx : Ext w w1) => rmay_row r a c w1 hk hl (hr.later hx))
  have HF := hid (fun w1 => rfits_any r a c k x n ka kl kc kl w1 hx hkl)
  have HV := hid (show fitsV r k n x kl = if mayR r = 0 then fitsR r k n x kl else mayR r from rfl)
  have hkl' : (kl : Int) ≤ 140737488355328 := by omega
  clear hk hl hr hx hkl
  generalize fitsV r k n x kl = V at *
  generalize fitsR r k n x kl = VF at *
  generalize mayR r = VM at *
  unfold Rw.val at *
  obtain ⟨rk, mn, mx, nm, tx, abs⟩ := r
  dsimp only at *
  generalize abs.length = l at *
  obtain ⟨M, hM⟩ : ∃ M, (w.alloc (.cells #[.string rk, .int .i64 mn, .int .i64 mx, .bool nm, .int .i64 tx, .slice a l c] 37)).alloc (.cells #[.string k, .int .i64 n, .string x, .slice ka kl kc] 24) = M := ⟨_, rfl⟩
  have XM := hid (show Ext w M from hM ▸ Ext.alloc2 _ _ _)
  have HM0 := hid (show M.heap[w.heap.size]? = some (.cells #[.string rk, .int .i64 mn, .int .i64 mx, .bool nm, .int .i64 tx, .slice a l c] 37) from hM ▸ blkOld _ (blk0 _ _))
  have HM1 := hid (show M.heap[w.heap.size + 1]? = some (.cells #[.string k, .int .i64 n, .string x, .slice ka kl kc] 24) from hM ▸ blk1 _ _ _)
  obtain ⟨z0, z1, z2, z3, z4, z5⟩ := six_of HM0.out
  go_enter Tryz.func17, Tryz.ntmps17
  go_wp2_with fail
  clear hM
  refine (HM.out _ XM.out).mono ?_
  rintro e w1 ⟨rfl, hx1⟩
  have X1 := hid (XM.out.trans hx1)
  obtain ⟨y0, y1, y2, y3, y4, y5⟩ := six_of (hx1.block HM0.out)
  obtain ⟨t0, t1, t2, t3⟩ := four_of (hx1.block HM1.out)
  clear hx1 z0 z1 z2 z3 z4 z5
  by_cases h0 : VM = 0
  · subst h0
    have HW := hid (HV.out.trans (if_pos rfl))
    go_wp2_with fail
    refine (HF.out _).mono ?_
    rintro e w2 ⟨rfl, hx2⟩
    have X2 := hid (X1.out.trans hx2)
    clear hx2
    go_wp2_with fail
    refine (fnew_err VF _).mono ?_
    rintro e w3 ⟨v, rfl, hv, hx3⟩
    have HVV := hid hv
    have X3 := hid (X2.out.trans hx3)
    clear hv hx3
    go_wp2_with fail
    go_ret
    rw [HW.out]
    exact ⟨v, rfl, HVV.out, X3.out⟩
  · have HW := hid (HV.out.trans (if_neg h0))
    have h1 : (VM == 0) = false := by rw [beq_eq_false_iff_ne]; exact h0
    have h2 : (VM != 0) = true := by unfold bne; rw [h1]; rfl
    clear h0
    go_wp2_with fail
    refine (fnew_err VM _).mono ?_
    rintro e w3 ⟨v, rfl, hv, hx3⟩
    have HVV := hid hv
    have X3 := hid (X1.out.trans hx3)
    clear hv hx3
    go_wp2_with fail
    go_ret
    rw [HW.out]
    exact ⟨v, rfl, HVV.out, X3.out⟩
end Go.Proofs.YtaodkfchmaendaaGreatDoor.Nd
