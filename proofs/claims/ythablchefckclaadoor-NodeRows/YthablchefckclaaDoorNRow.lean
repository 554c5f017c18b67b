/-
  espalierlaw6.NodeRows: the rows are the reference's, twice, whatever is done to the first; by a contract.
-/
import Derived.Test.YthablchefckclaaDoorNRowR
import Derived.Test.YthablchefckclaaDoorNRowE
import Derived.Deep.LoopGhost
namespace Go.Proofs.YthablchefckclaaDoor
open Go.RowKit
theorem RowsAt.keep {K : Nat → Prop} {w w' : World} {b lo : Nat} {gs : Nat → Nat} (h : RowsAt w b lo gs) (hk : Kp K w w') (hb : K b) (hg : ∀ i, lo ≤ i → i < 7 → K (gs i)) : RowsAt w' b lo gs := by
  obtain ⟨cur, h1, h2, h3, h4⟩ := h
  exact ⟨cur, hk.block' h1 hb, h2, h3, fun i hl hi => hk.block' (h4 i hl hi) (hg i hl hi)⟩
theorem RowsAt.later {w w' : World} {b lo : Nat} {gs : Nat → Nat} (h : RowsAt w b lo gs) (hx : Ext w w') : RowsAt w' b lo gs := h.keep (hx.kp (fun _ => True)) trivial (fun _ _ _ => trivial)
theorem RowsAt.less {w : World} {b lo lo' : Nat} {gs : Nat → Nat} (h : RowsAt w b lo gs) (hl : lo ≤ lo') : RowsAt w b lo' gs := by
  obtain ⟨cur, h1, h2, h3, h4⟩ := h
  exact ⟨cur, h1, h2, fun i hi => h3 i (Nat.le_trans hl hi), fun i hi => h4 i (Nat.le_trans hl hi)⟩
theorem RowsAt.ne {w : World} {b lo g : Nat} {gs : Nat → Nat} {c : Array Value} (h : RowsAt w b lo gs) (hg : w.heap[g]? = some (.cells c 9)) : b ≠ g := by
  obtain ⟨cur, h1, _⟩ := h
  rintro rfl
  rw [hg] at h1
  cases h1
theorem RowsAt.lt {w : World} {b lo : Nat} {gs : Nat → Nat} (h : RowsAt w b lo gs) : b < w.heap.size := by
  obtain ⟨cur, h1, _⟩ := h
  exact lt_of_block h1
/-- A row's cells. -/
theorem RowsAt.cells {w : World} {b lo : Nat} {gs : Nat → Nat} (h : RowsAt w b lo gs) (j : Nat) (hl : lo ≤ j) (hj : j < 7) : w.cell? ⟨b, j * 6, none⟩ = some (.string (nmK j)) ∧ w.cell? ⟨b, j * 6 + 1, none⟩ = some (.int .i64 (minK j)) ∧ w.cell? ⟨b, j * 6 + 2, none⟩ = some (.int .i64 (maxK j)) ∧ w.cell? ⟨b, j * 6 + 3, none⟩ = some (.bool (numK j)) ∧ w.cell? ⟨b, j * 6 + 4, none⟩ = some (.int .i64 (textK j)) ∧ w.cell? ⟨b, j * 6 + 5, none⟩ = some (.slice (some ⟨gs j, 0, none⟩) (lenK j) (lenK j)) := by
  obtain ⟨cur, h1, _, h3, _⟩ := h
  exact ⟨cell_of h1 (h3 j hl hj 0 (by omega)), cell_of h1 (h3 j hl hj 1 (by omega)), cell_of h1 (h3 j hl hj 2 (by omega)), cell_of h1 (h3 j hl hj 3 (by omega)), cell_of h1 (h3 j hl hj 4 (by omega)), cell_of h1 (h3 j hl hj 5 (by omega))⟩
theorem RowsAt.frozen {w : World} {b lo k : Nat} {gs : Nat → Nat} (h : RowsAt w b lo gs) : w.frozen? ⟨b, k, none⟩ = false := by
  obtain ⟨cur, h1, _⟩ := h
  exact frozen_of h1
/-- One row is overwritten: those behind it stand. -/
theorem RowsAt.wipe {w : World} {b j : Nat} {gs : Nat → Nat} (h : RowsAt w b (j + 1) gs) (v0 v1 v2 v3 v4 v5 : Value) : RowsAt ((((((w.setCell ⟨b, j * 6, none⟩ v0).setCell ⟨b, j * 6 + 1, none⟩ v1).setCell ⟨b, j * 6 + 2, none⟩ v2).setCell ⟨b, j * 6 + 3, none⟩ v3).setCell ⟨b, j * 6 + 4, none⟩ v4).setCell ⟨b, j * 6 + 5, none⟩ v5) b (j + 1) gs := by
  have h' := h
  obtain ⟨cur, h1, h2, h3, h4⟩ := h
  refine ⟨_, set_at (set_at (set_at (set_at (set_at (set_at h1 _ v0) _ v1) _ v2) _ v3) _ v4) _ v5, by simpa using h2, ?_, ?_⟩
  · intro i hi hi' k hk
    rw [Array.getElem?_setIfInBounds_ne (by omega), Array.getElem?_setIfInBounds_ne (by omega), Array.getElem?_setIfInBounds_ne (by omega), Array.getElem?_setIfInBounds_ne (by omega), Array.getElem?_setIfInBounds_ne (by omega), Array.getElem?_setIfInBounds_ne (by omega)]
    exact h3 i hi hi' k hk
  · intro i hi hi'
    exact (Kp.set6 w b (j * 6) v0 v1 v2 v3 v4 v5).block' (h4 i hi hi') (fun e => h'.ne (h4 i hi hi') e.symm)
theorem kp_cell {K : Nat → Prop} {w w' : World} {b k : Nat} {v : Value} (hk : Kp K w w') (hb : K b) (hl : b < w.heap.size) (h : w.cell? ⟨b, k, none⟩ = some v) : w'.cell? ⟨b, k, none⟩ = some v := by
  unfold World.cell? at h ⊢
  rw [hk.block b hl hb]
  exact h
/-- As far as the comparison has come. -/
def Inn (w : World) (b c : Nat) (gs hs : Nat → Nat) (j : Nat) (wi : World) : Prop := RowsAt wi b j gs ∧ RowsAt wi c 0 hs ∧ Ext w wi
theorem len_le : ∀ j, j < 7 → lenK j ≤ 4
  | 0, _ => Nat.le_refl 4
  | 1, _ => Nat.le_refl 4
  | 2, _ => Nat.le_refl 4
  | 3, _ => Nat.le_refl 4
  | 4, _ => Nat.le_refl 4
  | 5, _ => (by decide : 2 ≤ 4)
  | 6, _ => (by decide : 3 ≤ 4)
  | n + 7, h => absurd h (by omega)
set_option maxRecDepth 100000 in
set_option maxHeartbeats 2000000 in
theorem rows_true (w : World) (hL : Laid w) : Calls Tryd.prog 3 #[] w fun e w' => e = .returned (.bool true) ∧ Ext w w' := by
  have HL := hid hL
  clear hL
  go_enter Tryd.func3, Tryd.ntmps3
  go_wp2_with fail
  go_loopg [1] 2 (fun g q1 wo => ∃ t : Nat, t + g = 2 ∧ q1 = .int .i64 t ∧ Ext w wo)
  case atStart => exact ⟨0, rfl, rfl, Ext.refl _⟩
  case round =>
    obtain ⟨t, ht, rfl, hx⟩ := hrel
    obtain ⟨wo, hwo⟩ : ∃ V, V = wr := ⟨wr, rfl⟩
    subst hwo
    have XO := hid hx
    clear hx
    by_cases hlt : t < 2
    · have hlt' : (t : Int) < 2 := by omega
      go_wp2_with fail
      go_at_call 4
      refine (rows_any wo (HL.out.later XO.out)).mono ?_
      rintro e w1 ⟨b, cap, gs, rfl, hR, hb, hgs, hinj, hx⟩
      have HR1 := hid hR
      have HB := hid (show w.heap.size ≤ b from Nat.le_trans XO.out.size hb)
      have HGS := hid (show ∀ i, i < 7 → w.heap.size ≤ gs i ∧ gs i < w1.heap.size from fun i hi => ⟨Nat.le_trans XO.out.size (hgs i hi), by obtain ⟨_, _, _, _, h⟩ := hR; exact lt_of_block (h i (Nat.zero_le _) hi)⟩)
      have HBL := hid hR.lt
      have HIN := hid hinj
      have X1 := hid (XO.out.trans hx)
      clear hR hb hgs hinj hx
      go_wp2_with fail
      go_at_call 5
      refine (ref_rows w1).mono ?_
      rintro e w2 ⟨c, hs, rfl, hC, hc, hhs, hx⟩
      have HC2 := hid hC
      have HR2 := hid (HR1.out.later hx)
      have HC := hid hc
      have HHS := hid hhs
      have X2 := hid (X1.out.trans hx)
      clear hC hc hhs hx
      go_wp2_with fail
      go_at_call 6
      refine (begun_any w2).mono ?_
      rintro e w3 ⟨rfl, hx⟩
      have HI3 := hid (show Inn w b c gs hs 0 w3 from ⟨HR2.out.later hx, HC2.out.later hx, X2.out.trans hx⟩)
      clear hx
      go_wp2_with fail
      go_loopg [4] 7 (fun g q4 wi => ∃ j : Nat, j + g = 7 ∧ q4 = .int .i64 j ∧ Inn w b c gs hs j wi)
      case atStart => exact ⟨0, rfl, rfl, HI3.out⟩
      case round =>
        obtain ⟨j, hj, rfl, hI⟩ := hrel
        obtain ⟨wi, hwi⟩ : ∃ V, V = wr := ⟨wr, rfl⟩
        subst hwi
        obtain ⟨hA, hB, hx⟩ := hI
        have HA := hid hA
        have HBB := hid hB
        have XI := hid hx
        clear hA hB hx
        by_cases hlj : j < 7
        · have hlj' : (j : Int) < 7 := by omega
          have HAG := hid (show AbAt wi (gs j) j from by obtain ⟨_, _, _, _, h⟩ := HA.out; exact h j (Nat.le_refl _) hlj)
          have HAH := hid (show AbAt wi (hs j) j from by obtain ⟨_, _, _, _, h⟩ := HBB.out; exact h j (Nat.zero_le _) hlj)
          have HSK := hid (show ∀ W', Ext wi W' → _ from fun W' X => And.intro ((HA.out.later X).cells j (Nat.le_refl _) hlj) ((HBB.out.later X).cells j (Nat.zero_le _) hlj))
          have HSTR := hid (abs_str j hlj)
          have hll := len_le j hlj
          generalize nmK j = nj at *
          generalize minK j = mj at *
          generalize maxK j = xj at *
          generalize numK j = bj at *
          generalize textK j = tj at *
          generalize lenK j = lj at *
          generalize hp : gs j = p at *
          generalize hq : hs j = q at *
          have HP := hid hp
          have HQ := hid hq
          clear hp hq
          have HSK := hid (show ∀ W', Ext wi W' → (W'.cell? ⟨b, j * 6, none⟩ = some (.string nj) ∧ W'.cell? ⟨b, j * 6 + 1, none⟩ = some (.int .i64 mj) ∧ W'.cell? ⟨b, j * 6 + 2, none⟩ = some (.int .i64 xj) ∧ W'.cell? ⟨b, j * 6 + 3, none⟩ = some (.bool bj) ∧ W'.cell? ⟨b, j * 6 + 4, none⟩ = some (.int .i64 tj) ∧ W'.cell? ⟨b, j * 6 + 5, none⟩ = some (.slice (some ⟨p, 0, none⟩) lj lj) ∧ W'.cell? ⟨c, j * 6, none⟩ = some (.string nj) ∧ W'.cell? ⟨c, j * 6 + 1, none⟩ = some (.int .i64 mj) ∧ W'.cell? ⟨c, j * 6 + 2, none⟩ = some (.int .i64 xj) ∧ W'.cell? ⟨c, j * 6 + 3, none⟩ = some (.bool bj) ∧ W'.cell? ⟨c, j * 6 + 4, none⟩ = some (.int .i64 tj) ∧ W'.cell? ⟨c, j * 6 + 5, none⟩ = some (.slice (some ⟨q, 0, none⟩) lj lj)) from fun W' X => by
            obtain ⟨⟨c0, c1, c2, c3, c4, c5⟩, d0, d1, d2, d3, d4, d5⟩ := HSK.out W' X
            exact ⟨c0, c1, c2, c3, c4, c5, d0, d1, d2, d3, d4, d5⟩)
          go_upto_region 11 with fail
          go_cut [5, 6] from 23 to 92 (fun s5 s6 wx => ∃ x y, s5 = .pointer (some ⟨x, 0, none⟩) ∧ s6 = .pointer (some ⟨y, 0, none⟩) ∧ wx.heap[x]? = some (.cells #[.string nj, .int .i64 mj, .int .i64 xj, .bool bj, .int .i64 tj, .slice (some ⟨p, 0, none⟩) lj lj] 27) ∧ wx.heap[y]? = some (.cells #[.string nj, .int .i64 mj, .int .i64 xj, .bool bj, .int .i64 tj, .slice (some ⟨q, 0, none⟩) lj lj] 27) ∧ wi.heap.size ≤ x ∧ Ext wi wx)
          case first =>
            go_region_held3 (fun W' => W'.cell? ⟨b, j * 6, none⟩ = some (.string nj) ∧ W'.cell? ⟨b, j * 6 + 1, none⟩ = some (.int .i64 mj) ∧ W'.cell? ⟨b, j * 6 + 2, none⟩ = some (.int .i64 xj) ∧ W'.cell? ⟨b, j * 6 + 3, none⟩ = some (.bool bj) ∧ W'.cell? ⟨b, j * 6 + 4, none⟩ = some (.int .i64 tj) ∧ W'.cell? ⟨b, j * 6 + 5, none⟩ = some (.slice (some ⟨p, 0, none⟩) lj lj) ∧ W'.cell? ⟨c, j * 6, none⟩ = some (.string nj) ∧ W'.cell? ⟨c, j * 6 + 1, none⟩ = some (.int .i64 mj) ∧ W'.cell? ⟨c, j * 6 + 2, none⟩ = some (.int .i64 xj) ∧ W'.cell? ⟨c, j * 6 + 3, none⟩ = some (.bool bj) ∧ W'.cell? ⟨c, j * 6 + 4, none⟩ = some (.int .i64 tj) ∧ W'.cell? ⟨c, j * 6 + 5, none⟩ = some (.slice (some ⟨q, 0, none⟩) lj lj))
              (first | with_reducible exact HSK.out _ (Ext.alloc2 _ _ _).drew | with_reducible exact HSK.out _ (Ext.alloc _ _).drew | with_reducible exact HSK.out _ (Ext.refl _).drew)
              (fail)
            all_goals
              go_wp2_with fail
              go_meet
              case rel => first | exact ⟨wi.heap.size, wi.heap.size + 1, rfl, rfl, blkOld _ (blk0 _ _), blk1 _ _ _, Nat.le_refl _, (Ext.alloc2 _ _ _).drew⟩ | exact ⟨wi.heap.size + 1, wi.heap.size, rfl, rfl, blk1 _ _ _, blkOld _ (blk0 _ _), Nat.le_succ _, (Ext.alloc2 _ _ _).drew⟩
          case rest =>
            obtain ⟨x, y, rfl, rfl, hxc, hyc, hxs, hxx⟩ := hcut
            obtain ⟨U, hU⟩ : ∃ V, V = wc := ⟨wc, rfl⟩
            subst hU
            obtain ⟨x0, x1, x2, x3, x4, x5⟩ := six_of hxc
            obtain ⟨y0, y1, y2, y3, y4, y5⟩ := six_of hyc
            have HXC := hid hxc
            have HXS := hid hxs
            have XU := hid hxx
            have HEQ := hid (fun (W' : World) (X : Ext U W') => eqNames_same p q lj (absK j) (by omega) HSTR.out.2 W' ((hxx.trans X).block HAG.out) ((hxx.trans X).block HAH.out))
            have heq := str_eqb nj nj
            rw [decide_eq_true rfl] at heq
            clear hxc hyc hxs hxx
            go_wp2_with fail
            go_at_call 7
            refine (HEQ.out _ (Ext.refl _)).mono ?_
            rintro e u2 ⟨rfl, hy⟩
            have XY := hid (XU.out.trans hy)
            have HX2 := hid (hy.block HXC.out)
            have HPP := hid (show u2.heap[p]? = some (.cells (absK j) 9) from XY.out.block HAG.out)
            clear hy x0 x1 x2 x3 x4 x5 y0 y1 y2 y3 y4 y5 heq
            go_wp2_with fail
            go_loopg [7] lj (fun g q7 ws => ∃ k : Nat, k + g = lj ∧ q7 = .int .i64 k ∧ Kp (· ≠ p) u2 ws ∧ ∃ cur, ws.heap[p]? = some (.cells cur 9) ∧ cur.size = lj)
            case atStart => exact ⟨0, by omega, rfl, Kp.refl _ _, _, HPP.out, HSTR.out.1⟩
            case round =>
              obtain ⟨k, hk, rfl, hkp, cur, hcur, hcs⟩ := hrel
              obtain ⟨ws, hws⟩ : ∃ V, V = wr := ⟨wr, rfl⟩
              subst hws
              have HKP := hid hkp
              have HCU := hid hcur
              have hpl : p < wi.heap.size := lt_of_block HAG.out
              have HXB := hid (hkp.block' HX2.out (show x ≠ p by have := HXS.out; omega))
              have z5 : ws.cell? ⟨x, 5, none⟩ = some (.slice (some ⟨p, 0, none⟩) lj lj) := cell_of HXB.out rfl
              clear hkp
              by_cases hkl : k < lj
              · have hkl' : (k : Int) < lj := by omega
                have s0 : ws.cell? ⟨p, k, none⟩ = some (cur[k]'(by omega)) := cell_of hcur (Array.getElem?_eq_getElem _)
                have s1 : ws.frozen? ⟨p, k, none⟩ = false := frozen_of hcur
                clear hcur
                go_wp2_with fail
                go_roundg (lj - (k + 1))
                case measure => omega
                case rel => exact ⟨k + 1, by omega, by go_num, HKP.out.trans (Kp.set _ _ _ _ (fun h => h rfl)), _, set_at HCU.out _ _, by simpa using hcs⟩
              · have hke : k = lj := by omega
                subst hke
                have HBP := hid (show b ≠ p from HA.out.ne HAG.out)
                have HRW := hid (show RowsAt ws b (j + 1) gs from ((HA.out.later XY.out).less (Nat.le_succ j)).keep HKP.out HBP.out (fun i hl hi => by have := HIN.out j i hl hi; rw [HP.out] at this; exact fun e => this e.symm))
                have HCW := hid (show RowsAt ws c 0 hs from (HBB.out.later XY.out).keep HKP.out (HBB.out.ne HAG.out) (fun i _ hi => by have := HHS.out i hi; have := (HGS.out j hlj).2; rw [HP.out] at this; omega))
                have hbu : b < u2.heap.size := (HA.out.later XY.out).lt
                obtain ⟨b0, b1, b2, b3, b4, b5⟩ := (HA.out.later XY.out).cells j (Nat.le_refl _) hlj
                replace b0 := kp_cell HKP.out HBP.out hbu b0
                replace b1 := kp_cell HKP.out HBP.out hbu b1
                replace b2 := kp_cell HKP.out HBP.out hbu b2
                replace b3 := kp_cell HKP.out HBP.out hbu b3
                replace b4 := kp_cell HKP.out HBP.out hbu b4
                replace b5 := kp_cell HKP.out HBP.out hbu b5
                obtain ⟨f0, f1, f2, f3, f4, f5⟩ : ws.frozen? ⟨b, j * 6, none⟩ = false ∧ ws.frozen? ⟨b, j * 6 + 1, none⟩ = false ∧ ws.frozen? ⟨b, j * 6 + 2, none⟩ = false ∧ ws.frozen? ⟨b, j * 6 + 3, none⟩ = false ∧ ws.frozen? ⟨b, j * 6 + 4, none⟩ = false ∧ ws.frozen? ⟨b, j * 6 + 5, none⟩ = false := ⟨HRW.out.frozen, HRW.out.frozen, HRW.out.frozen, HRW.out.frozen, HRW.out.frozen, HRW.out.frozen⟩
                have hbw : b < ws.heap.size := HRW.out.lt
                clear hcur hbu hpl
                go_wp2_with fail
                go_roundg (7 - (j + 1))
                case measure => omega
                case rel =>
                  have hcb : c ≠ b := by have := HC.out; have := HBL.out; omega
                  have hpw : w.heap.size ≤ p := by have := (HGS.out j hlj).1; rw [HP.out] at this; exact this
                  refine ⟨j + 1, by omega, by go_num, HRW.out.wipe _ _ _ _ _ _, HCW.out.keep (Kp.set6 ws b (j * 6) _ _ _ _ _ _) hcb (fun i hl hi e => ?_), Kp.extOf (Kp.extOf (XI.out.trans XY.out) HKP.out hpw) (Kp.set6 ws b (j * 6) _ _ _ _ _ _) HB.out⟩
                  obtain ⟨_, _, _, _, h4⟩ := HCW.out
                  exact HRW.out.ne (h4 i hl hi) e.symm
        · have hje : j = 7 := by omega
          subst hje
          go_wp2_with fail
          go_roundg (2 - (t + 1))
          case measure => omega
          case rel => exact ⟨t + 1, by omega, by go_num, XI.out⟩
    · have hte : t = 2 := by omega
      subst hte
      go_wp2_with fail
      go_ret
      exact ⟨rfl, XO.out⟩
end Go.Proofs.YthablchefckclaaDoor
