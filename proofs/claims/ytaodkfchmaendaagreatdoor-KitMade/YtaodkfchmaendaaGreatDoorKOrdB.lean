/-
  kit.ordered by a contract, of a list as great as may be.
-/
import Derived.Test.YtaodkfchmaendaaGreatDoorKOrd
namespace Go.Proofs.YtaodkfchmaendaaGreatDoor
open Go.RowKit
set_option maxRecDepth 100000 in
set_option maxHeartbeats 2000000 in
theorem ordered_big (a : Option Addr) (c : Nat) (xs : List ByteArray) (w : World) (hn : xs.length ≤ 140737488351232) (hr : TRow w a xs) : Calls Tryz.prog 72 #[.slice a xs.length c] w fun e w' => e = .returned (.bool (ordQ 0 false xs)) ∧ Ext w w' := by
  obtain ⟨n, hne⟩ : ∃ n, xs.length = n := ⟨_, rfl⟩
  have HNE := hid hne
  have HR := hid hr
  rw [hne] at hn ⊢
  clear hr hne
  go_enter Tryz.func72, Tryz.ntmps72
  go_wp2_with fail
  refine (abilQ_any w).mono ?_
  rintro e w1 ⟨rfl, hw1⟩
  have HB := hid (show w1.heap[w.heap.size]? = some (.cells abQ 148) from hw1 ▸ blk0 _ _)
  have X1 := hid (show Ext w w1 from hw1 ▸ Ext.alloc _ _)
  clear hw1
  generalize w.heap.size = g at HB ⊢
  go_wp2_with fail
  go_loopw [3, 4, 11] (fun q3 q4 q11 wr => ∃ (j l : Nat) (pure : Bool), j ≤ n ∧ q11 = .int .i64 j ∧ q3 = .slice (some ⟨g, l * 3, none⟩) (14 - l) (14 - l) ∧ q4 = .bool pure ∧ l ≤ 11 ∧ ordQ 0 false xs = ordQ l pure (xs.drop j) ∧ Ext w1 wr) (fun _ _ q11 _ => n - (intOf q11).toNat)
  case atStart => exact ⟨0, 0, false, Nat.zero_le _, rfl, rfl, rfl, Nat.zero_le _, rfl, Ext.refl _⟩
  case round =>
    obtain ⟨j, l, pure, hj, rfl, rfl, rfl, hl, hrec, hx⟩ := hrel
    have HX := hid hx
    have HRC := hid hrec
    clear hx hrec
    by_cases hlt : j < n
    · have hlt' : (j : Int) < n := by omega
      have hjx : j < xs.length := by rw [HNE.out]; exact hlt
      rcases HR.out with e0 | ⟨gs, off, rfl, hcells⟩
      · rw [e0] at hjx; exact absurd hjx (Nat.not_lt_zero _)
      have hc0 := hcells j hjx
      have hc1 : wr.cell? ⟨gs, off + j, none⟩ = some (.string xs[j]) := (Below.cell (X1.out.trans HX.out) (lt_of_cell hc0)).trans hc0
      have HRC2 := hid (HRC.out.trans (by rw [List.drop_eq_getElem_cons hjx]))
      generalize xs[j] = x at *
      clear hcells hc0 hjx
      have HIX := hid (fun w2 h1 h2 => index_any g l (14 - l) wr.heap.size x w2 (by omega) h1 h2)
      obtain ⟨i, hi⟩ : ∃ i, nextQ x (14 - l) l = i := ⟨_, rfl⟩
      have HLT := hid (fun h => nextQ_lt (name := x) (f := 14 - l) (l := l) h)
      have HO := hid (show ordQ 0 false xs = if i < 14 then (if (decide (x = totalB) && !pure) = true then false else ordQ (i + 1) (pure || decide (x = pureB)) (xs.drop (j + 1))) else false by rw [HRC2.out, ordQ_cons, hi])
      rw [hi] at HIX HLT
      clear hi HRC HRC2
      go_wp2_with fail
      refine (HIX.out _ ((HX.out.trans (Ext.alloc _ _)).block HB.out) (cell_of (blk0 _ _) rfl)).mono ?_
      rintro e w2 ⟨rfl, hx2⟩
      have HX2 := hid (HX.out.trans ((Ext.alloc _ _).trans hx2))
      have hnc : w2.cell? ⟨wr.heap.size, 0, none⟩ = some (.string x) := cell_of (hx2.block (blk0 _ _)) rfl
      clear hx2
      by_cases hi14 : i < 14
      · obtain ⟨hi11, hli⟩ := HLT.out hi14
        obtain ⟨k, rfl⟩ : ∃ k, i = l + k := ⟨i - l, by omega⟩
        have HIV := hid (show ixQ (l + k) l = (k : Int) by rw [ixQ_in hi14]; omega)
        have hk11 : (k : Int) ≤ 11 := by omega
        have hqt : (x.toList == [84, 111, 116, 97, 108]) = decide (x = totalB) := by rw [← str_eqb x totalB, show totalB.toList = [84, 111, 116, 97, 108] by rw [ByteArray.toList_eq]; rfl]
        have hqp : (x.toList == [80, 117, 114, 101]) = decide (x = pureB) := by rw [← str_eqb x pureB, show pureB.toList = [80, 117, 114, 101] by rw [ByteArray.toList_eq]; rfl]
        rw [HIV.out]
        rw [if_pos hi14] at HO
        cases pure with
        | true =>
          have HO2 := hid (show ordQ 0 false xs = ordQ (l + k + 1) true (xs.drop (j + 1)) by rw [HO.out]; simp)
          obtain ⟨bt, hbt⟩ : ∃ b, decide (x = totalB) = b := ⟨_, rfl⟩
          rw [hbt] at hqt
          clear hbt
          cases bt
          · go_wp2_with fail
            all_goals exact ⟨⟨j + 1, l + k + 1, true, by omega, by go_num, by rw [show (l + k + 1) * 3 = l * 3 + (k + 1) * 3 by omega, show 14 - (l + k + 1) = 14 - l - (k + 1) by omega], rfl, by omega, HO2.out, HX2.out⟩, by simp [intOf]; omega⟩
          · go_wp2_with fail
            all_goals exact ⟨⟨j + 1, l + k + 1, true, by omega, by go_num, by rw [show (l + k + 1) * 3 = l * 3 + (k + 1) * 3 by omega, show 14 - (l + k + 1) = 14 - l - (k + 1) by omega], rfl, by omega, HO2.out, HX2.out⟩, by simp [intOf]; omega⟩
        | false =>
          by_cases hxt : x = totalB
          · have HO2 := hid (show ordQ 0 false xs = false by rw [HO.out, decide_eq_true hxt]; rfl)
            rw [decide_eq_true hxt] at hqt
            clear hxt
            go_wp2_with fail
            go_ret
            exact ⟨ret_bool (by rw [HO2.out]), X1.out.trans HX2.out⟩
          · rw [decide_eq_false hxt] at hqt
            by_cases hxp : x = pureB
            · have HO2 := hid (show ordQ 0 false xs = ordQ (l + k + 1) true (xs.drop (j + 1)) by rw [HO.out, decide_eq_false hxt, decide_eq_true hxp]; rfl)
              rw [decide_eq_true hxp] at hqp
              clear hxt hxp
              go_wp2_with fail
              all_goals exact ⟨⟨j + 1, l + k + 1, true, by omega, by go_num, by rw [show (l + k + 1) * 3 = l * 3 + (k + 1) * 3 by omega, show 14 - (l + k + 1) = 14 - l - (k + 1) by omega], rfl, by omega, HO2.out, HX2.out⟩, by simp [intOf]; omega⟩
            · have HO2 := hid (show ordQ 0 false xs = ordQ (l + k + 1) false (xs.drop (j + 1)) by rw [HO.out, decide_eq_false hxt, decide_eq_false hxp]; rfl)
              rw [decide_eq_false hxp] at hqp
              clear hxt hxp
              go_wp2_with fail
              all_goals exact ⟨⟨j + 1, l + k + 1, false, by omega, by go_num, by rw [show (l + k + 1) * 3 = l * 3 + (k + 1) * 3 by omega, show 14 - (l + k + 1) = 14 - l - (k + 1) by omega], rfl, by omega, HO2.out, HX2.out⟩, by simp [intOf]; omega⟩
      · have HIV := hid (ixQ_out (l := l) hi14)
        rw [HIV.out]
        rw [if_neg hi14] at HO
        go_wp2_with fail
        go_ret
        exact ⟨ret_bool (by rw [HO.out]), X1.out.trans HX2.out⟩
    · have hje : j = n := by omega
      have hlt2 : decide ((j : Int) < n) = false := decide_eq_false (by omega)
      have hlt3 : ¬ (j : Int) < n := by omega
      have HV := hid (show ordQ 0 false xs = true by rw [HRC.out, List.drop_of_length_le (by have := HNE.out; omega)]; rfl)
      clear hje
      go_wp2_with fail
      go_ret
      exact ⟨ret_bool (by rw [HV.out]), X1.out.trans HX.out⟩
end Go.Proofs.YtaodkfchmaendaaGreatDoor
