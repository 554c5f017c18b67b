/-
  espalierlaw8.Rows of a kit and the rows that it bears; NumRows tells true.
-/
import Derived.Test.YtnokajfhjmahpaaGreatDoorNRRef
import Derived.Test.YtnokajfhjmahpaaGreatDoorNBeg8
import Derived.Deep.RegionHeld3
namespace Go.Proofs.YtnokajfhjmahpaaGreatDoor
open Go.RowKit
set_option maxRecDepth 100000 in
set_option maxHeartbeats 4000000 in
theorem lawRows_any {base base2 kb mb : Nat} {nm : ByteArray} {mk lv : Value} {acc : List Rw} (ao : Option Addr) (cw : Nat) (w : World) (h : KitM w base kb mb nm mk lv acc) (hlim : acc.length ≤ 1000) (hab : ∀ r ∈ acc, r.abs.length ≤ 100) (hks : ∀ r ∈ acc, r.kind.size ≤ 4000)
    (hix : ∀ j, (hj : j < acc.length) → kIx acc acc[j].kind = some j) (hw : RItems w base2 (.slice ao acc.length cw) acc) : Calls Tryz.prog 9 #[.pointer (some ⟨kb, 0, none⟩), .string nm, .slice ao acc.length cw] w fun e w' => e = .returned (.bool true) ∧ Ext w w' := by
  have HK := hid h
  have HW := hid hw
  have HAB := hid hab
  have HKS := hid hks
  have HIX := hid hix
  have HNM := hid (name_any h)
  have HRS := hid (rows_any w h hlim hab)
  have hse := str_eqb nm nm
  rw [decide_eq_true rfl] at hse
  obtain ⟨n, hne⟩ : ∃ n, acc.length = n := ⟨_, rfl⟩
  have HNE := hid hne
  have hlim' : (n : Int) ≤ 1000 := by omega
  rw [hne] at HW ⊢
  clear h hw hab hks hix hlim hne
  go_enter Tryz.func9, Tryz.ntmps9
  go_wp2_with fail
  refine HNM.out.mono ?_
  rintro e w0 ⟨rfl, rfl⟩
  go_wp2_with fail
  refine HRS.out.mono ?_
  rintro e w1 ⟨a1, c1, rfl, hit1, hx1⟩
  have X1 := hid hx1
  have HIT := hid hit1
  rw [HNE.out] at HIT ⊢
  clear hit1 hx1
  go_wp2_with fail
  go_loopw [8] (fun q8 wr => ∃ j : Nat, j ≤ n ∧ q8 = .int .i64 j ∧ Ext w1 wr) (fun q8 _ => n - (intOf q8).toNat)
  case atStart => exact ⟨0, Nat.zero_le _, rfl, Ext.refl _⟩
  case round =>
    obtain ⟨j, hj, rfl, hx⟩ := hrel
    have HX := hid hx
    clear hx
    by_cases hlt : j < n
    · have hlt' : (j : Int) < n := by omega
      have hjr : j < acc.length := by rw [HNE.out]; exact hlt
      have HRW := hid (row_any wr (HK.out.later (X1.out.trans HX.out)) acc[j].kind (HKS.out _ (List.getElem_mem hjr)) j hjr (HIX.out j hjr) (HAB.out _ (List.getElem_mem hjr)))
      have HRA := hid (HAB.out _ (List.getElem_mem hjr))
      obtain ⟨g, cap, a, c, hlv, hg6, htb⟩ := (HIT.out.later HX.out).read j hjr
      obtain ⟨g2, cap2, a2, c2, hlv2, hh6, htb2⟩ := (HW.out.later (X1.out.trans HX.out)).read j hjr
      obtain ⟨rfl, hnn, rfl⟩ := Value.slice.inj hlv
      obtain ⟨rfl, hnn2, rfl⟩ := Value.slice.inj hlv2
      clear hnn hnn2 hlv hlv2
      have HT1 := hid htb
      have HT2 := hid htb2
      generalize acc[j] = rj at *
      clear htb htb2 hjr
      have HG6 := hid hg6
      have HH6 := hid hh6
      obtain ⟨y0, y1, y2, y3, y4, y5⟩ := hh6
      clear hg6
      go_wp2_with fail
      refine HRW.out.mono ?_
      rintro e w2 ⟨a9, c9, rfl, htb9, hx9⟩
      unfold Rw.val
      obtain ⟨M, hM⟩ : ∃ M, w2.alloc (.cells #[.string rj.kind, .int .i64 rj.min, .int .i64 rj.max, .bool rj.num, .int .i64 rj.text, .slice a9 rj.abs.length c9] 58) = M := ⟨_, rfl⟩
      have XM := hid (show Ext wr M from hM ▸ hx9.trans (Ext.alloc _ _))
      have HB := hid (show M.heap[w2.heap.size]? = some (.cells #[.string rj.kind, .int .i64 rj.min, .int .i64 rj.max, .bool rj.num, .int .i64 rj.text, .slice a9 rj.abs.length c9] 58) from hM ▸ blk0 _ _)
      have HE1 := hid (fun (W' : World) (X : Ext M W') => eqRow_any rj a a2 c c2 W' HRA.out (HT1.out.later (XM.out.trans X)) (HT2.out.later (XM.out.trans X)))
      have HE2 := hid (fun (W' : World) (X : Ext M W') => eqRow_any rj a9 a2 c9 c2 W' HRA.out (htb9.later (show Ext w2 W' from (hM ▸ Ext.alloc _ _ : Ext w2 M).trans X)) (HT2.out.later (XM.out.trans X)))
      unfold Rw.val at HE1 HE2
      clear htb9 hx9 y0 y1 y2 y3 y4 y5
      obtain ⟨k0, k1, k2, k3, k4, kabs⟩ := rj
      dsimp only at *
      generalize kabs.length = kl at *
      have HSK := hid (show ∀ W', Ext M W' → (W'.cell? ⟨g, j * 6, none⟩ = some (.string k0) ∧ W'.cell? ⟨g, j * 6 + 1, none⟩ = some (.int .i64 k1) ∧ W'.cell? ⟨g, j * 6 + 2, none⟩ = some (.int .i64 k2) ∧ W'.cell? ⟨g, j * 6 + 3, none⟩ = some (.bool k3) ∧ W'.cell? ⟨g, j * 6 + 4, none⟩ = some (.int .i64 k4) ∧ W'.cell? ⟨g, j * 6 + 5, none⟩ = some (.slice a kl c) ∧ W'.cell? ⟨g2, j * 6, none⟩ = some (.string k0) ∧ W'.cell? ⟨g2, j * 6 + 1, none⟩ = some (.int .i64 k1) ∧ W'.cell? ⟨g2, j * 6 + 2, none⟩ = some (.int .i64 k2) ∧ W'.cell? ⟨g2, j * 6 + 3, none⟩ = some (.bool k3) ∧ W'.cell? ⟨g2, j * 6 + 4, none⟩ = some (.int .i64 k4) ∧ W'.cell? ⟨g2, j * 6 + 5, none⟩ = some (.slice a2 kl c2) ∧ W'.cell? ⟨w2.heap.size, 0, none⟩ = some (.string k0) ∧ W'.cell? ⟨w2.heap.size, 1, none⟩ = some (.int .i64 k1) ∧ W'.cell? ⟨w2.heap.size, 2, none⟩ = some (.int .i64 k2) ∧ W'.cell? ⟨w2.heap.size, 3, none⟩ = some (.bool k3) ∧ W'.cell? ⟨w2.heap.size, 4, none⟩ = some (.int .i64 k4) ∧ W'.cell? ⟨w2.heap.size, 5, none⟩ = some (.slice a9 kl c9)) from fun W' X => by
        obtain ⟨p0, p1, p2, p3, p4, p5⟩ := HG6.out
        obtain ⟨q0, q1, q2, q3, q4, q5⟩ := HH6.out
        obtain ⟨s0, s1, s2, s3, s4, s5⟩ := six_of (X.block HB.out)
        have Y : ∀ {x : Addr} {v : Value}, wr.cell? x = some v → W'.cell? x = some v := fun e => (Below.cell (XM.out.trans X) (lt_of_cell e)).trans e
        exact ⟨Y p0, Y p1, Y p2, Y p3, Y p4, Y p5, Y q0, Y q1, Y q2, Y q3, Y q4, Y q5, s0, s1, s2, s3, s4, s5⟩)
      go_upto_region 10 with fail
      clear hM
      go_cut [64] from 26 to 64 (fun s64 wx => s64 = .bool false ∧ Ext M wx)
      case first =>
        go_region_held3 (fun W' => W'.cell? ⟨g, j * 6, none⟩ = some (.string k0) ∧ W'.cell? ⟨g, j * 6 + 1, none⟩ = some (.int .i64 k1) ∧ W'.cell? ⟨g, j * 6 + 2, none⟩ = some (.int .i64 k2) ∧ W'.cell? ⟨g, j * 6 + 3, none⟩ = some (.bool k3) ∧ W'.cell? ⟨g, j * 6 + 4, none⟩ = some (.int .i64 k4) ∧ W'.cell? ⟨g, j * 6 + 5, none⟩ = some (.slice a kl c) ∧ W'.cell? ⟨g2, j * 6, none⟩ = some (.string k0) ∧ W'.cell? ⟨g2, j * 6 + 1, none⟩ = some (.int .i64 k1) ∧ W'.cell? ⟨g2, j * 6 + 2, none⟩ = some (.int .i64 k2) ∧ W'.cell? ⟨g2, j * 6 + 3, none⟩ = some (.bool k3) ∧ W'.cell? ⟨g2, j * 6 + 4, none⟩ = some (.int .i64 k4) ∧ W'.cell? ⟨g2, j * 6 + 5, none⟩ = some (.slice a2 kl c2) ∧ W'.cell? ⟨w2.heap.size, 0, none⟩ = some (.string k0) ∧ W'.cell? ⟨w2.heap.size, 1, none⟩ = some (.int .i64 k1) ∧ W'.cell? ⟨w2.heap.size, 2, none⟩ = some (.int .i64 k2) ∧ W'.cell? ⟨w2.heap.size, 3, none⟩ = some (.bool k3) ∧ W'.cell? ⟨w2.heap.size, 4, none⟩ = some (.int .i64 k4) ∧ W'.cell? ⟨w2.heap.size, 5, none⟩ = some (.slice a9 kl c9))
          (first | with_reducible exact HSK.out _ (Ext.refl _) | with_reducible exact HSK.out _ (Ext.refl _).drew | with_reducible exact HSK.out _ Z2 | with_reducible exact HSK.out _ Z1 | go_keep)
          (first
            | (go_at_call 24; with_reducible refine (HE1.out _ (by repeat (first | with_reducible exact Ext.refl _ | with_reducible refine Ext.drew ?_))).mono ?_; rintro r u1 ⟨rfl, hy⟩; have Z1 : Ext M u1 := Ext.trans (by repeat (first | with_reducible exact Ext.refl _ | with_reducible refine Ext.drew ?_)) hy)
            | (go_at_call 24; with_reducible refine (HE2.out _ (by repeat (first | with_reducible exact Z1 | with_reducible refine Ext.drew ?_))).mono ?_; rintro r u2 ⟨rfl, hy⟩; have Z2 : Ext M u2 := Ext.trans (by repeat (first | with_reducible exact Z1 | with_reducible refine Ext.drew ?_)) hy))
        all_goals
          go_wp2_with fail
          go_meet
          case rel => exact ⟨rfl, Z2⟩
      case rest =>
        obtain ⟨rfl, hxc⟩ := hcut
        have XC := hid hxc
        clear hxc
        go_wp2_with fail
        go_roundw
        case rel => exact ⟨j + 1, by omega, by go_num, HX.out.trans (XM.out.trans XC.out)⟩
        case measure => simp [intOf]; omega

    · have hlt2 : decide ((j : Int) < n) = false := decide_eq_false (by omega)
      have hlt3 : ¬ (j : Int) < n := by omega
      go_wp2_with fail
      go_ret
      exact ⟨rfl, X1.out.trans HX.out⟩
theorem numR_abs : ∀ r ∈ numR, r.abs.length ≤ 100 := by decide
theorem numR_kind : ∀ r ∈ numR, r.kind.size ≤ 4000 := by
  intro r hr
  obtain ⟨i, hi, rfl⟩ := List.getElem_of_mem hr
  have hl : numR.length = 15 := rfl
  rw [hl] at hi
  match i, hi with
  | 0, _ => exact Nat.le_of_ble_eq_true rfl
  | 1, _ => exact Nat.le_of_ble_eq_true rfl
  | 2, _ => exact Nat.le_of_ble_eq_true rfl
  | 3, _ => exact Nat.le_of_ble_eq_true rfl
  | 4, _ => exact Nat.le_of_ble_eq_true rfl
  | 5, _ => exact Nat.le_of_ble_eq_true rfl
  | 6, _ => exact Nat.le_of_ble_eq_true rfl
  | 7, _ => exact Nat.le_of_ble_eq_true rfl
  | 8, _ => exact Nat.le_of_ble_eq_true rfl
  | 9, _ => exact Nat.le_of_ble_eq_true rfl
  | 10, _ => exact Nat.le_of_ble_eq_true rfl
  | 11, _ => exact Nat.le_of_ble_eq_true rfl
  | 12, _ => exact Nat.le_of_ble_eq_true rfl
  | 13, _ => exact Nat.le_of_ble_eq_true rfl
  | 14, _ => exact Nat.le_of_ble_eq_true rfl
  | n + 15, h => exact absurd h (by omega)
theorem numR_ix : ∀ j, (hj : j < numR.length) → kIx numR numR[j].kind = some j := by
  intro i hi
  have hl : numR.length = 15 := rfl
  have hi2 : i < 15 := hi
  match i, hi2 with
  | 0, _ => show kIx numR (numR[0]).kind = some 0; kernel_rfl
  | 1, _ => show kIx numR (numR[1]).kind = some 1; kernel_rfl
  | 2, _ => show kIx numR (numR[2]).kind = some 2; kernel_rfl
  | 3, _ => show kIx numR (numR[3]).kind = some 3; kernel_rfl
  | 4, _ => show kIx numR (numR[4]).kind = some 4; kernel_rfl
  | 5, _ => show kIx numR (numR[5]).kind = some 5; kernel_rfl
  | 6, _ => show kIx numR (numR[6]).kind = some 6; kernel_rfl
  | 7, _ => show kIx numR (numR[7]).kind = some 7; kernel_rfl
  | 8, _ => show kIx numR (numR[8]).kind = some 8; kernel_rfl
  | 9, _ => show kIx numR (numR[9]).kind = some 9; kernel_rfl
  | 10, _ => show kIx numR (numR[10]).kind = some 10; kernel_rfl
  | 11, _ => show kIx numR (numR[11]).kind = some 11; kernel_rfl
  | 12, _ => show kIx numR (numR[12]).kind = some 12; kernel_rfl
  | 13, _ => show kIx numR (numR[13]).kind = some 13; kernel_rfl
  | 14, _ => show kIx numR (numR[14]).kind = some 14; kernel_rfl
  | n + 15, h => exact absurd h (by omega)

set_option maxRecDepth 100000 in
theorem numRows_true (w : World) (hm : MaxAt w) (hl : Laid w) : Calls Tryz.prog 3 #[] w fun e w' => e = .returned (.bool true) ∧ Ext w w' := by
  have HL := hid hl
  have HB := hid (begun_any w hm hl)
  have HLN := hid (show numR.length = 15 from rfl)
  clear hm hl
  go_enter Tryz.func3, Tryz.ntmps3
  go_wp2_with fail
  refine HB.out.mono ?_
  rintro e w1 ⟨rfl, hx1⟩
  have X1 := hid hx1
  clear hx1
  go_wp2_with fail
  refine (numKit_any _ (HL.out.later X1.out)).mono ?_
  rintro e w2 ⟨base, kb, mb, lv', bx, rfl, hkm, hb, hx2⟩
  rw [numR_eq] at hkm
  unfold numB at hkm
  have HKM := hid hkm
  have X2 := hid (X1.out.trans hx2)
  clear hkm hb hx2
  go_wp2_with fail
  refine (refRows_any _).mono ?_
  rintro e w3 ⟨ao, c, rfl, hit, hx3⟩
  have HIT := hid hit
  have HLR := hid (lawRows_any ao c w3 (HKM.out.later hx3) (by rw [HLN.out]; decide) numR_abs numR_kind numR_ix hit)
  have X3 := hid (X2.out.trans hx3)
  rw [HLN.out] at HLR ⊢
  clear hit hx3
  go_wp2_with fail
  refine HLR.out.mono ?_
  rintro e w4 ⟨rfl, hx4⟩
  have X4 := hid (X3.out.trans hx4)
  clear hx4
  go_wp2_with fail
  go_ret
  exact ⟨rfl, X4.out⟩
end Go.Proofs.YtnokajfhjmahpaaGreatDoor
