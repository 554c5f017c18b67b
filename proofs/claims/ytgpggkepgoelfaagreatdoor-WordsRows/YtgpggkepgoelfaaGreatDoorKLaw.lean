/-
  espalierlaw8.Rows of a kit and the rows that it bears, in general.
-/
import Derived.Test.YtgpggkepgoelfaaGreatDoorKName
import Derived.Test.YtgpggkepgoelfaaGreatDoorKRows
import Derived.Deep.RegionHeld3
namespace Go.Proofs.YtgpggkepgoelfaaGreatDoor
open Go.RowKit
/-- A block of rows, new and full. -/
theorem ritems_new {w : World} {base g n : Nat} {cur : Array Value} {acc : List Rw} (hn : acc.length = n) (hb : base ≤ g) (hg : w.heap[g]? = some (.cells cur 76)) (hs : cur.size = n * 6) (hlim : n ≤ 1000) (hall : ∀ j, (h : j < acc.length) → ∃ a c, RAt cur.toList (j * 6) acc[j] a c ∧ TB w a acc[j].abs) : RItems w base (.slice (some ⟨g, 0, none⟩) n n) acc := by
  subst hn
  refine ⟨cur.toList, ⟨by simpa using hs, .inr ⟨g, acc.length, cur, rfl, hb, hg, Nat.le_refl _, ?_, hs, ?_⟩⟩, hall⟩
  · unfold maxLen; omega
  · exact List.take_of_length_le (Nat.le_of_eq (by simpa using hs))
theorem tb_new {w : World} {g : Nat} {cur : Array Value} {xs : List ByteArray} (hb : w.heap[g]? = some (.cells cur 9)) (h : cur = (xs.map Value.string).toArray) : TB w (some ⟨g, 0, none⟩) xs := by
  subst h
  exact .inr ⟨g, _, rfl, hb, fun j hj => by simp [hj]⟩
set_option maxRecDepth 100000 in
set_option maxHeartbeats 4000000 in
theorem lawRows_any {base base2 kb mb : Nat} {nm : ByteArray} {mk lv : Value} {acc : List Rw} (ao : Option Addr) (cw : Nat) (w : World) (h : KitM w base kb mb nm mk lv acc) (hlim : acc.length ≤ 1000) (hab : ∀ r ∈ acc, r.abs.length ≤ 100) (hks : ∀ r ∈ acc, r.kind.size ≤ 4000)
    (hix : ∀ j, (hj : j < acc.length) → kIx acc acc[j].kind = some j) (hw : RItems w base2 (.slice ao acc.length cw) acc) : Calls Tryz.prog 16 #[.pointer (some ⟨kb, 0, none⟩), .string nm, .slice ao acc.length cw] w fun e w' => e = .returned (.bool true) ∧ Ext w w' := by
  have HK := hid h
  have HW := hid hw
  have HAB := hid hab
  have HKS := hid hks
  have HIX := hid hix
  have HNM := hid (name_any h)
  have HRS := hid (rows_any w h hlim hab)
  have hse := str_eqb nm nm
  rw [decide_eq_true rfl] at hse
  obtain ⟨n, hne⟩ : ∃ n, acc.length = n := ⟨_, rfl⟩
  have HNE := hid hne
  have hlim' : (n : Int) ≤ 1000 := by omega
  rw [hne] at HW ⊢
  clear h hw hab hks hix hlim hne
  go_enter Tryz.func16, Tryz.ntmps16
  go_wp2_with fail
  refine HNM.out.mono ?_
  rintro e w0 ⟨rfl, rfl⟩
  go_wp2_with fail
  refine HRS.out.mono ?_
  rintro e w1 ⟨a1, c1, rfl, hit1, hx1⟩
  have X1 := hid hx1
  have HIT := hid hit1
  rw [HNE.out] at HIT ⊢
  clear hit1 hx1
  go_wp2_with fail
  go_loopw [8] (fun q8 wr => ∃ j : Nat, j ≤ n ∧ q8 = .int .i64 j ∧ Ext w1 wr) (fun q8 _ => n - (intOf q8).toNat)
  case atStart => exact ⟨0, Nat.zero_le _, rfl, Ext.refl _⟩
  case round =>
    obtain ⟨j, hj, rfl, hx⟩ := hrel
    have HX := hid hx
    clear hx
    by_cases hlt : j < n
    · have hlt' : (j : Int) < n := by omega
      have hjr : j < acc.length := by rw [HNE.out]; exact hlt
      have HRW := hid (row_any wr (HK.out.later (X1.out.trans HX.out)) acc[j].kind (HKS.out _ (List.getElem_mem hjr)) j hjr (HIX.out j hjr) (HAB.out _ (List.getElem_mem hjr)))
      have HRA := hid (HAB.out _ (List.getElem_mem hjr))
      obtain ⟨g, cap, a, c, hlv, hg6, htb⟩ := (HIT.out.later HX.out).read j hjr
      obtain ⟨g2, cap2, a2, c2, hlv2, hh6, htb2⟩ := (HW.out.later (X1.out.trans HX.out)).read j hjr
      obtain ⟨rfl, hnn, rfl⟩ := Value.slice.inj hlv
      obtain ⟨rfl, hnn2, rfl⟩ := Value.slice.inj hlv2
      clear hnn hnn2 hlv hlv2
      have HT1 := hid htb
      have HT2 := hid htb2
      generalize acc[j] = rj at *
      clear htb htb2 hjr
      have HG6 := hid hg6
      have HH6 := hid hh6
      obtain ⟨y0, y1, y2, y3, y4, y5⟩ := hh6
      clear hg6
      go_wp2_with fail
      refine HRW.out.mono ?_
      rintro e w2 ⟨a9, c9, rfl, htb9, hx9⟩
      unfold Rw.val
      obtain ⟨M, hM⟩ : ∃ M, w2.alloc (.cells #[.string rj.kind, .int .i64 rj.min, .int .i64 rj.max, .bool rj.num, .int .i64 rj.text, .slice a9 rj.abs.length c9] 76) = M := ⟨_, rfl⟩
      have XM := hid (show Ext wr M from hM ▸ hx9.trans (Ext.alloc _ _))
      have HB := hid (show M.heap[w2.heap.size]? = some (.cells #[.string rj.kind, .int .i64 rj.min, .int .i64 rj.max, .bool rj.num, .int .i64 rj.text, .slice a9 rj.abs.length c9] 76) from hM ▸ blk0 _ _)
      have HE1 := hid (fun (W' : World) (X : Ext M W') => eqRow_any rj a a2 c c2 W' HRA.out (HT1.out.later (XM.out.trans X)) (HT2.out.later (XM.out.trans X)))
      have HE2 := hid (fun (W' : World) (X : Ext M W') => eqRow_any rj a9 a2 c9 c2 W' HRA.out (htb9.later (show Ext w2 W' from (hM ▸ Ext.alloc _ _ : Ext w2 M).trans X)) (HT2.out.later (XM.out.trans X)))
      unfold Rw.val at HE1 HE2
      clear htb9 hx9 y0 y1 y2 y3 y4 y5
      obtain ⟨k0, k1, k2, k3, k4, kabs⟩ := rj
      dsimp only at *
      generalize kabs.length = kl at *
      have HSK := hid (show ∀ W', Ext M W' → (W'.cell? ⟨g, j * 6, none⟩ = some (.string k0) ∧ W'.cell? ⟨g, j * 6 + 1, none⟩ = some (.int .i64 k1) ∧ W'.cell? ⟨g, j * 6 + 2, none⟩ = some (.int .i64 k2) ∧ W'.cell? ⟨g, j * 6 + 3, none⟩ = some (.bool k3) ∧ W'.cell? ⟨g, j * 6 + 4, none⟩ = some (.int .i64 k4) ∧ W'.cell? ⟨g, j * 6 + 5, none⟩ = some (.slice a kl c) ∧ W'.cell? ⟨g2, j * 6, none⟩ = some (.string k0) ∧ W'.cell? ⟨g2, j * 6 + 1, none⟩ = some (.int .i64 k1) ∧ W'.cell? ⟨g2, j * 6 + 2, none⟩ = some (.int .i64 k2) ∧ W'.cell? ⟨g2, j * 6 + 3, none⟩ = some (.bool k3) ∧ W'.cell? ⟨g2, j * 6 + 4, none⟩ = some (.int .i64 k4) ∧ W'.cell? ⟨g2, j * 6 + 5, none⟩ = some (.slice a2 kl c2) ∧ W'.cell? ⟨w2.heap.size, 0, none⟩ = some (.string k0) ∧ W'.cell? ⟨w2.heap.size, 1, none⟩ = some (.int .i64 k1) ∧ W'.cell? ⟨w2.heap.size, 2, none⟩ = some (.int .i64 k2) ∧ W'.cell? ⟨w2.heap.size, 3, none⟩ = some (.bool k3) ∧ W'.cell? ⟨w2.heap.size, 4, none⟩ = some (.int .i64 k4) ∧ W'.cell? ⟨w2.heap.size, 5, none⟩ = some (.slice a9 kl c9)) from fun W' X => by
        obtain ⟨p0, p1, p2, p3, p4, p5⟩ := HG6.out
        obtain ⟨q0, q1, q2, q3, q4, q5⟩ := HH6.out
        obtain ⟨s0, s1, s2, s3, s4, s5⟩ := six_of (X.block HB.out)
        have Y : ∀ {x : Addr} {v : Value}, wr.cell? x = some v → W'.cell? x = some v := fun e => (Below.cell (XM.out.trans X) (lt_of_cell e)).trans e
        exact ⟨Y p0, Y p1, Y p2, Y p3, Y p4, Y p5, Y q0, Y q1, Y q2, Y q3, Y q4, Y q5, s0, s1, s2, s3, s4, s5⟩)
      go_upto_region 10 with fail
      clear hM
      go_cut [64] from 26 to 64 (fun s64 wx => s64 = .bool false ∧ Ext M wx)
      case first =>
        go_region_held3 (fun W' => W'.cell? ⟨g, j * 6, none⟩ = some (.string k0) ∧ W'.cell? ⟨g, j * 6 + 1, none⟩ = some (.int .i64 k1) ∧ W'.cell? ⟨g, j * 6 + 2, none⟩ = some (.int .i64 k2) ∧ W'.cell? ⟨g, j * 6 + 3, none⟩ = some (.bool k3) ∧ W'.cell? ⟨g, j * 6 + 4, none⟩ = some (.int .i64 k4) ∧ W'.cell? ⟨g, j * 6 + 5, none⟩ = some (.slice a kl c) ∧ W'.cell? ⟨g2, j * 6, none⟩ = some (.string k0) ∧ W'.cell? ⟨g2, j * 6 + 1, none⟩ = some (.int .i64 k1) ∧ W'.cell? ⟨g2, j * 6 + 2, none⟩ = some (.int .i64 k2) ∧ W'.cell? ⟨g2, j * 6 + 3, none⟩ = some (.bool k3) ∧ W'.cell? ⟨g2, j * 6 + 4, none⟩ = some (.int .i64 k4) ∧ W'.cell? ⟨g2, j * 6 + 5, none⟩ = some (.slice a2 kl c2) ∧ W'.cell? ⟨w2.heap.size, 0, none⟩ = some (.string k0) ∧ W'.cell? ⟨w2.heap.size, 1, none⟩ = some (.int .i64 k1) ∧ W'.cell? ⟨w2.heap.size, 2, none⟩ = some (.int .i64 k2) ∧ W'.cell? ⟨w2.heap.size, 3, none⟩ = some (.bool k3) ∧ W'.cell? ⟨w2.heap.size, 4, none⟩ = some (.int .i64 k4) ∧ W'.cell? ⟨w2.heap.size, 5, none⟩ = some (.slice a9 kl c9))
          (first | with_reducible exact HSK.out _ (Ext.refl _) | with_reducible exact HSK.out _ (Ext.refl _).drew | with_reducible exact HSK.out _ Z2 | with_reducible exact HSK.out _ Z1 | go_keep)
          (first
            | (go_at_call 41; with_reducible refine (HE1.out _ (by repeat (first | with_reducible exact Ext.refl _ | with_reducible refine Ext.drew ?_))).mono ?_; rintro r u1 ⟨rfl, hy⟩; have Z1 : Ext M u1 := Ext.trans (by repeat (first | with_reducible exact Ext.refl _ | with_reducible refine Ext.drew ?_)) hy)
            | (go_at_call 41; with_reducible refine (HE2.out _ (by repeat (first | with_reducible exact Z1 | with_reducible refine Ext.drew ?_))).mono ?_; rintro r u2 ⟨rfl, hy⟩; have Z2 : Ext M u2 := Ext.trans (by repeat (first | with_reducible exact Z1 | with_reducible refine Ext.drew ?_)) hy))
        all_goals
          go_wp2_with fail
          go_meet
          case rel => exact ⟨rfl, Z2⟩
      case rest =>
        obtain ⟨rfl, hxc⟩ := hcut
        have XC := hid hxc
        clear hxc
        go_wp2_with fail
        go_roundw
        case rel => exact ⟨j + 1, by omega, by go_num, HX.out.trans (XM.out.trans XC.out)⟩
        case measure => simp [intOf]; omega

    · have hlt2 : decide ((j : Int) < n) = false := decide_eq_false (by omega)
      have hlt3 : ¬ (j : Int) < n := by omega
      go_wp2_with fail
      go_ret
      exact ⟨rfl, X1.out.trans HX.out⟩
end Go.Proofs.YtgpggkepgoelfaaGreatDoor
