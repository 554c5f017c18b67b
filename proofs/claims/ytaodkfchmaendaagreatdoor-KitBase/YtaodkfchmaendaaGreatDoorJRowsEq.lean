/-
  espalierlaw7.EqRow and rows of what is the same: true; by contracts.
-/
import Derived.Test.YtaodkfchmaendaaGreatDoorJRows
import Derived.Deep.RegionHeld3
namespace Go.Proofs.YtaodkfchmaendaaGreatDoor.Nd
open Go.RowKit
set_option maxRecDepth 100000 in
set_option maxHeartbeats 2000000 in
theorem eqRow7_any (r : Rw) (a b : Option Addr) (c d : Nat) (w : World) (hn : r.abs.length ≤ 1000) (h1 : TRow w a r.abs) (h2 : TRow w b r.abs) : Calls Tryz.prog 25 #[r.val a c, r.val b d] w fun e w' => e = .returned (.bool true) ∧ Ext w w' := by
  have HE := hid (fun w1 (hx : Ext w w1) => eqNames_any a b c d r.abs w1 hn (h1.later hx) (h2.later hx))
  unfold Rw.val
  obtain ⟨k, mn, mx, nm, tx, abs⟩ := r
  dsimp only at *
  generalize abs.length = l at *
  clear h1 h2 hn
  have hse := str_eqb k k
  rw [decide_eq_true rfl] at hse
  obtain ⟨M, hM⟩ : ∃ M, (w.alloc (.cells #[.string k, .int .i64 mn, .int .i64 mx, .bool nm, .int .i64 tx, .slice a l c] 37)).alloc (.cells #[.string k, .int .i64 mn, .int .i64 mx, .bool nm, .int .i64 tx, .slice b l d] 37) = M := ⟨_, rfl⟩
  have XM := hid (show Ext w M from hM ▸ Ext.alloc2 _ _ _)
  obtain ⟨z0, z1, z2, z3, z4, z5⟩ := six_of (show M.heap[w.heap.size]? = some (.cells #[.string k, .int .i64 mn, .int .i64 mx, .bool nm, .int .i64 tx, .slice a l c] 37) from hM ▸ blkOld _ (blk0 _ _))
  obtain ⟨y0, y1, y2, y3, y4, y5⟩ := six_of (show M.heap[w.heap.size + 1]? = some (.cells #[.string k, .int .i64 mn, .int .i64 mx, .bool nm, .int .i64 tx, .slice b l d] 37) from hM ▸ blk1 _ _ _)
  go_enter Tryz.func25, Tryz.ntmps25
  go_wp2_with fail
  clear hM
  refine (HE.out _ XM.out).mono ?_
  rintro e w1 ⟨rfl, hx1⟩
  have X1 := hid (XM.out.trans hx1)
  clear hx1
  go_wp2_with fail
  go_ret
  exact ⟨rfl, X1.out⟩
set_option maxRecDepth 100000 in
set_option maxHeartbeats 4000000 in
theorem rows7_any {base base2 : Nat} {acc : List Rw} (ao bo : Option Addr) (ca cb : Nat) (w : World) (hlim : acc.length ≤ 1000) (hab : ∀ r ∈ acc, r.abs.length ≤ 100) (h1 : RItems w base (.slice ao acc.length ca) acc) (h2 : RItems w base2 (.slice bo acc.length cb) acc) : Calls Tryz.prog 22 #[.slice ao acc.length ca, .slice bo acc.length cb] w fun e w' => e = .returned (.bool true) ∧ Ext w w' := by
  have HIT := hid h1
  have HW := hid h2
  have HAB := hid hab
  obtain ⟨n, hne⟩ : ∃ n, acc.length = n := ⟨_, rfl⟩
  have HNE := hid hne
  have hlim' : (n : Int) ≤ 1000 := by omega
  rw [hne] at HW HIT ⊢
  clear h1 h2 hab hlim hne
  go_enter Tryz.func22, Tryz.ntmps22
  go_wp2_with fail
  go_loopw [5] (fun q5 wr => ∃ j : Nat, j ≤ n ∧ q5 = .int .i64 j ∧ Ext w wr) (fun q5 _ => n - (intOf q5).toNat)
  case atStart => exact ⟨0, Nat.zero_le _, rfl, Ext.refl _⟩
  case round =>
    obtain ⟨j, hj, rfl, hx⟩ := hrel
    have HX := hid hx
    clear hx
    by_cases hlt : j < n
    · have hlt' : (j : Int) < n := by omega
      have hjr : j < acc.length := by rw [HNE.out]; exact hlt
      have HRA := hid (HAB.out _ (List.getElem_mem hjr))
      obtain ⟨g, cap, a, c, hlv, hg6, htb⟩ := (HIT.out.later HX.out).read j hjr
      obtain ⟨g2, cap2, a2, c2, hlv2, hh6, htb2⟩ := (HW.out.later HX.out).read j hjr
      obtain ⟨rfl, hnn, rfl⟩ := Value.slice.inj hlv
      obtain ⟨rfl, hnn2, rfl⟩ := Value.slice.inj hlv2
      clear hnn hnn2 hlv hlv2
      have HT1 := hid htb
      have HT2 := hid htb2
      generalize acc[j] = rj at *
      clear htb htb2 hjr
      have HG6 := hid hg6
      have HH6 := hid hh6
      clear hg6 hh6
      have HE1 := hid (fun (W' : World) (X : Ext wr W') => eqRow7_any rj a a2 c c2 W' (by have := HRA.out; omega) (HT1.out.later X).row (HT2.out.later X).row)
      unfold Rw.val at HE1
      obtain ⟨k0, k1, k2, k3, k4, kabs⟩ := rj
      dsimp only at *
      generalize kabs.length = kl at *
      have HSK := hid (show ∀ W', Ext wr W' → (W'.cell? ⟨g, j * 6, none⟩ = some (.string k0) ∧ W'.cell? ⟨g, j * 6 + 1, none⟩ = some (.int .i64 k1) ∧ W'.cell? ⟨g, j * 6 + 2, none⟩ = some (.int .i64 k2) ∧ W'.cell? ⟨g, j * 6 + 3, none⟩ = some (.bool k3) ∧ W'.cell? ⟨g, j * 6 + 4, none⟩ = some (.int .i64 k4) ∧ W'.cell? ⟨g, j * 6 + 5, none⟩ = some (.slice a kl c) ∧ W'.cell? ⟨g2, j * 6, none⟩ = some (.string k0) ∧ W'.cell? ⟨g2, j * 6 + 1, none⟩ = some (.int .i64 k1) ∧ W'.cell? ⟨g2, j * 6 + 2, none⟩ = some (.int .i64 k2) ∧ W'.cell? ⟨g2, j * 6 + 3, none⟩ = some (.bool k3) ∧ W'.cell? ⟨g2, j * 6 + 4, none⟩ = some (.int .i64 k4) ∧ W'.cell? ⟨g2, j * 6 + 5, none⟩ = some (.slice a2 kl c2)) from fun W' X => by
        obtain ⟨p0, p1, p2, p3, p4, p5⟩ := HG6.out
        obtain ⟨q0, q1, q2, q3, q4, q5⟩ := HH6.out
        have Y : ∀ {x : Addr} {v : Value}, wr.cell? x = some v → W'.cell? x = some v := fun e => (Below.cell X (lt_of_cell e)).trans e
        exact ⟨Y p0, Y p1, Y p2, Y p3, Y p4, Y p5, Y q0, Y q1, Y q2, Y q3, Y q4, Y q5⟩)
      go_upto_region 6 with fail
      go_cut [26] from 11 to 26 (fun s26 wx => s26 = .bool false ∧ Ext wr wx)
      case first =>
        go_region_held3 (fun W' => W'.cell? ⟨g, j * 6, none⟩ = some (.string k0) ∧ W'.cell? ⟨g, j * 6 + 1, none⟩ = some (.int .i64 k1) ∧ W'.cell? ⟨g, j * 6 + 2, none⟩ = some (.int .i64 k2) ∧ W'.cell? ⟨g, j * 6 + 3, none⟩ = some (.bool k3) ∧ W'.cell? ⟨g, j * 6 + 4, none⟩ = some (.int .i64 k4) ∧ W'.cell? ⟨g, j * 6 + 5, none⟩ = some (.slice a kl c) ∧ W'.cell? ⟨g2, j * 6, none⟩ = some (.string k0) ∧ W'.cell? ⟨g2, j * 6 + 1, none⟩ = some (.int .i64 k1) ∧ W'.cell? ⟨g2, j * 6 + 2, none⟩ = some (.int .i64 k2) ∧ W'.cell? ⟨g2, j * 6 + 3, none⟩ = some (.bool k3) ∧ W'.cell? ⟨g2, j * 6 + 4, none⟩ = some (.int .i64 k4) ∧ W'.cell? ⟨g2, j * 6 + 5, none⟩ = some (.slice a2 kl c2))
          (first | with_reducible exact HSK.out _ (Ext.refl _) | with_reducible exact HSK.out _ (Ext.refl _).drew | with_reducible exact HSK.out _ Z1 | go_keep)
          (first
            | (go_at_call 25; with_reducible refine (HE1.out _ (by repeat (first | with_reducible exact Ext.refl _ | with_reducible refine Ext.drew ?_))).mono ?_; rintro r u1 ⟨rfl, hy⟩; have Z1 : Ext wr u1 := Ext.trans (by repeat (first | with_reducible exact Ext.refl _ | with_reducible refine Ext.drew ?_)) hy))
        all_goals
          go_wp2_with fail
          go_meet
          case rel => exact ⟨rfl, Z1⟩
      case rest =>
        obtain ⟨rfl, hxc⟩ := hcut
        have XC := hid hxc
        clear hxc
        go_wp2_with fail
        go_roundw
        case rel => exact ⟨j + 1, by omega, by go_num, HX.out.trans XC.out⟩
        case measure => simp [intOf]; omega
    · have hlt2 : decide ((j : Int) < n) = false := decide_eq_false (by omega)
      have hlt3 : ¬ (j : Int) < n := by omega
      go_wp2_with fail
      go_ret
      exact ⟨rfl, HX.out⟩

end Go.Proofs.YtaodkfchmaendaaGreatDoor.Nd
