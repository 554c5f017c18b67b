/-
  Whole of the statements' Paths, by a contract: each path holds its own marks alone.
-/
import Derived.Test.YthdmoghooaccgaaWholeB
import Derived.WalkMore
namespace Go.Proofs.Ythdmoghooaccgaa
open Go.RowKit
set_option maxRecDepth 100000 in
set_option maxHeartbeats 4000000 in
theorem whole_some (w : World) (b base lb lc nb nc : Nat) (rs : List PR) (sz : Int) (h : PBook w b base (.slice (some ⟨lb, 0, none⟩) rs.length lc) (.slice (some ⟨nb, 0, none⟩) rs.length nc) rs sz) (hrl : rs.length ≤ 5000) (hll : ∀ r ∈ rs, r.2.1 ≤ 1000) :
    Calls Try.prog 26 #[.pointer (some ⟨b, 0, none⟩)] w fun e w' => e = .returned (.bool true) ∧ Kp (fun q => ¬ Bk b (.slice (some ⟨lb, 0, none⟩) rs.length lc) (.slice (some ⟨nb, 0, none⟩) rs.length nc) rs q) w w' := by
  have H0 := hid h.grow
  have HLL := hid hll
  have HBX := hid h.box
  obtain ⟨b0, b1, b2, b3⟩ := four_of h.box
  clear h hll
  go_enter Try.func26, Try.ntmps26
  go_wp2_with fail
  refine (take_none _ b).mono ?_
  rintro e w1 ⟨⟨v, rfl⟩, rfl⟩
  go_wp2_with fail
  go_loopw [3] (fun i wr => ∃ (j : Nat) (f : Nat → Nat), j ≤ rs.length ∧ i = .int .i64 j ∧ GBook wr b base lb lc (.slice (some ⟨nb, 0, none⟩) rs.length nc) rs sz f ∧ (∀ i, (h : i < rs.length) → i < j → f i = goal rs[i]) ∧ (∀ i, (h : i < rs.length) → j ≤ i → f i = rs[i].2.1) ∧ Kp (fun q => ¬ Bk b (.slice (some ⟨lb, 0, none⟩) rs.length lc) (.slice (some ⟨nb, 0, none⟩) rs.length nc) rs q) w1 wr) (fun i _ => rs.length - (intOf i).toNat)
  case atStart => exact ⟨0, _, Nat.zero_le _, rfl, H0.out, fun i _ h => absurd h (Nat.not_lt_zero _), fun i h _ => by simp [h], Kp.refl _ _⟩
  case round =>
    obtain ⟨j, f, hj, rfl, hG, hf1, hf2, hk⟩ := hrel
    have HG := hid hG
    have HF1 := hid hf1
    have HF2 := hid hf2
    have HK := hid hk
    clear hf1 hf2 hk b0 b1 b2 b3
    obtain ⟨b0, b1, b2, b3⟩ := four_of hG.box
    by_cases hlt : j < rs.length
    · have hlt' : (j : Int) < rs.length := by omega
      have l0 := hG.cells hlt
      have n0 := hG.lens hlt
      have hmj : rs[j] ∈ rs := List.getElem_mem hlt
      have hl1 : rs[j].2.1 ≤ 1000 := HLL.out _ hmj
      obtain ⟨h1, h3, h4, h5, _⟩ := hG.grown j hlt
      obtain ⟨g1, g2, g3⟩ := goal_le (r := rs[j]) (by omega)
      have hfj : f j = rs[j].2.1 := HF2.out j hlt (Nat.le_refl _)
      rw [hfj] at l0
      have CR := hid (fun W => room_any rs[j].2.1 rs[j].2.2 W (by omega) (by omega))
      rw [g3] at CR
      have HGL := hid (And.intro g1 g2)
      clear hG h1 h3 h4 h5 g1 g2 g3
      go_wp2_with fail
      go_cut [4] from 14 to 66 (fun s4 wx => s4 = .int .i64 (goal rs[j]) ∧ Ext wr wx)
      case first =>
        go_region_held3 (fun W' => W'.cell? ⟨b, 0, none⟩ = some (.slice (some ⟨lb, 0, none⟩) rs.length lc) ∧ W'.cell? ⟨b, 1, none⟩ = some (.slice (some ⟨nb, 0, none⟩) rs.length nc) ∧ W'.cell? ⟨lb, j, none⟩ = some (.slice (some ⟨rs[j].1, 0, none⟩) rs[j].2.1 rs[j].2.2) ∧ W'.cell? ⟨nb, j, none⟩ = some (.int .i64 (rs[j].2.1 : Int)))
          (first | exact ⟨b0, b1, l0, n0⟩ | go_keep)
          (first | (go_at_call 55; refine (CR.out _).mono ?_; rintro e w2 ⟨rfl, rfl⟩))
        all_goals
          go_wp2_with fail
          go_meet
          case rel => exact ⟨rfl, (Ext.refl wr).drew⟩
      case rest =>
      obtain ⟨rfl, hxc⟩ := hcut
      obtain ⟨V, rfl⟩ : ∃ V, V = wc := ⟨wc, rfl⟩
      have HGV := hid (HG.out.later hxc)
      have HKV := hid (HK.out.trans (hxc.kp _))
      clear hxc b0 b1 b2 b3 l0 n0 CR
      go_wp2_with fail
      go_loopw [] (fun wq => ∃ (nn : Nat) (f' : Nat → Nat), GBook wq b base lb lc (.slice (some ⟨nb, 0, none⟩) rs.length nc) rs sz f' ∧ f' j = nn ∧ nn ≤ goal rs[j] ∧ (∀ i, (h : i < rs.length) → i < j → f' i = goal rs[i]) ∧ (∀ i, (h : i < rs.length) → j < i → f' i = rs[i].2.1) ∧ Kp (fun q => ¬ Bk b (.slice (some ⟨lb, 0, none⟩) rs.length lc) (.slice (some ⟨nb, 0, none⟩) rs.length nc) rs q) w1 wq) (fun wq => goal rs[j] - lenC (wq.cell? ⟨lb, j, none⟩))
      case atStart => exact ⟨_, f, HGV.out, rfl, by rw [hfj]; exact HGL.out.1, HF1.out, fun i h h2 => HF2.out i h (by omega), HKV.out⟩
      case round =>
        obtain ⟨nn, f', hG', hfn, hng, hf1, hf2, hk'⟩ := hrel
        have HG' := hid hG'
        have HF1' := hid hf1
        have HF2' := hid hf2
        have HK' := hid hk'
        have HFN := hid hfn
        have HBQ := hid hG'.box
        obtain ⟨b0, b1, b2, b3⟩ := four_of hG'.box
        have l0 := hG'.cells hlt
        rw [hfn] at l0
        have hbl := lt_of_cell b0
        have hll0 := lt_of_cell l0
        obtain ⟨h1, h3, h4, h5, cu, hcu, hcs, hci, _⟩ := hG'.grown j hlt
        rw [hfn] at h3 h4
        clear hf1 hf2 hk' hfn hG'
        by_cases hnn : nn < goal rs[j]
        · have hnn' : (nn : Int) < (goal rs[j] : Int) := by omega
          have hroom : nn + 1 ≤ rs[j].2.2 := by have := HGL.out.2; omega
          obtain ⟨vk, hvk⟩ := hci nn (by omega)
          have HCU := hid (And.intro hcu hvk)
          have AL1 := hid (show ∀ o, ((wr.alloc o).drew.cell? ⟨rs[j].1, nn, none⟩).isSome = true from fun o => by rw [show (wr.alloc o).drew.cell? ⟨rs[j].1, nn, none⟩ = some vk from cell_of (blkOld o HCU.out.1) HCU.out.2]; rfl)
          have AL2 := hid (show ∀ o, (wr.alloc o).drew.frozen? ⟨rs[j].1, nn, none⟩ = false from fun o => frozen_of (show (wr.alloc o).drew.heap[rs[j].1]? = _ from blkOld o HCU.out.1))
          have AL3 := hid (show ∀ o, ((wr.alloc o).drew.setCell ⟨rs[j].1, nn, none⟩ (.int .i64 (-2 * (j : Int) - 3))).cell? ⟨b, 0, none⟩ = some (.slice (some ⟨lb, 0, none⟩) rs.length lc) from fun o => (((Ext.alloc wr o).drew.kp (· ≠ rs[j].1)).trans (Kp.set _ _ _ _ (fun h => h rfl))).cell b0 (fun e => HG'.out.ne.2.2.2 _ hmj e.symm))
          have AL4 := hid (show ∀ o, (((wr.alloc o).drew.setCell ⟨rs[j].1, nn, none⟩ (.int .i64 (-2 * (j : Int) - 3))).setCell ⟨lb, j, none⟩ (.slice (some ⟨rs[j].1, 0, none⟩) (nn + 1) rs[j].2.2)).cell? ⟨b, 0, none⟩ = some (.slice (some ⟨lb, 0, none⟩) rs.length lc) from fun o => (Kp.set (K := (· ≠ lb)) _ _ _ _ (fun h => h rfl)).cell (AL3.out o) (fun e => HG'.out.ne.1 e.symm))
          have HLB := hid (show ∃ cl, wr.heap[lb]? = some (.cells cl 27) from by
            obtain ⟨L, hL, _⟩ := HG'.out.rowL
            exact (ownsRow_block hL rfl).2)
          have AL5 := hid (show ∀ o, ((wr.alloc o).setCell ⟨rs[j].1, nn, none⟩ (.int .i64 (-2 * (j : Int) - 3))).cell? ⟨lb, j, none⟩ = some (.slice (some ⟨rs[j].1, 0, none⟩) nn rs[j].2.2) ∧ wr.frozen? ⟨lb, j, none⟩ = false from fun o => by
            have kk := ((Ext.alloc wr o).kp (· ≠ rs[j].1)).trans (Kp.set (K := (· ≠ rs[j].1)) (wr.alloc o) rs[j].1 nn (.int .i64 (-2 * (j : Int) - 3)) (fun h => h rfl))
            obtain ⟨cl, hcl⟩ := HLB.out
            exact ⟨kk.cell l0 (HG'.out.apartL _ hmj), frozen_of hcl⟩)
          have STEP := hid (show ∀ o, GBook (((wr.alloc o).drew.setCell ⟨rs[j].1, nn, none⟩ (.int .i64 (-2 * (j : Int) - 3))).setCell ⟨lb, j, none⟩ (.slice (some ⟨rs[j].1, 0, none⟩) (nn + 1) rs[j].2.2)) b base lb lc (.slice (some ⟨nb, 0, none⟩) rs.length nc) rs sz (fun i => if i = j then nn + 1 else f' i) from fun o => by
            have := HG'.out.step hlt (by rw [HFN.out]; exact hroom) (wr.alloc o).drew (Ext.alloc wr o).drew
            rw [HFN.out] at this
            exact this)
          have REL := hid (show ∀ o, ∃ (n2 : Nat) (f2 : Nat → Nat), GBook (((wr.alloc o).drew.setCell ⟨rs[j].1, nn, none⟩ (.int .i64 (-2 * (j : Int) - 3))).setCell ⟨lb, j, none⟩ (.slice (some ⟨rs[j].1, 0, none⟩) (nn + 1) rs[j].2.2)) b base lb lc (.slice (some ⟨nb, 0, none⟩) rs.length nc) rs sz f2 ∧ f2 j = n2 ∧ n2 ≤ goal rs[j] ∧ (∀ i, (h : i < rs.length) → i < j → f2 i = goal rs[i]) ∧ (∀ i, (h : i < rs.length) → j < i → f2 i = rs[i].2.1) ∧ Kp (fun q => ¬ Bk b (.slice (some ⟨lb, 0, none⟩) rs.length lc) (.slice (some ⟨nb, 0, none⟩) rs.length nc) rs q) w1 (((wr.alloc o).drew.setCell ⟨rs[j].1, nn, none⟩ (.int .i64 (-2 * (j : Int) - 3))).setCell ⟨lb, j, none⟩ (.slice (some ⟨rs[j].1, 0, none⟩) (nn + 1) rs[j].2.2)) from fun o =>
            ⟨nn + 1, _, STEP.out o, if_pos rfl, hnn, fun i h h2 => by rw [if_neg (by omega)]; exact HF1'.out i h h2, fun i h h2 => by rw [if_neg (by omega)]; exact HF2'.out i h h2,
              ((HK'.out.trans ((Ext.alloc wr o).drew.kp _)).trans (Kp.set _ _ _ _ (fun h => h (.inr (.inr (.inr (List.mem_map.2 ⟨_, hmj, rfl⟩))))))).trans (Kp.set _ _ _ _ (fun h => h (.inr (.inl rfl))))⟩)
          have MEA := hid (show ∀ o, goal rs[j] - lenC ((((wr.alloc o).drew.setCell ⟨rs[j].1, nn, none⟩ (.int .i64 (-2 * (j : Int) - 3))).setCell ⟨lb, j, none⟩ (.slice (some ⟨rs[j].1, 0, none⟩) (nn + 1) rs[j].2.2)).cell? ⟨lb, j, none⟩) < goal rs[j] - lenC (wr.cell? ⟨lb, j, none⟩) from fun o => by
            have h1 := (STEP.out o).cells hlt
            rw [if_pos rfl] at h1
            have h2 := HG'.out.cells hlt
            rw [HFN.out] at h2
            rw [h1, h2]
            simp only [lenC]
            omega)
          have hw1 : IntKind.i64.wrap (-2 * (j : Int)) = -2 * (j : Int) := wrap_small _ (by omega) (by omega)
          have hw2 : IntKind.i64.wrap (-2 * (j : Int) - 3) = -2 * (j : Int) - 3 := wrap_small _ (by omega) (by omega)
          go_wp2_with fail
          refine wp_region_held_drew (S := fun W' => W'.cell? ⟨b, 0, none⟩ = some (.slice (some ⟨lb, 0, none⟩) rs.length lc)) (by kernel_rfl) (b0) (fun hHeld => ?_)
          refine wpAnyH_take (i := 0) (v := ?vax1) rfl (by kernel_rfl) (by kernel_rfl) (by kernel_rfl) (fun _ _ _ h => h) (Or.inl ⟨by kernel_rfl, ?hax1⟩) (by assumption) ?rax1
          case hax1 => (intro w hSw; (try dsimp only at hSw); go_simp; try with_reducible rfl)
          try simp only [Act.put, List.getElem_toArray, List.getElem_cons_zero, List.setIfInBounds_toArray, List.set_cons_zero, List.set_cons_succ]
          refine wpAnyH_take (i := 1) (v := ?vax2) rfl (by kernel_rfl) (by kernel_rfl) (by kernel_rfl) (fun _ _ _ h => h) (Or.inl ⟨by kernel_rfl, ?hax2⟩) (by assumption) ?rax2
          case hax2 => (intro w hSw; (try dsimp only at hSw); go_simp; try with_reducible rfl)
          try simp only [Act.put, List.getElem_toArray, List.getElem_cons_zero, List.getElem_cons_succ, List.setIfInBounds_toArray, List.set_cons_zero, List.set_cons_succ]
          refine wpAnyH_take (i := 2) (v := ?vax3) rfl (by kernel_rfl) (by kernel_rfl) (by kernel_rfl) (fun _ _ _ h => h) (Or.inl ⟨by kernel_rfl, ?hax3⟩) (by assumption) ?rax3
          case hax3 => (intro w hSw; (try dsimp only at hSw); go_simp; try with_reducible rfl)
          try simp only [Act.put, List.getElem_toArray, List.getElem_cons_zero, List.getElem_cons_succ, List.setIfInBounds_toArray, List.set_cons_zero, List.set_cons_succ]
          refine wpAnyH_take (i := 3) (v := ?vax4) rfl (by kernel_rfl) (by kernel_rfl) (by kernel_rfl) (fun _ _ _ h => h) (Or.inl ⟨by kernel_rfl, ?hax4⟩) (by assumption) ?rax4
          case hax4 => (intro w hSw; (try dsimp only at hSw); go_simp; try with_reducible rfl)
          try simp only [Act.put, List.getElem_toArray, List.getElem_cons_zero, List.getElem_cons_succ, List.setIfInBounds_toArray, List.set_cons_zero, List.set_cons_succ]
          refine wpAnyH_take (i := 4) (v := ?vax5) rfl (by kernel_rfl) (by kernel_rfl) (by kernel_rfl) (fun _ _ _ h => h) (Or.inl ⟨by kernel_rfl, ?hax5⟩) (by assumption) ?rax5
          case hax5 => (intro w hSw; (try dsimp only at hSw); go_simp; try with_reducible rfl)
          try simp only [Act.put, List.getElem_toArray, List.getElem_cons_zero, List.getElem_cons_succ, List.setIfInBounds_toArray, List.set_cons_zero, List.set_cons_succ]
          refine wpAnyH_take (i := 5) (v := ?vax6) rfl (by kernel_rfl) (by kernel_rfl) (by kernel_rfl) (fun _ _ _ h => h) (Or.inl ⟨by kernel_rfl, ?hax6⟩) (by assumption) ?rax6
          case hax6 => (intro w hSw; (try dsimp only at hSw); go_simp; try with_reducible rfl)
          try simp only [Act.put, List.getElem_toArray, List.getElem_cons_zero, List.getElem_cons_succ, List.setIfInBounds_toArray, List.set_cons_zero, List.set_cons_succ]
          refine wpAnyH_take (i := 6) (v := ?vax7) rfl (by kernel_rfl) (by kernel_rfl) (by kernel_rfl) (fun _ _ _ h => h) (Or.inl ⟨by kernel_rfl, ?hax7⟩) (by assumption) ?rax7
          case hax7 => (intro w hSw; (try dsimp only at hSw); go_simp; try with_reducible rfl)
          try simp only [Act.put, List.getElem_toArray, List.getElem_cons_zero, List.getElem_cons_succ, List.setIfInBounds_toArray, List.set_cons_zero, List.set_cons_succ]
          refine wpAnyH_take (i := 7) (v := ?vax8) rfl (by kernel_rfl) (by kernel_rfl) (by kernel_rfl) (fun _ _ _ h => h) (Or.inl ⟨by kernel_rfl, ?hax8⟩) (by assumption) ?rax8
          case hax8 => (intro w hSw; (try dsimp only at hSw); go_simp; try with_reducible rfl)
          try simp only [Act.put, List.getElem_toArray, List.getElem_cons_zero, List.getElem_cons_succ, List.setIfInBounds_toArray, List.set_cons_zero, List.set_cons_succ]
          refine wpAnyH_take (i := 8) (v := ?vax9) rfl (by kernel_rfl) (by kernel_rfl) (by kernel_rfl) (fun _ _ _ h => h) (Or.inl ⟨by kernel_rfl, ?hax9⟩) (by assumption) ?rax9
          case hax9 => (intro w hSw; (try dsimp only at hSw); go_simp; try with_reducible rfl)
          try simp only [Act.put, List.getElem_toArray, List.getElem_cons_zero, List.getElem_cons_succ, List.setIfInBounds_toArray, List.set_cons_zero, List.set_cons_succ]
          refine wpAnyH_take (i := 9) (v := ?vax10) rfl (by kernel_rfl) (by kernel_rfl) (by kernel_rfl) (fun _ _ _ h => h) (Or.inl ⟨by kernel_rfl, ?hax10⟩) (by assumption) ?rax10
          case hax10 => (intro w hSw; (try dsimp only at hSw); go_simp; try with_reducible rfl)
          try simp only [Act.put, List.getElem_toArray, List.getElem_cons_zero, List.getElem_cons_succ, List.setIfInBounds_toArray, List.set_cons_zero, List.set_cons_succ]
          refine wpAnyH_take (i := 10) (v := ?vax11) rfl (by kernel_rfl) (by kernel_rfl) (by kernel_rfl) (fun _ _ _ h => h) (Or.inl ⟨by kernel_rfl, ?hax11⟩) (by assumption) ?rax11
          case hax11 => (intro w hSw; (try dsimp only at hSw); go_simp; try with_reducible rfl)
          try simp only [Act.put, List.getElem_toArray, List.getElem_cons_zero, List.getElem_cons_succ, List.setIfInBounds_toArray, List.set_cons_zero, List.set_cons_succ]
          refine wpAnyH_take (i := 12) (v := ?vax12) rfl (by kernel_rfl) (by kernel_rfl) (by kernel_rfl) (fun _ _ _ h => h) (Or.inl ⟨by kernel_rfl, ?hax12⟩) (by assumption) ?rax12
          case hax12 => (intro w hSw; (try dsimp only at hSw); go_simp; try with_reducible rfl)
          try simp only [Act.put, List.getElem_toArray, List.getElem_cons_zero, List.getElem_cons_succ, List.setIfInBounds_toArray, List.set_cons_zero, List.set_cons_succ]
          refine wpAnyH_take (i := 13) (v := .int .i64 (-2 * (j : Int))) rfl (by kernel_rfl) (by kernel_rfl) (by kernel_rfl) (fun _ _ _ h => h) (Or.inl ⟨by kernel_rfl, ?hax13⟩) (by assumption) ?rax13
          case hax13 => (intro w hSw; (try dsimp only at hSw); go_simp; try with_reducible rfl)
          try simp only [Act.put, List.getElem_toArray, List.getElem_cons_zero, List.getElem_cons_succ, List.setIfInBounds_toArray, List.set_cons_zero, List.set_cons_succ]
          refine wpAnyH_take (i := 14) (v := .int .i64 (-2 * (j : Int) - 3)) rfl (by kernel_rfl) (by kernel_rfl) (by kernel_rfl) (fun _ _ _ h => h) (Or.inl ⟨by kernel_rfl, ?hax14⟩) (by assumption) ?rax14
          case hax14 => (intro w hSw; (try dsimp only at hSw); go_simp; try with_reducible rfl)
          try simp only [Act.put, List.getElem_toArray, List.getElem_cons_zero, List.getElem_cons_succ, List.setIfInBounds_toArray, List.set_cons_zero, List.set_cons_succ]
          refine wpAnyH_ready (rs := [11, 15]) (by kernel_rfl) (by simp) ?_
          refine AllReadyH.cons rfl (fun K hK => ?_) (AllReadyH.cons rfl (fun K hK => ?_) AllReadyH.nil)
          · go_simp
            refine hK.out _ _ (b0) (fun hHeld => ?_)
            clear hK K
            try simp only [Act.put, List.getElem_toArray, List.getElem_cons_zero, List.getElem_cons_succ, List.setIfInBounds_toArray, List.set_cons_zero, List.set_cons_succ]
            refine wpAnyH_ready (rs := [15]) (by kernel_rfl) (by simp) ?_
            refine AllReadyH.cons rfl (fun K hK => ?_) AllReadyH.nil
            go_simp
            refine hK.out _ _ (cell_of (i := 0) (blkOld _ HBQ.out) rfl) (fun hHeld => ?_)
            clear hK K
            try simp only [Act.put, List.getElem_toArray, List.getElem_cons_zero, List.getElem_cons_succ, List.setIfInBounds_toArray, List.set_cons_zero, List.set_cons_succ]
            refine wpAnyH_ready (rs := [16]) (by kernel_rfl) (by simp) ?_
            refine AllReadyH.cons rfl (fun K hK => ?_) AllReadyH.nil
            refine step_append_room _ (by rfl) _ _ (by rfl) rs[j].1 nn rs[j].2.2 wr.heap.size (-2 * (j : Int) - 3) (by rfl) (by rfl) (cell_of (i := 0) (blk0 wr _) rfl) hroom (AL1.out _) (AL2.out _) ?_
            show K _ _
            refine hK.out _ _ (AL3.out _) (fun hHeld => ?_)
            clear hK K
            try simp only [Act.put, List.getElem_toArray, List.getElem_cons_zero, List.getElem_cons_succ, List.setIfInBounds_toArray, List.set_cons_zero, List.set_cons_succ]
            refine wpAnyH_take (i := 17) (v := ?vbx1) rfl (by kernel_rfl) (by kernel_rfl) (by kernel_rfl) (fun _ _ _ h => h) (Or.inl ⟨by kernel_rfl, ?hbx1⟩) (by assumption) ?rbx1
            case hbx1 => (intro w hSw; (try dsimp only at hSw); go_simp; try with_reducible rfl)
            try simp only [Act.put, List.getElem_toArray, List.getElem_cons_zero, List.getElem_cons_succ, List.setIfInBounds_toArray, List.set_cons_zero, List.set_cons_succ]
            refine wpAnyH_ready (rs := [18]) (by kernel_rfl) (by simp) ?_
            refine AllReadyH.cons rfl (fun K hK => ?_) AllReadyH.nil
            obtain ⟨y0, y1⟩ := AL5.out (.cells #[.int .i64 (-2 * (j : Int) - 3)] 3)
            go_simp
            refine hK.out _ _ (AL4.out _) (fun hHeld => ?_)
            clear hK K
            try simp only [Act.put, List.getElem_toArray, List.getElem_cons_zero, List.getElem_cons_succ, List.setIfInBounds_toArray, List.set_cons_zero, List.set_cons_succ]
            refine wpAnyH_done (by kernel_rfl) ?_ _
            go_wp2_with fail
            go_roundw
            case rel => exact REL.out _
            case measure => exact MEA.out _
          · go_simp
            refine hK.out _ _ (cell_of (i := 0) (blkOld _ HBQ.out) rfl) (fun hHeld => ?_)
            clear hK K
            try simp only [Act.put, List.getElem_toArray, List.getElem_cons_zero, List.getElem_cons_succ, List.setIfInBounds_toArray, List.set_cons_zero, List.set_cons_succ]
            refine wpAnyH_ready (rs := [11]) (by kernel_rfl) (by simp) ?_
            refine AllReadyH.cons rfl (fun K hK => ?_) AllReadyH.nil
            go_simp
            refine hK.out _ _ (cell_of (i := 0) (blkOld _ HBQ.out) rfl) (fun hHeld => ?_)
            clear hK K
            try simp only [Act.put, List.getElem_toArray, List.getElem_cons_zero, List.getElem_cons_succ, List.setIfInBounds_toArray, List.set_cons_zero, List.set_cons_succ]
            refine wpAnyH_ready (rs := [16]) (by kernel_rfl) (by simp) ?_
            refine AllReadyH.cons rfl (fun K hK => ?_) AllReadyH.nil
            refine step_append_room _ (by rfl) _ _ (by rfl) rs[j].1 nn rs[j].2.2 wr.heap.size (-2 * (j : Int) - 3) (by rfl) (by rfl) (cell_of (i := 0) (blk0 wr _) rfl) hroom (AL1.out _) (AL2.out _) ?_
            show K _ _
            refine hK.out _ _ (AL3.out _) (fun hHeld => ?_)
            clear hK K
            try simp only [Act.put, List.getElem_toArray, List.getElem_cons_zero, List.getElem_cons_succ, List.setIfInBounds_toArray, List.set_cons_zero, List.set_cons_succ]
            refine wpAnyH_take (i := 17) (v := ?vcx1) rfl (by kernel_rfl) (by kernel_rfl) (by kernel_rfl) (fun _ _ _ h => h) (Or.inl ⟨by kernel_rfl, ?hcx1⟩) (by assumption) ?rcx1
            case hcx1 => (intro w hSw; (try dsimp only at hSw); go_simp; try with_reducible rfl)
            try simp only [Act.put, List.getElem_toArray, List.getElem_cons_zero, List.getElem_cons_succ, List.setIfInBounds_toArray, List.set_cons_zero, List.set_cons_succ]
            refine wpAnyH_ready (rs := [18]) (by kernel_rfl) (by simp) ?_
            refine AllReadyH.cons rfl (fun K hK => ?_) AllReadyH.nil
            obtain ⟨y0, y1⟩ := AL5.out (.cells #[.int .i64 (-2 * (j : Int) - 3)] 3)
            go_simp
            refine hK.out _ _ (AL4.out _) (fun hHeld => ?_)
            clear hK K
            try simp only [Act.put, List.getElem_toArray, List.getElem_cons_zero, List.getElem_cons_succ, List.setIfInBounds_toArray, List.set_cons_zero, List.set_cons_succ]
            refine wpAnyH_done (by kernel_rfl) ?_ _
            go_wp2_with fail
            go_roundw
            case rel => exact REL.out _
            case measure => exact MEA.out _
        · have hne : nn = goal rs[j] := by omega
          go_wp2_with fail
          go_roundw
          case rel => exact ⟨j + 1, f', hlt, by go_num, HG'.out, fun i h h2 => by
              by_cases e : i = j
              · subst e; rw [HFN.out, hne]
              · exact HF1'.out i h (by omega), fun i h h2 => HF2'.out i h (by omega), HK'.out⟩
          case measure => simp [intOf]; omega
    · have hje : j = rs.length := by omega
      have HGO := hid (show ∀ i, (h : i < rs.length) → f i = goal rs[i] from fun i h => HF1.out i h (by omega))
      clear hG hje
      go_wp2_with fail
      go_loopw [5] (fun i wq => ∃ j2 : Nat, j2 ≤ rs.length ∧ i = .int .i64 j2 ∧ wq = wr) (fun i _ => rs.length - (intOf i).toNat)
      case atStart => exact ⟨0, Nat.zero_le _, rfl, rfl⟩
      case round =>
        obtain ⟨j2, hj2, rfl, rfl⟩ := hrel
        by_cases hlt2 : j2 < rs.length
        · have hlt2' : (j2 : Int) < rs.length := by omega
          have l0 := HG.out.cells hlt2
          have n0 := HG.out.lens hlt2
          rw [HGO.out j2 hlt2] at l0
          have hmj : rs[j2] ∈ rs := List.getElem_mem hlt2
          have hl1 : rs[j2].2.1 ≤ 1000 := HLL.out _ hmj
          obtain ⟨h1, h3, h4, h5, cu, hcu, hcs, hci, hm1, hm2⟩ := HG.out.grown j2 hlt2
          rw [HGO.out j2 hlt2] at h3 h4 hm2
          obtain ⟨g1, g2, g3⟩ := goal_le (r := rs[j2]) (by omega)
          have hgl : goal rs[j2] ≤ 71000 := by
            have := g3
            unfold roomI at this
            split at this <;> omega
          have HCU := hid (And.intro hcu (And.intro hm1 hm2))
          have hw1 : IntKind.i64.wrap (-2 * (j2 : Int)) = -2 * (j2 : Int) := wrap_small _ (by omega) (by omega)
          have hw2 : IntKind.i64.wrap (-2 * (j2 : Int) - 2) = -2 * (j2 : Int) - 2 := wrap_small _ (by omega) (by omega)
          have hw3 : IntKind.i64.wrap (-2 * (j2 : Int) - 3) = -2 * (j2 : Int) - 3 := wrap_small _ (by omega) (by omega)
          clear hcu hcs hci hm1 hm2 g3
          go_wp2_with fail
          go_loopw [6] (fun k wq => ∃ kk : Nat, kk ≤ goal rs[j2] ∧ k = .int .i64 kk ∧ wq = wr) (fun k _ => goal rs[j2] - (intOf k).toNat)
          case atStart => exact ⟨0, Nat.zero_le _, rfl, rfl⟩
          case round =>
            obtain ⟨kk, hkk, rfl, rfl⟩ := hrel
            by_cases hkl : kk < goal rs[j2]
            · have hkl' : (kk : Int) < (goal rs[j2] : Int) := by omega
              by_cases hk2 : kk < rs[j2].2.1
              · have c0 := cell_of HCU.out.1 (HCU.out.2.1 kk hk2)
                have hd : decide ((rs[j2].2.1 : Int) ≤ kk) = false := decide_eq_false (by omega)
                have hq1 : ((-2 * ((j2 : Int) + 1)) != (-2 * (j2 : Int) - 2)) = false := by rw [bne_eq_false_iff_eq]; omega
                go_wp2_with fail
                go_roundw
                case rel => exact ⟨kk + 1, hkl, by go_num, trivial⟩
                case measure => simp [intOf]; omega
              · have c0 := cell_of HCU.out.1 (HCU.out.2.2 kk (by omega) hkl)
                have hd : decide ((rs[j2].2.1 : Int) ≤ kk) = true := decide_eq_true (by omega)
                go_wp2_with fail
                go_roundw
                case rel => exact ⟨kk + 1, hkl, by go_num, trivial⟩
                case measure => simp [intOf]; omega
            · go_wp2_with fail
              go_roundw
              case rel => exact ⟨j2 + 1, hlt2, by go_num, trivial⟩
              case measure => simp [intOf]; omega
        · go_wp2_with fail
          go_ret
          exact ⟨rfl, HK.out⟩
end Go.Proofs.Ythdmoghooaccgaa
/-
  Whole of the statements' Paths, by a contract, of any book; Take of any path.
-/
namespace Go.Proofs.Ythdmoghooaccgaa
open Go.RowKit
set_option maxRecDepth 100000 in
theorem whole_nil (w : World) (b base : Nat) (lv nv : Value) (sz : Int) (h : PBook w b base lv nv [] sz) : Calls Try.prog 26 #[.pointer (some ⟨b, 0, none⟩)] w fun e w' => e = .returned (.bool true) ∧ w' = w := by
  obtain ⟨lb, lc, rfl⟩ := ownsRow_slice h.rowL
  obtain ⟨b0, b1, b2, b3⟩ := four_of h.box
  simp only [List.length_nil] at b0
  clear h
  go_enter Try.func26, Try.ntmps26
  go_wp2_with fail
  refine (take_none _ b).mono ?_
  rintro e w1 ⟨⟨v, rfl⟩, rfl⟩
  go_wp2_with fail
  go_loopw [3] (fun i wr => i = .int .i64 0 ∧ wr = w1) (fun _ _ => 0)
  case atStart => exact ⟨rfl, rfl⟩
  case round =>
    obtain ⟨rfl, rfl⟩ := hrel
    go_wp2_with fail
    go_loopw [5] (fun i wq => i = .int .i64 0 ∧ wq = wr) (fun _ _ => 0)
    case atStart => exact ⟨rfl, rfl⟩
    case round =>
      obtain ⟨rfl, rfl⟩ := hrel
      go_wp2_with fail
      go_ret
      exact ⟨rfl, rfl⟩
theorem whole_any (w : World) (b base : Nat) (lv nv : Value) (rs : List PR) (sz : Int) (h : PBook w b base lv nv rs sz) (hrl : rs.length ≤ 5000) (hll : ∀ r ∈ rs, r.2.1 ≤ 1000) : Calls Try.prog 26 #[.pointer (some ⟨b, 0, none⟩)] w fun e w' => e = .returned (.bool true) ∧ Kp (fun q => ¬ Bk b lv nv rs q) w w' := by
  by_cases h0 : rs.length = 0
  · obtain rfl : rs = [] := List.eq_nil_of_length_eq_zero h0
    exact (whole_nil w b base lv nv sz h).mono (fun e w' hh => ⟨hh.1, by rw [hh.2]; exact Kp.refl _ _⟩)
  · rcases h.rowL.2 with ⟨_, h1⟩ | ⟨lb, lc, cl, rfl, _⟩
    · exact absurd h1 h0
    · rcases h.rowN.2 with ⟨_, h1⟩ | ⟨nb, nc, cn, rfl, _⟩
      · exact absurd h1 h0
      · exact whole_some w b base lb lc nb nc rs sz h hrl hll
/-- Take of any path of one's own. -/
theorem take_path (w : World) (b base pb : Nat) (lv nv : Value) (rs : List PR) (sz : Int) (pv : Value) (p : List Int) (h : PBook w b base lv nv rs sz) (hbs : base ≤ w.heap.size) (hpb : w.heap[pb]? = some (.cells #[pv] 27)) (hp : PathW w base pv p) (hpl : p.length ≤ 1000)
    (hgn : ∀ q, pv.ownBlock = some q → ¬ Bk b lv nv rs q) (hpn : ¬ Bk b lv nv rs pb) (hrl : rs.length ≤ 5000) (hll : ∀ r ∈ rs, r.2.1 ≤ 1000) (hsz : 0 ≤ sz) (hsz' : sz ≤ 4000000000000) :
    Calls Try.prog 25 #[.pointer (some ⟨b, 0, none⟩), .slice (some ⟨pb, 0, none⟩) 1 1] w fun e w' => (∃ v, e = .returned v) ∧ ∃ lv' nv' rs' sz', PBook w' b base lv' nv' rs' sz' ∧ rs'.length ≤ rs.length + 1 ∧ 0 ≤ sz' ∧ sz' ≤ sz + 100000 ∧ (∀ r ∈ rs', r.2.1 ≤ 1000) ∧ Kp (fun q => ¬ (Bk b lv nv rs q ∨ pv.ownBlock = some q)) w w' ∧ (∀ q, Bk b lv' nv' rs' q → Bk b lv nv rs q ∨ pv.ownBlock = some q ∨ w.heap.size ≤ q) := by
  rcases hp.2 with ⟨rfl, _⟩ | ⟨g, cap, cur, rfl, h1, h2, h3, h4, h5, h6⟩
  · refine (take_nil w b base pb lv nv rs sz h hpb hpn hsz hsz').mono (fun e w' hh => ?_)
    obtain ⟨he, hk, sz', hb, h7, h8⟩ := hh
    exact ⟨he, lv, nv, rs, sz', hb, Nat.le_succ _, h7, h8, hll, hk.mono (fun q _ hq e => hq (.inl (.inl e))), fun q hq => .inl hq⟩
  · have hc8 : ∀ k, k < cap → ∃ v : Value, cur[k]? = some v := fun k hk => ⟨cur[k]'(by omega), Array.getElem?_eq_getElem (by omega)⟩
    refine (take_any w b base pb lv nv rs sz g p.length cap cur h hbs hpb h2 h1 h3 h4 (by omega) hc8 hpl (hgn g rfl) hpn hrl hsz hsz').mono (fun e w' hh => ?_)
    obtain ⟨he, lv', nv', rs', sz', hb, h7, h8, h9, h10, hk, hq⟩ := hh
    exact ⟨he, lv', nv', rs', sz', hb, h7, h8, h9, fun r hr => (h10 r hr).elim (hll r) id, hk.mono (fun q _ hq e => hq (e.imp id (fun h => by rw [h]; rfl))), fun q hq' => (hq q hq').imp id (Or.imp (fun h => by rw [h]; rfl) id)⟩
end Go.Proofs.Ythdmoghooaccgaa
