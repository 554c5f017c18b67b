/-
  Whole of the statements' Book, by a contract: each list holds its own marks alone.
-/
import Derived.Test.YtbpbkihcfdnphaaDoorVWSt
namespace Go.Proofs.YtbpbkihcfdnphaaDoor
open Go.RowKit
theorem neq_any (x y : Int) (w : World) : (binOp .neq 30 (.iface 58 (.int .i64 x)) (.iface 58 (.int .i64 y))).run Tryd.prog w = .ok (.bool (!(x == y))) w := by kernel_rfl
theorem neq_mk (x : Int) (w : World) : (binOp .neq 30 (.iface 58 (.int .i64 x)) (.iface 58 (.int .i64 x))).run Tryd.prog w = .ok (.bool false) w := (neq_any x x w).trans (by simp)
attribute [local go_sem] as_in_in as_tx_in neq_mk
def lenOf : Option Value → Nat | some (.slice _ m _) => m | _ => 0
theorem nAt'_len {rs : List (Nat × Nat × Nat)} {i : Nat} (h : lenAt rs i ≤ capAt rs i) : lenAt rs i ≤ nAt' rs i := by unfold nAt'; omega
/-- But for the book's blocks and these what lay there lies as it lay. -/
def OffB (b : Nat) (lv nv : Value) (rs : List (Nat × Nat × Nat)) (ns : List Nat) (w w' : World) : Prop := Kp (fun q => ¬ VBk b lv nv rs q ∧ q ∉ ns) w w'
set_option maxRecDepth 100000 in
set_option maxHeartbeats 8000000 in
theorem vwhole_any (w : World) (b base : Nat) (lv nv kv : Value) (rs : List (Nat × Nat × Nat)) (sz : Int) (kts : List T) (kbss : List (List Nat)) (h : VB w b base lv nv kv rs sz) (hK : Keeps w base kv kts kbss) (hbs : base ≤ w.heap.size) (hnd : kbss.flatten.Nodup) (hba : ∀ q ∈ kbss.flatten, base ≤ q ∧ ¬ VBk b lv nv rs q) (hts : T.sizeL kts ≤ 1000000) (ht1 : ∀ t ∈ kts, t.size ≤ 65536) (hsz : 0 ≤ sz) (hsz' : sz ≤ 1000000000000000000) :
    Calls Tryd.prog 24 #[.pointer (some ⟨b, 0, none⟩)] w fun e w' => e = .returned (.bool true) ∧ OffB b lv nv rs kbss.flatten w w' := by
  obtain ⟨a, c, rfl, ht⟩ := hK.vals
  have CT := hid (vtake_any w b base lv nv (.slice a kts.length c) rs sz a c kts kbss h hbs ht hnd hba hts ht1 hsz hsz')
  obtain ⟨b0, b1, b2, b3⟩ := four_of h.box
  clear h hK ht hnd hba hts ht1
  go_enter Tryd.func24, Tryd.ntmps24
  go_wp2_with fail
  refine CT.out.mono ?_
  rintro e w1 ⟨⟨v, rfl⟩, lv1, nv1, rs1, sz1, hTB, _, _, hkp, hbk⟩
  obtain ⟨la, lc, rfl⟩ := ownsRow_slice hTB.rowL
  obtain ⟨na, nc, rfl⟩ := ownsRow_slice hTB.rowN
  obtain ⟨kv, hkv⟩ : ∃ kv, kv = Value.slice a kts.length c := ⟨_, rfl⟩
  rw [← hkv] at hTB
  have HND := hid hTB.nodup
  have HFIN := hid (show ∀ wr, Kp (fun q => ¬ VBk b (.slice la rs1.length lc) (.slice na rs1.length nc) rs1 q) w1 wr → OffB b lv nv rs kbss.flatten w wr from fun wr hk => Kp.chain hkp hk (fun q hq h e => by
    rcases hbk q e with h1 | h1 | h1
    · exact h.1 h1
    · exact h.2 h1
    · omega))
  have HB := hid (show ∀ i, (h : i < rs1.length) → lenAt rs1 i ≤ capAt rs1 i ∧ lenAt rs1 i ≤ 65536 from fun i hi => by
    obtain ⟨_, _, h3, h4, _⟩ := hTB.full i hi
    rw [lenAt_eq hi, capAt_eq hi]
    exact ⟨h3, h4⟩)
  have hrl : (rs1.length : Int) ≤ 209715 := by have := hTB.few; omega
  have HS0 := hid (show WSt w1 b la na lc nc sz1 kv rs1 (fAt rs1 0 (lenAt rs1 0)) (pAt rs1 0 0) w1 from hTB.wst.same (fun i hi => by unfold fAt; rw [if_neg (Nat.not_lt_zero _)]; split <;> simp_all) (fun i _ k _ => rfl))
  clear hTB hkp hbk b0 b1 b2 b3 CT hkv
  go_wp2_with fail
  go_loopw [3] (fun i wr => ∃ j : Nat, j ≤ rs1.length ∧ i = .int .i64 j ∧ WSt w1 b la na lc nc sz1 kv rs1 (fAt rs1 j (lenAt rs1 j)) (pAt rs1 0 0) wr) (fun i _ => rs1.length - (intOf i).toNat)
  case atStart => exact ⟨0, Nat.zero_le _, rfl, HS0.out⟩
  case round =>
    obtain ⟨j, hj, rfl, hst⟩ := hrel
    have HSJ := hid hst
    obtain ⟨b0, b1, b2, b3⟩ := four_of hst.box
    have hbl := lt_of_block hst.box
    clear hst HS0
    by_cases hlt : j < rs1.length
    · have hlt' : (j : Int) < rs1.length := by omega
      obtain ⟨L, lcur, rfl, hL, hLc⟩ := HSJ.out.row j hlt
      obtain ⟨M, ncur, rfl, hM, hMc⟩ := HSJ.out.num j hlt
      have hfj : fAt rs1 j (lenAt rs1 j) j = lenAt rs1 j := by unfold fAt; rw [if_neg (Nat.lt_irrefl _), if_pos rfl]
      rw [hfj] at hLc
      rw [← lenAt_eq hlt] at hMc
      have l0 := cell_of hL hLc
      have n0 := cell_of hM hMc
      have hLl := lt_of_block hL
      have hMl := lt_of_block hM
      obtain ⟨hb1, hb2⟩ := HB.out j hlt
      have hcap : (capAt rs1 j : Int) = rs1[j].2.2 := by rw [capAt_eq hlt]
      have HCAP := hid hcap
      obtain ⟨N, hN⟩ : ∃ N : Nat, N = nAt' rs1 j := ⟨_, rfl⟩
      have HN := hid hN
      have hNi : (N : Int) = min (rs1[j].2.2 : Int) ((lenAt rs1 j : Int) + 70000) := by rw [hN]; unfold nAt'; omega
      have hNl : lenAt rs1 j ≤ N := by rw [hN]; exact nAt'_len hb1
      have hNb : N ≤ 135536 := by rw [hN]; unfold nAt'; omega
      have HNC := hid (show N ≤ rs1[j].2.2 by rw [hN, ← capAt_eq hlt]; unfold nAt'; omega)
      have hlen : (lenAt rs1 j : Int) ≤ 65536 := by omega
      obtain ⟨lj, hlj⟩ : ∃ lj, lj = lenAt rs1 j := ⟨_, rfl⟩
      obtain ⟨cp, hcp⟩ : ∃ cp, cp = rs1[j].2.2 := ⟨_, rfl⟩
      obtain ⟨g, hg⟩ : ∃ g, g = rs1[j].1 := ⟨_, rfl⟩
      rw [← hlj] at hb1 hb2 hNi hNl hlen n0 l0
      rw [← hcp] at hNi HNC l0
      rw [← hg] at l0
      have HNI := hid hNi
      have HLJ := hid hlj
      have HCP := hid hcp
      have HGE := hid hg
      clear hN hNi hcap hL hM hLc hMc hfj hlj hcp hg hb1
      go_upto_region 5 with fail
      go_cut [4] from 19 to 70 (fun s4 wx => s4 = .int .i64 (N : Int) ∧ Ext wr wx)
      case first =>
        by_cases hmc : (cp : Int) ≤ (lj : Int) + 70000
        · have hme : (N : Int) = cp := by have := HNI.out; omega
          have HME := hid hme
          clear hme
          go_region
          all_goals
            go_wp2_with fail
            go_meet
            case rel => exact ⟨by rw [HME.out], by repeat (first | with_reducible exact Ext.refl _ | with_reducible refine Ext.drew ?_)⟩
        · have hme : (N : Int) = (lj : Int) + 70000 := by have := HNI.out; omega
          have HME := hid hme
          clear hme
          go_region
          all_goals
            go_wp2_with fail
            go_meet
            case rel => exact ⟨by rw [HME.out], by repeat (first | with_reducible exact Ext.refl _ | with_reducible refine Ext.drew ?_)⟩
      case rest =>
      obtain ⟨rfl, hxc⟩ := hcut
      have HSV := hid (HSJ.out.later hxc)
      clear hxc b0 b1 b2 b3 l0 n0 hbl hLl hMl HSJ
      go_wp2_with fail
      go_loopw [] (fun wq => ∃ m : Nat, lj ≤ m ∧ m ≤ N ∧ WSt w1 b (some ⟨L, 0, none⟩) (some ⟨M, 0, none⟩) lc nc sz1 kv rs1 (fAt rs1 j m) (pAt rs1 0 0) wq) (fun wq => N - lenOf (wq.cell? ⟨L, j, none⟩))
      case atStart => exact ⟨lj, Nat.le_refl _, hNl, by rw [HLJ.out]; exact HSV.out⟩
      case round =>
        obtain ⟨m, hm1, hm2, hst⟩ := hrel
        have HST := hid hst
        obtain ⟨L', lcur, eL, hL, hLc⟩ := hst.row j hlt
        cases eL
        have hfj : fAt rs1 j m j = m := by unfold fAt; rw [if_neg (Nat.lt_irrefl _), if_pos rfl]
        rw [hfj, ← HGE.out, ← HCP.out] at hLc
        have l0 := cell_of hL hLc
        have hLl := lt_of_block hL
        have hLb : b ≠ L := fun e => by have := ty_same hst.box (e ▸ hL); revert this; decide
        have HLB := hid hLb
        obtain ⟨b0, b1, b2, b3⟩ := four_of hst.box
        have hbl := lt_of_block hst.box
        obtain ⟨cs, hg0, hcz, hcs⟩ := hst.full j hlt
        rw [← HGE.out] at hg0
        rw [← HCP.out] at hcz
        rw [hfj] at hcs
        have HG := hid hg0
        have HCZ := hid hcz
        have HCS := hid hcs
        have hml : (m : Int) ≤ 135536 := by omega
        clear hst hLc hL hg0 hcz hcs hfj hLb
        by_cases hmN : m < N
        · have hmN' : (m : Int) < N := by omega
          have HMC := hid (show m + 1 ≤ cp by have := HNC.out; omega)
          have HPUT := hid (show ∀ (cs9 : Array Value) (w9 : World), cs9.size = cs.size → (∀ k, k ≠ m → cs9[k]? = cs[k]?) → cs9[m]? = some spV → w9.heap[g]? = some (.cells cs9 30) → Kp (· ≠ g) wr w9 → WSt w1 b (some ⟨L, 0, none⟩) (some ⟨M, 0, none⟩) lc nc sz1 kv rs1 (fAt rs1 j m) (pAt rs1 0 0) w9 ∧ WSt w1 b (some ⟨L, 0, none⟩) (some ⟨M, 0, none⟩) lc nc sz1 kv rs1 (fAt rs1 j (m + 1)) (pAt rs1 0 0) (w9.setCell ⟨L, j, none⟩ (.slice (some ⟨g, 0, none⟩) (m + 1) cp)) from fun cs9 w9 h1 h2 h3 h4 h5 => by
            have hfj : ∀ m, fAt rs1 j m j = m := fun m => by unfold fAt; rw [if_neg (Nat.lt_irrefl _), if_pos rfl]
            have hge := HGE.out
            have hcp := HCP.out
            subst hge
            subst hcp
            have a1 := HST.out.put (P' := pAt rs1 0 0) HND.out hlt HG.out h5 h4 h1 (fun k hk => by
              rw [hfj] at hk
              rw [h2 k (by omega)]; exact HCS.out k hk) (fun i _ _ k _ => rfl)
            have a2 := a1.entry (f' := fAt rs1 j (m + 1)) hlt (fun i hi hne => by unfold fAt; rw [if_neg hne, if_neg hne]) ⟨cs9, h4, by rw [h1]; exact HCZ.out, fun k hk => by
              rw [hfj] at hk
              by_cases e : k = m
              · subst e
                rw [h3, pAt, if_neg]
                rintro (e | e | ⟨_, e⟩)
                · rw [← HLJ.out] at e; omega
                · omega
                · omega
              · rw [h2 k e]; exact HCS.out k (by omega)⟩
            rw [hfj] at a2
            exact ⟨a1, a2⟩)
          go_upto_region 7 with fail
          refine wp_region_held_drew (S := fun W' => W'.cell? ⟨b, 0, none⟩ = some (.slice (some ⟨L, 0, none⟩) rs1.length lc)) (by kernel_rfl) (b0) (fun hHeld => ?_)
          refine wpAnyH_take (i := 0) (v := ?vax1) rfl (by kernel_rfl) (by kernel_rfl) (by kernel_rfl) (fun _ _ _ h => h) (Or.inl ⟨by kernel_rfl, ?hax1⟩) (by assumption) ?rax1
          case hax1 => (intro w hSw; (try dsimp only at hSw); go_simp; try with_reducible rfl)
          try simp only [Act.put, List.getElem_toArray, List.getElem_cons_zero, List.setIfInBounds_toArray, List.set_cons_zero, List.set_cons_succ]
          refine wpAnyH_take (i := 1) (v := ?vax2) rfl (by kernel_rfl) (by kernel_rfl) (by kernel_rfl) (fun _ _ _ h => h) (Or.inl ⟨by kernel_rfl, ?hax2⟩) (by assumption) ?rax2
          case hax2 => (intro w hSw; (try dsimp only at hSw); go_simp; try with_reducible rfl)
          try simp only [Act.put, List.getElem_toArray, List.getElem_cons_zero, List.getElem_cons_succ, List.setIfInBounds_toArray, List.set_cons_zero, List.set_cons_succ]
          refine wpAnyH_take (i := 2) (v := ?vax3) rfl (by kernel_rfl) (by kernel_rfl) (by kernel_rfl) (fun _ _ _ h => h) (Or.inl ⟨by kernel_rfl, ?hax3⟩) (by assumption) ?rax3
          case hax3 => (intro w hSw; (try dsimp only at hSw); go_simp; try with_reducible rfl)
          try simp only [Act.put, List.getElem_toArray, List.getElem_cons_zero, List.getElem_cons_succ, List.setIfInBounds_toArray, List.set_cons_zero, List.set_cons_succ]
          refine wpAnyH_take (i := 3) (v := ?vax4) rfl (by kernel_rfl) (by kernel_rfl) (by kernel_rfl) (fun _ _ _ h => h) (Or.inl ⟨by kernel_rfl, ?hax4⟩) (by assumption) ?rax4
          case hax4 => (intro w hSw; (try dsimp only at hSw); go_simp; try with_reducible rfl)
          try simp only [Act.put, List.getElem_toArray, List.getElem_cons_zero, List.getElem_cons_succ, List.setIfInBounds_toArray, List.set_cons_zero, List.set_cons_succ]
          refine wpAnyH_take (i := 4) (v := ?vax5) rfl (by kernel_rfl) (by kernel_rfl) (by kernel_rfl) (fun _ _ _ h => h) (Or.inl ⟨by kernel_rfl, ?hax5⟩) (by assumption) ?rax5
          case hax5 => (intro w hSw; (try dsimp only at hSw); go_simp; try with_reducible rfl)
          try simp only [Act.put, List.getElem_toArray, List.getElem_cons_zero, List.getElem_cons_succ, List.setIfInBounds_toArray, List.set_cons_zero, List.set_cons_succ]
          refine wpAnyH_take (i := 5) (v := ?vax6) rfl (by kernel_rfl) (by kernel_rfl) (by kernel_rfl) (fun _ _ _ h => h) (Or.inl ⟨by kernel_rfl, ?hax6⟩) (by assumption) ?rax6
          case hax6 => (intro w hSw; (try dsimp only at hSw); go_simp; try with_reducible rfl)
          try simp only [Act.put, List.getElem_toArray, List.getElem_cons_zero, List.getElem_cons_succ, List.setIfInBounds_toArray, List.set_cons_zero, List.set_cons_succ]
          refine wpAnyH_take (i := 6) (v := ?vax7) rfl (by kernel_rfl) (by kernel_rfl) (by kernel_rfl) (fun _ _ _ h => h) (Or.inl ⟨by kernel_rfl, ?hax7⟩) (by assumption) ?rax7
          case hax7 => (intro w hSw; (try dsimp only at hSw); go_simp; try with_reducible rfl)
          try simp only [Act.put, List.getElem_toArray, List.getElem_cons_zero, List.getElem_cons_succ, List.setIfInBounds_toArray, List.set_cons_zero, List.set_cons_succ]
          refine wpAnyH_take (i := 7) (v := ?vax8) rfl (by kernel_rfl) (by kernel_rfl) (by kernel_rfl) (fun _ _ _ h => h) (Or.inl ⟨by kernel_rfl, ?hax8⟩) (by assumption) ?rax8
          case hax8 => (intro w hSw; (try dsimp only at hSw); go_simp; try with_reducible rfl)
          try simp only [Act.put, List.getElem_toArray, List.getElem_cons_zero, List.getElem_cons_succ, List.setIfInBounds_toArray, List.set_cons_zero, List.set_cons_succ]
          refine wpAnyH_take (i := 8) (v := ?vax9) rfl (by kernel_rfl) (by kernel_rfl) (by kernel_rfl) (fun _ _ _ h => h) (Or.inl ⟨by kernel_rfl, ?hax9⟩) (by assumption) ?rax9
          case hax9 => (intro w hSw; (try dsimp only at hSw); go_simp; try with_reducible rfl)
          try simp only [Act.put, List.getElem_toArray, List.getElem_cons_zero, List.getElem_cons_succ, List.setIfInBounds_toArray, List.set_cons_zero, List.set_cons_succ]
          refine wpAnyH_take (i := 9) (v := ?vax10) rfl (by kernel_rfl) (by kernel_rfl) (by kernel_rfl) (fun _ _ _ h => h) (Or.inl ⟨by kernel_rfl, ?hax10⟩) (by assumption) ?rax10
          case hax10 => (intro w hSw; (try dsimp only at hSw); go_simp; try with_reducible rfl)
          try simp only [Act.put, List.getElem_toArray, List.getElem_cons_zero, List.getElem_cons_succ, List.setIfInBounds_toArray, List.set_cons_zero, List.set_cons_succ]
          refine wpAnyH_take (i := 10) (v := ?vax11) rfl (by kernel_rfl) (by kernel_rfl) (by kernel_rfl) (fun _ _ _ h => h) (Or.inl ⟨by kernel_rfl, ?hax11⟩) (by assumption) ?rax11
          case hax11 => (intro w hSw; (try dsimp only at hSw); go_simp; try with_reducible rfl)
          try simp only [Act.put, List.getElem_toArray, List.getElem_cons_zero, List.getElem_cons_succ, List.setIfInBounds_toArray, List.set_cons_zero, List.set_cons_succ]
          refine wpAnyH_take (i := 12) (v := ?vax12) rfl (by kernel_rfl) (by kernel_rfl) (by kernel_rfl) (fun _ _ _ h => h) (Or.inl ⟨by kernel_rfl, ?hax12⟩) (by assumption) ?rax12
          case hax12 => (intro w hSw; (try dsimp only at hSw); go_simp; try with_reducible rfl)
          try simp only [Act.put, List.getElem_toArray, List.getElem_cons_zero, List.getElem_cons_succ, List.setIfInBounds_toArray, List.set_cons_zero, List.set_cons_succ]
          refine wpAnyH_ready (rs := [11, 13]) (by kernel_rfl) (by simp) ?_
          refine AllReadyH.cons rfl (fun K hK => ?_) (AllReadyH.cons rfl (fun K hK => ?_) AllReadyH.nil)
          · go_simp
            refine hK.out _ _ (b0) (fun hHeld => ?_)
            clear hK K
            try simp only [Act.put, List.getElem_toArray, List.getElem_cons_zero, List.getElem_cons_succ, List.setIfInBounds_toArray, List.set_cons_zero, List.set_cons_succ]
            refine wpAnyH_ready (rs := [13]) (by kernel_rfl) (by simp) ?_
            refine AllReadyH.cons rfl (fun K hK => ?_) AllReadyH.nil
            go_simp
            refine hK.out _ _ (((Ext.alloc wr _).kp (fun _ => True)).cell b0 trivial) (fun hHeld => ?_)
            clear hK K
            try simp only [Act.put, List.getElem_toArray, List.getElem_cons_zero, List.getElem_cons_succ, List.setIfInBounds_toArray, List.set_cons_zero, List.set_cons_succ]
            refine wpAnyH_ready (rs := [14]) (by kernel_rfl) (by simp) ?_
            refine AllReadyH.cons rfl (fun K hK => ?_) AllReadyH.nil
            refine step_room _ (by rfl) _ _ (by rfl) g m cp cs spV (by rfl) (by rfl) ⟨wr.heap.size, 0, none⟩ (by rfl) (fun e u he => by match e, he with | 0, he => cases he; exact cell_of (i := 0) (blk0 wr _) rfl) ((show Ext wr _ from (by repeat (first | with_reducible exact Ext.refl _ | with_reducible refine Ext.drew ?_ | with_reducible refine Ext.more ?_ _))).block HG.out) HMC.out (by rw [HCZ.out]; exact HMC.out) ?_
            intro cs9 w9 hz9 ho9 hm9 hg9 hk9
            have HW9 := hid (HPUT.out cs9 w9 hz9 ho9 hm9 hg9 (((show Ext wr _ from (by repeat (first | with_reducible exact Ext.refl _ | with_reducible refine Ext.drew ?_ | with_reducible refine Ext.more ?_ _))).kp _).trans hk9))
            obtain ⟨L', cur9, eL, hL9, hc9⟩ := HW9.out.1.row j hlt
            cases eL
            have hj9 : j < cur9.size := by rcases Nat.lt_or_ge j cur9.size with h | h <;> first | exact h | (rw [Array.getElem?_eq_none h] at hc9; cases hc9)
            have y0 := cell_of hL9 hc9
            have y1 := frozen_of (i := j) hL9
            have y2 := lt_of_block hL9
            have b9 := cell_of (i := 0) HW9.out.1.box rfl
            simp only [List.getElem_toArray, List.getElem_cons_zero] at b9
            show K _ _
            refine hK.out _ _ (b9) (fun hHeld => ?_)
            clear hK K
            try simp only [Act.put, List.getElem_toArray, List.getElem_cons_zero, List.getElem_cons_succ, List.setIfInBounds_toArray, List.set_cons_zero, List.set_cons_succ]
            refine wpAnyH_take (i := 15) (v := ?vex1) rfl (by kernel_rfl) (by kernel_rfl) (by kernel_rfl) (fun _ _ _ h => h) (Or.inl ⟨by kernel_rfl, ?hex1⟩) (by assumption) ?rex1
            case hex1 => (intro w hSw; (try dsimp only at hSw); go_simp; try with_reducible rfl)
            try simp only [Act.put, List.getElem_toArray, List.getElem_cons_zero, List.getElem_cons_succ, List.setIfInBounds_toArray, List.set_cons_zero, List.set_cons_succ]
            refine wpAnyH_ready (rs := [16]) (by kernel_rfl) (by simp) ?_
            refine AllReadyH.cons rfl (fun K hK => ?_) AllReadyH.nil
            go_simp
            refine hK.out _ _ ((Kp.set (K := (· ≠ L)) w9 L j _ (fun h => h rfl)).cell b9 (HLB.out)) (fun hHeld => ?_)
            clear hK K
            try simp only [Act.put, List.getElem_toArray, List.getElem_cons_zero, List.getElem_cons_succ, List.setIfInBounds_toArray, List.set_cons_zero, List.set_cons_succ]
            refine wpAnyH_done (by kernel_rfl) ?_ _
            go_wp2_with fail
            go_roundw
            case rel => exact ⟨m + 1, by omega, by omega, HW9.out.2⟩
            case measure =>
              have k9 : (w9.setCell ⟨L, j, none⟩ (.slice (some ⟨g, 0, none⟩) (m + 1) cp)).cell? ⟨L, j, none⟩ = some (.slice (some ⟨g, 0, none⟩) (m + 1) cp) := cell_of (set_at hL9 j _) (set_get _ hj9)
              simp only [k9, l0, lenOf]
              omega
          · go_simp
            refine hK.out _ _ (((Ext.alloc wr _).kp (fun _ => True)).cell b0 trivial) (fun hHeld => ?_)
            clear hK K
            try simp only [Act.put, List.getElem_toArray, List.getElem_cons_zero, List.getElem_cons_succ, List.setIfInBounds_toArray, List.set_cons_zero, List.set_cons_succ]
            refine wpAnyH_ready (rs := [11]) (by kernel_rfl) (by simp) ?_
            refine AllReadyH.cons rfl (fun K hK => ?_) AllReadyH.nil
            go_simp
            refine hK.out _ _ (((Ext.alloc wr _).kp (fun _ => True)).cell b0 trivial) (fun hHeld => ?_)
            clear hK K
            try simp only [Act.put, List.getElem_toArray, List.getElem_cons_zero, List.getElem_cons_succ, List.setIfInBounds_toArray, List.set_cons_zero, List.set_cons_succ]
            refine wpAnyH_ready (rs := [14]) (by kernel_rfl) (by simp) ?_
            refine AllReadyH.cons rfl (fun K hK => ?_) AllReadyH.nil
            refine step_room _ (by rfl) _ _ (by rfl) g m cp cs spV (by rfl) (by rfl) ⟨wr.heap.size, 0, none⟩ (by rfl) (fun e u he => by match e, he with | 0, he => cases he; exact cell_of (i := 0) (blk0 wr _) rfl) ((show Ext wr _ from (by repeat (first | with_reducible exact Ext.refl _ | with_reducible refine Ext.drew ?_ | with_reducible refine Ext.more ?_ _))).block HG.out) HMC.out (by rw [HCZ.out]; exact HMC.out) ?_
            intro cs9 w9 hz9 ho9 hm9 hg9 hk9
            have HW9 := hid (HPUT.out cs9 w9 hz9 ho9 hm9 hg9 (((show Ext wr _ from (by repeat (first | with_reducible exact Ext.refl _ | with_reducible refine Ext.drew ?_ | with_reducible refine Ext.more ?_ _))).kp _).trans hk9))
            obtain ⟨L', cur9, eL, hL9, hc9⟩ := HW9.out.1.row j hlt
            cases eL
            have hj9 : j < cur9.size := by rcases Nat.lt_or_ge j cur9.size with h | h <;> first | exact h | (rw [Array.getElem?_eq_none h] at hc9; cases hc9)
            have y0 := cell_of hL9 hc9
            have y1 := frozen_of (i := j) hL9
            have y2 := lt_of_block hL9
            have b9 := cell_of (i := 0) HW9.out.1.box rfl
            simp only [List.getElem_toArray, List.getElem_cons_zero] at b9
            show K _ _
            refine hK.out _ _ (b9) (fun hHeld => ?_)
            clear hK K
            try simp only [Act.put, List.getElem_toArray, List.getElem_cons_zero, List.getElem_cons_succ, List.setIfInBounds_toArray, List.set_cons_zero, List.set_cons_succ]
            refine wpAnyH_take (i := 15) (v := ?vfx1) rfl (by kernel_rfl) (by kernel_rfl) (by kernel_rfl) (fun _ _ _ h => h) (Or.inl ⟨by kernel_rfl, ?hfx1⟩) (by assumption) ?rfx1
            case hfx1 => (intro w hSw; (try dsimp only at hSw); go_simp; try with_reducible rfl)
            try simp only [Act.put, List.getElem_toArray, List.getElem_cons_zero, List.getElem_cons_succ, List.setIfInBounds_toArray, List.set_cons_zero, List.set_cons_succ]
            refine wpAnyH_ready (rs := [16]) (by kernel_rfl) (by simp) ?_
            refine AllReadyH.cons rfl (fun K hK => ?_) AllReadyH.nil
            go_simp
            refine hK.out _ _ ((Kp.set (K := (· ≠ L)) w9 L j _ (fun h => h rfl)).cell b9 (HLB.out)) (fun hHeld => ?_)
            clear hK K
            try simp only [Act.put, List.getElem_toArray, List.getElem_cons_zero, List.getElem_cons_succ, List.setIfInBounds_toArray, List.set_cons_zero, List.set_cons_succ]
            refine wpAnyH_done (by kernel_rfl) ?_ _
            go_wp2_with fail
            go_roundw
            case rel => exact ⟨m + 1, by omega, by omega, HW9.out.2⟩
            case measure =>
              have k9 : (w9.setCell ⟨L, j, none⟩ (.slice (some ⟨g, 0, none⟩) (m + 1) cp)).cell? ⟨L, j, none⟩ = some (.slice (some ⟨g, 0, none⟩) (m + 1) cp) := cell_of (set_at hL9 j _) (set_get _ hj9)
              simp only [k9, l0, lenOf]
              omega
        · have hme : m = N := by omega
          have HNX := hid (show WSt w1 b (some ⟨L, 0, none⟩) (some ⟨M, 0, none⟩) lc nc sz1 kv rs1 (fAt rs1 (j + 1) (lenAt rs1 (j + 1))) (pAt rs1 0 0) wr from HST.out.same (fun i _ => by
            subst hme
            unfold fAt
            by_cases e1 : i < j
            · rw [if_pos e1, if_pos (by omega)]
            · by_cases e2 : i = j
              · rw [if_neg e1, if_pos e2, if_pos (by omega), HN.out, e2]
              · rw [if_neg e1, if_neg e2, if_neg (by omega)]
                by_cases e3 : i = j + 1
                · rw [if_pos e3, e3]
                · rw [if_neg e3]) (fun i _ k _ => rfl))
          clear hme
          go_wp2_with fail
          go_roundw
          case rel => exact ⟨j + 1, hlt, by go_num, HNX.out⟩
          case measure => simp [intOf]; omega
    · have hje : j = rs1.length := by omega
      have HSA := hid (show WSt w1 b la na lc nc sz1 kv rs1 (nAt' rs1) (pAt rs1 0 0) wr from HSJ.out.same (fun i hi => by unfold fAt; rw [if_pos (by omega)]) (fun i _ k _ => rfl))
      clear hje HSJ
      obtain ⟨VA, hVA⟩ : ∃ VA, VA = wr := ⟨wr, rfl⟩
      rw [← hVA] at HSA
      go_wp2_with fail
      go_loopw [5] (fun i wq => ∃ j2 : Nat, j2 ≤ rs1.length ∧ i = .int .i64 j2 ∧ Ext VA wq) (fun i _ => rs1.length - (intOf i).toNat)
      case atStart => exact ⟨0, Nat.zero_le _, rfl, by rw [hVA]; exact Ext.refl _⟩
      case round =>
        clear hVA
        obtain ⟨j2, hj2, rfl, hx⟩ := hrel
        have HX2 := hid hx
        have hst := HSA.out.later hx
        clear b0 b1 b2 b3 hbl
        obtain ⟨b0, b1, b2, b3⟩ := four_of hst.box
        have hbl := lt_of_block hst.box
        clear hst hx
        by_cases hlt2 : j2 < rs1.length
        · have hlt2' : (j2 : Int) < rs1.length := by omega
          obtain ⟨L, lcur, rfl, hL, hLc⟩ := HSA.out.row j2 hlt2
          obtain ⟨M, ncur, rfl, hM, hMc⟩ := HSA.out.num j2 hlt2
          obtain ⟨cs, hG, hcz, hcs⟩ := HSA.out.full j2 hlt2
          obtain ⟨hb1, hb2⟩ := HB.out j2 hlt2
          obtain ⟨N, hN⟩ : ∃ N : Nat, N = nAt' rs1 j2 := ⟨_, rfl⟩
          obtain ⟨lj, hlj⟩ : ∃ lj, lj = lenAt rs1 j2 := ⟨_, rfl⟩
          obtain ⟨cp, hcp⟩ : ∃ cp, cp = rs1[j2].2.2 := ⟨_, rfl⟩
          obtain ⟨g, hg⟩ : ∃ g, g = rs1[j2].1 := ⟨_, rfl⟩
          have hNb : N ≤ 135536 := by rw [hN]; unfold nAt'; omega
          rw [← lenAt_eq hlt2, ← hlj] at hMc
          rw [← hN, ← hcp, ← hg] at hLc
          rw [← hg] at hG
          rw [← hN] at hcs
          rw [← hlj] at hb1 hb2
          have HCS := hid (show ∀ k, k < N → (k < lj → cs[k]? = some (mkV j2)) ∧ (¬ k < lj → cs[k]? = some spV) from fun k hk => ⟨fun h => by rw [hcs k hk, pAt, if_pos (.inl (by rw [← hlj]; exact h))], fun h => by
            rw [hcs k hk, pAt, if_neg]
            rintro (e | e | ⟨_, e⟩)
            · rw [← hlj] at e; exact h e
            · omega
            · omega⟩)
          have HL := hid (cell_of hL hLc)
          have HM := hid (cell_of hM hMc)
          have HG := hid hG
          clear hL hLc hM hMc hG hcz hcs hN hlj hcp hg hb1
          go_wp2_with fail
          go_loopw [6] (fun k wq => ∃ kk : Nat, kk ≤ N ∧ k = .int .i64 kk ∧ Ext VA wq) (fun k _ => N - (intOf k).toNat)
          case atStart => exact ⟨0, Nat.zero_le _, rfl, HX2.out⟩
          case round =>
            obtain ⟨kk, hkk, rfl, hx⟩ := hrel
            have HX3 := hid hx
            have l0 := (hx.kp (fun _ => True)).cell HL.out trivial
            have n0 := (hx.kp (fun _ => True)).cell HM.out trivial
            have hgw := hx.block HG.out
            clear b0 b1 b2 b3 hbl
            obtain ⟨b0, b1, b2, b3⟩ := four_of (hx.block HSA.out.box)
            have hbl := lt_of_cell b0
            have hLl := lt_of_cell l0
            have hMl := lt_of_cell n0
            have hgl := lt_of_block hgw
            clear hx
            by_cases hkl : kk < N
            · have hkl' : (kk : Int) < N := by omega
              by_cases hkj : kk < lj
              · have c0 := cell_of hgw ((HCS.out kk hkl).1 hkj)
                have hkj' : decide ((kk : Int) < lj) = true := decide_eq_true (by omega)
                clear hgw
                go_wp2_with fail
                go_roundw
                case rel => exact ⟨kk + 1, hkl, by go_num, by repeat (first | with_reducible exact HX3.out | with_reducible refine Ext.drew ?_)⟩
                case measure => simp [intOf]; omega
              · have c0 := cell_of hgw ((HCS.out kk hkl).2 hkj)
                have hkj' : decide ((kk : Int) < lj) = false := decide_eq_false (by omega)
                clear hgw
                go_wp2_with fail
                go_roundw
                case rel => exact ⟨kk + 1, hkl, by go_num, by repeat (first | with_reducible exact HX3.out | with_reducible refine Ext.drew ?_)⟩
                case measure => simp [intOf]; omega
            · clear hgw
              go_wp2_with fail
              go_roundw
              case rel => exact ⟨j2 + 1, hlt2, by go_num, HX3.out⟩
              case measure => simp [intOf]; omega
        · have HSB := hid (HSA.out.later HX2.out)
          clear HSA HX2
          go_wp2_with fail
          go_loopw [9] (fun i wq => ∃ j3 : Nat, j3 ≤ rs1.length ∧ i = .int .i64 j3 ∧ WSt w1 b la na lc nc sz1 kv rs1 (nAt' rs1) (pAt rs1 j3 0) wq) (fun i _ => rs1.length - (intOf i).toNat)
          case atStart => exact ⟨0, Nat.zero_le _, rfl, HSB.out⟩
          case round =>
            obtain ⟨j3, hj3, rfl, hst⟩ := hrel
            have HSJ := hid hst
            clear b0 b1 b2 b3 hbl HSB
            obtain ⟨b0, b1, b2, b3⟩ := four_of hst.box
            have hbl := lt_of_block hst.box
            by_cases hlt3 : j3 < rs1.length
            · have hlt3' : (j3 : Int) < rs1.length := by omega
              obtain ⟨L, lcur, rfl, hL, hLc⟩ := hst.row j3 hlt3
              obtain ⟨M, ncur, rfl, hM, hMc⟩ := hst.num j3 hlt3
              obtain ⟨hb1, hb2⟩ := HB.out j3 hlt3
              obtain ⟨N, hN⟩ : ∃ N : Nat, N = nAt' rs1 j3 := ⟨_, rfl⟩
              obtain ⟨lj, hlj⟩ : ∃ lj, lj = lenAt rs1 j3 := ⟨_, rfl⟩
              have hNb : N ≤ 135536 := by rw [hN]; unfold nAt'; omega
              have hNl : lj ≤ N := by rw [hN, hlj]; exact nAt'_len hb1
              rw [← lenAt_eq hlt3, ← hlj] at hMc
              rw [← hlj] at hb1 hb2
              have n0 := cell_of hM hMc
              have hMl := lt_of_block hM
              have HN := hid hN
              have HLJ := hid hlj
              have HS6 := hid (show WSt w1 b (some ⟨L, 0, none⟩) (some ⟨M, 0, none⟩) lc nc sz1 kv rs1 (nAt' rs1) (pAt rs1 j3 lj) wr from HSJ.out.same (fun i _ => rfl) (fun i _ k _ => by
                unfold pAt
                by_cases e : k < lenAt rs1 i ∨ i < j3
                · rw [if_pos (e.imp id .inl), if_pos (e.imp id .inl)]
                · rw [if_neg (fun h => by rcases h with h | h | ⟨_, h⟩ <;> first | exact e (.inl h) | exact e (.inr h) | omega), if_neg (fun h => by rcases h with h | h | ⟨h1, h⟩ <;> first | exact e (.inl h) | exact e (.inr h) | exact e (.inl (by rw [h1, ← hlj]; exact h)))]))
              clear hst hL hLc hM hMc hN hlj HSJ hb1
              go_wp2_with fail
              go_loopw [10] (fun k wq => ∃ kk : Nat, lj ≤ kk ∧ kk ≤ N ∧ k = .int .i64 kk ∧ WSt w1 b (some ⟨L, 0, none⟩) (some ⟨M, 0, none⟩) lc nc sz1 kv rs1 (nAt' rs1) (pAt rs1 j3 kk) wq) (fun k _ => N - (intOf k).toNat)
              case atStart => exact ⟨lj, Nat.le_refl _, hNl, rfl, HS6.out⟩
              case round =>
                obtain ⟨kk, hk1, hk2, rfl, hst⟩ := hrel
                have HST := hid hst
                obtain ⟨L', lcur, eL, hL, hLc⟩ := hst.row j3 hlt3
                cases eL
                obtain ⟨cs, hG, hcz, hcs⟩ := hst.full j3 hlt3
                obtain ⟨cp, hcp⟩ : ∃ cp, cp = rs1[j3].2.2 := ⟨_, rfl⟩
                obtain ⟨g, hg⟩ : ∃ g, g = rs1[j3].1 := ⟨_, rfl⟩
                rw [← HN.out, ← hcp, ← hg] at hLc
                rw [← hg] at hG
                rw [← HN.out] at hcs
                have l0 := cell_of hL hLc
                have hLl := lt_of_block hL
                have hgl := lt_of_block hG
                clear b0 b1 b2 b3 hbl n0 hMl
                obtain ⟨b0, b1, b2, b3⟩ := four_of hst.box
                have hbl := lt_of_block hst.box
                have HG := hid hG
                have HCS := hid hcs
                have HGE := hid hg
                clear hst hL hLc hcz hcp hg
                by_cases hkl : kk < N
                · have hkl' : (kk : Int) < N := by omega
                  have c0 := cell_of hG (hcs kk hkl)
                  have f0 := frozen_of (i := kk) hG
                  have HSZ := hid (show kk < cs.size by
                    rcases Nat.lt_or_ge kk cs.size with h | h
                    · exact h
                    · have := hcs kk hkl; rw [Array.getElem?_eq_none h] at this; cases this)
                  have HNX := hid (show WSt w1 b (some ⟨L, 0, none⟩) (some ⟨M, 0, none⟩) lc nc sz1 kv rs1 (nAt' rs1) (pAt rs1 j3 (kk + 1)) (wr.setCell ⟨g, kk, none⟩ (mkV j3)) from by
                    have hge := HGE.out
                    subst hge
                    refine HST.out.put HND.out hlt3 HG.out (Kp.set (K := (· ≠ rs1[j3].1)) wr _ kk _ (fun h => h rfl)) (set_at HG.out kk _) (by rw [Array.size_setIfInBounds]) (fun k hk => ?_) (fun i _ hne k _ => ?_)
                    · by_cases e : k = kk
                      · subst e
                        rw [set_get _ HSZ.out, pAt, if_pos (.inr (.inr ⟨rfl, by omega⟩))]
                      · rw [set_get_other _ e, HCS.out k (by rw [HN.out]; exact hk)]
                        unfold pAt
                        congr 1
                        by_cases e2 : k < lenAt rs1 j3 ∨ j3 < j3 ∨ (j3 = j3 ∧ k < kk)
                        · rw [if_pos e2, if_pos (e2.imp id (Or.imp id (And.imp id (fun h => by omega))))]
                        · rw [if_neg e2, if_neg (fun h => e2 (h.imp id (Or.imp id (And.imp id (fun h => by omega)))))]
                    · unfold pAt
                      by_cases e2 : k < lenAt rs1 i ∨ i < j3
                      · rw [if_pos (e2.imp id .inl), if_pos (e2.imp id .inl)]
                      · rw [if_neg (fun h => by rcases h with h | h | ⟨h, _⟩ <;> first | exact e2 (.inl h) | exact e2 (.inr h) | exact hne h), if_neg (fun h => by rcases h with h | h | ⟨h, _⟩ <;> first | exact e2 (.inl h) | exact e2 (.inr h) | exact hne h)])
                  clear hG hcs
                  go_wp2_with fail
                  go_roundw
                  case rel => exact ⟨kk + 1, by omega, hkl, by go_num, HNX.out⟩
                  case measure => simp [intOf]; omega
                · have HNX := hid (show WSt w1 b (some ⟨L, 0, none⟩) (some ⟨M, 0, none⟩) lc nc sz1 kv rs1 (nAt' rs1) (pAt rs1 (j3 + 1) 0) wr from HST.out.same (fun i _ => rfl) (fun i _ k hk => by
                    unfold pAt
                    by_cases e2 : k < lenAt rs1 i ∨ i < j3
                    · rw [if_pos (e2.imp id .inl), if_pos (e2.imp id (fun h => .inl (by omega)))]
                    · by_cases e3 : i = j3
                      · subst e3
                        rw [if_pos (.inr (.inr ⟨rfl, by rw [← HN.out] at hk; omega⟩)), if_pos (.inr (.inl (by omega)))]
                      · rw [if_neg (fun h => by rcases h with h | h | ⟨h, _⟩ <;> first | exact e2 (.inl h) | exact e2 (.inr h) | exact e3 h), if_neg (fun h => by rcases h with h | h | ⟨_, h⟩ <;> first | exact e2 (.inl h) | exact e2 (.inr (by omega)) | omega)]))
                  clear hG hcs
                  go_wp2_with fail
                  go_roundw
                  case rel => exact ⟨j3 + 1, hlt3, by go_num, HNX.out⟩
                  case measure => simp [intOf]; omega
            · have hje : j3 = rs1.length := by omega
              have HSD := hid (show ∀ i, (h : i < rs1.length) → ∃ cs, wr.heap[rs1[i].1]? = some (.cells cs 30) ∧ ∀ k, k < nAt' rs1 i → cs[k]? = some (mkV i) from fun i hi => by
                obtain ⟨cs, h1, h2, h3⟩ := HSJ.out.full i hi
                exact ⟨cs, h1, fun k hk => by rw [h3 k hk, pAt, if_pos (.inr (.inl (by omega)))]⟩)
              clear hje hst
              obtain ⟨VD, hVD⟩ : ∃ VD, VD = wr := ⟨wr, rfl⟩
              rw [← hVD] at HSJ HSD
              go_wp2_with fail
              go_loopw [11] (fun i wq => ∃ j4 : Nat, j4 ≤ rs1.length ∧ i = .int .i64 j4 ∧ Ext VD wq) (fun i _ => rs1.length - (intOf i).toNat)
              case atStart => exact ⟨0, Nat.zero_le _, rfl, by rw [hVD]; exact Ext.refl _⟩
              case round =>
                clear hVD
                obtain ⟨j4, hj4, rfl, hx⟩ := hrel
                have HX4 := hid hx
                clear b0 b1 b2 b3 hbl
                obtain ⟨b0, b1, b2, b3⟩ := four_of (hx.block HSJ.out.box)
                have hbl := lt_of_cell b0
                clear hx
                by_cases hlt4 : j4 < rs1.length
                · have hlt4' : (j4 : Int) < rs1.length := by omega
                  obtain ⟨L, lcur, rfl, hL, hLc⟩ := HSJ.out.row j4 hlt4
                  obtain ⟨cs, hG, hcs⟩ := HSD.out j4 hlt4
                  obtain ⟨hb1, hb2⟩ := HB.out j4 hlt4
                  obtain ⟨N, hN⟩ : ∃ N : Nat, N = nAt' rs1 j4 := ⟨_, rfl⟩
                  obtain ⟨cp, hcp⟩ : ∃ cp, cp = rs1[j4].2.2 := ⟨_, rfl⟩
                  obtain ⟨g, hg⟩ : ∃ g, g = rs1[j4].1 := ⟨_, rfl⟩
                  have hNb : N ≤ 135536 := by rw [hN]; unfold nAt'; omega
                  rw [← hN, ← hcp, ← hg] at hLc
                  rw [← hg] at hG
                  rw [← hN] at hcs
                  have HCS := hid hcs
                  have HL := hid (cell_of hL hLc)
                  have HG := hid hG
                  clear hL hLc hG hcs hN hcp hg hb1 hb2
                  go_wp2_with fail
                  go_loopw [12] (fun k wq => ∃ kk : Nat, kk ≤ N ∧ k = .int .i64 kk ∧ Ext VD wq) (fun k _ => N - (intOf k).toNat)
                  case atStart => exact ⟨0, Nat.zero_le _, rfl, HX4.out⟩
                  case round =>
                    obtain ⟨kk, hkk, rfl, hx⟩ := hrel
                    have HX5 := hid hx
                    have l0 := (hx.kp (fun _ => True)).cell HL.out trivial
                    have hgw := hx.block HG.out
                    clear b0 b1 b2 b3 hbl
                    obtain ⟨b0, b1, b2, b3⟩ := four_of (hx.block HSJ.out.box)
                    have hbl := lt_of_cell b0
                    have hLl := lt_of_cell l0
                    have hgl := lt_of_block hgw
                    clear hx
                    by_cases hkl : kk < N
                    · have hkl' : (kk : Int) < N := by omega
                      have c0 := cell_of hgw (HCS.out kk hkl)
                      clear hgw
                      go_wp2_with fail
                      go_roundw
                      case rel => exact ⟨kk + 1, hkl, by go_num, by repeat (first | with_reducible exact HX5.out | with_reducible refine Ext.drew ?_)⟩
                      case measure => simp [intOf]; omega
                    · clear hgw
                      go_wp2_with fail
                      go_roundw
                      case rel => exact ⟨j4 + 1, hlt4, by go_num, HX5.out⟩
                      case measure => simp [intOf]; omega
                · go_wp2_with fail
                  go_ret
                  exact ⟨rfl, HFIN.out _ (HSJ.out.kept.trans (HX4.out.kp _))⟩
end Go.Proofs.YtbpbkihcfdnphaaDoor
