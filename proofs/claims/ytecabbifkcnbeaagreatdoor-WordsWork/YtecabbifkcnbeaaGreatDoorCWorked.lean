/-
  Untouched and Worked of the statements, by contracts.
-/
import Derived.Test.YtecabbifkcnbeaaGreatDoorCFits
import Derived.Deep.RegionHeld3
import Derived.Deep.Cut
import Derived.Test.YtecabbifkcnbeaaGreatDoorWord
import Derived.Test.YtecabbifkcnbeaaGreatDoorCVals
namespace Go.Proofs.YtecabbifkcnbeaaGreatDoor
open Go.RowKit
set_option maxRecDepth 100000 in
set_option maxHeartbeats 4000000 in
theorem untouched_any {K : Nat → Prop} {d base : Nat} {a ao : Option Addr} {c m c' : Nat} {ts : List T} (w : World) (h : RdL K w d a ts) (ht : TItems w base d (.slice ao m c') ts) : Calls Tryz.prog 11 #[.slice ao ts.length c', .slice a ts.length c] w fun e w' => e = .returned (.bool true) ∧ Ext w w' := by
  have HK := hid h
  have HT := hid ht
  have hts : (ts.length : Int) ≤ 140737488351232 := by have := h.1; omega
  obtain ⟨n, hne⟩ : ∃ n, ts.length = n := ⟨_, rfl⟩
  have HNE := hid hne
  rw [hne] at hts ⊢
  clear h ht hne
  go_enter Tryz.func11, Tryz.ntmps11
  go_wp2_with fail
  go_loopw [5] (fun q5 wr => ∃ j : Nat, j ≤ n ∧ q5 = .int .i64 j ∧ Ext w wr) (fun q5 _ => n - (intOf q5).toNat)
  case atStart => exact ⟨0, Nat.zero_le _, rfl, Ext.refl _⟩
  case round =>
    obtain ⟨j, hj, rfl, hx⟩ := hrel
    have HX := hid hx
    clear hx
    by_cases hlt : j < n
    · have hlt' : (j : Int) < n := by omega
      have hjt : j < ts.length := by rw [HNE.out]; exact hlt
      obtain ⟨g, off, k', n', x', a', l', c1, rfl, hg, h4, hrd⟩ := HK.out.kid hjt
      obtain ⟨g2, u0, u1, u2, u3, rfl, h42, hel⟩ := HT.out.at j hjt
      obtain ⟨k2, n2, x2, a2, c2, rfl, rfl, rfl, rfl⟩ := hel.1.shape
      obtain ⟨o0, o1, o2, o3⟩ := Four.keep h4 (HX.out.kp K) hg
      obtain ⟨p0, p1, p2, p3⟩ := Four.keep h42 (HX.out.kp (fun _ => True)) trivial
      have hgl := lt_of_cell o0
      have hgl2 := lt_of_cell p0
      have HLG := hid (fun w1 (hx1 : Ext wr w1) => Light_any w1 (hrd.later (HX.out.trans hx1)))
      have HKE := hid (fun w1 (hx1 : Ext wr w1) (hl : lightB ts[j] = true) => kept_any w1 ((hel.2 hl).later (HX.out.trans hx1)) (hrd.later (HX.out.trans hx1)))
      clear h4 h42 hrd hel hg
      generalize ts[j] = t at *
      generalize (T.kids t).length = kt at *
      obtain ⟨b, hb⟩ : ∃ b, lightB t = b := ⟨_, rfl⟩
      rw [hb] at HLG HKE
      clear hb hjt
      cases b with
      | true =>
        have HK2 := hid (fun w1 hx1 => HKE.out w1 hx1 rfl)
        clear HKE
        have HSK := hid (show ∀ W', Ext wr W' → (W'.cell? ⟨g, off + j * 4, none⟩ = some (.int .i64 k') ∧ W'.cell? ⟨g, off + j * 4 + 1, none⟩ = some (.int .i64 n') ∧ W'.cell? ⟨g, off + j * 4 + 2, none⟩ = some (.string x') ∧ W'.cell? ⟨g, off + j * 4 + 3, none⟩ = some (.slice a' l' c1) ∧ W'.cell? ⟨g2, j * 4, none⟩ = some (.int .i64 k2) ∧ W'.cell? ⟨g2, j * 4 + 1, none⟩ = some (.int .i64 n2) ∧ W'.cell? ⟨g2, j * 4 + 2, none⟩ = some (.string x2) ∧ W'.cell? ⟨g2, j * 4 + 3, none⟩ = some (.slice a2 kt c2)) from fun W' hx => ⟨(hx.kp (fun _ => True)).cell o0 trivial, (hx.kp (fun _ => True)).cell o1 trivial, (hx.kp (fun _ => True)).cell o2 trivial, (hx.kp (fun _ => True)).cell o3 trivial, (hx.kp (fun _ => True)).cell p0 trivial, (hx.kp (fun _ => True)).cell p1 trivial, (hx.kp (fun _ => True)).cell p2 trivial, (hx.kp (fun _ => True)).cell p3 trivial⟩)
        go_upto_region 4 with fail
        go_cut [28] from 12 to 28 (fun s28 wx => s28 = .bool false ∧ Ext wr wx)
        case first =>
          go_region_held3 (fun W' => W'.cell? ⟨g, off + j * 4, none⟩ = some (.int .i64 k') ∧ W'.cell? ⟨g, off + j * 4 + 1, none⟩ = some (.int .i64 n') ∧ W'.cell? ⟨g, off + j * 4 + 2, none⟩ = some (.string x') ∧ W'.cell? ⟨g, off + j * 4 + 3, none⟩ = some (.slice a' l' c1) ∧ W'.cell? ⟨g2, j * 4, none⟩ = some (.int .i64 k2) ∧ W'.cell? ⟨g2, j * 4 + 1, none⟩ = some (.int .i64 n2) ∧ W'.cell? ⟨g2, j * 4 + 2, none⟩ = some (.string x2) ∧ W'.cell? ⟨g2, j * 4 + 3, none⟩ = some (.slice a2 kt c2))
            (first | with_reducible exact HSK.out _ (Ext.refl _) | with_reducible exact HSK.out _ (Ext.refl _).drew | with_reducible exact HSK.out _ Z2 | with_reducible exact HSK.out _ Z1 | go_keep)
            (first
              | (go_at_call 27; with_reducible refine (HLG.out _ (by repeat (first | with_reducible exact Ext.refl _ | with_reducible refine Ext.drew ?_))).mono ?_; rintro r u1 ⟨rfl, hy⟩; have Z1 : Ext wr u1 := Ext.trans (by repeat (first | with_reducible exact Ext.refl _ | with_reducible refine Ext.drew ?_)) hy)
              | (go_at_call 35; with_reducible refine (HK2.out _ (by repeat (first | with_reducible exact Z1 | with_reducible refine Ext.drew ?_))).mono ?_; rintro r u2 ⟨rfl, hy⟩; have Z2 : Ext wr u2 := Ext.trans (by repeat (first | with_reducible exact Z1 | with_reducible refine Ext.drew ?_)) hy))
          all_goals
            go_wp2_with fail
            go_meet
            case rel => exact ⟨rfl, Z2⟩
        case rest =>
          obtain ⟨rfl, hxc⟩ := hcut
          have XC := hid hxc
          clear hxc
          go_wp2_with fail
          go_roundw
          case rel => exact ⟨j + 1, hlt, by go_num, HX.out.trans XC.out⟩
          case measure => simp [intOf]; omega
      | false =>
        clear HKE
        have HSK := hid (show ∀ W', Ext wr W' → (W'.cell? ⟨g, off + j * 4, none⟩ = some (.int .i64 k') ∧ W'.cell? ⟨g, off + j * 4 + 1, none⟩ = some (.int .i64 n') ∧ W'.cell? ⟨g, off + j * 4 + 2, none⟩ = some (.string x') ∧ W'.cell? ⟨g, off + j * 4 + 3, none⟩ = some (.slice a' l' c1) ∧ W'.cell? ⟨g2, j * 4, none⟩ = some (.int .i64 k2) ∧ W'.cell? ⟨g2, j * 4 + 1, none⟩ = some (.int .i64 n2) ∧ W'.cell? ⟨g2, j * 4 + 2, none⟩ = some (.string x2) ∧ W'.cell? ⟨g2, j * 4 + 3, none⟩ = some (.slice a2 kt c2)) from fun W' hx => ⟨(hx.kp (fun _ => True)).cell o0 trivial, (hx.kp (fun _ => True)).cell o1 trivial, (hx.kp (fun _ => True)).cell o2 trivial, (hx.kp (fun _ => True)).cell o3 trivial, (hx.kp (fun _ => True)).cell p0 trivial, (hx.kp (fun _ => True)).cell p1 trivial, (hx.kp (fun _ => True)).cell p2 trivial, (hx.kp (fun _ => True)).cell p3 trivial⟩)
        go_upto_region 4 with fail
        go_cut [28] from 12 to 28 (fun s28 wx => s28 = .bool false ∧ Ext wr wx)
        case first =>
          refine wp_region_held_drew (S := fun W' => W'.cell? ⟨g, off + j * 4, none⟩ = some (.int .i64 k') ∧ W'.cell? ⟨g, off + j * 4 + 1, none⟩ = some (.int .i64 n') ∧ W'.cell? ⟨g, off + j * 4 + 2, none⟩ = some (.string x') ∧ W'.cell? ⟨g, off + j * 4 + 3, none⟩ = some (.slice a' l' c1) ∧ W'.cell? ⟨g2, j * 4, none⟩ = some (.int .i64 k2) ∧ W'.cell? ⟨g2, j * 4 + 1, none⟩ = some (.int .i64 n2) ∧ W'.cell? ⟨g2, j * 4 + 2, none⟩ = some (.string x2) ∧ W'.cell? ⟨g2, j * 4 + 3, none⟩ = some (.slice a2 kt c2)) (by kernel_rfl) (HSK.out _ (Ext.refl _).drew) (fun hHeld => ?_)
          refine wpAnyH_take (i := 0) (v := ?vx0) rfl (by kernel_rfl) (by kernel_rfl) (by kernel_rfl) (fun _ _ _ h => h) (Or.inl ⟨by kernel_rfl, ?hx0⟩) (by assumption) ?rx0
          case hx0 => (intro w hSw; (try dsimp only at hSw); go_simp; try with_reducible rfl)
          try simp only [Act.put, List.getElem_toArray, List.getElem_cons_zero, List.setIfInBounds_toArray, List.set_cons_zero, List.set_cons_succ]
          refine wpAnyH_take (i := 1) (v := ?vx1) rfl (by kernel_rfl) (by kernel_rfl) (by kernel_rfl) (fun _ _ _ h => h) (Or.inl ⟨by kernel_rfl, ?hx1⟩) (by assumption) ?rx1
          case hx1 => (intro w hSw; (try dsimp only at hSw); go_simp; try with_reducible rfl)
          try simp only [Act.put, List.getElem_toArray, List.getElem_cons_zero, List.getElem_cons_succ, List.setIfInBounds_toArray, List.set_cons_zero, List.set_cons_succ]
          refine wpAnyH_take (i := 2) (v := ?vx2) rfl (by kernel_rfl) (by kernel_rfl) (by kernel_rfl) (fun _ _ _ h => h) (Or.inl ⟨by kernel_rfl, ?hx2⟩) (by assumption) ?rx2
          case hx2 => (intro w hSw; (try dsimp only at hSw); go_simp; try with_reducible rfl)
          try simp only [Act.put, List.getElem_toArray, List.getElem_cons_zero, List.getElem_cons_succ, List.setIfInBounds_toArray, List.set_cons_zero, List.set_cons_succ]
          refine wpAnyH_take (i := 3) (v := ?vx3) rfl (by kernel_rfl) (by kernel_rfl) (by kernel_rfl) (fun _ _ _ h => h) (Or.inl ⟨by kernel_rfl, ?hx3⟩) (by assumption) ?rx3
          case hx3 => (intro w hSw; (try dsimp only at hSw); go_simp; try with_reducible rfl)
          try simp only [Act.put, List.getElem_toArray, List.getElem_cons_zero, List.getElem_cons_succ, List.setIfInBounds_toArray, List.set_cons_zero, List.set_cons_succ]
          refine wpAnyH_ready (rs := [4]) (by kernel_rfl) (by simp) ?_
          refine AllReadyH.cons rfl (fun K hK => ?_) AllReadyH.nil
          go_simp
          refine (HLG.out _ (Ext.refl _).drew).mono ?_
          rintro e w1 ⟨rfl, hx1⟩
          have Z1 : Ext wr w1 := Ext.trans (Ext.refl _).drew hx1
          show K _ _
          refine hK.out _ _ (HSK.out _ Z1) (fun hHeld1 => ?_)
          clear hK K
          try simp only [Act.put, List.getElem_toArray, List.getElem_cons_zero, List.getElem_cons_succ, List.setIfInBounds_toArray, List.set_cons_zero, List.set_cons_succ]
          refine wpAnyH_take (i := 5) (v := .bool false) rfl (by kernel_rfl) (by kernel_rfl) (by kernel_rfl) (fun _ _ _ h => h) (Or.inl ⟨by kernel_rfl, ?hx5⟩) (by assumption) ?rx5
          case hx5 => (intro w hSw; (try dsimp only at hSw); go_simp; try with_reducible rfl)
          try simp only [Act.put, List.getElem_toArray, List.getElem_cons_zero, List.getElem_cons_succ, List.setIfInBounds_toArray, List.set_cons_zero, List.set_cons_succ]
          refine wpAnyH_take (i := 6) (v := undef) rfl (by kernel_rfl) (by kernel_rfl) (by kernel_rfl) (fun _ _ _ h => h) (Or.inr ⟨by kernel_rfl, rfl⟩) (by assumption) ?rx6
          try simp only [Act.put, List.getElem_toArray, List.getElem_cons_zero, List.getElem_cons_succ, List.setIfInBounds_toArray, List.set_cons_zero, List.set_cons_succ]
          refine wpAnyH_take (i := 7) (v := undef) rfl (by kernel_rfl) (by kernel_rfl) (by kernel_rfl) (fun _ _ _ h => h) (Or.inr ⟨by kernel_rfl, rfl⟩) (by assumption) ?rx7
          try simp only [Act.put, List.getElem_toArray, List.getElem_cons_zero, List.getElem_cons_succ, List.setIfInBounds_toArray, List.set_cons_zero, List.set_cons_succ]
          refine wpAnyH_take (i := 8) (v := undef) rfl (by kernel_rfl) (by kernel_rfl) (by kernel_rfl) (fun _ _ _ h => h) (Or.inr ⟨by kernel_rfl, rfl⟩) (by assumption) ?rx8
          try simp only [Act.put, List.getElem_toArray, List.getElem_cons_zero, List.getElem_cons_succ, List.setIfInBounds_toArray, List.set_cons_zero, List.set_cons_succ]
          refine wpAnyH_take (i := 9) (v := undef) rfl (by kernel_rfl) (by kernel_rfl) (by kernel_rfl) (fun _ _ _ h => h) (Or.inr ⟨by kernel_rfl, rfl⟩) (by assumption) ?rx9
          try simp only [Act.put, List.getElem_toArray, List.getElem_cons_zero, List.getElem_cons_succ, List.setIfInBounds_toArray, List.set_cons_zero, List.set_cons_succ]
          refine wpAnyH_take (i := 10) (v := undef) rfl (by kernel_rfl) (by kernel_rfl) (by kernel_rfl) (fun _ _ _ h => h) (Or.inr ⟨by kernel_rfl, rfl⟩) (by assumption) ?rx10
          try simp only [Act.put, List.getElem_toArray, List.getElem_cons_zero, List.getElem_cons_succ, List.setIfInBounds_toArray, List.set_cons_zero, List.set_cons_succ]
          refine wpAnyH_take (i := 11) (v := undef) rfl (by kernel_rfl) (by kernel_rfl) (by kernel_rfl) (fun _ _ _ h => h) (Or.inr ⟨by kernel_rfl, rfl⟩) (by assumption) ?rx11
          try simp only [Act.put, List.getElem_toArray, List.getElem_cons_zero, List.getElem_cons_succ, List.setIfInBounds_toArray, List.set_cons_zero, List.set_cons_succ]
          refine wpAnyH_take (i := 12) (v := undef) rfl (by kernel_rfl) (by kernel_rfl) (by kernel_rfl) (fun _ _ _ h => h) (Or.inr ⟨by kernel_rfl, rfl⟩) (by assumption) ?rx12
          try simp only [Act.put, List.getElem_toArray, List.getElem_cons_zero, List.getElem_cons_succ, List.setIfInBounds_toArray, List.set_cons_zero, List.set_cons_succ]
          refine wpAnyH_take (i := 13) (v := undef) rfl (by kernel_rfl) (by kernel_rfl) (by kernel_rfl) (fun _ _ _ h => h) (Or.inr ⟨by kernel_rfl, rfl⟩) (by assumption) ?rx13
          try simp only [Act.put, List.getElem_toArray, List.getElem_cons_zero, List.getElem_cons_succ, List.setIfInBounds_toArray, List.set_cons_zero, List.set_cons_succ]
          refine wpAnyH_take (i := 14) (v := undef) rfl (by kernel_rfl) (by kernel_rfl) (by kernel_rfl) (fun _ _ _ h => h) (Or.inr ⟨by kernel_rfl, rfl⟩) (by assumption) ?rx14
          try simp only [Act.put, List.getElem_toArray, List.getElem_cons_zero, List.getElem_cons_succ, List.setIfInBounds_toArray, List.set_cons_zero, List.set_cons_succ]
          refine wpAnyH_take (i := 15) (v := undef) rfl (by kernel_rfl) (by kernel_rfl) (by kernel_rfl) (fun _ _ _ h => h) (Or.inr ⟨by kernel_rfl, rfl⟩) (by assumption) ?rx15
          try simp only [Act.put, List.getElem_toArray, List.getElem_cons_zero, List.getElem_cons_succ, List.setIfInBounds_toArray, List.set_cons_zero, List.set_cons_succ]
          refine wpAnyH_take (i := 16) (v := .bool false) rfl (by kernel_rfl) (by kernel_rfl) (by kernel_rfl) (fun _ _ _ h => h) (Or.inl ⟨by kernel_rfl, ?hx16⟩) (by assumption) ?rx16
          case hx16 => (intro w hSw; (try dsimp only at hSw); go_simp; try with_reducible rfl)
          try simp only [Act.put, List.getElem_toArray, List.getElem_cons_zero, List.getElem_cons_succ, List.setIfInBounds_toArray, List.set_cons_zero, List.set_cons_succ]
          refine wpAnyH_done (by kernel_rfl) ?_ _
          go_wp2_with fail
          go_meet
          case rel => exact ⟨rfl, Z1⟩
        case rest =>
          obtain ⟨rfl, hxc⟩ := hcut
          have XC := hid hxc
          clear hxc
          go_wp2_with fail
          go_roundw
          case rel => exact ⟨j + 1, hlt, by go_num, HX.out.trans XC.out⟩
          case measure => simp [intOf]; omega
    · have hlt3 : ¬ (j : Int) < n := by omega
      go_wp2_with fail
      go_ret
      exact ⟨rfl, HX.out⟩
end Go.Proofs.YtecabbifkcnbeaaGreatDoor
/-
  Worked of the statements, by a contract: an answer that is the document's.
-/
namespace Go.Proofs.YtecabbifkcnbeaaGreatDoor
open Go.RowKit
def truthT (b : Bool) : T := .node 2 (tellI b) ⟨#[]⟩ []
theorem truthT_may (b : Bool) : (truthT b).may := by
  refine ⟨⟨.inr (.inl ⟨rfl, by cases b; exact .inl rfl; exact .inr rfl, rfl, rfl⟩), trivial⟩, ?_, ?_⟩
  · show (T.node 2 (tellI b) ⟨#[]⟩ []).size ≤ 65536
    simp only [T.size, T.sizeL]; decide
  · show (T.node 2 (tellI b) ⟨#[]⟩ []).deep ≤ 64
    simp only [T.deep]; simp
set_option maxRecDepth 100000 in
theorem worked_fits (v p : Value) (e f : Int) (hp : ∃ k n x q c, p = .agg #[.int .i64 k, .int .i64 n, .string x, .slice q 0 c]) (hf : ∀ w, Calls Tryz.prog 34 #[v, .int .i64 e, p, .int .i64 f] w fun r w' => r = .returned (.bool true) ∧ Ext w w') (w : World) : Calls Tryz.prog 10 #[v, .int .i64 e, .string ⟨#[]⟩, p, .int .i64 f, .string ⟨#[]⟩] w fun r w' => r = .returned (.bool true) ∧ Ext w w' := by
  obtain ⟨k, n, x, q, c, rfl⟩ := hp
  have HF := hid hf
  clear hf
  go_enter Tryz.func10, Tryz.ntmps10
  go_wp2_with fail
  refine (HF.out _).mono ?_
  rintro e w1 ⟨rfl, hx1⟩
  have HX := hid ((Ext.alloc w _).trans hx1)
  clear hx1
  go_wp2_with fail
  go_ret
  exact ⟨rfl, HX.out⟩
def WorkedR (V R : Value) : Prop := ∃ v ec p k n x q c f, V = .tuple #[v, .int .i64 ec, .string ⟨#[]⟩] ∧ R = .tuple #[p, .int .i64 f, .string ⟨#[]⟩] ∧ p = .agg #[.int .i64 k, .int .i64 n, .string x, .slice q 0 c] ∧ ∀ w, Calls Tryz.prog 10 #[v, .int .i64 ec, .string ⟨#[]⟩, p, .int .i64 f, .string ⟨#[]⟩] w fun r w' => r = .returned (.bool true) ∧ Ext w w'
theorem worked_any {V R : Value} (h : RefOf V R) : WorkedR V R := by
  obtain ⟨k, m, x, ec, q, c, hR, rfl⟩ := h
  rcases hR with ⟨rfl, rfl, rfl, rfl⟩ | ⟨b, rfl, rfl, rfl, rfl, rfl⟩ | ⟨hs, rfl, rfl, rfl, rfl⟩ | ⟨hc, rfl, rfl, rfl, rfl⟩
  · exact ⟨_, _, _, 3, m, ⟨#[]⟩, q, c, _, rfl, rfl, rfl, worked_fits _ _ _ _ ⟨_, _, _, _, _, rfl⟩ (fun w => fits_ok (K := fun _ => True) (K' := fun _ => True) (d := 1) (d' := 1) (t := intT m) w (.inr (.inr (.inl ⟨rfl, rfl, rfl, rfl⟩))) ⟨q, c, rfl, by decide, by decide, .inl rfl⟩ (intT_may m))⟩
  · exact ⟨_, _, _, 2, tellI b, ⟨#[]⟩, q, c, _, rfl, rfl, rfl, worked_fits _ _ _ _ ⟨_, _, _, _, _, rfl⟩ (fun w => fits_ok (K := fun _ => True) (K' := fun _ => True) (d := 1) (d' := 1) (t := truthT b) w (.inr (.inl ⟨rfl, rfl, rfl, b, by cases b <;> rfl, rfl⟩)) ⟨q, c, rfl, by decide, by decide, .inl rfl⟩ (truthT_may b))⟩
  · exact ⟨_, _, _, 4, 0, x, q, c, _, rfl, rfl, rfl, worked_fits _ _ _ _ ⟨_, _, _, _, _, rfl⟩ (fun w => fits_ok (K := fun _ => True) (K' := fun _ => True) (d := 1) (d' := 1) (t := textT x) w (.inr (.inr (.inr (.inl ⟨rfl, rfl, rfl, by omega, rfl⟩)))) ⟨q, c, rfl, by omega, by decide, .inl rfl⟩ (textT_may hs))⟩
  · exact ⟨_, _, _, 0, 0, ⟨#[]⟩, q, c, _, rfl, rfl, rfl, worked_fits _ _ _ _ ⟨_, _, _, _, _, rfl⟩ (fun w => fits_err ec (by simpa using hc) _ ⟨_, _, _, _, _, _, rfl⟩ w)⟩
end Go.Proofs.YtecabbifkcnbeaaGreatDoor
