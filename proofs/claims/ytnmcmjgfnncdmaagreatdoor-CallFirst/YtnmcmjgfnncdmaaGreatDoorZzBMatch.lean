/-
  kit.matches of a node that was made: it is what was asked for; by contracts.
-/
import Derived.Test.YtnmcmjgfnncdmaaGreatDoorZzBMade
import Derived.Deep.Cut
import Derived.LaidEql
namespace Go.Proofs.YtnmcmjgfnncdmaaGreatDoor.Nd
open Go.RowKit
theorem bKind (b : Nat) (k : ByteArray) (w : World) (h : w.cell? ⟨b, 0, none⟩ = some (.string k)) : Calls Tryz.prog 340 #[.pointer (some ⟨b, 0, none⟩)] w fun e w' => e = .returned (.string k) ∧ w' = w := by
  go_enter Tryz.func340, Tryz.ntmps340
  go_wp2
  go_ret
  exact ⟨rfl, rfl⟩
theorem bNum (b : Nat) (k : Int) (w : World) (h : w.cell? ⟨b, 1, none⟩ = some (.int .i64 k)) : Calls Tryz.prog 237 #[.pointer (some ⟨b, 0, none⟩)] w fun e w' => e = .returned (.int .i64 k) ∧ w' = w := by
  go_enter Tryz.func237, Tryz.ntmps237
  go_wp2
  go_ret
  exact ⟨rfl, rfl⟩
theorem bText (b : Nat) (k : ByteArray) (w : World) (h : w.cell? ⟨b, 2, none⟩ = some (.string k)) : Calls Tryz.prog 239 #[.pointer (some ⟨b, 0, none⟩)] w fun e w' => e = .returned (.string k) ∧ w' = w := by
  go_enter Tryz.func239, Tryz.ntmps239
  go_wp2
  go_ret
  exact ⟨rfl, rfl⟩
theorem bLen (b : Nat) (a : Option Addr) (n c : Nat) (w : World) (h : w.cell? ⟨b, 3, none⟩ = some (.slice a n c)) : Calls Tryz.prog 341 #[.pointer (some ⟨b, 0, none⟩)] w fun e w' => e = .returned (.int .i64 n) ∧ w' = w := by
  go_enter Tryz.func341, Tryz.ntmps341
  go_wp2
  go_ret
  exact ⟨rfl, rfl⟩
set_option maxRecDepth 100000 in
theorem bKid (b g off n c j : Nat) (u : Value) (w : World) (h : w.cell? ⟨b, 3, none⟩ = some (.slice (some ⟨g, off, none⟩) n c)) (hj : j < n) (hu : w.cell? ⟨g, off + j, none⟩ = some u) : Calls Tryz.prog 339 #[.pointer (some ⟨b, 0, none⟩), .int .i64 j] w fun e w' => e = .returned u ∧ w' = w := by
  have h1 : ¬ (j : Int) < 0 := by omega
  have h2 : (j : Int) < n := by omega
  have h3 : ¬ (n : Int) ≤ j := by omega
  have hb := lt_of_cell h
  have hg := lt_of_cell hu
  go_enter Tryz.func339, Tryz.ntmps339
  go_wp2_with fail
  go_ret
  exact ⟨rfl, rfl⟩
theorem eqLit (b : Nat) (w : World) : (binOp .neq 65 (.iface 388 (.pointer (some ⟨b, 0, none⟩))) (.iface 388 (.pointer (some ⟨b, 0, none⟩)))).run Tryz.prog w = .ok (.bool false) w := by
  obtain ⟨i, hi, hc⟩ := Option.map_eq_some_iff.1 (show (Tryz.prog.info? 388).map (·.comparable) = some true by kernel_rfl)
  obtain ⟨j, hj⟩ := Option.isSome_iff_exists.1 (show (Tryz.prog.info? 390).isSome = true by kernel_rfl)
  simp only [binOp]
  simp [Op.equal, Op.maxDepth, run_equalIn_iface_ptr_same w 9998 ⟨b, 0, none⟩ Tryz.underlying65 Tryz.underlying388 hi hc hj]
theorem row_cell {w : World} {B : Nat} {a : Option Addr} {n c : Nat} {t : Nat → Value} (h : w.ownsRow B 65 1 (.slice a n c) n ((List.range n).map t)) (j : Nat) (hj : j < n) : ∃ g, a = some ⟨g, 0, none⟩ ∧ w.cell? ⟨g, j, none⟩ = some (t j) := by
  rcases h.2 with ⟨_, h1⟩ | ⟨gg, cap, cur, hv, hbg, hbk, h3, h4, h5, h6⟩
  · omega
  injection hv with e1 _ _
  subst e1
  refine ⟨gg, rfl, cell_of hbk ?_⟩
  have e : ((List.range n).map t)[j]? = some (t j) := by rw [List.getElem?_map, List.getElem?_range hj]; rfl
  rw [← h6, List.getElem?_take_of_lt (by omega)] at e
  simpa using e
attribute [local go_sem] mByKind mByNum mByText mByLen mByKid
set_option maxRecDepth 100000 in
set_option maxHeartbeats 4000000 in
theorem matches_By {B B2 : Nat} (b nk c cq : Nat) (a qa ka : Option Addr) (kl kc : Nat) (k x : ByteArray) (n : Int) (bs : Nat → Nat) (w : World) (hN : NodeB w b k n x (.slice a nk c)) (hn : nk ≤ 100000) (ho : w.ownsRow B 65 1 (.slice a nk c) nk ((List.range nk).map fun i => .iface 388 (.pointer (some ⟨bs i, 0, none⟩)))) (hq : w.ownsRow B2 65 1 (.slice qa nk cq) nk ((List.range nk).map fun i => .iface 388 (.pointer (some ⟨bs i, 0, none⟩)))) :
    Calls Tryz.prog 68 #[.iface 289 (.pointer (some ⟨b, 0, none⟩)), .agg #[.string k, .int .i64 n, .string x, .slice ka kl kc], .slice qa nk cq] w fun e w' => e = .returned (.bool true) ∧ Ext w w' := by
  have HN := hid hN
  have HO := hid ho
  have HQ := hid hq
  have hn' : (nk : Int) ≤ 100000 := by omega
  clear hN ho hq hn
  obtain ⟨M, hM⟩ : ∃ M, w.alloc (.cells #[.string k, .int .i64 n, .string x, .slice ka kl kc] 69) = M := ⟨_, rfl⟩
  have XM := hid (show Ext w M from hM ▸ Ext.alloc _ _)
  have HM0 := hid (show M.heap[w.heap.size]? = some (.cells #[.string k, .int .i64 n, .string x, .slice ka kl kc] 69) from hM ▸ blk0 _ _)
  have HSK := hid (show ∀ W', Ext M W' → (W'.cell? ⟨b, 0, none⟩ = some (.string k) ∧ W'.cell? ⟨b, 1, none⟩ = some (.int .i64 n) ∧ W'.cell? ⟨b, 2, none⟩ = some (.string x) ∧ W'.cell? ⟨b, 3, none⟩ = some (.slice a nk c) ∧ W'.cell? ⟨w.heap.size, 0, none⟩ = some (.string k) ∧ W'.cell? ⟨w.heap.size, 1, none⟩ = some (.int .i64 n) ∧ W'.cell? ⟨w.heap.size, 2, none⟩ = some (.string x)) from fun W' X => by
    obtain ⟨s0, s1, s2, s3⟩ := four_of (X.block HM0.out)
    obtain ⟨r0, r1, r2, r3⟩ := (HN.out.later (XM.out.trans X)).cells
    exact ⟨r0, r1, r2, r3, s0, s1, s2⟩)
  go_enter Tryz.func68, Tryz.ntmps68
  go_upto_region 1 with fail
  first | rw [hM] | skip
  clear hM
  go_cut [34] from 9 to 34 (fun s34 wx => s34 = .bool false ∧ Ext M wx)
  case first =>
    go_region_held3 (fun W' => W'.cell? ⟨b, 0, none⟩ = some (.string k) ∧ W'.cell? ⟨b, 1, none⟩ = some (.int .i64 n) ∧ W'.cell? ⟨b, 2, none⟩ = some (.string x) ∧ W'.cell? ⟨b, 3, none⟩ = some (.slice a nk c) ∧ W'.cell? ⟨w.heap.size, 0, none⟩ = some (.string k) ∧ W'.cell? ⟨w.heap.size, 1, none⟩ = some (.int .i64 n) ∧ W'.cell? ⟨w.heap.size, 2, none⟩ = some (.string x))
      (first | with_reducible exact HSK.out _ (Ext.refl _) | with_reducible exact HSK.out _ (Ext.refl _).drew | go_keep)
      (first
        | (go_at_call 340; refine (bKind b k _ (HSK.out _ (by repeat (first | with_reducible exact Ext.refl _ | with_reducible refine Ext.drew ?_))).1).mono ?_; rintro r u1 ⟨rfl, rfl⟩)
        | (go_at_call 237; refine (bNum b n _ (HSK.out _ (by repeat (first | with_reducible exact Ext.refl _ | with_reducible refine Ext.drew ?_))).2.1).mono ?_; rintro r u1 ⟨rfl, rfl⟩)
        | (go_at_call 239; refine (bText b x _ (HSK.out _ (by repeat (first | with_reducible exact Ext.refl _ | with_reducible refine Ext.drew ?_))).2.2.1).mono ?_; rintro r u1 ⟨rfl, rfl⟩)
        | (go_at_call 341; refine (bLen b a nk c _ (HSK.out _ (by repeat (first | with_reducible exact Ext.refl _ | with_reducible refine Ext.drew ?_))).2.2.2.1).mono ?_; rintro r u1 ⟨rfl, rfl⟩))
    all_goals
      go_wp2_with fail
      go_meet
      case rel => exact ⟨rfl, (by repeat (first | with_reducible exact Ext.refl _ | with_reducible refine Ext.drew ?_))⟩
  case rest =>
    obtain ⟨rfl, hxc⟩ := hcut
    have XC := hid hxc
    clear hxc
    go_wp2_with fail
    go_loopw [37] (fun q37 wr => ∃ j : Nat, j ≤ nk ∧ q37 = .int .i64 j ∧ Ext M wr) (fun q37 _ => nk - (intOf q37).toNat)
    case atStart => exact ⟨0, Nat.zero_le _, rfl, XC.out⟩
    case round =>
      obtain ⟨j, hj, rfl, hx⟩ := hrel
      have HX := hid (XM.out.trans hx)
      have HX1 := hid hx
      clear hx
      by_cases hlt : j < nk
      · have hlt' : (j : Int) < nk := by omega
        obtain ⟨g1, e1, p1⟩ := row_cell (row_ext HO.out HX.out) j hlt
        obtain ⟨g2, e2, p2⟩ := row_cell (row_ext HQ.out HX.out) j hlt
        have r3 := (HN.out.later HX.out).cells.2.2.2
        subst e1 e2
        have hg2 := lt_of_cell p2
        have HKID := hid (bKid b g1 0 nk c j _ _ r3 hlt (by rw [Nat.zero_add]; exact p1))
        have heq := eqLit (bs j)
        generalize bs j = bj at *
        clear p1 r3
        go_wp2_with fail
        refine HKID.out.mono ?_
        rintro e w7 ⟨rfl, hw7⟩
        rw [hw7]
        clear hw7 w7
        go_wp2_with fail
        go_roundw
        case rel => exact ⟨j + 1, hlt, by go_num, HX1.out⟩
        case measure => simp [intOf]; omega
      · have hlt3 : ¬ (j : Int) < nk := by omega
        go_wp2_with fail
        go_ret
        exact ⟨rfl, HX.out⟩
attribute [local go_sem] mToKind mToNum mToText mToLen mToKid
set_option maxRecDepth 100000 in
set_option maxHeartbeats 4000000 in
theorem matches_To {B B2 : Nat} (b nk c cq : Nat) (a qa ka : Option Addr) (kl kc : Nat) (k x : ByteArray) (n : Int) (bs : Nat → Nat) (w : World) (hN : NodeB w b k n x (.slice a nk c)) (hn : nk ≤ 100000) (ho : w.ownsRow B 65 1 (.slice a nk c) nk ((List.range nk).map fun i => .iface 388 (.pointer (some ⟨bs i, 0, none⟩)))) (hq : w.ownsRow B2 65 1 (.slice qa nk cq) nk ((List.range nk).map fun i => .iface 388 (.pointer (some ⟨bs i, 0, none⟩)))) :
    Calls Tryz.prog 68 #[.iface 286 (.pointer (some ⟨b, 0, none⟩)), .agg #[.string k, .int .i64 n, .string x, .slice ka kl kc], .slice qa nk cq] w fun e w' => e = .returned (.bool true) ∧ Ext w w' := by
  have HN := hid hN
  have HO := hid ho
  have HQ := hid hq
  have hn' : (nk : Int) ≤ 100000 := by omega
  clear hN ho hq hn
  obtain ⟨M, hM⟩ : ∃ M, w.alloc (.cells #[.string k, .int .i64 n, .string x, .slice ka kl kc] 69) = M := ⟨_, rfl⟩
  have XM := hid (show Ext w M from hM ▸ Ext.alloc _ _)
  have HM0 := hid (show M.heap[w.heap.size]? = some (.cells #[.string k, .int .i64 n, .string x, .slice ka kl kc] 69) from hM ▸ blk0 _ _)
  have HSK := hid (show ∀ W', Ext M W' → (W'.cell? ⟨b, 0, none⟩ = some (.string k) ∧ W'.cell? ⟨b, 1, none⟩ = some (.int .i64 n) ∧ W'.cell? ⟨b, 2, none⟩ = some (.string x) ∧ W'.cell? ⟨b, 3, none⟩ = some (.slice a nk c) ∧ W'.cell? ⟨w.heap.size, 0, none⟩ = some (.string k) ∧ W'.cell? ⟨w.heap.size, 1, none⟩ = some (.int .i64 n) ∧ W'.cell? ⟨w.heap.size, 2, none⟩ = some (.string x)) from fun W' X => by
    obtain ⟨s0, s1, s2, s3⟩ := four_of (X.block HM0.out)
    obtain ⟨r0, r1, r2, r3⟩ := (HN.out.later (XM.out.trans X)).cells
    exact ⟨r0, r1, r2, r3, s0, s1, s2⟩)
  go_enter Tryz.func68, Tryz.ntmps68
  go_upto_region 1 with fail
  first | rw [hM] | skip
  clear hM
  go_cut [34] from 9 to 34 (fun s34 wx => s34 = .bool false ∧ Ext M wx)
  case first =>
    go_region_held3 (fun W' => W'.cell? ⟨b, 0, none⟩ = some (.string k) ∧ W'.cell? ⟨b, 1, none⟩ = some (.int .i64 n) ∧ W'.cell? ⟨b, 2, none⟩ = some (.string x) ∧ W'.cell? ⟨b, 3, none⟩ = some (.slice a nk c) ∧ W'.cell? ⟨w.heap.size, 0, none⟩ = some (.string k) ∧ W'.cell? ⟨w.heap.size, 1, none⟩ = some (.int .i64 n) ∧ W'.cell? ⟨w.heap.size, 2, none⟩ = some (.string x))
      (first | with_reducible exact HSK.out _ (Ext.refl _) | with_reducible exact HSK.out _ (Ext.refl _).drew | go_keep)
      (first
        | (go_at_call 340; refine (bKind b k _ (HSK.out _ (by repeat (first | with_reducible exact Ext.refl _ | with_reducible refine Ext.drew ?_))).1).mono ?_; rintro r u1 ⟨rfl, rfl⟩)
        | (go_at_call 237; refine (bNum b n _ (HSK.out _ (by repeat (first | with_reducible exact Ext.refl _ | with_reducible refine Ext.drew ?_))).2.1).mono ?_; rintro r u1 ⟨rfl, rfl⟩)
        | (go_at_call 239; refine (bText b x _ (HSK.out _ (by repeat (first | with_reducible exact Ext.refl _ | with_reducible refine Ext.drew ?_))).2.2.1).mono ?_; rintro r u1 ⟨rfl, rfl⟩)
        | (go_at_call 341; refine (bLen b a nk c _ (HSK.out _ (by repeat (first | with_reducible exact Ext.refl _ | with_reducible refine Ext.drew ?_))).2.2.2.1).mono ?_; rintro r u1 ⟨rfl, rfl⟩))
    all_goals
      go_wp2_with fail
      go_meet
      case rel => exact ⟨rfl, (by repeat (first | with_reducible exact Ext.refl _ | with_reducible refine Ext.drew ?_))⟩
  case rest =>
    obtain ⟨rfl, hxc⟩ := hcut
    have XC := hid hxc
    clear hxc
    go_wp2_with fail
    go_loopw [37] (fun q37 wr => ∃ j : Nat, j ≤ nk ∧ q37 = .int .i64 j ∧ Ext M wr) (fun q37 _ => nk - (intOf q37).toNat)
    case atStart => exact ⟨0, Nat.zero_le _, rfl, XC.out⟩
    case round =>
      obtain ⟨j, hj, rfl, hx⟩ := hrel
      have HX := hid (XM.out.trans hx)
      have HX1 := hid hx
      clear hx
      by_cases hlt : j < nk
      · have hlt' : (j : Int) < nk := by omega
        obtain ⟨g1, e1, p1⟩ := row_cell (row_ext HO.out HX.out) j hlt
        obtain ⟨g2, e2, p2⟩ := row_cell (row_ext HQ.out HX.out) j hlt
        have r3 := (HN.out.later HX.out).cells.2.2.2
        subst e1 e2
        have hg2 := lt_of_cell p2
        have HKID := hid (bKid b g1 0 nk c j _ _ r3 hlt (by rw [Nat.zero_add]; exact p1))
        have heq := eqLit (bs j)
        generalize bs j = bj at *
        clear p1 r3
        go_wp2_with fail
        refine HKID.out.mono ?_
        rintro e w7 ⟨rfl, hw7⟩
        rw [hw7]
        clear hw7 w7
        go_wp2_with fail
        go_roundw
        case rel => exact ⟨j + 1, hlt, by go_num, HX1.out⟩
        case measure => simp [intOf]; omega
      · have hlt3 : ¬ (j : Int) < nk := by omega
        go_wp2_with fail
        go_ret
        exact ⟨rfl, HX.out⟩
attribute [local go_sem] mLzKind mLzNum mLzText mLzLen mLzKid
set_option maxRecDepth 100000 in
set_option maxHeartbeats 4000000 in
theorem matches_Lz {B B2 : Nat} (b nk c cq : Nat) (a qa ka : Option Addr) (kl kc : Nat) (k x : ByteArray) (n : Int) (bs : Nat → Nat) (w : World) (hN : NodeB w b k n x (.slice a nk c)) (hn : nk ≤ 100000) (ho : w.ownsRow B 65 1 (.slice a nk c) nk ((List.range nk).map fun i => .iface 388 (.pointer (some ⟨bs i, 0, none⟩)))) (hq : w.ownsRow B2 65 1 (.slice qa nk cq) nk ((List.range nk).map fun i => .iface 388 (.pointer (some ⟨bs i, 0, none⟩)))) :
    Calls Tryz.prog 68 #[.iface 351 (.pointer (some ⟨b, 0, none⟩)), .agg #[.string k, .int .i64 n, .string x, .slice ka kl kc], .slice qa nk cq] w fun e w' => e = .returned (.bool true) ∧ Ext w w' := by
  have HN := hid hN
  have HO := hid ho
  have HQ := hid hq
  have hn' : (nk : Int) ≤ 100000 := by omega
  clear hN ho hq hn
  obtain ⟨M, hM⟩ : ∃ M, w.alloc (.cells #[.string k, .int .i64 n, .string x, .slice ka kl kc] 69) = M := ⟨_, rfl⟩
  have XM := hid (show Ext w M from hM ▸ Ext.alloc _ _)
  have HM0 := hid (show M.heap[w.heap.size]? = some (.cells #[.string k, .int .i64 n, .string x, .slice ka kl kc] 69) from hM ▸ blk0 _ _)
  have HSK := hid (show ∀ W', Ext M W' → (W'.cell? ⟨b, 0, none⟩ = some (.string k) ∧ W'.cell? ⟨b, 1, none⟩ = some (.int .i64 n) ∧ W'.cell? ⟨b, 2, none⟩ = some (.string x) ∧ W'.cell? ⟨b, 3, none⟩ = some (.slice a nk c) ∧ W'.cell? ⟨w.heap.size, 0, none⟩ = some (.string k) ∧ W'.cell? ⟨w.heap.size, 1, none⟩ = some (.int .i64 n) ∧ W'.cell? ⟨w.heap.size, 2, none⟩ = some (.string x)) from fun W' X => by
    obtain ⟨s0, s1, s2, s3⟩ := four_of (X.block HM0.out)
    obtain ⟨r0, r1, r2, r3⟩ := (HN.out.later (XM.out.trans X)).cells
    exact ⟨r0, r1, r2, r3, s0, s1, s2⟩)
  go_enter Tryz.func68, Tryz.ntmps68
  go_upto_region 1 with fail
  first | rw [hM] | skip
  clear hM
  go_cut [34] from 9 to 34 (fun s34 wx => s34 = .bool false ∧ Ext M wx)
  case first =>
    go_region_held3 (fun W' => W'.cell? ⟨b, 0, none⟩ = some (.string k) ∧ W'.cell? ⟨b, 1, none⟩ = some (.int .i64 n) ∧ W'.cell? ⟨b, 2, none⟩ = some (.string x) ∧ W'.cell? ⟨b, 3, none⟩ = some (.slice a nk c) ∧ W'.cell? ⟨w.heap.size, 0, none⟩ = some (.string k) ∧ W'.cell? ⟨w.heap.size, 1, none⟩ = some (.int .i64 n) ∧ W'.cell? ⟨w.heap.size, 2, none⟩ = some (.string x))
      (first | with_reducible exact HSK.out _ (Ext.refl _) | with_reducible exact HSK.out _ (Ext.refl _).drew | go_keep)
      (first
        | (go_at_call 340; refine (bKind b k _ (HSK.out _ (by repeat (first | with_reducible exact Ext.refl _ | with_reducible refine Ext.drew ?_))).1).mono ?_; rintro r u1 ⟨rfl, rfl⟩)
        | (go_at_call 237; refine (bNum b n _ (HSK.out _ (by repeat (first | with_reducible exact Ext.refl _ | with_reducible refine Ext.drew ?_))).2.1).mono ?_; rintro r u1 ⟨rfl, rfl⟩)
        | (go_at_call 239; refine (bText b x _ (HSK.out _ (by repeat (first | with_reducible exact Ext.refl _ | with_reducible refine Ext.drew ?_))).2.2.1).mono ?_; rintro r u1 ⟨rfl, rfl⟩)
        | (go_at_call 341; refine (bLen b a nk c _ (HSK.out _ (by repeat (first | with_reducible exact Ext.refl _ | with_reducible refine Ext.drew ?_))).2.2.2.1).mono ?_; rintro r u1 ⟨rfl, rfl⟩))
    all_goals
      go_wp2_with fail
      go_meet
      case rel => exact ⟨rfl, (by repeat (first | with_reducible exact Ext.refl _ | with_reducible refine Ext.drew ?_))⟩
  case rest =>
    obtain ⟨rfl, hxc⟩ := hcut
    have XC := hid hxc
    clear hxc
    go_wp2_with fail
    go_loopw [37] (fun q37 wr => ∃ j : Nat, j ≤ nk ∧ q37 = .int .i64 j ∧ Ext M wr) (fun q37 _ => nk - (intOf q37).toNat)
    case atStart => exact ⟨0, Nat.zero_le _, rfl, XC.out⟩
    case round =>
      obtain ⟨j, hj, rfl, hx⟩ := hrel
      have HX := hid (XM.out.trans hx)
      have HX1 := hid hx
      clear hx
      by_cases hlt : j < nk
      · have hlt' : (j : Int) < nk := by omega
        obtain ⟨g1, e1, p1⟩ := row_cell (row_ext HO.out HX.out) j hlt
        obtain ⟨g2, e2, p2⟩ := row_cell (row_ext HQ.out HX.out) j hlt
        have r3 := (HN.out.later HX.out).cells.2.2.2
        subst e1 e2
        have hg2 := lt_of_cell p2
        have HKID := hid (bKid b g1 0 nk c j _ _ r3 hlt (by rw [Nat.zero_add]; exact p1))
        have heq := eqLit (bs j)
        generalize bs j = bj at *
        clear p1 r3
        go_wp2_with fail
        refine HKID.out.mono ?_
        rintro e w7 ⟨rfl, hw7⟩
        rw [hw7]
        clear hw7 w7
        go_wp2_with fail
        go_roundw
        case rel => exact ⟨j + 1, hlt, by go_num, HX1.out⟩
        case measure => simp [intOf]; omega
      · have hlt3 : ¬ (j : Int) < nk := by omega
        go_wp2_with fail
        go_ret
        exact ⟨rfl, HX.out⟩
attribute [local go_sem] mEcKind mEcNum mEcText mEcLen mEcKid
set_option maxRecDepth 100000 in
set_option maxHeartbeats 4000000 in
theorem matches_Ec {B B2 : Nat} (b nk c cq : Nat) (a qa ka : Option Addr) (kl kc : Nat) (k x : ByteArray) (n : Int) (bs : Nat → Nat) (w : World) (hN : NodeB w b k n x (.slice a nk c)) (hn : nk ≤ 100000) (ho : w.ownsRow B 65 1 (.slice a nk c) nk ((List.range nk).map fun i => .iface 388 (.pointer (some ⟨bs i, 0, none⟩)))) (hq : w.ownsRow B2 65 1 (.slice qa nk cq) nk ((List.range nk).map fun i => .iface 388 (.pointer (some ⟨bs i, 0, none⟩)))) :
    Calls Tryz.prog 68 #[.iface 275 (.pointer (some ⟨b, 0, none⟩)), .agg #[.string k, .int .i64 n, .string x, .slice ka kl kc], .slice qa nk cq] w fun e w' => e = .returned (.bool true) ∧ Ext w w' := by
  have HN := hid hN
  have HO := hid ho
  have HQ := hid hq
  have hn' : (nk : Int) ≤ 100000 := by omega
  clear hN ho hq hn
  obtain ⟨M, hM⟩ : ∃ M, w.alloc (.cells #[.string k, .int .i64 n, .string x, .slice ka kl kc] 69) = M := ⟨_, rfl⟩
  have XM := hid (show Ext w M from hM ▸ Ext.alloc _ _)
  have HM0 := hid (show M.heap[w.heap.size]? = some (.cells #[.string k, .int .i64 n, .string x, .slice ka kl kc] 69) from hM ▸ blk0 _ _)
  have HSK := hid (show ∀ W', Ext M W' → (W'.cell? ⟨b, 0, none⟩ = some (.string k) ∧ W'.cell? ⟨b, 1, none⟩ = some (.int .i64 n) ∧ W'.cell? ⟨b, 2, none⟩ = some (.string x) ∧ W'.cell? ⟨b, 3, none⟩ = some (.slice a nk c) ∧ W'.cell? ⟨w.heap.size, 0, none⟩ = some (.string k) ∧ W'.cell? ⟨w.heap.size, 1, none⟩ = some (.int .i64 n) ∧ W'.cell? ⟨w.heap.size, 2, none⟩ = some (.string x)) from fun W' X => by
    obtain ⟨s0, s1, s2, s3⟩ := four_of (X.block HM0.out)
    obtain ⟨r0, r1, r2, r3⟩ := (HN.out.later (XM.out.trans X)).cells
    exact ⟨r0, r1, r2, r3, s0, s1, s2⟩)
  go_enter Tryz.func68, Tryz.ntmps68
  go_upto_region 1 with fail
  first | rw [hM] | skip
  clear hM
  go_cut [34] from 9 to 34 (fun s34 wx => s34 = .bool false ∧ Ext M wx)
  case first =>
    go_region_held3 (fun W' => W'.cell? ⟨b, 0, none⟩ = some (.string k) ∧ W'.cell? ⟨b, 1, none⟩ = some (.int .i64 n) ∧ W'.cell? ⟨b, 2, none⟩ = some (.string x) ∧ W'.cell? ⟨b, 3, none⟩ = some (.slice a nk c) ∧ W'.cell? ⟨w.heap.size, 0, none⟩ = some (.string k) ∧ W'.cell? ⟨w.heap.size, 1, none⟩ = some (.int .i64 n) ∧ W'.cell? ⟨w.heap.size, 2, none⟩ = some (.string x))
      (first | with_reducible exact HSK.out _ (Ext.refl _) | with_reducible exact HSK.out _ (Ext.refl _).drew | go_keep)
      (first
        | (go_at_call 340; refine (bKind b k _ (HSK.out _ (by repeat (first | with_reducible exact Ext.refl _ | with_reducible refine Ext.drew ?_))).1).mono ?_; rintro r u1 ⟨rfl, rfl⟩)
        | (go_at_call 237; refine (bNum b n _ (HSK.out _ (by repeat (first | with_reducible exact Ext.refl _ | with_reducible refine Ext.drew ?_))).2.1).mono ?_; rintro r u1 ⟨rfl, rfl⟩)
        | (go_at_call 239; refine (bText b x _ (HSK.out _ (by repeat (first | with_reducible exact Ext.refl _ | with_reducible refine Ext.drew ?_))).2.2.1).mono ?_; rintro r u1 ⟨rfl, rfl⟩)
        | (go_at_call 341; refine (bLen b a nk c _ (HSK.out _ (by repeat (first | with_reducible exact Ext.refl _ | with_reducible refine Ext.drew ?_))).2.2.2.1).mono ?_; rintro r u1 ⟨rfl, rfl⟩))
    all_goals
      go_wp2_with fail
      go_meet
      case rel => exact ⟨rfl, (by repeat (first | with_reducible exact Ext.refl _ | with_reducible refine Ext.drew ?_))⟩
  case rest =>
    obtain ⟨rfl, hxc⟩ := hcut
    have XC := hid hxc
    clear hxc
    go_wp2_with fail
    go_loopw [37] (fun q37 wr => ∃ j : Nat, j ≤ nk ∧ q37 = .int .i64 j ∧ Ext M wr) (fun q37 _ => nk - (intOf q37).toNat)
    case atStart => exact ⟨0, Nat.zero_le _, rfl, XC.out⟩
    case round =>
      obtain ⟨j, hj, rfl, hx⟩ := hrel
      have HX := hid (XM.out.trans hx)
      have HX1 := hid hx
      clear hx
      by_cases hlt : j < nk
      · have hlt' : (j : Int) < nk := by omega
        obtain ⟨g1, e1, p1⟩ := row_cell (row_ext HO.out HX.out) j hlt
        obtain ⟨g2, e2, p2⟩ := row_cell (row_ext HQ.out HX.out) j hlt
        have r3 := (HN.out.later HX.out).cells.2.2.2
        subst e1 e2
        have hg2 := lt_of_cell p2
        have HKID := hid (bKid b g1 0 nk c j _ _ r3 hlt (by rw [Nat.zero_add]; exact p1))
        have heq := eqLit (bs j)
        generalize bs j = bj at *
        clear p1 r3
        go_wp2_with fail
        refine HKID.out.mono ?_
        rintro e w7 ⟨rfl, hw7⟩
        rw [hw7]
        clear hw7 w7
        go_wp2_with fail
        go_roundw
        case rel => exact ⟨j + 1, hlt, by go_num, HX1.out⟩
        case measure => simp [intOf]; omega
      · have hlt3 : ¬ (j : Int) < nk := by omega
        go_wp2_with fail
        go_ret
        exact ⟨rfl, HX.out⟩

end Go.Proofs.YtnmcmjgfnncdmaaGreatDoor.Nd
