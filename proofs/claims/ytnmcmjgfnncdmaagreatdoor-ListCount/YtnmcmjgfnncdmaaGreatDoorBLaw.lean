/-
  made of the statements: a node of a kit over some truths; by contracts.
-/
import Derived.Test.YtnmcmjgfnncdmaaGreatDoorBMakeK
namespace Go.Proofs.YtnmcmjgfnncdmaaGreatDoor.Nd
open Go.RowKit
/-- The handles that were made so far. -/
def KidsLp (w : World) (j : Nat) (q : Value) (wr : World) : Prop := ∃ hs bs : List Nat, hs.length = j ∧ bs.length = j ∧ wr.ownsRow w.heap.size 70 1 q j (hs.map fun h => .pointer (some ⟨h, 0, none⟩)) ∧ (∀ i, (h1 : i < hs.length) → (h2 : i < bs.length) → HandAt wr hs[i] (.iface 388 (.pointer (some ⟨bs[i], 0, none⟩))) (.iface 388 (.pointer (some ⟨bs[i], 0, none⟩)))) ∧ Ext w wr
theorem KidsLp.slice {w wr : World} {j : Nat} {q : Value} (h : KidsLp w j q wr) : ∃ a c, q = .slice a j c := by
  obtain ⟨hs, bs, _, _, ho, _⟩ := h
  exact ownsRow_slice ho
theorem KidsLp.hands {w wr : World} {j c : Nat} {a : Option Addr} (h : KidsLp w j (.slice a j c) wr) : ∃ bs : Nat → Nat, HandsP wr a j c (fun _ => 388) (fun i => .pointer (some ⟨bs i, 0, none⟩)) := by
  obtain ⟨hs, bs, h1, h2, ho, hc, hx⟩ := h
  refine ⟨fun i => bs.getD i 0, ?_⟩
  rcases ho.2 with ⟨hv, h0⟩ | ⟨gg, cap, cur, hv, hbg, hbk, h3, h4, h5, h6⟩
  · injection hv with e1 e2 e3
    exact .inl ⟨e1, h0, e3⟩
  · injection hv with e1 _ _
    subst e1
    refine .inr ⟨gg, 0, rfl, fun i hi => ?_⟩
    have i1 : i < hs.length := by omega
    have i2 : i < bs.length := by omega
    have hb := hc i i1 i2
    have hcur : cur[i]? = some (.pointer (some ⟨hs[i], 0, none⟩)) := by
      have e : (hs.map fun h => Value.pointer (some ⟨h, 0, none⟩))[i]? = some (.pointer (some ⟨hs[i], 0, none⟩)) := by
        rw [List.getElem?_map, List.getElem?_eq_getElem i1]; rfl
      rw [← h6, List.getElem?_take_of_lt (by omega)] at e
      simpa using e
    refine ⟨hs[i], by rw [Nat.zero_add]; exact cell_of hbk hcur, ?_, lt_of_block hbk, lt_of_block hb⟩
    show wr.cell? ⟨hs[i], 0, none⟩ = some (Value.iface 388 (.pointer (some ⟨bs.getD i 0, 0, none⟩)))
    rw [List.getD_eq_getElem?_getD, List.getElem?_eq_getElem i2]
    exact cell_of hb rfl
set_option maxRecDepth 100000 in
set_option maxHeartbeats 4000000 in
theorem lawMadeC (τ : TypeId) (kb : Nat) (k x : ByteArray) (n : Nat) (w : World) (hn : n ≤ 1000)
    (hmk : ∀ w1 a c bs, Ext w w1 → HandsP w1 a n c (fun _ => 388) (fun i => .pointer (some ⟨bs i, 0, none⟩)) → Calls Tryz.prog 29 #[.pointer (some ⟨kb, 0, none⟩), .agg #[.string k, .int .i64 0, .string x, .slice none 0 0], .slice a n c] w1 (MakeR w1 τ k x n bs)) :
    Calls Tryz.prog 28 #[.pointer (some ⟨kb, 0, none⟩), .agg #[.string k, .int .i64 0, .string x, .slice none 0 0], .int .i64 n] w fun e w' => ∃ b a c, e = .returned (.iface τ (.pointer (some ⟨b, 0, none⟩))) ∧ NodeB w' b k 0 x (.slice a n c) ∧ Ext w w' := by
  obtain ⟨i0, hi0, hz0, hz1, hz2⟩ := info_parts hpInfo
  have HMK := hid hmk
  have hn' : (n : Int) ≤ 1000 := by omega
  clear hmk
  obtain ⟨M, hM⟩ : ∃ M, w.alloc (.cells #[.string k, .int .i64 0, .string x, .slice none 0 0] 69) = M := ⟨_, rfl⟩
  have XM := hid (show Ext w M from hM ▸ Ext.alloc _ _)
  have HM0 := hid (show M.heap[w.heap.size]? = some (.cells #[.string k, .int .i64 0, .string x, .slice none 0 0] 69) from hM ▸ blk0 _ _)
  go_enter Tryz.func28, Tryz.ntmps28
  go_wp2_with fail
  first | rw [hM] | skip
  clear hM
  go_loopw [7, 8] (fun q7 q8 wr => ∃ j : Nat, j ≤ n ∧ q8 = .int .i64 j ∧ KidsLp M j q7 wr) (fun _ q8 _ => n - (intOf q8).toNat)
  case atStart => exact ⟨0, Nat.zero_le _, rfl, ⟨[], [], rfl, rfl, World.ownsRow_nil _ _ _ _, fun i h => absurd h (Nat.not_lt_zero _), Ext.refl _⟩⟩
  case round =>
    obtain ⟨j, hj, rfl, hk⟩ := hrel
    obtain ⟨a3, c3, rfl⟩ := hk.slice
    have HK := hid hk
    clear hk
    by_cases hlt : j < n
    · have hlt' : (j : Int) < n := by omega
      go_wp2_with fail
      refine (make_yes _).mono ?_
      rintro e w2 ⟨b, h, rfl, hb, hh, hhd, hlit, hx2⟩
      have HHD := hid hhd
      have X2 := hid hx2
      have HHL := hid hh
      clear hb hh hhd hlit hx2
      obtain ⟨hs, bs, h1, h2, ho, hc, hx⟩ := HK.out
      have HO2 := hid (row_ext ho (X2.out.trans (Ext.alloc w2 (.cells #[.pointer (some ⟨h, 0, none⟩)] 70))))
      have HN := hid (new_one w2 (.pointer (some ⟨h, 0, none⟩)) 70)
      have HUS := hid (hx.trans X2.out).size
      have HC := hid hc
      have HXX := hid hx
      have HL1 := hid h1
      have HL2 := hid h2
      clear ho hc hx h1 h2
      go_wp2_with (at_builtin; refine wpList_append_own_at _ rfl _ _ 121 rfl M.heap.size 70 i0 (.pointer none) 1 8 Tryz.underlying121 hi0 hz0 hz1 hz2 rfl (by decide) _ _ _ rfl HO2.out ⟨w2.heap.size, 0, none⟩ 1 1 [.pointer (some ⟨h, 0, none⟩)] rfl rfl HN.out (by simp [Value.oneCell']) (by unfold maxLen; omega) (by omega) (by have := HUS.out; simp; omega) ?_; intro v9 w9 hown9 hgrow9 _ _; have HO9 := hid hown9; have HG9 : Hid (World.grownBy (w2.alloc (.cells #[.pointer (some ⟨h, 0, none⟩)] 70)) w9 (Value.slice a3 j c3).ownBlock) := hid hgrow9; clear hown9 hgrow9)
      go_roundw
      case measure => simp [intOf]; omega
      case rel =>
        have hkp := grown_kp HG9.out
        have hcell : ∀ (q : Nat) (u1 u2 : Value), HandAt w2 q u1 u2 → HandAt w9 q u1 u2 := fun q u1 u2 hq => by
          have hq' : (w2.alloc (.cells #[.pointer (some ⟨h, 0, none⟩)] 70)).heap[q]? = some (.cells #[u1, u2] 198) := blkOld _ hq
          refine hkp.block' hq' (fun e => ?_)
          rcases HO2.out.2 with ⟨hv, _⟩ | ⟨gg, cap, cur, hv, _, hbk, _⟩
          · rw [hv] at e; simp [Value.ownBlock] at e
          · rw [hv] at e
            simp [Value.ownBlock] at e
            subst e
            rw [hbk] at hq'
            simp at hq'
        refine ⟨j + 1, by omega, by go_num, ⟨hs ++ [h], bs ++ [b], by simp [HL1.out], by simp [HL2.out], by rw [List.map_append]; exact HO9.out, fun i h1 h2 => ?_, ((HXX.out.trans X2.out).more _).grown HG9.out (by have := HUS.out; simp; omega) (fun k hk => (HO2.out.lt k hk).1)⟩⟩
        by_cases hi : i < hs.length
        · have hi2 : i < bs.length := by rw [HL2.out, ← HL1.out]; exact hi
          rw [List.getElem_append_left hi, List.getElem_append_left hi2]
          exact hcell _ _ _ (X2.out.block (HC.out i hi hi2))
        · have hie : i = hs.length := by simp at h1; omega
          subst hie
          have hbe : bs.length = hs.length := by rw [HL2.out, HL1.out]
          simp only [List.getElem_append_right (Nat.le_refl _), Nat.sub_self, List.getElem_cons_zero]
          rw [List.getElem_append_right (by omega)]
          simp only [hbe, Nat.sub_self, List.getElem_cons_zero]
          exact hcell _ _ _ HHD.out
    · obtain rfl : j = n := by omega
      obtain ⟨bs, hP⟩ := HK.out.hands
      obtain ⟨_, _, _, _, _, _, hx⟩ := HK.out
      have HXX := hid hx
      have HMR := hid (HMK.out _ a3 c3 bs (XM.out.trans hx) hP)
      obtain ⟨t0, t1, t2, t3⟩ := four_of (hx.block HM0.out)
      have hwl := lt_of_cell t0
      have hlt3 : ¬ (j : Int) < j := by omega
      clear hx hP
      go_wp2_with fail
      refine HMR.out.mono ?_
      rintro e w4 ⟨h, rfl, ⟨b, ma, mc, hhd, hnb, hrow, _, _⟩, hx4⟩
      have HNB := hid hnb
      have X4 := hid (XM.out.trans (HXX.out.trans hx4))
      have hhc : w4.cell? ⟨h, 0, none⟩ = some (.iface τ (.pointer (some ⟨b, 0, none⟩))) := cell_of hhd rfl
      clear hnb hhd hrow hx4
      go_wp2_with fail
      refine (node_cell h _ _ hhc).mono ?_
      rintro e w5 ⟨rfl, hw5⟩
      rw [hw5]
      clear hw5 w5
      go_wp2_with fail
      go_ret
      exact ⟨b, ma, mc, rfl, HNB.out, X4.out⟩
set_option maxRecDepth 100000 in
set_option maxHeartbeats 4000000 in
theorem lawMadeT (τ : TypeId) (kb : Nat) (k x : ByteArray) (n : Nat) (w : World) (hn : n ≤ 1000)
    (hmk : ∀ w1 a c bs, Ext w w1 → HandsP w1 a n c (fun _ => 388) (fun i => .pointer (some ⟨bs i, 0, none⟩)) → Calls Tryz.prog 29 #[.pointer (some ⟨kb, 0, none⟩), .agg #[.string k, .int .i64 0, .string x, .slice none 0 0], .slice a n c] w1 (MakeR w1 τ k x n bs)) :
    Calls Tryz.prog 34 #[.pointer (some ⟨kb, 0, none⟩), .agg #[.string k, .int .i64 0, .string x, .slice none 0 0], .int .i64 n] w fun e w' => ∃ b a c, e = .returned (.iface τ (.pointer (some ⟨b, 0, none⟩))) ∧ NodeB w' b k 0 x (.slice a n c) ∧ Ext w w' := by
  obtain ⟨i0, hi0, hz0, hz1, hz2⟩ := info_parts hpInfo
  have HMK := hid hmk
  have hn' : (n : Int) ≤ 1000 := by omega
  clear hmk
  obtain ⟨M, hM⟩ : ∃ M, w.alloc (.cells #[.string k, .int .i64 0, .string x, .slice none 0 0] 69) = M := ⟨_, rfl⟩
  have XM := hid (show Ext w M from hM ▸ Ext.alloc _ _)
  have HM0 := hid (show M.heap[w.heap.size]? = some (.cells #[.string k, .int .i64 0, .string x, .slice none 0 0] 69) from hM ▸ blk0 _ _)
  go_enter Tryz.func34, Tryz.ntmps34
  go_wp2_with fail
  first | rw [hM] | skip
  clear hM
  go_loopw [7, 8] (fun q7 q8 wr => ∃ j : Nat, j ≤ n ∧ q8 = .int .i64 j ∧ KidsLp M j q7 wr) (fun _ q8 _ => n - (intOf q8).toNat)
  case atStart => exact ⟨0, Nat.zero_le _, rfl, ⟨[], [], rfl, rfl, World.ownsRow_nil _ _ _ _, fun i h => absurd h (Nat.not_lt_zero _), Ext.refl _⟩⟩
  case round =>
    obtain ⟨j, hj, rfl, hk⟩ := hrel
    obtain ⟨a3, c3, rfl⟩ := hk.slice
    have HK := hid hk
    clear hk
    by_cases hlt : j < n
    · have hlt' : (j : Int) < n := by omega
      go_wp2_with fail
      refine (make_yes _).mono ?_
      rintro e w2 ⟨b, h, rfl, hb, hh, hhd, hlit, hx2⟩
      have HHD := hid hhd
      have X2 := hid hx2
      have HHL := hid hh
      clear hb hh hhd hlit hx2
      obtain ⟨hs, bs, h1, h2, ho, hc, hx⟩ := HK.out
      have HO2 := hid (row_ext ho (X2.out.trans (Ext.alloc w2 (.cells #[.pointer (some ⟨h, 0, none⟩)] 70))))
      have HN := hid (new_one w2 (.pointer (some ⟨h, 0, none⟩)) 70)
      have HUS := hid (hx.trans X2.out).size
      have HC := hid hc
      have HXX := hid hx
      have HL1 := hid h1
      have HL2 := hid h2
      clear ho hc hx h1 h2
      go_wp2_with (at_builtin; refine wpList_append_own_at _ rfl _ _ 121 rfl M.heap.size 70 i0 (.pointer none) 1 8 Tryz.underlying121 hi0 hz0 hz1 hz2 rfl (by decide) _ _ _ rfl HO2.out ⟨w2.heap.size, 0, none⟩ 1 1 [.pointer (some ⟨h, 0, none⟩)] rfl rfl HN.out (by simp [Value.oneCell']) (by unfold maxLen; omega) (by omega) (by have := HUS.out; simp; omega) ?_; intro v9 w9 hown9 hgrow9 _ _; have HO9 := hid hown9; have HG9 : Hid (World.grownBy (w2.alloc (.cells #[.pointer (some ⟨h, 0, none⟩)] 70)) w9 (Value.slice a3 j c3).ownBlock) := hid hgrow9; clear hown9 hgrow9)
      go_roundw
      case measure => simp [intOf]; omega
      case rel =>
        have hkp := grown_kp HG9.out
        have hcell : ∀ (q : Nat) (u1 u2 : Value), HandAt w2 q u1 u2 → HandAt w9 q u1 u2 := fun q u1 u2 hq => by
          have hq' : (w2.alloc (.cells #[.pointer (some ⟨h, 0, none⟩)] 70)).heap[q]? = some (.cells #[u1, u2] 198) := blkOld _ hq
          refine hkp.block' hq' (fun e => ?_)
          rcases HO2.out.2 with ⟨hv, _⟩ | ⟨gg, cap, cur, hv, _, hbk, _⟩
          · rw [hv] at e; simp [Value.ownBlock] at e
          · rw [hv] at e
            simp [Value.ownBlock] at e
            subst e
            rw [hbk] at hq'
            simp at hq'
        refine ⟨j + 1, by omega, by go_num, ⟨hs ++ [h], bs ++ [b], by simp [HL1.out], by simp [HL2.out], by rw [List.map_append]; exact HO9.out, fun i h1 h2 => ?_, ((HXX.out.trans X2.out).more _).grown HG9.out (by have := HUS.out; simp; omega) (fun k hk => (HO2.out.lt k hk).1)⟩⟩
        by_cases hi : i < hs.length
        · have hi2 : i < bs.length := by rw [HL2.out, ← HL1.out]; exact hi
          rw [List.getElem_append_left hi, List.getElem_append_left hi2]
          exact hcell _ _ _ (X2.out.block (HC.out i hi hi2))
        · have hie : i = hs.length := by simp at h1; omega
          subst hie
          have hbe : bs.length = hs.length := by rw [HL2.out, HL1.out]
          simp only [List.getElem_append_right (Nat.le_refl _), Nat.sub_self, List.getElem_cons_zero]
          rw [List.getElem_append_right (by omega)]
          simp only [hbe, Nat.sub_self, List.getElem_cons_zero]
          exact hcell _ _ _ HHD.out
    · obtain rfl : j = n := by omega
      obtain ⟨bs, hP⟩ := HK.out.hands
      obtain ⟨_, _, _, _, _, _, hx⟩ := HK.out
      have HXX := hid hx
      have HMR := hid (HMK.out _ a3 c3 bs (XM.out.trans hx) hP)
      obtain ⟨t0, t1, t2, t3⟩ := four_of (hx.block HM0.out)
      have hwl := lt_of_cell t0
      have hlt3 : ¬ (j : Int) < j := by omega
      clear hx hP
      go_wp2_with fail
      refine HMR.out.mono ?_
      rintro e w4 ⟨h, rfl, ⟨b, ma, mc, hhd, hnb, hrow, _, _⟩, hx4⟩
      have HNB := hid hnb
      have X4 := hid (XM.out.trans (HXX.out.trans hx4))
      have hhc : w4.cell? ⟨h, 0, none⟩ = some (.iface τ (.pointer (some ⟨b, 0, none⟩))) := cell_of hhd rfl
      clear hnb hhd hrow hx4
      go_wp2_with fail
      refine (node_cell h _ _ hhc).mono ?_
      rintro e w5 ⟨rfl, hw5⟩
      rw [hw5]
      clear hw5 w5
      go_wp2_with fail
      go_ret
      exact ⟨b, ma, mc, rfl, HNB.out, X4.out⟩
set_option maxRecDepth 100000 in
set_option maxHeartbeats 4000000 in
theorem lawMadeL (τ : TypeId) (kb : Nat) (k x : ByteArray) (n : Nat) (w : World) (hn : n ≤ 1000)
    (hmk : ∀ w1 a c bs, Ext w w1 → HandsP w1 a n c (fun _ => 388) (fun i => .pointer (some ⟨bs i, 0, none⟩)) → Calls Tryz.prog 29 #[.pointer (some ⟨kb, 0, none⟩), .agg #[.string k, .int .i64 0, .string x, .slice none 0 0], .slice a n c] w1 (MakeR w1 τ k x n bs)) :
    Calls Tryz.prog 55 #[.pointer (some ⟨kb, 0, none⟩), .agg #[.string k, .int .i64 0, .string x, .slice none 0 0], .int .i64 n] w fun e w' => ∃ b a c, e = .returned (.iface τ (.pointer (some ⟨b, 0, none⟩))) ∧ NodeB w' b k 0 x (.slice a n c) ∧ Ext w w' := by
  obtain ⟨i0, hi0, hz0, hz1, hz2⟩ := info_parts hpInfo
  have HMK := hid hmk
  have hn' : (n : Int) ≤ 1000 := by omega
  clear hmk
  obtain ⟨M, hM⟩ : ∃ M, w.alloc (.cells #[.string k, .int .i64 0, .string x, .slice none 0 0] 69) = M := ⟨_, rfl⟩
  have XM := hid (show Ext w M from hM ▸ Ext.alloc _ _)
  have HM0 := hid (show M.heap[w.heap.size]? = some (.cells #[.string k, .int .i64 0, .string x, .slice none 0 0] 69) from hM ▸ blk0 _ _)
  go_enter Tryz.func55, Tryz.ntmps55
  go_wp2_with fail
  first | rw [hM] | skip
  clear hM
  go_loopw [7, 8] (fun q7 q8 wr => ∃ j : Nat, j ≤ n ∧ q8 = .int .i64 j ∧ KidsLp M j q7 wr) (fun _ q8 _ => n - (intOf q8).toNat)
  case atStart => exact ⟨0, Nat.zero_le _, rfl, ⟨[], [], rfl, rfl, World.ownsRow_nil _ _ _ _, fun i h => absurd h (Nat.not_lt_zero _), Ext.refl _⟩⟩
  case round =>
    obtain ⟨j, hj, rfl, hk⟩ := hrel
    obtain ⟨a3, c3, rfl⟩ := hk.slice
    have HK := hid hk
    clear hk
    by_cases hlt : j < n
    · have hlt' : (j : Int) < n := by omega
      go_wp2_with fail
      refine (make_yes _).mono ?_
      rintro e w2 ⟨b, h, rfl, hb, hh, hhd, hlit, hx2⟩
      have HHD := hid hhd
      have X2 := hid hx2
      have HHL := hid hh
      clear hb hh hhd hlit hx2
      obtain ⟨hs, bs, h1, h2, ho, hc, hx⟩ := HK.out
      have HO2 := hid (row_ext ho (X2.out.trans (Ext.alloc w2 (.cells #[.pointer (some ⟨h, 0, none⟩)] 70))))
      have HN := hid (new_one w2 (.pointer (some ⟨h, 0, none⟩)) 70)
      have HUS := hid (hx.trans X2.out).size
      have HC := hid hc
      have HXX := hid hx
      have HL1 := hid h1
      have HL2 := hid h2
      clear ho hc hx h1 h2
      go_wp2_with (at_builtin; refine wpList_append_own_at _ rfl _ _ 121 rfl M.heap.size 70 i0 (.pointer none) 1 8 Tryz.underlying121 hi0 hz0 hz1 hz2 rfl (by decide) _ _ _ rfl HO2.out ⟨w2.heap.size, 0, none⟩ 1 1 [.pointer (some ⟨h, 0, none⟩)] rfl rfl HN.out (by simp [Value.oneCell']) (by unfold maxLen; omega) (by omega) (by have := HUS.out; simp; omega) ?_; intro v9 w9 hown9 hgrow9 _ _; have HO9 := hid hown9; have HG9 : Hid (World.grownBy (w2.alloc (.cells #[.pointer (some ⟨h, 0, none⟩)] 70)) w9 (Value.slice a3 j c3).ownBlock) := hid hgrow9; clear hown9 hgrow9)
      go_roundw
      case measure => simp [intOf]; omega
      case rel =>
        have hkp := grown_kp HG9.out
        have hcell : ∀ (q : Nat) (u1 u2 : Value), HandAt w2 q u1 u2 → HandAt w9 q u1 u2 := fun q u1 u2 hq => by
          have hq' : (w2.alloc (.cells #[.pointer (some ⟨h, 0, none⟩)] 70)).heap[q]? = some (.cells #[u1, u2] 198) := blkOld _ hq
          refine hkp.block' hq' (fun e => ?_)
          rcases HO2.out.2 with ⟨hv, _⟩ | ⟨gg, cap, cur, hv, _, hbk, _⟩
          · rw [hv] at e; simp [Value.ownBlock] at e
          · rw [hv] at e
            simp [Value.ownBlock] at e
            subst e
            rw [hbk] at hq'
            simp at hq'
        refine ⟨j + 1, by omega, by go_num, ⟨hs ++ [h], bs ++ [b], by simp [HL1.out], by simp [HL2.out], by rw [List.map_append]; exact HO9.out, fun i h1 h2 => ?_, ((HXX.out.trans X2.out).more _).grown HG9.out (by have := HUS.out; simp; omega) (fun k hk => (HO2.out.lt k hk).1)⟩⟩
        by_cases hi : i < hs.length
        · have hi2 : i < bs.length := by rw [HL2.out, ← HL1.out]; exact hi
          rw [List.getElem_append_left hi, List.getElem_append_left hi2]
          exact hcell _ _ _ (X2.out.block (HC.out i hi hi2))
        · have hie : i = hs.length := by simp at h1; omega
          subst hie
          have hbe : bs.length = hs.length := by rw [HL2.out, HL1.out]
          simp only [List.getElem_append_right (Nat.le_refl _), Nat.sub_self, List.getElem_cons_zero]
          rw [List.getElem_append_right (by omega)]
          simp only [hbe, Nat.sub_self, List.getElem_cons_zero]
          exact hcell _ _ _ HHD.out
    · obtain rfl : j = n := by omega
      obtain ⟨bs, hP⟩ := HK.out.hands
      obtain ⟨_, _, _, _, _, _, hx⟩ := HK.out
      have HXX := hid hx
      have HMR := hid (HMK.out _ a3 c3 bs (XM.out.trans hx) hP)
      obtain ⟨t0, t1, t2, t3⟩ := four_of (hx.block HM0.out)
      have hwl := lt_of_cell t0
      have hlt3 : ¬ (j : Int) < j := by omega
      clear hx hP
      go_wp2_with fail
      refine HMR.out.mono ?_
      rintro e w4 ⟨h, rfl, ⟨b, ma, mc, hhd, hnb, hrow, _, _⟩, hx4⟩
      have HNB := hid hnb
      have X4 := hid (XM.out.trans (HXX.out.trans hx4))
      have hhc : w4.cell? ⟨h, 0, none⟩ = some (.iface τ (.pointer (some ⟨b, 0, none⟩))) := cell_of hhd rfl
      clear hnb hhd hrow hx4
      go_wp2_with fail
      refine (node_cell h _ _ hhc).mono ?_
      rintro e w5 ⟨rfl, hw5⟩
      rw [hw5]
      clear hw5 w5
      go_wp2_with fail
      go_ret
      exact ⟨b, ma, mc, rfl, HNB.out, X4.out⟩

end Go.Proofs.YtnmcmjgfnncdmaaGreatDoor.Nd
