/-
  KitBase: a list of trees that comes in; kids of base.unit; what kit.Base and node.Make make of the same; by contracts.
-/
import Derived.Test.YtaodkfchmaendaaGreatDoorJ7NonW
import Derived.Test.YtaodkfchmaendaaGreatDoorJAbil
import Derived.Test.YtaodkfchmaendaaGreatDoorJRowsEq
import Derived.Deep.LoopGhost
import Derived.Deep.CutBlock
namespace Go.Proofs.YtaodkfchmaendaaGreatDoor.Nd
open Go.RowKit
theorem LitsH.hands {w wr : World} {j c : Nat} {a : Option Addr} (h : LitsH w j (.slice a j c) wr) : ∃ bs : Nat → Nat, HandsP wr a j c (fun _ => 175) (fun i => .pointer (some ⟨bs i, 0, none⟩)) := by
  obtain ⟨hs, bs, h1, h2, ho, hc, hx⟩ := h
  refine ⟨fun i => bs.getD i 0, ?_⟩
  rcases ho.2 with ⟨hv, h0⟩ | ⟨gg, cap, cur, hv, hbg, hbk, h3, h4, h5, h6⟩
  · injection hv with e1 e2 e3
    exact .inl ⟨e1, h0, e3⟩
  · injection hv with e1 _ _
    subst e1
    refine .inr ⟨gg, 0, rfl, fun i hi => ?_⟩
    have i1 : i < hs.length := by omega
    have i2 : i < bs.length := by omega
    have hb := hc i i1 i2
    have hcur : cur[i]? = some (.pointer (some ⟨hs[i], 0, none⟩)) := by
      have e : (hs.map fun h => Value.pointer (some ⟨h, 0, none⟩))[i]? = some (.pointer (some ⟨hs[i], 0, none⟩)) := by
        rw [List.getElem?_map, List.getElem?_eq_getElem i1]; rfl
      rw [← h6, List.getElem?_take_of_lt (by omega)] at e
      simpa using e
    refine ⟨hs[i], by rw [Nat.zero_add]; exact cell_of hbk hcur, ?_, lt_of_block hbk, lt_of_block hb⟩
    have : bs.getD i 0 = bs[i] := by simp [i2]
    show wr.cell? ⟨hs[i], 0, none⟩ = some (.iface 175 (.pointer (some ⟨bs.getD i 0, 0, none⟩)))
    rw [this]
    exact cell_of hb rfl
def bUnit : ByteArray := ⟨#[98, 97, 115, 101, 46, 117, 110, 105, 116]⟩
theorem bUnit_find : kdFind bUnit = some 0 := by decide
theorem fit_unit0 : fitsK (minK 0) (maxK 0) (numK 0) (textK 0) 0 ⟨#[]⟩ 0 = 0 := by simp [fitsK, takesK, minK, maxK, numK, textK]; try decide
theorem unit_any (w : World) : Calls Tryz.prog 27 #[.agg #[.string bUnit, .int .i64 0, .string ⟨#[]⟩, .slice none 0 0], .slice none 0 0] w fun e w' => ∃ h b, e = .returned (.tuple #[.pointer (some ⟨h, 0, none⟩), .nilIface]) ∧ LitH w' h b ∧ Ext w w' := by
  refine (make_some 0 (by decide) bUnit ⟨#[]⟩ 0 none 0 0 none 0 0 (fun _ => 175) (fun _ => .nilIface) w bUnit_find (by decide) (by decide) (.inl rfl)).mono ?_
  rintro e w1 (⟨_, h, b, a, c, rfl, hh, _, _, _, hx1⟩ | ⟨hne, _⟩)
  · exact ⟨h, b, rfl, hh, hx1⟩
  · exact absurd hne (by rw [show fitsK (minK 0) (maxK 0) (numK 0) (textK 0) 0 ⟨#[]⟩ ((0 : Nat) : Int) = 0 from fit_unit0]; decide)
theorem fcode_nil (w : World) : Calls Tryz.prog 28 #[.nilIface] w fun e w' => e = .returned (.int .i64 0) ∧ w' = w := by
  go_enter Tryz.func28, Tryz.ntmps28
  go_wp2_with fail
  go_ret
  exact ⟨rfl, rfl⟩
theorem kind_of (b : Nat) (k : ByteArray) (w : World) (h : w.cell? ⟨b, 0, none⟩ = some (.string k)) : Calls Tryz.prog 183 #[.pointer (some ⟨b, 0, none⟩)] w fun e w' => e = .returned (.string k) ∧ w' = w := by
  go_enter Tryz.func183, Tryz.ntmps183
  go_wp2
  go_ret
  exact ⟨rfl, rfl⟩
theorem len_of (b : Nat) (a : Option Addr) (n c : Nat) (w : World) (h : w.cell? ⟨b, 4, none⟩ = some (.slice a n c)) : Calls Tryz.prog 184 #[.pointer (some ⟨b, 0, none⟩)] w fun e w' => e = .returned (.int .i64 n) ∧ w' = w := by
  go_enter Tryz.func184, Tryz.ntmps184
  go_wp2
  go_ret
  exact ⟨rfl, rfl⟩
/-- A node of the j-th kind in a handle, as its users see it. -/
def NodeIn (w : World) (j : Nat) (k : ByteArray) (nk q b : Nat) : Prop := w.cell? ⟨q, 0, none⟩ = some (.iface (tyK j) (.pointer (some ⟨b, 0, none⟩))) ∧ w.cell? ⟨b, 0, none⟩ = some (.string k) ∧ ∃ a c, w.cell? ⟨b, 4, none⟩ = some (.slice a nk c)
theorem NodeIn.later {w w' : World} {j nk q b : Nat} {k : ByteArray} (h : NodeIn w j k nk q b) (hx : Ext w w') : NodeIn w' j k nk q b := by
  have Y : ∀ {x : Addr} {v : Value}, w.cell? x = some v → w'.cell? x = some v := fun e => (Below.cell hx (lt_of_cell e)).trans e
  obtain ⟨h1, h2, a, c, h3⟩ := h
  exact ⟨Y h1, Y h2, a, c, Y h3⟩
theorem iface_ptr {t : TypeId} {b b' : Nat} (e : Value.iface t (.pointer (some ⟨b, 0, none⟩)) = .iface t (.pointer (some ⟨b', 0, none⟩))) : b = b' := by
  injection e with _ e1
  injection e1 with e1
  injection e1 with e1
  injection e1 with e1
theorem nodeIn_of {w' : World} {j nk q b : Nat} {k x : ByteArray} {n : Int} {a : Option Addr} {c B : Nat} (h1 : HandAt w' q (.iface (tyK j) (.pointer (some ⟨b, 0, none⟩))) (.iface (tyK j) (.pointer (some ⟨b, 0, none⟩)))) (h2 : NodeK j k n x (.slice a nk c) B (.iface (tyK j) (.pointer (some ⟨b, 0, none⟩))) w') : NodeIn w' j k nk q b := by
  obtain ⟨b', e, _, ⟨cs, ty, hb, c0, _, _, _, c4⟩, _⟩ := h2
  obtain rfl := iface_ptr e
  exact ⟨cell_of h1 rfl, cell_of hb c0, a, c, cell_of hb c4⟩
/-- What both make: the same error, or the same node. -/
def Both (V : World) (kb : Nat) (k x : ByteArray) (n : Int) (ka : Option Addr) (kl kc : Nat) (ao : Option Addr) (nk c : Nat) : Prop :=
  (∃ ev : Int, (ev == 0) = false ∧ Calls Tryz.prog 13 #[.pointer (some ⟨kb, 0, none⟩), .agg #[.string k, .int .i64 n, .string x, .slice ka kl kc], .slice ao nk c] V (MakeNo V ev) ∧ ∀ V', Ext V V' → Calls Tryz.prog 27 #[.agg #[.string k, .int .i64 n, .string x, .slice ka kl kc], .slice ao nk c] V' (MakeNo V' ev)) ∨
  ∃ j, j < 7 ∧ kdFind k = some j ∧ Calls Tryz.prog 13 #[.pointer (some ⟨kb, 0, none⟩), .agg #[.string k, .int .i64 n, .string x, .slice ka kl kc], .slice ao nk c] V (fun e w' => ∃ q b, e = .returned (.tuple #[.pointer (some ⟨q, 0, none⟩), .nilIface]) ∧ NodeIn w' j k nk q b ∧ Ext V w') ∧
    ∀ V', Ext V V' → Calls Tryz.prog 27 #[.agg #[.string k, .int .i64 n, .string x, .slice ka kl kc], .slice ao nk c] V' (fun e w' => ∃ q b, e = .returned (.tuple #[.pointer (some ⟨q, 0, none⟩), .nilIface]) ∧ NodeIn w' j k nk q b ∧ Ext V' w')
theorem both_any {B0 kb mb : Nat} {lv : Value} (k x : ByteArray) (n : Int) (ao ka : Option Addr) (kl kc nk c : Nat) (bs : Nat → Nat) (V : World) (hkm : KitM V B0 kb mb baseB (.func (.func 35) #[] #[]) lv rowsK) (hks : k.size ≤ 140737488351232) (hxs : x.size ≤ 140737488351232) (hn : nk ≤ 100000) (hh : HandsP V ao nk c (fun _ => 175) (fun i => .pointer (some ⟨bs i, 0, none⟩))) : Both V kb k x n ka kl kc ao nk c := by
  rcases hf : kdFind k with _ | j
  · exact .inl ⟨3, by decide, bmake_kind k x n ao ka kl kc nk c V hkm hks hf, fun V' _ => make_kind k x n ka kl kc ao nk c V' hf⟩
  · obtain ⟨hj7, _⟩ := kdFind_lt hf
    by_cases h0 : fitsK (minK j) (maxK j) (numK j) (textK j) n x nk = 0
    · refine .inr ⟨j, hj7, hf, (bmake_yes j k x n ao ka kl kc nk c bs V hkm hks hxs hf hn hh h0).mono ?_, fun V' hx => (make_some j hj7 k x n ka kl kc ao nk c _ _ V' hf hn (by omega) (hh.later hx).o).mono ?_⟩
      · rintro e w' ⟨q, v, rfl, ⟨b, a, c', rfl, hhd, hnk, _, _⟩, hx2⟩
        exact ⟨q, b, rfl, nodeIn_of hhd hnk, hx2⟩
      · rintro e w' (⟨_, q, b, a, c', rfl, hhd, hnk, _, _, hx1⟩ | ⟨hne, _⟩)
        · exact ⟨q, b, rfl, nodeIn_of hhd hnk, hx1⟩
        · rw [h0] at hne; exact absurd hne (by decide)
    · have hev : (fitsK (minK j) (maxK j) (numK j) (textK j) n x nk == 0) = false := by simpa using h0
      refine .inl ⟨_, hev, bmake_bad j k x n ao ka kl kc nk c bs V hkm hks hxs hf hn hh _ hev rfl, fun V' hx => (make_some j hj7 k x n ka kl kc ao nk c _ _ V' hf hn (by omega) (hh.later hx).o).mono ?_⟩
      rintro e w' (⟨h1, _⟩ | ⟨_, h⟩)
      · exact absurd h1 h0
      · exact h
/-- What a type of node can. -/
def canT : Nat → Nat → Bool
  | 5 => canVar
  | 6 => canFra
  | _ => canLit
theorem accT : ∀ j, j < 7 → accA (canT j) 14 = absL j
  | 0, _ => by decide
  | 1, _ => by decide
  | 2, _ => by decide
  | 3, _ => by decide
  | 4, _ => by decide
  | 5, _ => by decide
  | 6, _ => by decide

theorem abilT : ∀ j, j < 7 → ∀ (b : Nat) (w : World), Calls Tryz.prog 29 #[.iface (tyK j) (.pointer (some ⟨b, 0, none⟩))] w (AbR w (absL j)) := by
  intro j hj b w
  rw [← accT j hj]
  match j, hj with
  | 0, _ => exact abilities_any _ _ _ (can_Lit _) w
  | 1, _ => exact abilities_any _ _ _ (can_Lit _) w
  | 2, _ => exact abilities_any _ _ _ (can_Lit _) w
  | 3, _ => exact abilities_any _ _ _ (can_Lit _) w
  | 4, _ => exact abilities_any _ _ _ (can_Lit _) w
  | 5, _ => exact abilities_any _ _ _ (can_Var _) w
  | 6, _ => exact abilities_any _ _ _ (can_Fra _) w
theorem methKind : ∀ j, j < 7 → ∀ (b : Nat) (w : World), (method 450 (tyK j) (.pointer (some ⟨b, 0, none⟩)) "Kind").run Tryz.prog w = .ok (183, .pointer (some ⟨b, 0, none⟩)) w
  | 0, _ => fun b w => mLitKind b w
  | 1, _ => fun b w => mLitKind b w
  | 2, _ => fun b w => mLitKind b w
  | 3, _ => fun b w => mLitKind b w
  | 4, _ => fun b w => mLitKind b w
  | 5, _ => fun b w => mVarKind b w
  | 6, _ => fun b w => mFraKind b w
theorem methLen : ∀ j, j < 7 → ∀ (b : Nat) (w : World), (method 450 (tyK j) (.pointer (some ⟨b, 0, none⟩)) "Len").run Tryz.prog w = .ok (184, .pointer (some ⟨b, 0, none⟩)) w
  | 0, _ => fun b w => mLitLen b w
  | 1, _ => fun b w => mLitLen b w
  | 2, _ => fun b w => mLitLen b w
  | 3, _ => fun b w => mLitLen b w
  | 4, _ => fun b w => mLitLen b w
  | 5, _ => fun b w => mVarLen b w
  | 6, _ => fun b w => mFraLen b w

end Go.Proofs.YtaodkfchmaendaaGreatDoor.Nd
/-
  KitBase tells true.
-/
namespace Go.Proofs.YtaodkfchmaendaaGreatDoor.Nd
open Go.RowKit
/-- Trees in a list. -/
def TreesIn (W : World) (a : Option Addr) (n : Nat) : Prop := ∀ i, i < n → ∃ g off k num x ta m tc, a = some ⟨g, off, none⟩ ∧ W.cell? ⟨g, off + i * 4, none⟩ = some (.string k) ∧ W.cell? ⟨g, off + i * 4 + 1, none⟩ = some (.int .i64 num) ∧ W.cell? ⟨g, off + i * 4 + 2, none⟩ = some (.string x) ∧ W.cell? ⟨g, off + i * 4 + 3, none⟩ = some (.slice ta m tc) ∧ k.size ≤ 140737488351232 ∧ x.size ≤ 140737488351232 ∧ m * 64 ≤ 140737488351232
set_option maxRecDepth 100000 in
set_option maxHeartbeats 8000000 in
theorem kitBase_true (a : Option Addr) (n c : Nat) (w : World) (hS : TreesIn w a n) (hn : n * 64 ≤ 140737488351232) (hl : Laid w) : Calls Tryz.prog 6 #[.slice a n c] w fun e w' => e = .returned (.bool true) ∧ Ext w w' := by
  obtain ⟨i0, hi0, hz0, hz1, hz2⟩ := info_parts hpInfo
  have HS := hid hS
  have HB := hid (begun7_any w hl)
  have HL := hid (fun w1 (hx : Ext w w1) => hl.later hx)
  have hn' : (n : Int) ≤ 140737488351232 := by omega
  have HUN := hid (fun w => unit_any w)
  unfold bUnit at HUN
  clear hS hl hn
  go_enter Tryz.func6, Tryz.ntmps6
  go_wp2_with fail
  refine HB.out.mono ?_
  rintro e V0 ⟨rfl, hx0⟩
  have HX0 := hid hx0
  clear hx0
  go_wp2_with fail
  refine (base_any _ (HL.out _ HX0.out)).mono ?_
  rintro e V1 ⟨B, kb, mb, lv, rfl, hkm, _, hx1⟩
  have HK := hid hkm
  have X1 := hid (HX0.out.trans hx1)
  clear hkm hx1
  go_wp2_with fail
  refine (rows_any V1 HK.out (by decide) (fun r hr => by
    obtain ⟨q, hq, rfl⟩ := List.getElem_of_mem hr
    rw [rowsK_get]
    exact absT100 q (show q < 7 from hq))).mono ?_
  rintro e V2 ⟨a1, c1, rfl, hit1, hx2⟩
  have HR1 := hid hit1
  have X2 := hid (X1.out.trans hx2)
  have Y2 := hid hx2
  clear hit1 hx2
  go_wp2_with fail
  refine (nodeRows_any _ (HL.out _ X2.out)).mono ?_
  rintro e V3 ⟨a2, c2, rfl, hit2, hx3⟩
  have HR2 := hid hit2
  have X3 := hid (X2.out.trans hx3)
  have Y3 := hid (Y2.out.trans hx3)
  have HR1 := hid (HR1.out.later hx3)
  clear hit2 hx3
  go_wp2_with fail
  refine (rows7_any a1 a2 c1 c2 _ (by decide) (fun r hr => by
    obtain ⟨q, hq, rfl⟩ := List.getElem_of_mem hr
    rw [rowsK_get]
    exact absT100 q (show q < 7 from hq)) HR1.out HR2.out).mono ?_
  rintro e V4 ⟨rfl, hx4⟩
  have X4 := hid (X3.out.trans hx4)
  have HK := hid (HK.out.later (Y3.out.trans hx4))
  clear hx4
  go_wp2_with fail
  go_loopw [4] (fun q4 wr => ∃ j : Nat, j ≤ n ∧ q4 = .int .i64 j ∧ Ext V4 wr) (fun q4 _ => n - (intOf q4).toNat)
  case atStart => exact ⟨0, Nat.zero_le _, rfl, Ext.refl _⟩
  case round =>
    obtain ⟨j, hj, rfl, hx⟩ := hrel
    have HX := hid hx
    clear hx
    by_cases hlt : j < n
    · have hlt' : (j : Int) < n := by omega
      by_cases h100 : j < 100
      · have h100' : (j : Int) < 100 := by omega
        obtain ⟨g, off, k, num, x, ta, m, tc, rfl, p0, p1, p2, p3, z0, z2, z3⟩ := HS.out j hlt
        have hgl := lt_of_cell p0
        have Y : ∀ {q : Addr} {v : Value}, w.cell? q = some v → wr.cell? q = some v := fun e => (Below.cell (X4.out.trans HX.out) (lt_of_cell e)).trans e
        replace p0 := Y p0
        replace p1 := Y p1
        replace p2 := Y p2
        replace p3 := Y p3
        clear Y
        have hm' : (m : Int) ≤ 140737488351232 := by omega
        have HM0 := hid (blk0 wr (.cells #[.string k, .int .i64 num, .string x, .slice ta m tc] 24))
        have XM := hid (Ext.alloc wr (.cells #[.string k, .int .i64 num, .string x, .slice ta m tc] 24))
        by_cases hbig : (m : Int) > 100
        · go_wp2_with fail
          go_roundw
          case rel => exact ⟨j + 1, hlt, by go_num, HX.out.trans XM.out⟩
          case measure => simp [intOf]; omega
        · have hm100 : m ≤ 100 := by omega
          go_wp2_with fail
          obtain ⟨M, hM⟩ : ∃ M, wr.alloc (.cells #[.string k, .int .i64 num, .string x, .slice ta m tc] 24) = M := ⟨_, rfl⟩
          rw [hM] at HM0 XM ⊢
          clear hM p0 p1 p2 p3
          generalize wr.heap.size = T0 at HM0 ⊢
          go_loopw [6, 7] (fun q6 q7 wi => ∃ i : Nat, i ≤ m ∧ q7 = .int .i64 i ∧ LitsH M i q6 wi) (fun _ q7 _ => m - (intOf q7).toNat)
          case atStart => exact ⟨0, Nat.zero_le _, rfl, ⟨[], [], rfl, rfl, World.ownsRow_nil _ _ _ _, fun i h => absurd h (Nat.not_lt_zero _), Ext.refl _⟩⟩
          case round =>
            obtain ⟨i, hi, rfl, hk⟩ := hrel
            obtain ⟨a3, c3, rfl⟩ := hk.slice
            have HKH := hid hk
            clear hk
            obtain ⟨t0, t1, t2, t3⟩ := four_of ((show Ext M _ by obtain ⟨_, _, _, _, _, _, hx⟩ := HKH.out; exact hx).block HM0.out)
            by_cases hlti : i < m
            · have hlti' : (i : Int) < m := by omega
              go_wp2_with fail
              refine (HUN.out _).mono ?_
              rintro e w2 ⟨h, b, rfl, hhd, hx2⟩
              have HHD := hid hhd
              have Z2 := hid hx2
              clear hhd hx2 t0 t1 t2 t3
              obtain ⟨hs, bs, h1, h2, ho, hc, hx⟩ := HKH.out
              have HO2 := hid (row_ext ho (Z2.out.trans (Ext.alloc w2 (.cells #[.pointer (some ⟨h, 0, none⟩)] 27))))
              have HN := hid (new_one w2 (.pointer (some ⟨h, 0, none⟩)) 27)
              have HUS := hid (hx.trans Z2.out).size
              have HC := hid hc
              have HXX := hid hx
              have HL1 := hid h1
              have HL2 := hid h2
              clear ho hc hx h1 h2
              go_wp2_with (at_builtin; refine wpList_append_own_at _ rfl _ _ 26 rfl M.heap.size 27 i0 (.pointer none) 1 8 Tryz.underlying26 hi0 hz0 hz1 hz2 rfl (by decide) _ _ _ rfl HO2.out ⟨w2.heap.size, 0, none⟩ 1 1 [.pointer (some ⟨h, 0, none⟩)] rfl rfl HN.out (by simp [Value.oneCell']) (by unfold maxLen; omega) (by omega) (by have := HUS.out; simp; omega) ?_; intro v9 w9 hown9 hgrow9 _ _; have HO9 := hid hown9; have HG9 : Hid (World.grownBy (w2.alloc (.cells #[.pointer (some ⟨h, 0, none⟩)] 27)) w9 (Value.slice a3 i c3).ownBlock) := hid hgrow9; clear hown9 hgrow9)
              go_roundw
              case measure => simp [intOf]; omega
              case rel =>
                have hkp := grown_kp HG9.out
                have hcell : ∀ (q b : Nat), LitH w2 q b → LitH w9 q b := fun q b hq => by
                  have hq' : (w2.alloc (.cells #[.pointer (some ⟨h, 0, none⟩)] 27)).heap[q]? = some (.cells #[.iface 175 (.pointer (some ⟨b, 0, none⟩)), .iface 175 (.pointer (some ⟨b, 0, none⟩))] 32) := blkOld _ hq
                  refine hkp.block' hq' (fun e => ?_)
                  rcases HO2.out.2 with ⟨hv, _⟩ | ⟨gg, cap, cur, hv, _, hbk, _⟩
                  · rw [hv] at e; simp [Value.ownBlock] at e
                  · rw [hv] at e
                    simp [Value.ownBlock] at e
                    subst e
                    rw [hbk] at hq'
                    simp at hq'
                refine ⟨i + 1, by omega, by go_num, ⟨hs ++ [h], bs ++ [b], by simp [HL1.out], by simp [HL2.out], by rw [List.map_append]; exact HO9.out, fun i h1 h2 => ?_, ((HXX.out.trans Z2.out).more _).grown HG9.out (by have := HUS.out; simp; omega) (fun k hk => (HO2.out.lt k hk).1)⟩⟩
                by_cases hi : i < hs.length
                · have hi2 : i < bs.length := by rw [HL2.out, ← HL1.out]; exact hi
                  rw [List.getElem_append_left hi, List.getElem_append_left hi2]
                  exact hcell _ _ ((Z2.out.block (HC.out i hi hi2)))
                · have hie : i = hs.length := by simp at h1; omega
                  subst hie
                  have hbe : bs.length = hs.length := by rw [HL2.out, HL1.out]
                  simp only [List.getElem_append_right (Nat.le_refl _), Nat.sub_self, List.getElem_cons_zero]
                  rw [List.getElem_append_right (by omega)]
                  simp only [hbe, Nat.sub_self, List.getElem_cons_zero]
                  exact hcell _ _ HHD.out
            · obtain rfl : i = m := by omega
              have hlti3 : ¬ (i : Int) < i := by omega
              obtain ⟨bs, hP⟩ := HKH.out.hands
              have XV := hid (show Ext M _ by obtain ⟨_, _, _, _, _, _, hx⟩ := HKH.out; exact hx)
              have HBO := hid (both_any (kb := kb) k x num a3 ta i tc i c3 bs _ (HK.out.later (HX.out.trans (XM.out.trans XV.out))) z0 z2 (by omega) hP)
              clear HKH hP
              rcases HBO.out with ⟨ev, hev, hc1, hc2⟩ | ⟨jk, hj7, hfk, hc1, hc2⟩
              · have HEV := hid hev
                have HC1 := hid hc1
                have HC2 := hid hc2
                clear hc1 hc2 hev HBO
                go_wp2_with fail
                refine HC1.out.mono ?_
                rintro e w2 ⟨b1, rfl, hb1, hy1⟩
                have Z1 := hid hy1
                have HB1 := hid (show ∀ W', Ext w2 W' → W'.cell? ⟨b1, 0, none⟩ = some (.int .i64 ev) from fun W' X => (X.kp (fun _ => True)).cell hb1 trivial)
                clear hb1 hy1 t0 t1 t2 t3
                obtain ⟨t0, t1, t2, t3⟩ := four_of ((XV.out.trans Z1.out).block HM0.out)
                have n1 := fun w => eqErr 137 (.pointer (some ⟨b1, 0, none⟩)) w
                go_wp2_with fail
                refine (HC2.out _ Z1.out).mono ?_
                rintro e w3 ⟨b2, rfl, hb2, hy2⟩
                have Z2 := hid hy2
                have HB2 := hid (show ∀ W', Ext w3 W' → W'.cell? ⟨b2, 0, none⟩ = some (.int .i64 ev) from fun W' X => (X.kp (fun _ => True)).cell hb2 trivial)
                have n2 := fun w => eqErr 137 (.pointer (some ⟨b2, 0, none⟩)) w
                clear hb2 hy2 t0 t1 t2 t3
                go_wp2_with fail
                refine (fcode_any b1 ev _ (HB1.out _ Z2.out)).mono ?_
                rintro e w4 ⟨rfl, hy3⟩
                have Z3 := hid hy3
                clear hy3
                go_wp2_with fail
                refine (fcode_any b2 ev _ (HB2.out _ Z3.out)).mono ?_
                rintro e w5 ⟨rfl, hy4⟩
                have Z4 := hid hy4
                clear hy4
                go_wp2_with fail
                go_roundw
                case rel => exact ⟨j + 1, hlt, by go_num, HX.out.trans (XM.out.trans (XV.out.trans (Z1.out.trans (Z2.out.trans (Z3.out.trans Z4.out)))))⟩
                case measure => simp [intOf]; omega
              · have HC1 := hid hc1
                have HC2 := hid hc2
                have HFK := hid hfk
                have HJ7 := hid hj7
                clear hc1 hc2 hfk hj7 HBO
                go_wp2_with fail
                refine HC1.out.mono ?_
                rintro e w2 ⟨q1, b1, rfl, ⟨g1, g2, a5, c5, g3⟩, hy1⟩
                have Z1 := hid hy1
                have HN1 := hid (show ∀ W', Ext w2 W' → W'.cell? ⟨q1, 0, none⟩ = some (.iface (tyK jk) (.pointer (some ⟨b1, 0, none⟩))) from fun W' X => (X.kp (fun _ => True)).cell g1 trivial)
                have HK1 := hid (show ∀ W', Ext w2 W' → W'.cell? ⟨b1, 0, none⟩ = some (.string k) from fun W' X => (X.kp (fun _ => True)).cell g2 trivial)
                have HE1 := hid (show ∀ W', Ext w2 W' → W'.cell? ⟨b1, 4, none⟩ = some (.slice a5 i c5) from fun W' X => (X.kp (fun _ => True)).cell g3 trivial)
                clear hy1 g1 g2 g3 t0 t1 t2 t3
                obtain ⟨t0, t1, t2, t3⟩ := four_of ((XV.out.trans Z1.out).block HM0.out)
                go_wp2_with fail
                refine (HC2.out _ Z1.out).mono ?_
                rintro e w3 ⟨q2, b2, rfl, ⟨g1, _, _, _, _⟩, hy2⟩
                have Z2 := hid hy2
                have HN2 := hid (show ∀ W', Ext w3 W' → W'.cell? ⟨q2, 0, none⟩ = some (.iface (tyK jk) (.pointer (some ⟨b2, 0, none⟩))) from fun W' X => (X.kp (fun _ => True)).cell g1 trivial)
                clear hy2 g1 t0 t1 t2 t3
                go_wp2_with fail
                refine (fcode_nil _).mono ?_
                rintro e w4 ⟨rfl, rfl⟩
                go_wp2_with fail
                refine (fcode_nil _).mono ?_
                rintro e w4 ⟨rfl, rfl⟩
                obtain ⟨t0, t1, t2, t3⟩ := four_of ((XV.out.trans (Z1.out.trans Z2.out)).block HM0.out)
                obtain ⟨_, hnm⟩ := kdFind_lt HFK.out
                have hk4 : k.size ≤ 4000 := by
                  have : ∀ q, q < 7 → (nmK q).size ≤ 4000 := by decide
                  rw [← hnm]; exact this jk HJ7.out
                have hlen : jk < rowsK.length := by show jk < 7; exact HJ7.out
                have HROW := hid (row_any w4 (HK.out.later (HX.out.trans (XM.out.trans (XV.out.trans (Z1.out.trans Z2.out))))) k hk4 jk hlen (by rw [kIx_rows, HFK.out]) (by rw [rowsK_get]; exact absT100 jk HJ7.out))
                clear hnm hk4
                go_wp2_with fail
                refine HROW.out.mono ?_
                rintro e w5 ⟨ra, rc, rfl, htb, hy3⟩
                obtain ⟨rk, rmn, rmx, rb, rt', hrv⟩ : ∃ rk rmn rmx rb rt', (rowsK[jk]'hlen).val ra rc = .agg #[.string rk, .int .i64 rmn, .int .i64 rmx, .bool rb, .int .i64 rt', .slice ra (absL jk).length rc] := by
                  rw [rowsK_get]
                  exact ⟨_, _, _, _, _, rfl⟩
                rw [rowsK_get] at htb
                have htb' : TB w5 ra (absL jk) := htb
                rw [hrv]
                have Z3 := hid hy3
                have Z4 := hid (Ext.alloc w5 (.cells #[.string rk, .int .i64 rmn, .int .i64 rmx, .bool rb, .int .i64 rt', .slice ra (absL jk).length rc] 37))
                have HRB := hid (show ∀ W', Ext (w5.alloc (.cells #[.string rk, .int .i64 rmn, .int .i64 rmx, .bool rb, .int .i64 rt', .slice ra (absL jk).length rc] 37)) W' → W'.cell? ⟨w5.heap.size, 5, none⟩ = some (.slice ra (absL jk).length rc) from fun W' X => cell_of (X.block (blk0 _ _)) rfl)
                have HTB := hid (show ∀ W', Ext (w5.alloc (.cells #[.string rk, .int .i64 rmn, .int .i64 rmx, .bool rb, .int .i64 rt', .slice ra (absL jk).length rc] 37)) W' → TRow W' ra (absL jk) from fun W' X => (htb'.later ((Ext.alloc _ _).trans X)).row)
                have HAB := hid (fun b w => abilT jk HJ7.out b w)
                have HLJ := hid (show (absL jk).length ≤ 1000 from Nat.le_trans (absT100 jk HJ7.out) (by decide))
                have h1 := fun w => methKind jk HJ7.out b1 w
                have h2 := fun w => methLen jk HJ7.out b1 w
                clear htb htb' hrv hy3 t0 t1 t2 t3 HROW HJ7 HFK HC1 HC2
                generalize tyK jk = TT at *
                go_wp2_with fail
                refine (node_cell q1 _ _ (HN1.out _ (Z2.out.trans (Z3.out.trans Z4.out)))).mono ?_
                rintro e w6 ⟨rfl, hw6⟩
                rw [hw6]
                clear hw6 w6
                go_wp2_with fail
                refine (HAB.out b1 _).mono ?_
                rintro e w6 ⟨al, cl, rfl, hrw1, hy5⟩
                have Z5 := hid hy5
                have HR1 := hid hrw1
                clear hy5 hrw1
                go_wp2_with fail
                refine (node_cell q2 _ _ (HN2.out _ (Z3.out.trans (Z4.out.trans Z5.out)))).mono ?_
                rintro e w7 ⟨rfl, hw7⟩
                rw [hw7]
                clear hw7 w7
                go_wp2_with fail
                refine (HAB.out b2 _).mono ?_
                rintro e w7 ⟨am, cm, rfl, hrw2, hy6⟩
                have Z6 := hid hy6
                have HR2 := hid hrw2
                have r5 := HRB.out _ (Z5.out.trans Z6.out)
                clear hy6 hrw2
                go_wp2_with fail
                refine (eqNames_any al ra cl rc (absL jk) _ HLJ.out (HR1.out.later Z6.out) (HTB.out _ (Z5.out.trans Z6.out))).mono ?_
                rintro e w8 ⟨rfl, hy7⟩
                have Z7 := hid hy7
                clear hy7 r5
                go_wp2_with fail
                refine (eqNames_any am al cm cl (absL jk) _ HLJ.out (HR2.out.later Z7.out) (HR1.out.later (Z6.out.trans Z7.out))).mono ?_
                rintro e w9 ⟨rfl, hy8⟩
                have Z8 := hid hy8
                clear hy8
                have ZZ := hid (Z2.out.trans (Z3.out.trans (Z4.out.trans (Z5.out.trans (Z6.out.trans (Z7.out.trans Z8.out))))))
                have HSK := hid (show ∀ W', Ext w9 W' → (W'.cell? ⟨T0, 0, none⟩ = some (.string k) ∧ W'.cell? ⟨T0, 1, none⟩ = some (.int .i64 num) ∧ W'.cell? ⟨T0, 2, none⟩ = some (.string x) ∧ W'.cell? ⟨T0, 3, none⟩ = some (.slice ta i tc)) from fun W' X => four_of ((XV.out.trans (Z1.out.trans (ZZ.out.trans X))).block HM0.out))
                obtain ⟨t0, t1, t2, t3⟩ := HSK.out _ (Ext.refl _)
                have hse := str_eqb k k
                rw [decide_eq_true rfl] at hse
                have hse2 : (k.toList != k.toList) = false := by unfold bne; rw [hse]; rfl
                go_upto_region 26 with fail
                go_cut [138] from 27 to 138 (fun s138 wx => s138 = .bool false ∧ Ext w9 wx)
                case first =>
                  go_region_held3 (fun W' => W'.cell? ⟨T0, 0, none⟩ = some (.string k) ∧ W'.cell? ⟨T0, 1, none⟩ = some (.int .i64 num) ∧ W'.cell? ⟨T0, 2, none⟩ = some (.string x) ∧ W'.cell? ⟨T0, 3, none⟩ = some (.slice ta i tc))
                    (first | with_reducible exact HSK.out _ (by repeat (first | with_reducible exact Ext.refl _ | with_reducible refine Ext.drew ?_)) | go_keep)
                    (first
                      | (go_at_call 30; refine (node_cell q1 _ _ (HN1.out _ (ZZ.out.trans (by repeat (first | with_reducible exact Ext.refl _ | with_reducible refine Ext.drew ?_))))).mono ?_; rintro r u1 ⟨rfl, rfl⟩)
                      | (go_at_call 183; refine (kind_of b1 k _ (HK1.out _ (ZZ.out.trans (by repeat (first | with_reducible exact Ext.refl _ | with_reducible refine Ext.drew ?_))))).mono ?_; rintro r u1 ⟨rfl, rfl⟩)
                      | (go_at_call 184; refine (len_of b1 a5 i c5 _ (HE1.out _ (ZZ.out.trans (by repeat (first | with_reducible exact Ext.refl _ | with_reducible refine Ext.drew ?_))))).mono ?_; rintro r u1 ⟨rfl, rfl⟩))
                  all_goals
                    go_wp2_with fail
                    go_meet
                    case rel => exact ⟨rfl, (by repeat (first | with_reducible exact Ext.refl _ | with_reducible refine Ext.drew ?_))⟩
                case rest =>
                  obtain ⟨rfl, hxc⟩ := hcut
                  have XC := hid hxc
                  clear hxc
                  go_wp2_with fail
                  go_roundw
                  case rel => exact ⟨j + 1, hlt, by go_num, HX.out.trans (XM.out.trans (XV.out.trans (Z1.out.trans (ZZ.out.trans XC.out))))⟩
                  case measure => simp [intOf]; omega
      · have h100' : ¬ (j : Int) < 100 := by omega
        go_wp2_with fail
        go_ret
        exact ⟨rfl, X4.out.trans HX.out⟩
    · have hlt3 : ¬ (j : Int) < n := by omega
      go_wp2_with fail
      go_ret
      exact ⟨rfl, X4.out.trans HX.out⟩

end Go.Proofs.YtaodkfchmaendaaGreatDoor.Nd
