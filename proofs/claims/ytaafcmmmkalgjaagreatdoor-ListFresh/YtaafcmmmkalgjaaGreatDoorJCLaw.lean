/-
  (*Kit).Make of a kit by a table, for each kind's type; by contracts.
-/
import Derived.Test.YtaafcmmmkalgjaaGreatDoorJKYes
import Derived.Test.YtaafcmmmkalgjaaGreatDoorJCKit1
import Derived.Test.YtaafcmmmkalgjaaGreatDoorKKitT
import Derived.Test.YtaafcmmmkalgjaaGreatDoorKItems
import Derived.Test.YtaafcmmmkalgjaaGreatDoorEqp
namespace Go.Proofs.YtaafcmmmkalgjaaGreatDoor.Nd
open Go.RowKit
/-- A node that a kit by a table made, in its handle. -/
def HeldN (B : Nat) (τ : TypeId) (k : ByteArray) (n : Int) (x : ByteArray) (nk : Nat) (bs : Nat → Nat) (q : Nat) (v : Value) (w' : World) : Prop := ∃ b a c, v = .pointer (some ⟨b, 0, none⟩) ∧ HandAt w' q (.iface τ (.pointer (some ⟨b, 0, none⟩))) (.iface τ (.pointer (some ⟨b, 0, none⟩))) ∧ NodeB w' b k n x (.slice a nk c) ∧ w'.ownsRow B 50 1 (.slice a nk c) nk ((List.range nk).map fun i => .iface 226 (.pointer (some ⟨bs i, 0, none⟩))) ∧ B ≤ b ∧ B ≤ q
theorem HeldN.later {B : Nat} {τ : TypeId} {nk q : Nat} {k x : ByteArray} {n : Int} {bs : Nat → Nat} {v : Value} {w w' : World} (h : HeldN B τ k n x nk bs q v w) (hx : Ext w w') : HeldN B τ k n x nk bs q v w' := by
  obtain ⟨b, a, c, h1, h2, h3, h4, h5⟩ := h
  exact ⟨b, a, c, h1, hx.block h2, h3.later hx, row_ext h4 hx, h5⟩
theorem enterCK1 : EntersF 58 := fun a w => by simp [callFunc, go_sem, Tryz.func58]; rfl
set_option maxRecDepth 100000 in
theorem jcmake_Ec {base kb mb : Nat} {nme : ByteArray} {lv : Value} {acc : List Rw} (ks : List Kd) (g cp bx : Nat) (k x : ByteArray) (n : Int) (ao ka : Option Addr) (kl kc nk c : Nat) (bs : Nat → Nat) (kd : Kd) (w : World) (hkm : KitM w base kb mb nme (.func (.func 58) #[] #[.pointer (some ⟨bx, 0, none⟩)]) lv acc) (hl : ks.length ≤ 1000) (hb : w.heap[bx]? = some (.cells #[.slice (some ⟨g, 0, none⟩) ks.length cp] 80)) (hk : KRow w g ks) (hf : Go.Proofs.YtaafcmmmkalgjaaGreatDoor.kdFind ks k = some kd) (hm : kd.make = 47) (hd : kd.does = none)
    (hks : k.size ≤ 140737488351232) (hxs : x.size ≤ 140737488351232) (ix : Nat) (hix : kIx acc k = some ix) (hil : ix < acc.length) (hn : nk ≤ 100000) (hh : HandsP w ao nk c (fun _ => 226) (fun i => .pointer (some ⟨bs i, 0, none⟩))) (hfq : fitsR acc[ix] k n x nk = 0) (hodd : oddF hasEc acc[ix].abs = none) (hal : acc[ix].abs.length ≤ 1000) :
    Calls Tryz.prog 32 #[.pointer (some ⟨kb, 0, none⟩), .agg #[.string k, .int .i64 n, .string x, .slice ka kl kc], .slice ao nk c] w (GotR w (HeldN w.heap.size 164 k n x nk bs)) := by
  refine kmake_yes 58 #[.pointer (some ⟨bx, 0, none⟩)] k x n ao ka kl kc nk c bs w hkm hks hxs ix hix hil hn hh.o hfq 164 hasEc (fun v w i hi => ofEc v w i hi) hodd hal (HeldN w.heap.size 164 k n x nk bs) (fun q v w1 w2 h hx => h.later hx) (fun w1 hx => ?_) (fun q v w1 qa cq B hq hrow => ?_)
  · obtain ⟨k0, k1', k2, k3⟩ := (hkm.later hx).four
    refine (made1 58 enterCK1 bx kb k x n ka kl kc ao nk c (fun h w' => ∃ q v, h = some ⟨q, 0, none⟩ ∧ w'.cell? ⟨q, 0, none⟩ = some (.iface 164 v) ∧ HeldN w.heap.size 164 k n x nk bs q v w') (fun w a' c' => HandsO w a' nk (fun _ => 226) (fun i => .pointer (some ⟨bs i, 0, none⟩))) w1 k3 (fun w2 hx2 => cloneHands ao nk c _ _ w2 hn ((hh.later hx).later hx2)) (fun w2 w3 a' c' h hx2 => h.later hx2) (fun w2 hx2 a' c' h => ?_))
    refine (kit1_Ec ks g cp bx k x n a' nk c' (fun _ => 226) (fun i => .pointer (some ⟨bs i, 0, none⟩)) kd w2 hl ((hx.trans hx2).block hb) (hk.later (hx.trans hx2)) hf hm hd hn h).mono ?_
    rintro e w' ⟨h, rfl, ⟨b, a, c1, h2, h3, h4, h5, h6⟩, hy⟩
    have hs : w.heap.size ≤ w2.heap.size := (hx.trans hx2).size
    exact ⟨_, rfl, ⟨h, .pointer (some ⟨b, 0, none⟩), rfl, cell_of h2 rfl, b, a, c1, rfl, h2, h3, row_base h4 hs, Nat.le_trans hs h5, Nat.le_trans hs h6⟩, hy⟩
  · obtain ⟨b, a, c1, rfl, h2, h3, h4, h5⟩ := hq
    exact matches_Ec b nk c1 cq a qa ka kl kc k x n bs w1 h3 hn h4 hrow

end Go.Proofs.YtaafcmmmkalgjaaGreatDoor.Nd
/-
  made of the statements: a node of a kit over some truths; by contracts.
-/
namespace Go.Proofs.YtaafcmmmkalgjaaGreatDoor.Nd
open Go.RowKit
def bYes : ByteArray := ⟨#[98, 97, 115, 101, 46, 121, 101, 115]⟩
theorem bYes_find : kdFind bYes = some 1 := by decide
theorem fit_yes0 : fitsK (minK 1) (maxK 1) (numK 1) (textK 1) 0 ⟨#[]⟩ 0 = 0 := by simp [fitsK, takesK, minK, maxK, numK, textK]; try decide
theorem make_yes (w : World) : Calls Tryz.prog 31 #[.agg #[.string bYes, .int .i64 0, .string ⟨#[]⟩, .slice none 0 0], .slice none 0 0] w fun e w' => ∃ b h, e = .returned (.tuple #[.pointer (some ⟨h, 0, none⟩), .nilIface]) ∧ HandAt w' h (.iface 226 (.pointer (some ⟨b, 0, none⟩))) (.iface 226 (.pointer (some ⟨b, 0, none⟩))) ∧ Ext w w' := by
  refine (make_some 1 (by decide) bYes ⟨#[]⟩ 0 none 0 0 none 0 0 (fun _ => 226) (fun _ => .nilIface) w bYes_find (by decide) (by decide) (.inl rfl)).mono ?_
  rintro e w1 (⟨_, h, b, a, c, rfl, hh, _, _, _, hx1⟩ | ⟨hne, _⟩)
  · exact ⟨b, h, rfl, hh, hx1⟩
  · exact absurd hne (by rw [show fitsK (minK 1) (maxK 1) (numK 1) (textK 1) 0 ⟨#[]⟩ ((0 : Nat) : Int) = 0 from fit_yes0]; decide)
/-- The handles that were made so far. -/
def KidsLp (w : World) (j : Nat) (q : Value) (wr : World) : Prop := ∃ hs bs : List Nat, hs.length = j ∧ bs.length = j ∧ wr.ownsRow w.heap.size 91 1 q j (hs.map fun h => .pointer (some ⟨h, 0, none⟩)) ∧ (∀ i, (h1 : i < hs.length) → (h2 : i < bs.length) → HandAt wr hs[i] (.iface 226 (.pointer (some ⟨bs[i], 0, none⟩))) (.iface 226 (.pointer (some ⟨bs[i], 0, none⟩)))) ∧ Ext w wr
theorem KidsLp.slice {w wr : World} {j : Nat} {q : Value} (h : KidsLp w j q wr) : ∃ a c, q = .slice a j c := by
  obtain ⟨hs, bs, _, _, ho, _⟩ := h
  exact ownsRow_slice ho
theorem KidsLp.hands {w wr : World} {j c : Nat} {a : Option Addr} (h : KidsLp w j (.slice a j c) wr) : ∃ bs : Nat → Nat, HandsP wr a j c (fun _ => 226) (fun i => .pointer (some ⟨bs i, 0, none⟩)) := by
  obtain ⟨hs, bs, h1, h2, ho, hc, hx⟩ := h
  refine ⟨fun i => bs.getD i 0, ?_⟩
  rcases ho.2 with ⟨hv, h0⟩ | ⟨gg, cap, cur, hv, hbg, hbk, h3, h4, h5, h6⟩
  · injection hv with e1 e2 e3
    exact .inl ⟨e1, h0, e3⟩
  · injection hv with e1 _ _
    subst e1
    refine .inr ⟨gg, 0, rfl, fun i hi => ?_⟩
    have i1 : i < hs.length := by omega
    have i2 : i < bs.length := by omega
    have hb := hc i i1 i2
    have hcur : cur[i]? = some (.pointer (some ⟨hs[i], 0, none⟩)) := by
      have e : (hs.map fun h => Value.pointer (some ⟨h, 0, none⟩))[i]? = some (.pointer (some ⟨hs[i], 0, none⟩)) := by
        rw [List.getElem?_map, List.getElem?_eq_getElem i1]; rfl
      rw [← h6, List.getElem?_take_of_lt (by omega)] at e
      simpa using e
    refine ⟨hs[i], by rw [Nat.zero_add]; exact cell_of hbk hcur, ?_, lt_of_block hbk, lt_of_block hb⟩
    show wr.cell? ⟨hs[i], 0, none⟩ = some (Value.iface 226 (.pointer (some ⟨bs.getD i 0, 0, none⟩)))
    rw [List.getD_eq_getElem?_getD, List.getElem?_eq_getElem i2]
    exact cell_of hb rfl
set_option maxRecDepth 100000 in
set_option maxHeartbeats 4000000 in
theorem lawMadeL (τ : TypeId) (kb : Nat) (k x : ByteArray) (n : Nat) (w : World) (hn : n ≤ 1000)
    (hmk : ∀ w1 a c bs, Ext w w1 → HandsP w1 a n c (fun _ => 226) (fun i => .pointer (some ⟨bs i, 0, none⟩)) → Calls Tryz.prog 32 #[.pointer (some ⟨kb, 0, none⟩), .agg #[.string k, .int .i64 0, .string x, .slice none 0 0], .slice a n c] w1 (GotR w1 (HeldN w1.heap.size τ k 0 x n bs))) :
    Calls Tryz.prog 15 #[.pointer (some ⟨kb, 0, none⟩), .agg #[.string k, .int .i64 0, .string x, .slice none 0 0], .int .i64 n] w fun e w' => ∃ b a c, e = .returned (.iface τ (.pointer (some ⟨b, 0, none⟩))) ∧ NodeB w' b k 0 x (.slice a n c) ∧ Ext w w' := by
  obtain ⟨i0, hi0, hz0, hz1, hz2⟩ := info_parts hpInfo
  have HMK := hid hmk
  have hn' : (n : Int) ≤ 1000 := by omega
  clear hmk
  obtain ⟨M, hM⟩ : ∃ M, w.alloc (.cells #[.string k, .int .i64 0, .string x, .slice none 0 0] 54) = M := ⟨_, rfl⟩
  have XM := hid (show Ext w M from hM ▸ Ext.alloc _ _)
  have HM0 := hid (show M.heap[w.heap.size]? = some (.cells #[.string k, .int .i64 0, .string x, .slice none 0 0] 54) from hM ▸ blk0 _ _)
  go_enter Tryz.func15, Tryz.ntmps15
  go_wp2_with fail
  first | rw [hM] | skip
  clear hM
  go_loopw [7, 8] (fun q7 q8 wr => ∃ j : Nat, j ≤ n ∧ q8 = .int .i64 j ∧ KidsLp M j q7 wr) (fun _ q8 _ => n - (intOf q8).toNat)
  case atStart => exact ⟨0, Nat.zero_le _, rfl, ⟨[], [], rfl, rfl, World.ownsRow_nil _ _ _ _, fun i h => absurd h (Nat.not_lt_zero _), Ext.refl _⟩⟩
  case round =>
    obtain ⟨j, hj, rfl, hk⟩ := hrel
    obtain ⟨a3, c3, rfl⟩ := hk.slice
    have HK := hid hk
    clear hk
    by_cases hlt : j < n
    · have hlt' : (j : Int) < n := by omega
      go_wp2_with fail
      refine (make_yes _).mono ?_
      rintro e w2 ⟨b, h, rfl, hhd, hx2⟩
      have HHD := hid hhd
      have X2 := hid hx2
      clear hhd hx2
      obtain ⟨hs, bs, h1, h2, ho, hc, hx⟩ := HK.out
      have HO2 := hid (row_ext ho (X2.out.trans (Ext.alloc w2 (.cells #[.pointer (some ⟨h, 0, none⟩)] 91))))
      have HN := hid (new_one w2 (.pointer (some ⟨h, 0, none⟩)) 91)
      have HUS := hid (hx.trans X2.out).size
      have HC := hid hc
      have HXX := hid hx
      have HL1 := hid h1
      have HL2 := hid h2
      clear ho hc hx h1 h2
      go_wp2_with (at_builtin; refine wpList_append_own_at _ rfl _ _ 90 rfl M.heap.size 91 i0 (.pointer none) 1 8 Tryz.underlying90 hi0 hz0 hz1 hz2 rfl (by decide) _ _ _ rfl HO2.out ⟨w2.heap.size, 0, none⟩ 1 1 [.pointer (some ⟨h, 0, none⟩)] rfl rfl HN.out (by simp [Value.oneCell']) (by unfold maxLen; omega) (by omega) (by have := HUS.out; simp; omega) ?_; intro v9 w9 hown9 hgrow9 _ _; have HO9 := hid hown9; have HG9 : Hid (World.grownBy (w2.alloc (.cells #[.pointer (some ⟨h, 0, none⟩)] 91)) w9 (Value.slice a3 j c3).ownBlock) := hid hgrow9; clear hown9 hgrow9)
      go_roundw
      case measure => simp [intOf]; omega
      case rel =>
        have hkp := grown_kp HG9.out
        have hcell : ∀ (q : Nat) (u1 u2 : Value), HandAt w2 q u1 u2 → HandAt w9 q u1 u2 := fun q u1 u2 hq => by
          have hq' : (w2.alloc (.cells #[.pointer (some ⟨h, 0, none⟩)] 91)).heap[q]? = some (.cells #[u1, u2] 145) := blkOld _ hq
          refine hkp.block' hq' (fun e => ?_)
          rcases HO2.out.2 with ⟨hv, _⟩ | ⟨gg, cap, cur, hv, _, hbk, _⟩
          · rw [hv] at e; simp [Value.ownBlock] at e
          · rw [hv] at e
            simp [Value.ownBlock] at e
            subst e
            rw [hbk] at hq'
            simp at hq'
        refine ⟨j + 1, by omega, by go_num, ⟨hs ++ [h], bs ++ [b], by simp [HL1.out], by simp [HL2.out], by rw [List.map_append]; exact HO9.out, fun i h1 h2 => ?_, ((HXX.out.trans X2.out).more _).grown HG9.out (by have := HUS.out; simp; omega) (fun k hk => (HO2.out.lt k hk).1)⟩⟩
        by_cases hi : i < hs.length
        · have hi2 : i < bs.length := by rw [HL2.out, ← HL1.out]; exact hi
          rw [List.getElem_append_left hi, List.getElem_append_left hi2]
          exact hcell _ _ _ (X2.out.block (HC.out i hi hi2))
        · have hie : i = hs.length := by simp at h1; omega
          subst hie
          have hbe : bs.length = hs.length := by rw [HL2.out, HL1.out]
          simp only [List.getElem_append_right (Nat.le_refl _), Nat.sub_self, List.getElem_cons_zero]
          rw [List.getElem_append_right (by omega)]
          simp only [hbe, Nat.sub_self, List.getElem_cons_zero]
          exact hcell _ _ _ HHD.out
    · obtain rfl : j = n := by omega
      obtain ⟨bs, hP⟩ := HK.out.hands
      obtain ⟨_, _, _, _, _, _, hx⟩ := HK.out
      have HXX := hid hx
      have HMR := hid (HMK.out _ a3 c3 bs (XM.out.trans hx) hP)
      obtain ⟨t0, t1, t2, t3⟩ := four_of (hx.block HM0.out)
      have hwl := lt_of_cell t0
      have hlt3 : ¬ (j : Int) < j := by omega
      clear hx hP
      go_wp2_with fail
      refine HMR.out.mono ?_
      rintro e w4 ⟨h, _, rfl, ⟨b, ma, mc, rfl, hhd, hnb, hrow, _, _⟩, hx4⟩
      have HNB := hid hnb
      have X4 := hid (XM.out.trans (HXX.out.trans hx4))
      have hhc : w4.cell? ⟨h, 0, none⟩ = some (.iface τ (.pointer (some ⟨b, 0, none⟩))) := cell_of hhd rfl
      clear hnb hhd hrow hx4
      go_wp2_with fail
      refine (node_cell h _ _ hhc).mono ?_
      rintro e w5 ⟨rfl, hw5⟩
      rw [hw5]
      clear hw5 w5
      go_wp2_with fail
      go_ret
      exact ⟨b, ma, mc, rfl, HNB.out, X4.out⟩

end Go.Proofs.YtaafcmmmkalgjaaGreatDoor.Nd
