/-
  Of at an empty list, by a contract.
-/
import Derived.Test.YtllbelglilkdpaaDoorSOfE
import Derived.Test.YtllbelglilkdpaaDoorSSort
import Derived.Deep.DeepCutAuto
namespace Go.Proofs.YtllbelglilkdpaaDoor
open Go.RowKit
theorem dec_one : (⟨(Lib.decDigits (0 + 1)).toArray⟩ : ByteArray) = ⟨#[49]⟩ := by
  unfold Lib.decDigits
  rfl
theorem of_zero (w : World) {B kb mb b1 b2 b3 b5 : Nat} (h : Solv w B kb mb 0 b1 b2 b3 b5 ((0 : Nat) : Int) (fun _ => none)) : Calls Tryd.prog 43 #[.agg #[meetF b3 b1, foundF b2, freshF b5], .agg #[.int .i64 5, .int .i64 0, .string ⟨#[]⟩, .slice none 0 0]] w fun e w' => e = .returned (.tuple #[.agg #[.int .i64 1, .string ⟨#[49]⟩], .bool true]) ∧ Kp (· ≠ b5) w w' := by
  have h1 := of_none 0 0 ⟨#[]⟩ none 0 w h (by decide) ⟨⟨by decide, by decide, by rw [dec_one]; decide⟩, rfl, rfl⟩
  rw [dec_one] at h1
  exact h1.mono fun e w' hr => ⟨hr.1, hr.2.1⟩
theorem ext_set {M W : World} {q i : Nat} {v : Value} (h : Ext M W) (hq : M.heap.size ≤ q) : Ext M (W.setCell ⟨q, i, none⟩ v) := Kp.extOf h (Kp.set W q i v (fun h => h rfl)) hq
set_option maxRecDepth 100000 in
set_option maxHeartbeats 2000000 in
theorem of_void (w : World) (HMAY : ∀ w1, Calls Tryd.prog 42 #[.agg #[.int .i64 5, .int .i64 0, .string ⟨#[]⟩, .slice none 0 0]] w1 fun e w' => e = .returned (.bool true) ∧ Ext w1 w') :
    Calls Tryd.prog 17 #[.agg #[.int .i64 5, .int .i64 0, .string ⟨#[]⟩, .slice none 0 0]] w fun e w' => ∃ v', e = .returned (.tuple #[v', .int .i64 0]) ∧ SRd (fun q => w.heap.size ≤ q) w' 2 v' (chain 1 ⟨#[97]⟩) ∧ Ext w w' := by
  have HM := hid HMAY
  clear HMAY
  obtain ⟨M, hM⟩ : ∃ M, (w.alloc (.cells #[.int .i64 5, .int .i64 0, .string ⟨#[]⟩, .slice none 0 0] 31)).alloc (.cells #[.string ⟨#[]⟩, .slice none 0 0] 27) = M := ⟨_, rfl⟩
  have XM := hid (show Ext w M from hM ▸ Ext.alloc2 _ _ _)
  have HM0 := hid (show M.heap[w.heap.size]? = some (.cells #[.int .i64 5, .int .i64 0, .string ⟨#[]⟩, .slice none 0 0] 31) from hM ▸ blkOld _ (blk0 _ _))
  have HM1 := hid (show M.heap[w.heap.size + 1]? = some (.cells #[.string ⟨#[]⟩, .slice none 0 0] 27) from hM ▸ blk1 _ _ _)
  have HC := hid (show ∀ W', Ext M W' → (Ext M W' ∧ W'.cell? ⟨w.heap.size, 0, none⟩ = some (.int .i64 5) ∧ W'.cell? ⟨w.heap.size, 1, none⟩ = some (.int .i64 0) ∧ W'.cell? ⟨w.heap.size, 2, none⟩ = some (.string ⟨#[]⟩) ∧ W'.cell? ⟨w.heap.size, 3, none⟩ = some (.slice none 0 0)) from fun W' X => ⟨X, cell_of (X.block HM0.out) rfl, cell_of (X.block HM0.out) rfl, cell_of (X.block HM0.out) rfl, cell_of (X.block HM0.out) rfl⟩)
  obtain ⟨_, a0, a1, a2, a3⟩ := HC.out M (Ext.refl _)
  go_enter Tryd.func17, Tryd.ntmps17
  go_wp2_with fail
  go_at_call 42
  refine (HM.out M).mono ?_
  rintro e w1 ⟨rfl, hx1⟩
  clear hM a0 a1 a2 a3
  have X1 := hid hx1
  clear hx1
  obtain ⟨_, a0, a1, a2, a3⟩ := HC.out w1 X1.out
  go_upto_region 3 with fail
  go_cut [4, 5] (fun s4 s5 wx => ∃ q, s4 = .pointer (some ⟨q, 0, none⟩) ∧ s5 = .bool true ∧ M.heap.size ≤ q ∧ wx.heap[q]? = some (.cells #[.int .i64 1, .string ⟨#[49]⟩] 58) ∧ Ext M wx)
  case first =>
    go_region_held3 (fun W' => Ext M W' ∧ W'.cell? ⟨w.heap.size, 0, none⟩ = some (.int .i64 5) ∧ W'.cell? ⟨w.heap.size, 1, none⟩ = some (.int .i64 0) ∧ W'.cell? ⟨w.heap.size, 2, none⟩ = some (.string ⟨#[]⟩) ∧ W'.cell? ⟨w.heap.size, 3, none⟩ = some (.slice none 0 0)) (first
      | exact HC.out _ (X1.out.drew)
      | exact HC.out _ Z2
      | exact HC.out _ Z3
      | exact HC.out _ (X1.out.drew.trans (Ext.alloc _ _))
      | exact HC.out _ (Z2.trans (Ext.alloc _ _))
      | exact HC.out _ (Z3.trans (Ext.alloc _ _))
      | exact HC.out _ (ext_set (ext_set Z3 X1.out.size) X1.out.size)
      | exact HC.out _ (ext_set (ext_set Z3 Z2.size) Z2.size)
      | exact HC.out _ (ext_set (ext_set (Z3.trans (Ext.alloc _ _)) Z3.size) Z3.size)) (first
      | (go_at_call 39; have ZS := (‹Ext M _ ∧ _›).1.size; refine (newSolver_any _).mono ?_; rintro e w2 ⟨kb, mb, b1, b2, b3, b5, rfl, hx2, hs2⟩; have Z2 : Ext M w2 := (‹Ext M _ ∧ _›).1.trans hx2; (try (have zz := hid (show w2.heap[w1.heap.size]? = some (.cells #[.int .i64 0, .string ⟨#[]⟩] 58) from hx2.block (blk0 _ (.cells #[.int .i64 0, .string ⟨#[]⟩] 58))))); (try (have _ := zz.out; have zq := hid (show w1.heap.size ≠ b5 by have h1 := hs2.ge.2.2.2.2.2; have h2 : w1.drew.heap.size + 1 ≤ b5 := by { rw [← blkS w1.drew (.cells #[.int .i64 0, .string ⟨#[]⟩] 58)]; exact h1 }; have h3 : w1.heap.size + 1 ≤ b5 := h2; omega))); have ZB := hid (show M.heap.size ≤ b5 from Nat.le_trans ZS hs2.ge.2.2.2.2.2); clear hx2 ZS)
      | (go_at_call 43; refine (of_zero _ (hs2.later (by first | exact Ext.refl _ | exact Ext.alloc _ _))).mono ?_; rintro e w3 ⟨rfl, hx3⟩; have Z3 : Ext M w3 := Kp.extOf (‹Ext M _ ∧ _›).1 hx3 ZB.out; (try (have z3 := hx3.block' (blk0 _ (.cells #[.int .i64 0, .string ⟨#[]⟩] 58)) (by have := lt_of_block hs2.c5; omega); obtain ⟨y0, y1⟩ := two_of z3; obtain ⟨y2, y3⟩ := two_free z3)); (try (have z3 := hx3.block' zz.out zq.out; obtain ⟨y0, y1⟩ := two_of z3; obtain ⟨y2, y3⟩ := two_free z3))))
    all_goals
      go_wp2_with fail
      go_meet
      case rel =>
        first
          | exact ⟨_, rfl, rfl, X1.out.size, two_set z3, ext_set (ext_set Z3 X1.out.size) X1.out.size⟩
          | exact ⟨_, rfl, rfl, Z2.size, two_set z3, ext_set (ext_set Z3 Z2.size) Z2.size⟩
          | exact ⟨_, rfl, rfl, Z3.size, blk0 _ _, Z3.trans (Ext.alloc _ _)⟩
          | exact ⟨_, rfl, rfl, Z3.size, two_set (blk0 _ _), ext_set (ext_set (Z3.trans (Ext.alloc _ _)) Z3.size) Z3.size⟩
  case rest =>
    obtain ⟨q, rfl, rfl, hq, hb, hx⟩ := hcut
    obtain ⟨V, hV⟩ : ∃ V, V = wc := ⟨wc, rfl⟩
    subst hV
    have HQ := hid hq
    have HB := hid hb
    have HX := hid hx
    clear a0 a1 a2 a3 hq hb hx
    obtain ⟨c0, c1⟩ := two_of HB.out
    obtain ⟨c2, c3⟩ := two_free HB.out
    have HG := hid (fun w1 => ground_any ⟨#[49]⟩ w1)
    rw [show grdL (⟨#[49]⟩ : ByteArray).data.toList = false from rfl] at HG
    obtain ⟨U, hU⟩ : ∃ U, V.setCell ⟨q, 1, none⟩ (.string ⟨#[97]⟩) = U := ⟨_, rfl⟩
    have HBU := hid (show U.heap[q]? = some (.cells #[.int .i64 1, .string ⟨#[97]⟩] 58) from hU ▸ set_at HB.out 1 (.string ⟨#[97]⟩))
    have HXU := hid (show Ext M U from hU ▸ ext_set HX.out HQ.out)
    obtain ⟨u0, u1⟩ := two_of HBU.out
    go_wp2_with fail
    go_at_call 35
    refine (HG.out V).mono ?_
    rintro e w9 ⟨rfl, hw9⟩
    rw [hw9]
    clear hw9 w9
    go_wp2_with fail
    go_at_call 37
    refine (sort_any 1 ⟨#[97]⟩ U (by decide) (by decide)).mono ?_
    rintro e w6 ⟨v', rfl, hr6, hx6, _⟩
    clear hU c0 c1 c2 c3 u0 u1
    obtain ⟨a, c, rfl⟩ := hr6.shape
    obtain ⟨nm, hnm⟩ : ∃ nm, (chain 1 ⟨#[97]⟩).name = nm := ⟨_, rfl⟩
    obtain ⟨kl, hkl⟩ : ∃ kl, (chain 1 ⟨#[97]⟩).kids.length = kl := ⟨_, rfl⟩
    rw [hnm, hkl] at hr6 ⊢
    clear hnm hkl
    have R6 := hid hr6
    have X6 := hid (HXU.out.trans hx6)
    clear hr6 hx6
    have H6 := hid (X6.out.block HM1.out)
    obtain ⟨d0, d1⟩ := two_of H6.out
    obtain ⟨d2, d3⟩ := two_free H6.out
    obtain ⟨Z, hZ⟩ : ∃ Z, (w6.setCell ⟨w.heap.size + 1, 0, none⟩ (.string nm)).setCell ⟨w.heap.size + 1, 1, none⟩ (.slice a kl c) = Z := ⟨_, rfl⟩
    have KZ := hid (show Kp (· ≠ w.heap.size + 1) w6 Z from hZ ▸ Kp.set2 w6 (w.heap.size + 1) 0 (.string nm) (.slice a kl c))
    have HZ := hid (show Z.heap[w.heap.size + 1]? = some (.cells #[.string nm, .slice a kl c] 27) from hZ ▸ two_set H6.out)
    obtain ⟨z0, z1⟩ := two_of HZ.out
    go_wp2_with fail
    refine bodyPost_ret (v := .tuple #[.agg #[.string nm, .slice a kl c], .int .i64 0]) (by simp [results, Tryd.results17, go_sem, z0, z1]) rfl ?_
    have hlt := lt_of_block HM1.out
    have hsz := HXU.out.size
    refine ⟨_, rfl, ?_, Kp.extOf (XM.out.trans X6.out) KZ.out (by omega)⟩
    exact (R6.out.keep (KZ.out.mono (fun k _ (hk : U.heap.size ≤ k) => by omega))).mono (fun k _ (hk : U.heap.size ≤ k) => by omega)
end Go.Proofs.YtllbelglilkdpaaDoor
