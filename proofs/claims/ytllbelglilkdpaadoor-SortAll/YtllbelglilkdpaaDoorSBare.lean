/-
  bare of package sort by a contract.
-/
import Derived.Test.YtllbelglilkdpaaDoorSFound
import Derived.Deep.RegionHeld3
import Derived.WalkSpells
import Derived.Deep.RegionWith
namespace Go.Proofs.YtllbelglilkdpaaDoor
open Go.RowKit
set_option maxRecDepth 100000 in
set_option maxHeartbeats 2000000 in
theorem bare_min (n m b : Int) (x y : ByteArray) (w : World) (hn : Bd (n, x)) (hm : Bd (m, y)) (hb : b = if m < n then m else n) : Calls Tryd.prog 59 #[shV (n, x), shV (m, y)] w fun e w' => e = .returned (.tuple #[shV (n + -b, x), shV (m + -b, y)]) ∧ Ext w w' := by
  have n1 : -70368744175616 ≤ n := hn.1
  have n2 : n ≤ 70368744175616 := hn.2.1
  have m1 : -70368744175616 ≤ m := hm.1
  have m2 : m ≤ 70368744175616 := hm.2.1
  have b1 : -70368744175616 ≤ b := by rw [hb]; split <;> omega
  have b2 : b ≤ 70368744175616 := by rw [hb]; split <;> omega
  have HBN := hid (show (-70368744175616 ≤ n ∧ n ≤ 70368744175616) ∧ (-70368744175616 ≤ m ∧ m ≤ 70368744175616) from ⟨⟨n1, n2⟩, m1, m2⟩)
  have hw : IntKind.i64.wrap (-b) = -b := by rw [IntKind.wrap_i64]; omega
  have hwn : IntKind.i64.wrap (-n) = -n := by rw [IntKind.wrap_i64]; omega
  have hwm : IntKind.i64.wrap (-m) = -m := by rw [IntKind.wrap_i64]; omega
  obtain ⟨M, hM⟩ : ∃ M, (((w.alloc (.cells #[.int .i64 n, .string x] 58)).alloc (.cells #[.int .i64 m, .string y] 58)).alloc (.cells #[.int .i64 0, .string ⟨#[]⟩] 58)).alloc (.cells #[.int .i64 0, .string ⟨#[]⟩] 58) = M := ⟨_, rfl⟩
  have HXM := hid (show Ext w M from hM ▸ ((Ext.alloc2 _ _ _).trans (Ext.alloc2 _ _ _)))
  have HB0 := hid (show M.heap[w.heap.size]? = some (.cells #[.int .i64 n, .string x] 58) from hM ▸ blkOld _ (blkOld _ (blkOld _ (blk0 _ _))))
  have HB1 := hid (show M.heap[w.heap.size + 1]? = some (.cells #[.int .i64 m, .string y] 58) from hM ▸ blkOld _ (blkOld _ (blk1 _ _ _)))
  have HB2 := hid (show M.heap[w.heap.size + 1 + 1]? = some (.cells #[.int .i64 0, .string ⟨#[]⟩] 58) from hM ▸ blkOld _ (blkN (by rw [blkS, blkS])))
  have HB3 := hid (show M.heap[w.heap.size + 1 + 1 + 1]? = some (.cells #[.int .i64 0, .string ⟨#[]⟩] 58) from hM ▸ blkN (by rw [blkS, blkS, blkS]))
  have HSK := hid (show ∀ W', Ext M W' → (W'.cell? ⟨w.heap.size, 0, none⟩ = some (.int .i64 n) ∧ W'.cell? ⟨w.heap.size, 1, none⟩ = some (.string x) ∧ W'.cell? ⟨w.heap.size + 1, 0, none⟩ = some (.int .i64 m) ∧ W'.cell? ⟨w.heap.size + 1, 1, none⟩ = some (.string y)) from fun W' Y => by
    obtain ⟨s0, s1⟩ := two_of (Y.block HB0.out)
    obtain ⟨s2, s3⟩ := two_of (Y.block HB1.out)
    exact ⟨s0, s1, s2, s3⟩)
  obtain ⟨t0, t1⟩ := two_of HB0.out
  obtain ⟨t2, t3⟩ := two_of HB1.out
  have na1 : w.heap.size ≠ w.heap.size + 1 + 1 := by omega
  have na2 : w.heap.size ≠ w.heap.size + 1 + 1 + 1 := by omega
  have na3 : w.heap.size + 1 ≠ w.heap.size + 1 + 1 := by omega
  have na4 : w.heap.size + 1 ≠ w.heap.size + 1 + 1 + 1 := by omega
  have na5 : w.heap.size + 1 + 1 ≠ w.heap.size + 1 + 1 + 1 := by omega
  have HKS := hid (show ∀ (W' : World) (g i : Nat) (v : Value), g ≠ w.heap.size → g ≠ w.heap.size + 1 → (W'.cell? ⟨w.heap.size, 0, none⟩ = some (.int .i64 n) ∧ W'.cell? ⟨w.heap.size, 1, none⟩ = some (.string x) ∧ W'.cell? ⟨w.heap.size + 1, 0, none⟩ = some (.int .i64 m) ∧ W'.cell? ⟨w.heap.size + 1, 1, none⟩ = some (.string y)) → ((W'.setCell ⟨g, i, none⟩ v).cell? ⟨w.heap.size, 0, none⟩ = some (.int .i64 n) ∧ (W'.setCell ⟨g, i, none⟩ v).cell? ⟨w.heap.size, 1, none⟩ = some (.string x) ∧ (W'.setCell ⟨g, i, none⟩ v).cell? ⟨w.heap.size + 1, 0, none⟩ = some (.int .i64 m) ∧ (W'.setCell ⟨g, i, none⟩ v).cell? ⟨w.heap.size + 1, 1, none⟩ = some (.string y)) from fun W' g i v h1 h2 ⟨k0, k1, k2, k3⟩ => by
    have kk := Kp.set (K := (· ≠ g)) W' g i v (fun h => h rfl)
    exact ⟨kk.cell k0 (fun e => h1 e.symm), kk.cell k1 (fun e => h1 e.symm), kk.cell k2 (fun e => h2 e.symm), kk.cell k3 (fun e => h2 e.symm)⟩)
  have hlt : (m < n ∧ m = b) ∨ (¬ m < n ∧ n = b) := by
    by_cases h : m < n
    · exact .inl ⟨h, by rw [hb, if_pos h]⟩
    · exact .inr ⟨h, by rw [hb, if_neg h]⟩
  clear hn hm hb n1 n2 m1 m2 b1 b2
  rcases hlt with ⟨h1, h2⟩ | ⟨h1, h2⟩
  · subst h2
    go_enter Tryd.func59, Tryd.ntmps59
    go_wp2_with fail
    go_region_held3 (fun W' => W'.cell? ⟨w.heap.size, 0, none⟩ = some (.int .i64 n) ∧ W'.cell? ⟨w.heap.size, 1, none⟩ = some (.string x) ∧ W'.cell? ⟨w.heap.size + 1, 0, none⟩ = some (.int .i64 m) ∧ W'.cell? ⟨w.heap.size + 1, 1, none⟩ = some (.string y))
      (first | with_reducible exact SK2 | with_reducible exact SK1 | with_reducible exact ⟨t0, t1, t2, t3⟩ | with_reducible exact HKS.out _ _ _ _ (Ne.symm na1) (Ne.symm na3) (HKS.out _ _ _ _ (Ne.symm na1) (Ne.symm na3) SK2) | with_reducible exact HKS.out _ _ _ _ (Ne.symm na2) (Ne.symm na4) (HKS.out _ _ _ _ (Ne.symm na2) (Ne.symm na4) SK2) | with_reducible exact HKS.out _ _ _ _ (Ne.symm na2) (Ne.symm na4) (HKS.out _ _ _ _ (Ne.symm na2) (Ne.symm na4) (HKS.out _ _ _ _ (Ne.symm na1) (Ne.symm na3) (HKS.out _ _ _ _ (Ne.symm na1) (Ne.symm na3) SK2))) | with_reducible exact HKS.out _ _ _ _ (Ne.symm na1) (Ne.symm na3) (HKS.out _ _ _ _ (Ne.symm na1) (Ne.symm na3) (HKS.out _ _ _ _ (Ne.symm na2) (Ne.symm na4) (HKS.out _ _ _ _ (Ne.symm na2) (Ne.symm na4) SK2))) | go_keep)
      (first
        | (go_at_call 41; have zz := Z1; clear zz; refine (within_any _ _ _ _ (by have h := HBN.out; omega) (by have h := HBN.out; omega) (by have h := HBN.out; omega) (by have h := HBN.out; omega)).mono ?_; rintro e w2 ⟨rfl, hx2⟩; have Z2 : Ext M w2 := Ext.trans (by repeat (first | with_reducible exact Z1 | with_reducible refine Ext.drew ?_)) hx2; have SK2 := HSK.out w2 Z2; obtain ⟨r0, r1⟩ := two_of (Z2.block HB2.out); obtain ⟨e0, e1⟩ := two_free (Z2.block HB2.out); obtain ⟨v0, v1⟩ := two_of (Z2.block HB3.out); obtain ⟨u0, u1⟩ := two_free (Z2.block HB3.out))
        | (go_at_call 41; refine (within_any _ _ _ _ (by have h := HBN.out; omega) (by have h := HBN.out; omega) (by have h := HBN.out; omega) (by have h := HBN.out; omega)).mono ?_; rintro e w1 ⟨rfl, hx1⟩; have Z1 : Ext M w1 := Ext.trans (by repeat (first | with_reducible exact Ext.refl _ | with_reducible refine Ext.drew ?_)) hx1; have SK1 := HSK.out w1 Z1))
    all_goals
      go_wp2_with fail
      have k2 := Kp.set2 w2 (w.heap.size + 1 + 1) 0 (.int .i64 (n + -m)) (.string x)
      have b2 := two_set (u0 := .int .i64 (n + -m)) (u1 := .string x) (Z2.block HB2.out)
      have b3 := k2.block' (Z2.block HB3.out) (by omega)
      have k3 := Kp.set2 ((w2.setCell ⟨w.heap.size + 1 + 1, 0, none⟩ (.int .i64 (n + -m))).setCell ⟨w.heap.size + 1 + 1, 1, none⟩ (.string x)) (w.heap.size + 1 + 1 + 1) 0 (.int .i64 (m + -m)) (.string y)
      obtain ⟨z0, z1⟩ := two_of (k3.block' b2 (by omega))
      obtain ⟨y0, y1⟩ := two_of (two_set (u0 := .int .i64 (m + -m)) (u1 := .string y) b3)
      refine bodyPost_ret (v := .tuple #[shV (n + -m, x), shV (m + -m, y)]) (by simp [results, Tryd.results59, go_sem, z0, z1, y0, y1]) rfl ?_
      have X4 := Kp.ext ((((HXM.out.trans Z2).kp (fun q => q ≠ w.heap.size + 1 + 1 ∧ q ≠ w.heap.size + 1 + 1 + 1)).trans (k2.mono (fun q _ h => h.1))).trans (k3.mono (fun q _ h => h.2))) (fun q hq => ⟨by omega, by omega⟩)
      first
        | exact ⟨rfl, X4⟩
        | exact ⟨rfl, X4.drewN _⟩
        | exact ⟨rfl, X4.drew⟩
  · subst h2
    go_enter Tryd.func59, Tryd.ntmps59
    go_wp2_with fail
    go_region_held3 (fun W' => W'.cell? ⟨w.heap.size, 0, none⟩ = some (.int .i64 n) ∧ W'.cell? ⟨w.heap.size, 1, none⟩ = some (.string x) ∧ W'.cell? ⟨w.heap.size + 1, 0, none⟩ = some (.int .i64 m) ∧ W'.cell? ⟨w.heap.size + 1, 1, none⟩ = some (.string y))
      (first | with_reducible exact SK2 | with_reducible exact SK1 | with_reducible exact ⟨t0, t1, t2, t3⟩ | with_reducible exact HKS.out _ _ _ _ (Ne.symm na1) (Ne.symm na3) (HKS.out _ _ _ _ (Ne.symm na1) (Ne.symm na3) SK2) | with_reducible exact HKS.out _ _ _ _ (Ne.symm na2) (Ne.symm na4) (HKS.out _ _ _ _ (Ne.symm na2) (Ne.symm na4) SK2) | with_reducible exact HKS.out _ _ _ _ (Ne.symm na2) (Ne.symm na4) (HKS.out _ _ _ _ (Ne.symm na2) (Ne.symm na4) (HKS.out _ _ _ _ (Ne.symm na1) (Ne.symm na3) (HKS.out _ _ _ _ (Ne.symm na1) (Ne.symm na3) SK2))) | with_reducible exact HKS.out _ _ _ _ (Ne.symm na1) (Ne.symm na3) (HKS.out _ _ _ _ (Ne.symm na1) (Ne.symm na3) (HKS.out _ _ _ _ (Ne.symm na2) (Ne.symm na4) (HKS.out _ _ _ _ (Ne.symm na2) (Ne.symm na4) SK2))) | go_keep)
      (first
        | (go_at_call 41; have zz := Z1; clear zz; refine (within_any _ _ _ _ (by have h := HBN.out; omega) (by have h := HBN.out; omega) (by have h := HBN.out; omega) (by have h := HBN.out; omega)).mono ?_; rintro e w2 ⟨rfl, hx2⟩; have Z2 : Ext M w2 := Ext.trans (by repeat (first | with_reducible exact Z1 | with_reducible refine Ext.drew ?_)) hx2; have SK2 := HSK.out w2 Z2; obtain ⟨r0, r1⟩ := two_of (Z2.block HB2.out); obtain ⟨e0, e1⟩ := two_free (Z2.block HB2.out); obtain ⟨v0, v1⟩ := two_of (Z2.block HB3.out); obtain ⟨u0, u1⟩ := two_free (Z2.block HB3.out))
        | (go_at_call 41; refine (within_any _ _ _ _ (by have h := HBN.out; omega) (by have h := HBN.out; omega) (by have h := HBN.out; omega) (by have h := HBN.out; omega)).mono ?_; rintro e w1 ⟨rfl, hx1⟩; have Z1 : Ext M w1 := Ext.trans (by repeat (first | with_reducible exact Ext.refl _ | with_reducible refine Ext.drew ?_)) hx1; have SK1 := HSK.out w1 Z1))
    all_goals
      go_wp2_with fail
      have k2 := Kp.set2 w2 (w.heap.size + 1 + 1) 0 (.int .i64 (n + -n)) (.string x)
      have b2 := two_set (u0 := .int .i64 (n + -n)) (u1 := .string x) (Z2.block HB2.out)
      have b3 := k2.block' (Z2.block HB3.out) (by omega)
      have k3 := Kp.set2 ((w2.setCell ⟨w.heap.size + 1 + 1, 0, none⟩ (.int .i64 (n + -n))).setCell ⟨w.heap.size + 1 + 1, 1, none⟩ (.string x)) (w.heap.size + 1 + 1 + 1) 0 (.int .i64 (m + -n)) (.string y)
      obtain ⟨z0, z1⟩ := two_of (k3.block' b2 (by omega))
      obtain ⟨y0, y1⟩ := two_of (two_set (u0 := .int .i64 (m + -n)) (u1 := .string y) b3)
      refine bodyPost_ret (v := .tuple #[shV (n + -n, x), shV (m + -n, y)]) (by simp [results, Tryd.results59, go_sem, z0, z1, y0, y1]) rfl ?_
      have X4 := Kp.ext ((((HXM.out.trans Z2).kp (fun q => q ≠ w.heap.size + 1 + 1 ∧ q ≠ w.heap.size + 1 + 1 + 1)).trans (k2.mono (fun q _ h => h.1))).trans (k3.mono (fun q _ h => h.2))) (fun q hq => ⟨by omega, by omega⟩)
      first
        | exact ⟨rfl, X4⟩
        | exact ⟨rfl, X4.drewN _⟩
        | exact ⟨rfl, X4.drew⟩
theorem bare_any (s t : Sh) (w : World) (hs : Bd s) (ht : Bd t) : Calls Tryd.prog 59 #[shV s, shV t] w fun e w' => e = .returned (.tuple #[shV (s.1 + -(if t.1 < s.1 then t.1 else s.1), s.2), shV (t.1 + -(if t.1 < s.1 then t.1 else s.1), t.2)]) ∧ Ext w w' :=
  bare_min s.1 t.1 _ s.2 t.2 w hs ht rfl
end Go.Proofs.YtllbelglilkdpaaDoor
