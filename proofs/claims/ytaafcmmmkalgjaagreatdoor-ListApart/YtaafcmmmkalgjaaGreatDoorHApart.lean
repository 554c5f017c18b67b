/-
  ListApart tells true, whatever the operations.
-/
import Derived.Test.YtaafcmmmkalgjaaGreatDoorHHeld
import Derived.Test.YtaafcmmmkalgjaaGreatDoorLFWalk
namespace Go.Proofs.YtaafcmmmkalgjaaGreatDoor.Nd
open Go.RowKit
theorem two_set {w : World} {b : Nat} {v0 v1 u0 u1 : Value} {t : TypeId} (h : w.heap[b]? = some (.cells #[v0, v1] t)) : ((w.setCell ⟨b, 0, none⟩ u0).setCell ⟨b, 1, none⟩ u1).heap[b]? = some (.cells #[u0, u1] t) := by
  have h1 := set_at h 0 u0
  exact set_at h1 1 u1
theorem two_of {w : World} {b : Nat} {v0 v1 : Value} {t : TypeId} (h : w.heap[b]? = some (.cells #[v0, v1] t)) : w.cell? ⟨b, 0, none⟩ = some v0 ∧ w.cell? ⟨b, 1, none⟩ = some v1 := ⟨cell_of h rfl, cell_of h rfl⟩
theorem two_free {w : World} {b : Nat} {v0 v1 : Value} {t : TypeId} (h : w.heap[b]? = some (.cells #[v0, v1] t)) : w.frozen? ⟨b, 0, none⟩ = false ∧ w.frozen? ⟨b, 1, none⟩ = false := ⟨frozen_of h, frozen_of h⟩
theorem two_ext {w w1 : World} {b : Nat} {u0 u1 : Value} (h : Ext w w1) (hb : w.heap.size ≤ b) : Ext w ((w1.setCell ⟨b, 0, none⟩ u0).setCell ⟨b, 1, none⟩ u1) := Kp.extOf (Kp.extOf h (Kp.set w1 b 0 u0 (fun h => h rfl)) hb) (Kp.set _ b 1 u1 (fun h => h rfl)) hb
theorem below_kpL {base : Nat} {a b : World} (h : Below base a b) : Kp (· < base) a b := ⟨h.os, h.tape, h.output, h.size, fun i _ hk => Below.block h i hk⟩
/-- The same four cells again and again. -/
def rep4 (c4 : List Value) (k : Nat) : List Value := (List.replicate k c4).flatten
theorem rep4_succ (c4 : List Value) (k : Nat) : rep4 c4 (k + 1) = rep4 c4 k ++ c4 := by
  unfold rep4
  rw [List.replicate_succ', List.flatten_append]
  simp
theorem rep4_len (c4 : List Value) (k : Nat) (h : c4.length = 4) : (rep4 c4 k).length = k * 4 := by
  induction k with
  | zero => rfl
  | succ k ih => rw [rep4_succ, List.length_append, ih, h]; omega
theorem rep4_get {v0 v1 v2 v3 : Value} {k j i : Nat} (hj : j < k) (hi : i < 4) : (rep4 [v0, v1, v2, v3] k)[j * 4 + i]? = [v0, v1, v2, v3][i]? := by
  induction k with
  | zero => exact absurd hj (Nat.not_lt_zero _)
  | succ k ih =>
    have hl := rep4_len [v0, v1, v2, v3] k rfl
    rw [rep4_succ]
    by_cases h : j < k
    · rw [List.getElem?_append_left (by omega)]
      exact ih h
    · obtain rfl : j = k := by omega
      rw [List.getElem?_append_right (by omega), hl]
      congr 1
      omega
theorem news4 (w : World) (v0 v1 v2 v3 : Value) (ty : TypeId) : ∀ (j : Nat) (u : Value), [v0, v1, v2, v3][j]? = some u → (w.alloc (.cells #[v0, v1, v2, v3] ty)).cell? (Addr.add ⟨w.heap.size, 0, none⟩ j) = some u := by
  intro j u hu
  have e : Addr.add ⟨w.heap.size, 0, none⟩ j = ⟨w.heap.size, j, none⟩ := by
    by_cases hj : j = 0
    · subst hj; simp [Addr.add]
    · simp [Addr.add, hj]
  rw [e]
  exact cell_of (blk0 w _) (by simpa using hu)
theorem row_slice {w : World} {base k : Nat} {v : Value} {xs : List Value} (h : w.ownsRow base 30 4 v (k + 1) xs) : ∃ a c, v = .slice a (k + 1) c := by
  rcases h.2 with ⟨_, h0⟩ | ⟨g, cap, cur, hv, _⟩
  · exact absurd h0 (Nat.succ_ne_zero _)
  · exact ⟨_, _, hv⟩
theorem row_keepL {K : Nat → Prop} {w w' : World} {base n : Nat} {v : Value} {xs : List Value} (h : w.ownsRow base 30 4 v n xs) (hk : Kp K w w') (hK : ∀ q, base ≤ q → K q) : w'.ownsRow base 30 4 v n xs := by
  refine ⟨h.1, ?_⟩
  rcases h.2 with h | ⟨g, cap, cur, rfl, h2, h3, h4⟩
  · exact .inl h
  · exact .inr ⟨g, cap, cur, rfl, h2, hk.block' h3 (hK g h2), h4⟩
/-- The row's cells. -/
theorem row_four {w : World} {base k : Nat} {a : Option Addr} {c : Nat} {v0 v1 v2 v3 : Value} (h : w.ownsRow base 30 4 (.slice a k c) k (rep4 [v0, v1, v2, v3] k)) {j : Nat} (hj : j < k) : ∃ g, a = some ⟨g, 0, none⟩ ∧ base ≤ g ∧ Four w g (0 + j * 4) v0 v1 v2 v3 := by
  rcases h.2 with ⟨_, h0⟩ | ⟨g, cap, cur, hv, hb, hc, _, _, _, h6⟩
  · omega
  · injection hv with e1 e2 e3
    refine ⟨g, e1, hb, ?_⟩
    have key : ∀ i, i < 4 → cur[j * 4 + i]? = [v0, v1, v2, v3][i]? := fun i hi => by
      rw [← rep4_get (k := k) hj hi, ← h6, List.getElem?_take_of_lt (by omega)]
      simp
    rw [Nat.zero_add]
    exact ⟨cell_of hc (key 0 (by decide)), cell_of hc (key 1 (by decide)), cell_of hc (key 2 (by decide)), cell_of hc (key 3 (by decide))⟩
/-- The row is a list of the same plain value. -/
theorem row_rdl {w : World} {base k d : Nat} {a : Option Addr} {c : Nat} {v0 v1 v2 v3 : Value} {t : T} (h : w.ownsRow base 30 4 (.slice a k c) k (rep4 [v0, v1, v2, v3] k)) (hr : Rd (fun _ => True) w d (.agg #[v0, v1, v2, v3]) t) (hk : k ≤ 2000) : RdL (fun _ => True) w d a (List.replicate k t) := by
  refine ⟨by rw [List.length_replicate]; omega, ?_⟩
  rcases Nat.eq_zero_or_pos k with h0 | h0
  · exact .inl (by rw [h0]; rfl)
  · obtain ⟨g, ha, _, _⟩ := row_four h h0
    refine .inr ⟨g, 0, ha, trivial, fun j hj => ?_⟩
    rw [List.length_replicate] at hj
    obtain ⟨g', ha', _, h4⟩ := row_four h hj
    rw [ha] at ha'
    injection ha' with ha'
    injection ha' with ha' _
    subst ha'
    exact ⟨v0, v1, v2, v3, h4, by rw [List.getElem_replicate]; exact hr⟩
theorem row_cap {w : World} {base k l cp : Nat} {a q : Option Addr} {c : Nat} {v0 v1 v2 : Value} (h : w.ownsRow base 30 4 (.slice a k c) k (rep4 [v0, v1, v2, .slice q l cp] k)) (hl : l ≤ cp) : CapE w a k := fun g off e j hj => by
  obtain ⟨g', e', _, h4⟩ := row_four h hj
  rw [e] at e'
  injection e' with e'
  injection e' with e1 e2
  subst e1; subst e2
  exact ⟨q, l, cp, h4.2.2.2, hl⟩
/-- The number that an answer bears. -/
def codeA : Ans → Int
  | .bad c _ => c
  | .good _ => 0
theorem ansZ {M : Nat} {r : Ans} {w : World} {V : Value} (h : AnsF M r w V) : ∃ v ex d t bs, V = .tuple #[v, .int .i64 (codeA r), .string ex] ∧ VOwnZ w d v t bs ∧ bs.Nodup ∧ (∀ q ∈ bs, M ≤ q) ∧ t.size ≤ 65536 := by
  cases r with
  | bad c x => exact ⟨.nilIface, x, 0, unitT, [], h.2, .inr ⟨rfl, rfl⟩, List.nodup_nil, (fun q hq => by cases hq), unitT_may.2.1⟩
  | good t =>
    obtain ⟨hm, d, v, bs, e, h1, h2, h3⟩ := h
    exact ⟨v, ⟨#[]⟩, d, t, bs, e, .inl h1, h2, h3, hm.2.1⟩
theorem ansPs {r : Ans} {w : World} {R : Value} (h : AnsP r w R) : ∃ k n x a l c ex, R = .tuple #[.agg #[.int .i64 k, .int .i64 n, .string x, .slice a l c], .int .i64 (codeA r), .string ex] := by
  cases r with
  | bad c x => exact ⟨_, _, _, _, _, _, _, h⟩
  | good t =>
    obtain ⟨K, d, p, e, hr⟩ := h
    obtain ⟨u0, u1, u2, u3, rfl⟩ := hr.agg
    obtain ⟨k, n, x, a, c, rfl, rfl, rfl, rfl⟩ := hr.shape
    exact ⟨_, _, _, _, _, _, _, e⟩
theorem ownZ_keep {w w' : World} {d : Nat} {v : Value} {t : T} {bs : List Nat} (h : VOwnZ w d v t bs) (hk : Kp (· ∈ bs) w w') : VOwnZ w' d v t bs := h.imp (fun h => h.keep hk) id
theorem ownZ_lt {w : World} {d : Nat} {v : Value} {t : T} {bs : List Nat} (h : VOwnZ w d v t bs) : ∀ b ∈ bs, b < w.heap.size := by
  rcases h with h | ⟨_, rfl⟩
  · exact h.lt
  · intro b hb; cases hb
/-- The loop's state. -/
def AI (w : World) (b0 j : Nat) (wr : World) : Prop := ∃ lv rs, j ≤ 20 ∧ rs.length ≤ 131072 * j ∧ LB wr b0 w.heap.size lv rs ∧ Ext w wr
theorem AI.later {w wr w' : World} {b0 j : Nat} (h : AI w b0 j wr) (hx : Ext wr w') (hj : j < 20) : AI w b0 (j + 1) w' := by
  obtain ⟨lv, rs, h1, h2, h3, h4⟩ := h
  exact ⟨lv, rs, by omega, by omega, h3.later hx, h4.trans hx⟩
set_option maxRecDepth 100000 in
set_option maxHeartbeats 16000000 in
theorem listApart_true (a : Option Addr) (n c : Nat) (w : World) (hS : CallsIn w a n) (hn : n * 40 ≤ 140737488351232) (hm : MaxAt w) (hbe : Calls Tryz.prog 5 #[] w fun e w' => e = .returned (.bool true) ∧ Ext w w') : Calls Tryz.prog 4 #[.slice a n c] w fun e w' => e = .returned (.bool true) ∧ Ext w w' := by
  have HS := hid hS
  have HB := hid hbe
  have HMX := hid hm
  have hn' : (n : Int) ≤ 140737488351232 := by omega
  clear hS hm hn hbe
  go_enter Tryz.func4, Tryz.ntmps4
  go_wp2_with fail
  refine HB.out.mono ?_
  rintro e V0 ⟨rfl, hx0⟩
  have HX0 := hid hx0
  clear hx0
  go_wp2_with fail
  go_loopw [4] (fun i wr => ∃ j : Nat, j ≤ n ∧ i = .int .i64 j ∧ AI w V0.heap.size j wr) (fun i _ => n - (intOf i).toNat)
  case atStart => exact ⟨0, Nat.zero_le _, rfl, .slice none 0 0, [], by decide, Nat.zero_le _, LB.start (blk0 V0 _) HX0.out.size, HX0.out.trans (Ext.alloc _ _)⟩
  case round =>
    obtain ⟨W0, rfl⟩ : ∃ W0, W0 = wr := ⟨_, rfl⟩
    obtain ⟨j, hj, rfl, hai⟩ := hrel
    have HAI := hid hai
    obtain ⟨lv, rs, hj20, hrs, hlb, hx⟩ := hai
    have HX := hid hx
    have HLB := hid hlb
    have HRS := hid hrs
    clear hx hlb hrs
    by_cases hend : j < n ∧ j < 20
    · obtain ⟨hlt, h5⟩ := hend
      have hlt' : (j : Int) < n := by omega
      have h5' : (j : Int) < 20 := by omega
      obtain ⟨g, off, op, la, lc, md, ks, rfl, hcall0⟩ := HS.out j hlt
      have HC := hid hcall0
      have hgw : g < w.heap.size := lt_of_cell hcall0.1
      have hcall := callAt_on hcall0 HX.out
      have e0 := hcall.1
      have e1 := hcall.2.1
      have hgl := lt_of_cell e0
      clear hcall0 hcall
      obtain ⟨kn, hkn⟩ : ∃ kn, ks.length = kn := ⟨_, rfl⟩
      have HKN := hid hkn
      rw [hkn] at e1
      clear hkn
      go_upto_region 8 with fail
      obtain ⟨W1, hW1⟩ : ∃ W1, W0.alloc (.cells #[.string op, .slice la kn lc] 28) = W1 := ⟨_, rfl⟩
      have HB5 := hid (show W1.heap[W0.heap.size]? = some (.cells #[.string op, .slice la kn lc] 28) from hW1 ▸ blk0 W0 _)
      have HX1 := hid (show Ext W0 W1 from hW1 ▸ Ext.alloc _ _)
      rw [hW1]
      clear hW1 e0 e1 hgl
      have HXW1 := hid (HX.out.trans HX1.out)
      have HLI := hid (show Calls Tryz.prog 6 #[.slice la kn lc] W1 (LightsR W1 ks) from by
        have h := lights_any (c := lc) W1 (callAt_on HC.out HXW1.out).2.2.1
        rwa [HKN.out] at h)
      obtain ⟨q0, q1⟩ := two_of HB5.out
      have hb5l := lt_of_cell q0
      go_wp2_with fail
      refine HLI.out.mono ?_
      rintro e w1 ⟨b, rfl, hli, hx1⟩
      have HX2 := hid hx1
      have HLL := hid hli
      have HXA := hid (HX1.out.trans hx1)
      have HB5a := hid (hx1.block HB5.out)
      clear hx1 hli q0 q1 hb5l HLI
      obtain ⟨q0, q1⟩ := two_of HB5a.out
      have hb5l := lt_of_cell q0
      cases b with
      | false =>
        go_wp2_with fail
        go_roundw
        case rel => exact ⟨j + 1, hlt, by go_num, HAI.out.later HXA.out h5⟩
        case measure => simp [intOf]; omega
      | true =>
        by_cases hk0 : kn = 0
        · subst hk0
          go_wp2_with fail
          go_roundw
          case rel => exact ⟨j + 1, hlt, by go_num, HAI.out.later HXA.out h5⟩
          case measure => simp [intOf]; omega
        have hk0' : ((kn : Int) == 0) = false := by rw [beq_eq_false_iff_ne]; omega
        have HKB := hid (show kn ≤ 2000 by have := (HLL.out rfl).1; have := HKN.out; omega)
        have HK0 := hid (show 0 < kn by omega)
        clear hk0 HLL
        go_upto_region 10 with fail
        obtain ⟨W2, hW2⟩ : ∃ W2, w1.alloc (.cells #[.string op, .slice none 0 0] 28) = W2 := ⟨_, rfl⟩
        have HB6 := hid (show W2.heap[w1.heap.size]? = some (.cells #[.string op, .slice none 0 0] 28) from hW2 ▸ blk0 w1 _)
        have HX12 := hid (show Ext w1 W2 from hW2 ▸ Ext.alloc _ _)
        rw [hW2]
        clear hW2 q0 q1 hb5l
        have HB5b := hid (HX12.out.block HB5a.out)
        have HXB := hid (HXA.out.trans HX12.out)
        have HXW2 := hid (HX.out.trans HXB.out)
        have HBL := hid (lt_of_block HB6.out)
        have HSW := hid (show w.heap.size ≤ w1.heap.size from (HX.out.trans HXA.out).size)
        have HW05 := hid (show W0.heap.size ≠ w1.heap.size from by have h := lt_of_block HB5a.out; omega)
        obtain ⟨ga, oa, k0, n0, x0, a0, l0, c0, rfl, hga, h40, hr0⟩ := (rdl_low HC.out.2.2.1).kid (j := 0) (by have := HKN.out; have := HK0.out; omega)
        have HR0 := hid hr0
        have H40 := hid (show ∀ W', Ext w W' → Four W' ga oa (.int .i64 k0) (.int .i64 n0) (.string x0) (.slice a0 l0 c0) from fun W' Y => by
          have h := Four.keep h40 (Y.kp (fun _ => True)) trivial
          rwa [Nat.zero_mul, Nat.add_zero] at h)
        clear h40 hr0
        obtain ⟨t0, ht0⟩ : ∃ t0, ks[0]'(by have := HKN.out; have := HK0.out; omega) = t0 := ⟨_, rfl⟩
        rw [ht0] at HR0
        have HT0 := hid ht0
        clear ht0
        have hk0n : (0 : Int) < (kn : Int) := by have := HK0.out; omega
        have hkb : (kn : Int) ≤ 2000 := by have := HKB.out; omega
        go_wp2_with fail
        go_loopw [7] (fun kq wq => ∃ (k : Nat) (ao : Option Addr) (c1 : Nat), k ≤ kn ∧ kq = .int .i64 k ∧ wq.heap[w1.heap.size]? = some (.cells #[.string op, .slice ao k c1] 28) ∧ wq.ownsRow W2.heap.size 30 4 (.slice ao k c1) k (rep4 [.int .i64 k0, .int .i64 n0, .string x0, .slice a0 l0 c0] k) ∧ Kp (· ≠ w1.heap.size) W2 wq) (fun kq _ => kn - (intOf kq).toNat)
        case atStart => exact ⟨0, none, 0, Nat.zero_le _, rfl, HB6.out, World.ownsRow_nil _ _ _ _, Kp.refl _ _⟩
        case round =>
          obtain ⟨k, ao, c1, hk, rfl, hbk, hit, hkp⟩ := hrel
          have HBK := hid hbk
          have HIT := hid hit
          have HKP := hid hkp
          clear hbk hit hkp
          have HB5c := hid (HKP.out.block' HB5b.out HW05.out)
          have HXR := hid (show Ext w wr from Kp.extOf HXW2.out HKP.out HSW.out)
          obtain ⟨q0, q1⟩ := two_of HB5c.out
          obtain ⟨s0, s1⟩ := two_of HBK.out
          obtain ⟨f0, f1⟩ := two_free HBK.out
          have hql := lt_of_cell q0
          have hsl := lt_of_cell s0
          by_cases hltk : k < kn
          · have hltk' : (k : Int) < kn := by omega
            obtain ⟨o0, o1, o2, o3⟩ := H40.out wr HXR.out
            have hol := lt_of_cell o0
            have HRT := hid (show ∀ W', Ext wr W' → Rd (fun x => x < w.heap.size) W' md (.agg #[.int .i64 k0, .int .i64 n0, .string x0, .slice a0 l0 c0]) t0 from fun W' Y => HR0.out.later (HXR.out.trans Y))
            have HSZ := hid HKP.out.size
            have HBS := hid (show w1.heap.size < W2.heap.size from HBL.out)
            have hk0N : 0 < kn := HK0.out
            go_upto_region 13 with fail
            obtain ⟨ii, hii, hz0, hz1, hz2⟩ := info_parts plainInfo
            go_region_law (refine step_append_own _ (by rfl) _ _ 25 (by rfl) W2.heap.size 30 ii _ 4 56 Tryz.underlying25 hii hz0 hz1 hz2 rfl (by decide) (.slice ao k c1) k (rep4 [.int .i64 k0, .int .i64 n0, .string x0, .slice a0 l0 c0] k) (by rfl) (row_keepL HIT.out (Ext.kp (by repeat (first | with_reducible exact Ext.refl _ | with_reducible refine Ext.drew ?_ | with_reducible refine Ext.more ?_ _)) (fun _ => True)) (fun _ _ => trivial)) ⟨wr.heap.size, 0, none⟩ 1 1 [.int .i64 k0, .int .i64 n0, .string x0, .slice a0 l0 c0] (by rfl) rfl (by first | exact news4 wr _ _ _ _ _ | (intro q u hq; exact news4 wr _ _ _ _ _ q u hq)) (fun u hu => by simp at hu; rcases hu with rfl | rfl | rfl | rfl <;> rfl) (by unfold maxLen; have := HKB.out; omega) (by have := HKB.out; omega) (by have := HSZ.out; first | exact this | (simp; omega)) ?_; intro v5 w5 hr5 hg5 _; obtain ⟨a5, c5, rfl⟩ := row_slice hr5; have HR5 := hid hr5; have HK5 := hid (show Kp (· < W2.heap.size) wr w5 from (Ext.kp (by repeat (first | with_reducible exact Ext.refl _ | with_reducible refine Ext.drew ?_ | with_reducible refine Ext.more ?_ _)) (fun q => q < W2.heap.size)).chain (grown_kp hg5) (fun q hq h e => by have h' : q < W2.heap.size := h; have := (World.ownsRow.lt HIT.out q e).1; omega)); clear hr5 hg5; have G6 := hid (HK5.out.block' HBK.out HBS.out); obtain ⟨d0, d1⟩ := two_of G6.out; obtain ⟨d2, d3⟩ := two_free G6.out)
            all_goals
              go_wp2_with fail
              go_roundw
              case rel => exact ⟨k + 1, a5, c5, hltk, by go_num, set_at G6.out 1 _, row_keepL (by rw [rep4_succ]; exact HR5.out) (Kp.set (K := (· ≠ w1.heap.size)) w5 w1.heap.size 1 _ (fun h => h rfl)) (fun q hq e => by have := HBS.out; have e' : q = w1.heap.size := e; omega), (HKP.out.chain HK5.out (fun q hq _ => hq)).trans (Kp.set (K := (· ≠ w1.heap.size)) w5 w1.heap.size 1 _ (fun h => h rfl))⟩
              case measure => simp [intOf]; omega
          · obtain ⟨W4, rfl⟩ : ∃ W4, W4 = wr := ⟨_, rfl⟩
            have hke : k = kn := by omega
            subst hke
            have hlk : ¬ (k : Int) < (k : Int) := by omega
            clear f0 f1
            have HX04 := hid (show Ext W0 W4 from Kp.extOf HXB.out HKP.out HXA.out.size)
            obtain ⟨ra, _, hpa, hqa⟩ := bothF op ks (by have := HKB.out; have := HKN.out; omega)
            obtain ⟨rb, _, hpb, hqb⟩ := bothF op (List.replicate k t0) (by rw [List.length_replicate]; have := HKB.out; omega)
            have HRT := hid (show ∀ W', Ext W4 W' → Rd (fun _ => True) W' md (.agg #[.int .i64 k0, .int .i64 n0, .string x0, .slice a0 l0 c0]) t0 from fun W' Y => (HR0.out.later (HXR.out.trans Y)).mono (fun _ _ _ => trivial))
            have HLC := hid (show l0 ≤ c0 from by
              obtain ⟨q, l, cp, h1, h2⟩ := HC.out.2.2.2.2.2 ga oa rfl 0 (by have := HKN.out; have := HK0.out; omega)
              have h3 := (H40.out w (Ext.refl w)).2.2.2
              have h1' : w.cell? ⟨ga, oa + 3, none⟩ = some (.slice q l cp) := by rw [Nat.zero_mul, Nat.add_zero] at h1; exact h1
              rw [h1'] at h3
              injection h3 with h3
              injection h3 with _ e2 e3
              omega)
            have HNA := hid (show ∀ W', Ext W4 W' → Calls Tryz.prog 8 #[.string op, .slice (some ⟨ga, oa, none⟩) k lc] W' fun e w' => ∃ V, e = .returned V ∧ AnsF W'.heap.size ra w' V ∧ Ext W' w' from fun W' Y => by
              have Z := HXR.out.trans Y
              have h := hpa W' (some ⟨ga, oa, none⟩) lc (HMX.out.later Z) (rdl_prow (callAt_on HC.out Z).2.2.1)
              rwa [HKN.out] at h)
            have HNB := hid (show ∀ W', Ext W4 W' → Calls Tryz.prog 8 #[.string op, .slice ao k c1] W' fun e w' => ∃ V, e = .returned V ∧ AnsF W'.heap.size rb w' V ∧ Ext W' w' from fun W' Y => by
              have Z := HXR.out.trans Y
              have h := hpb W' ao c1 (HMX.out.later Z) (rdl_prow (row_rdl (row_keepL HIT.out (Y.kp (fun _ => True)) (fun _ _ => trivial)) (HRT.out W' Y) HKB.out))
              rwa [List.length_replicate] at h)
            have HRA := hid (show ∀ W', Ext W4 W' → Calls Tryz.prog 7 #[.string op, .slice (some ⟨ga, oa, none⟩) k lc] W' fun e w' => ∃ R, e = .returned R ∧ AnsP ra w' R ∧ Ext W' w' from fun W' Y => by
              have Z := HXR.out.trans Y
              have h := hqa md W' (some ⟨ga, oa, none⟩) lc W'.heap.size (Nat.le_refl _) (rdl_low (callAt_on HC.out Z).2.2.1) (callAt_on HC.out Z).2.2.2.2.2
              rw [HKN.out] at h
              exact h.mono fun _ _ ⟨R, he, hr, hx⟩ => ⟨R, he, hr.p, hx⟩)
            have HRB := hid (show ∀ W', Ext W4 W' → Calls Tryz.prog 7 #[.string op, .slice ao k c1] W' fun e w' => ∃ R, e = .returned R ∧ AnsP rb w' R ∧ Ext W' w' from fun W' Y => by
              have hrow := row_keepL HIT.out (Y.kp (fun _ => True)) (fun _ _ => trivial)
              have h := hqb md W' ao c1 W'.heap.size (Nat.le_refl _) (rdl_low (row_rdl hrow (HRT.out W' Y) HKB.out)) (by rw [List.length_replicate]; exact row_cap hrow HLC.out)
              rw [List.length_replicate] at h
              exact h.mono fun _ _ ⟨R, he, hr, hx⟩ => ⟨R, he, hr.p, hx⟩)
            have HO5 := hid (show ∀ W', Ext W4 W' → W'.cell? ⟨W0.heap.size, 0, none⟩ = some (.string op) ∧ W'.cell? ⟨W0.heap.size, 1, none⟩ = some (.slice (some ⟨ga, oa, none⟩) k lc) ∧ W0.heap.size < W'.heap.size from fun W' Y => by
              have h := two_of (Y.block HB5c.out)
              exact ⟨h.1, h.2, lt_of_cell h.1⟩)
            have HO6 := hid (show ∀ W', Ext W4 W' → W'.cell? ⟨w1.heap.size, 0, none⟩ = some (.string op) ∧ W'.cell? ⟨w1.heap.size, 1, none⟩ = some (.slice ao k c1) ∧ w1.heap.size < W'.heap.size from fun W' Y => by
              have h := two_of (Y.block HBK.out)
              exact ⟨h.1, h.2, lt_of_cell h.1⟩)
            clear hpa hpb hqa hqb s0 s1 hsl
            go_wp2_with fail
            refine (HNA.out _ (Ext.refl _)).mono ?_
            rintro e W5 ⟨V, rfl, hv, hx5⟩
            obtain ⟨va, exa, da, ta, bsa, rfl, hza, hna, hla, hsa⟩ := ansZ hv
            have HZA := hid hza
            have HNA2 := hid hna
            have HLA := hid (show ∀ q ∈ bsa, W4.heap.size ≤ q ∧ q < W5.heap.size from fun q hq => ⟨hla q hq, ownZ_lt hza q hq⟩)
            have HSA := hid hsa
            have HX5 := hid hx5
            obtain ⟨ca, hca⟩ : ∃ ca, codeA ra = ca := ⟨_, rfl⟩
            have HCA := hid hca
            rw [hca]
            clear hv hza hna hla hsa hx5 hca q0 q1 hql
            obtain ⟨s0, s1, hsl⟩ := HO6.out W5 HX5.out
            go_wp2_with fail
            refine (HNB.out _ HX5.out).mono ?_
            rintro e W6 ⟨V, rfl, hv, hx6⟩
            obtain ⟨vb, exb, db, tb, bsb, rfl, hzb, hnb, hlb, hsb⟩ := ansZ hv
            have HZB := hid hzb
            have HNB2 := hid hnb
            have HLB2 := hid (show ∀ q ∈ bsb, W5.heap.size ≤ q ∧ q < W6.heap.size from fun q hq => ⟨hlb q hq, ownZ_lt hzb q hq⟩)
            have HSB := hid hsb
            have HX56 := hid hx6
            have HX6 := hid (HX5.out.trans hx6)
            obtain ⟨cb, hcb⟩ : ∃ cb, codeA rb = cb := ⟨_, rfl⟩
            have HCB := hid hcb
            rw [hcb]
            clear hv hzb hnb hlb hsb hx6 hcb s0 s1 hsl HNA HNB
            obtain ⟨q0, q1, hql⟩ := HO5.out W6 HX6.out
            go_wp2_with fail
            refine (HRA.out _ HX6.out).mono ?_
            rintro e W7 ⟨R7, rfl, hr7, hx7⟩
            obtain ⟨pk, pn, px, pa, pl', pc, pe, rfl⟩ := ansPs hr7
            rw [HCA.out]
            have HX67 := hid hx7
            have HX7 := hid (HX6.out.trans hx7)
            clear hr7 hx7 q0 q1 hql HRA
            obtain ⟨s0, s1, hsl⟩ := HO6.out W7 HX7.out
            go_wp2_with fail
            have HX7a := hid (HX7.out.trans (Ext.alloc W7 (.cells #[.int .i64 pk, .int .i64 pn, .string px, .slice pa pl' pc] 30)))
            have HX67a := hid (HX67.out.trans (Ext.alloc W7 (.cells #[.int .i64 pk, .int .i64 pn, .string px, .slice pa pl' pc] 30)))
            refine (HRB.out _ HX7a.out).mono ?_
            rintro e W8 ⟨R8, rfl, hr8, hx8⟩
            obtain ⟨qk, qn, qx, qa, ql', qc, qe, rfl⟩ := ansPs hr8
            rw [HCB.out]
            have HX8 := hid (HX7a.out.trans (hx8.trans (Ext.alloc W8 (.cells #[.int .i64 qk, .int .i64 qn, .string qx, .slice qa ql' qc] 30))))
            have HX68 := hid (HX67a.out.trans (hx8.trans (Ext.alloc W8 (.cells #[.int .i64 qk, .int .i64 qn, .string qx, .slice qa ql' qc] 30))))
            clear hr8 hx8 s0 s1 hsl HRB HX7a HX67a
            have hc1 : (ca != ca) = false := by simp
            have hc2 : (cb != cb) = false := by simp
            have hc3 : (ca == ca) = true := by simp
            have hc4 : (cb == cb) = true := by simp
            go_upto_region 20 with fail
            obtain ⟨W9, hW9⟩ : ∃ W9, W8.alloc (.cells #[.int .i64 qk, .int .i64 qn, .string qx, .slice qa ql' qc] 30) = W9 := ⟨_, rfl⟩
            rw [hW9] at HX8 HX68
            rw [hW9]
            clear hW9
            have HX09 := hid (HX04.out.trans HX8.out)
            have HX69 := hid HX68.out
            have HXW9 := hid (HXR.out.trans HX8.out)
            have HL9 := hid (HLB.out.later HX09.out)
            have hs04 := HX04.out.size
            have hs5 := HX5.out.size
            have hs56 := HX56.out.size
            have hs69 := HX69.out.size
            have hsw0 := HX.out.size
            have HDA := hid (show ∀ q ∈ bsa, w.heap.size ≤ q ∧ ¬ LBk V0.heap.size lv rs q from fun q hq => by
              have h := HLA.out q hq
              exact ⟨by omega, fun e => by have := (HLB.out.low e).2; omega⟩)
            have HTK := hid (takeZ_any (b := V0.heap.size) (base := w.heap.size) (lv := lv) (rs := rs) (w := W9) (ownZ_keep HZA.out ((HX56.out.trans HX69.out).kp _)) HNA2.out HSA.out HL9.out (by omega) HDA.out (by have := HRS.out; omega))
            go_wp2_with fail
            refine HTK.out.mono ?_
            rintro e WA ⟨⟨u9, rfl⟩, lv1, ns1, hl1, hi1, hn1, ho1, hk1⟩
            have HL1 := hid hl1
            have HN1 := hid hn1
            have HXWA := hid (HXW9.out.more' hk1 fun q hq => ⟨fun e => by have := (HL9.out.low e).1; omega, fun e => by have := (HDA.out q e).1; omega⟩)
            have HDB := hid (show ∀ q ∈ bsb, w.heap.size ≤ q ∧ ¬ LBk V0.heap.size lv1 (rs ++ ns1) q from fun q hq => by
              have h := HLB2.out q hq
              refine ⟨by omega, fun e => ?_⟩
              have hlow : ∀ x, LBk V0.heap.size lv rs x → x < W0.heap.size := fun x hx => (HLB.out.low hx).2
              rcases e with e | e | e
              · have := hlow q (.inl e); omega
              · rcases ho1 q e with e | e
                · have := hlow q (.inr (.inl e)); omega
                · omega
              · rw [blE_append, List.mem_append] at e
                rcases e with e | e
                · have := hlow q (.inr (.inr e)); omega
                · have := HLA.out q (hi1 q e); omega)
            have HZB9 := hid (ownZ_keep (ownZ_keep HZB.out (HX69.out.kp _)) (hk1.mono fun q _ hq => ⟨fun e => by have h1 := (HLB.out.low e).2; have h2 := HLB2.out q hq; omega, fun e => by have h1 := HLA.out q e; have h2 := HLB2.out q hq; omega⟩))
            have HTL := hid (takeZ_any (b := V0.heap.size) (base := w.heap.size) (lv := lv1) (rs := rs ++ ns1) (w := WA) HZB9.out HNB2.out HSB.out HL1.out HXWA.out.size HDB.out (by have := HRS.out; rw [List.length_append]; omega))
            clear hl1 hi1 hn1 ho1 hk1 hs04 hs5 hs56 hs69 hsw0 HTK
            go_wp2_with fail
            refine HTL.out.mono ?_
            rintro e WB ⟨⟨uA, rfl⟩, lv2, ns2, hl2, hi2, hn2, ho2, hk2⟩
            have HL2 := hid hl2
            have HN2 := hid hn2
            have HXWB := hid (HXWA.out.more' hk2 fun q hq => ⟨fun e => by have := (HL1.out.low e).1; omega, fun e => by have := (HDB.out q e).1; omega⟩)
            clear hl2 hi2 hn2 ho2 hk2 HTL
            go_wp2_with fail
            go_roundw
            case rel => exact ⟨j + 1, hlt, by go_num, lv2, rs ++ ns1 ++ ns2, by omega, by have := HRS.out; have := HN1.out; have := HN2.out; rw [List.length_append, List.length_append]; omega, HL2.out, HXWB.out⟩
            case measure => simp [intOf]; omega
    · by_cases hlt : j < n
      · have hlt' : (j : Int) < n := by omega
        have h5 : decide ((j : Int) < 20) = false := decide_eq_false (by omega)
        have HH := hid (held_any HLB.out (by have := HRS.out; omega))
        clear hend
        go_wp2_with fail
        refine HH.out.mono ?_
        rintro e WZ ⟨rfl, hwz⟩
        subst hwz
        go_wp2_with fail
        go_ret
        exact ⟨rfl, HX.out⟩
      · have hlt' : decide ((j : Int) < n) = false := decide_eq_false (by omega)
        have HH := hid (held_any HLB.out (by have := HRS.out; omega))
        clear hend
        go_wp2_with fail
        refine HH.out.mono ?_
        rintro e WZ ⟨rfl, hwz⟩
        subst hwz
        go_wp2_with fail
        go_ret
        exact ⟨rfl, HX.out⟩
end Go.Proofs.YtaafcmmmkalgjaaGreatDoor.Nd
