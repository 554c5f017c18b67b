/-
  The walk of WorthSizes: it tells yes, and only makes new blocks.
-/
import Derived.Test.YtbpbkihcfdnphaaDoorBegun
import Derived.Test.YtbpbkihcfdnphaaDoorIsF
import Derived.Test.YtbpbkihcfdnphaaDoorJoin
namespace Go.Proofs.YtbpbkihcfdnphaaDoor
open Go.RowKit
/-- The sum as the statement counts it: never above 2^40. -/
def nAt (ks : List T) (j : Nat) : Int := min ((1 + T.sizeL (ks.take j) : Nat) : Int) 1099511627776
theorem nAt_bounds (ks : List T) (j : Nat) : 1 ≤ nAt ks j ∧ nAt ks j ≤ 1099511627776 := by unfold nAt; omega
theorem nAt_next (ks : List T) (j : Nat) (h : j < ks.length) : nAt ks (j + 1) = min (nAt ks j + (ks[j].size : Int)) 1099511627776 := by
  unfold nAt
  rw [T.sizeL_take ks j h]
  omega
set_option maxRecDepth 100000 in
set_option maxHeartbeats 8000000 in
theorem sizes_walk {K : Nat → Prop} {d : Nat} {a : Option Addr} {c : Nat} {ks : List T} (w : World) (h : RdL K w d a ks) :
    Calls Tryd.prog 5 #[.slice a ks.length c] w fun e w' => e = .returned (.bool true) ∧ Ext w w' := by
  have HA := hid h
  have hl : (ks.length : Int) ≤ 140737488355328 := by have := h.1; omega
  clear h
  go_enter Tryd.func5, Tryd.ntmps5
  go_wp2_with fail
  refine (begun_any _).mono ?_
  rintro e V ⟨rfl, hx⟩
  have HV := hid hx
  clear hx
  go_wp2_with fail
  go_loopw [3, 4] (fun n i wr => ∃ (j : Nat) (N : Int), j ≤ ks.length ∧ i = .int .i64 j ∧ n = .int .i64 N ∧ N = nAt ks j ∧ Ext w wr ∧ (∀ t ∈ ks.take j, t.may)) (fun _ i _ => ks.length - (intOf i).toNat)
  case atStart => exact ⟨0, 1, Nat.zero_le _, rfl, rfl, by rw [nAt, List.take_zero, T.sizeL]; rfl, HV.out, by simp⟩
  case round =>
    obtain ⟨j, N, hj, rfl, rfl, hN, hx, hall⟩ := hrel
    have HX := hid hx
    have HALL := hid hall
    have HN := hid hN
    have hN1 : 1 ≤ N := by rw [hN]; exact (nAt_bounds ks j).1
    have hN2 : N ≤ 1099511627776 := by rw [hN]; exact (nAt_bounds ks j).2
    clear hx hall hN
    by_cases hlt : j < ks.length
    · have hlt' : (j : Int) < ks.length := by omega
      obtain ⟨g, off, k', n', x', a', l', c', rfl, hg, h4, hrd⟩ := HA.out.kid hlt
      have H4 := hid (h4.keep (HX.out.kp K) hg)
      obtain ⟨m0, m1, m2, m3⟩ := H4.out
      have HR := hid (hrd.later HX.out)
      have HT := hid (T.take_succ' ks j hlt)
      have HNX := hid (nAt_next ks j hlt)
      clear h4 hg hrd
      by_cases hm : ks[j].may
      · have HM := hid (may_to HR.out true (decide_eq_true hm))
        have HMM := hid hm
        obtain ⟨S, hS⟩ : ∃ S : Int, (ks[j].size : Int) = S := ⟨_, rfl⟩
        have hS1 : 1 ≤ S := by have := T.size_pos ks[j]; omega
        have hS2 : S ≤ 65536 := by have := hm.2.1; omega
        have HZ := hid (show ∀ W', Ext wr W' → Calls Tryd.prog 16 #[.agg #[.int .i64 k', .int .i64 n', .string x', .slice a' l' c']] W' fun r w' => r = .returned (.int .i64 S) ∧ Ext W' w' from fun W' hx => by
          have e := sizeOf_any W' (HR.out.later hx)
          rw [show sizeN ks[j] = S by rw [sizeN, if_pos hm, hS]] at e
          exact e)
        have HS := hid hS
        clear hm hS
        go_wp2_with fail
        refine (HZ.out _ (Ext.refl _)).mono ?_
        rintro e w1 ⟨rfl, hx1⟩
        have HX1 := hid hx1
        clear m0 m1 m2 m3
        obtain ⟨m0, m1, m2, m3⟩ := H4.out.keep (hx1.kp (fun _ => True)) trivial
        clear hx1
        go_wp2_with fail
        refine (HM.out _ HX1.out).mono ?_
        rintro e w2 ⟨rfl, hx2⟩
        have HX2 := hid (HX.out.trans (HX1.out.trans hx2))
        clear hx2 m0 m1 m2 m3
        go_wp2_with fail
        go_roundw
        case rel =>
          refine ⟨j + 1, _, hlt, by go_num, rfl, by rw [HNX.out, ← HN.out, HS.out], HX2.out, fun t ht => ?_⟩
          rw [HT.out] at ht
          rcases List.mem_append.1 ht with h | h
          · exact HALL.out t h
          · rw [List.mem_singleton.1 h]; exact HMM.out
        case measure => simp [intOf]; omega
      · have HM := hid (may_to HR.out false (decide_eq_false hm))
        have HMM := hid hm
        have HZ := hid (show ∀ W', Ext wr W' → Calls Tryd.prog 16 #[.agg #[.int .i64 k', .int .i64 n', .string x', .slice a' l' c']] W' fun r w' => r = .returned (.int .i64 0) ∧ Ext W' w' from fun W' hx => by
          have e := sizeOf_any W' (HR.out.later hx)
          rw [show sizeN ks[j] = 0 by rw [sizeN, if_neg hm]] at e
          exact e)
        clear hm
        go_wp2_with fail
        refine (HZ.out _ (Ext.refl _)).mono ?_
        rintro e w1 ⟨rfl, hx1⟩
        have HX1 := hid hx1
        clear m0 m1 m2 m3
        obtain ⟨m0, m1, m2, m3⟩ := H4.out.keep (hx1.kp (fun _ => True)) trivial
        clear hx1
        go_wp2_with fail
        refine (HM.out _ HX1.out).mono ?_
        rintro e w2 ⟨rfl, hx2⟩
        have HX2 := hid (HX.out.trans (HX1.out.trans hx2))
        clear hx2 m0 m1 m2 m3
        go_wp2_with fail
        refine (join_any w2 (HA.out.keep (HX2.out.kp K))).mono ?_
        rintro e w3 ⟨hx3, hcase⟩
        have HX3 := hid (HX2.out.trans hx3)
        clear hx3
        rcases hcase with ⟨_, rfl⟩ | ⟨hq, _⟩ | ⟨hq, _⟩
        · go_wp2_with fail
          go_ret
          exact ⟨rfl, HX3.out⟩
        · exact absurd (hq _ (List.getElem_mem hlt)) HMM.out
        · exact absurd (hq _ (List.getElem_mem hlt)) HMM.out
    · have hje : j = ks.length := by omega
      have HALL' := hid (show ∀ t ∈ ks, t.may by have := HALL.out; rw [hje, List.take_length] at this; exact this)
      have HN' := hid (show N = min ((1 + T.sizeL ks : Nat) : Int) 1099511627776 by have := HN.out; rw [hje, nAt, List.take_length] at this; exact this)
      clear hje
      go_wp2_with fail
      refine (join_any wr (HA.out.keep (HX.out.kp K))).mono ?_
      rintro e w1 ⟨hx1, hcase⟩
      have HX1 := hid (HX.out.trans hx1)
      have HSZ := hid hx1.size
      clear hx1
      rcases hcase with ⟨⟨t, ht, hno⟩, _⟩ | ⟨_, hno, rfl⟩ | ⟨_, hm, u, bs, rfl, ho, _, _⟩
      · exact absurd (HALL'.out t ht) hno
      · have HNO := hid hno
        clear hno
        go_wp2_with fail
        refine (lst_any _ _ _ _).mono ?_
        rintro e w2 ⟨rfl, hx2⟩
        have HX2 := hid (HX1.out.trans hx2)
        have HR := hid (RdL.node c (HA.out.keep (HX2.out.kp K)))
        have HMY := hid (may_to HR.out false (decide_eq_false HNO.out))
        clear hx2
        go_wp2_with fail
        refine (HMY.out _ (Ext.alloc _ _)).mono ?_
        rintro e w3 ⟨rfl, hx3⟩
        have HX3 := hid (HX2.out.trans ((Ext.alloc w2 _).trans hx3))
        clear hx3
        go_wp2_with fail
        go_ret
        exact ⟨rfl, HX3.out⟩
      · have HM := hid hm
        have HO := hid ho
        obtain ⟨τ, p, rfl⟩ := ho.rd.iface
        clear hm ho
        go_wp2_with fail
        refine (lst_any _ _ _ _).mono ?_
        rintro e w2 ⟨rfl, hx2⟩
        have HX2 := hid (HX1.out.trans hx2)
        have HR := hid (RdL.node c (HA.out.keep (HX2.out.kp K)))
        have HO2 := hid (HO.out.later hx2)
        have HMY := hid (may_to HR.out true (decide_eq_true HM.out))
        have HZ := hid (show ∀ W', Ext w2 W' → Calls Tryd.prog 16 #[.agg #[.int .i64 5, .int .i64 0, .string ⟨#[]⟩, .slice a ks.length c]] W' fun r w' => r = .returned (.int .i64 N) ∧ Ext W' w' from fun W' hx => by
          have e := sizeOf_any W' (HR.out.later hx)
          rw [show sizeN (T.node 5 0 ⟨#[]⟩ ks) = N by
            have h1 : 1 + 0 + T.sizeL ks ≤ 65536 := HM.out.2.1
            rw [sizeN, if_pos HM.out, HN'.out, T.size]
            show (((1 + 0 + T.sizeL ks : Nat) : Int)) = _
            omega] at e
          exact e)
        have HIS := hid (show ∀ W', Ext w2 W' → Calls Tryd.prog 11 #[.iface τ p, .agg #[.int .i64 5, .int .i64 0, .string ⟨#[]⟩, .slice a ks.length c]] W' fun r w' => r = .returned (.bool true) ∧ Ext W' w' from fun W' hx => by
          have e := is_any W' (HO2.out.later hx).rd (HR.out.later hx) (Nat.le_trans (T.nodes_size _) (Nat.le_trans HM.out.2.1 (by decide))) (Nat.le_trans HM.out.2.2 (by decide))
          rw [(T.beq_eq _ _).2 rfl] at e
          exact e)
        clear hx2
        go_wp2_with fail
        refine (HMY.out _ (Ext.alloc _ _)).mono ?_
        rintro e w3 ⟨rfl, hx3⟩
        have HX3 := hid ((Ext.alloc w2 _).trans hx3)
        have HB3 := hid (hx3.block (blk0 w2 _))
        obtain ⟨p0, p1, p2, p3⟩ := four_of HB3.out
        clear hx3
        go_wp2_with fail
        refine (HZ.out _ HX3.out).mono ?_
        rintro e w4 ⟨rfl, hx4⟩
        have HX4 := hid (HX3.out.trans hx4)
        have HB4 := hid (hx4.block HB3.out)
        clear p0 p1 p2 p3 hx4
        obtain ⟨p0, p1, p2, p3⟩ := four_of HB4.out
        go_wp2_with fail
        refine (HIS.out _ HX4.out).mono ?_
        rintro e w5 ⟨rfl, hx5⟩
        have HX5 := hid (HX2.out.trans (HX4.out.trans hx5))
        clear p0 p1 p2 p3 hx5
        go_wp2_with fail
        go_ret
        exact ⟨rfl, HX5.out⟩
end Go.Proofs.YtbpbkihcfdnphaaDoor
