/-
  The reference's Join by a contract: of a list of plain values in memory.
-/
import Derived.Test.YtbpbkihcfdnphaaGreatDoorRCmp
namespace Go.Proofs.YtbpbkihcfdnphaaGreatDoor
open Go.RowKit
def zeroP : Value := .agg #[.int .i64 0, .int .i64 0, .string ⟨#[]⟩, .slice none 0 0]
/-- What the reference's Join answers. -/
def RJoinR (w : World) (d : Nat) (ks : List T) (e : Ending) (w' : World) : Prop := Ext w w' ∧
  ((∃ t ∈ ks, ¬ t.may) ∧ e = .returned (.tuple #[zeroP, .int .i64 1]) ∨
   (∀ t ∈ ks, t.may) ∧ ¬ (T.node 5 0 ⟨#[]⟩ ks).may ∧ e = .returned (.tuple #[zeroP, .int .i64 2]) ∨
   (∀ t ∈ ks, t.may) ∧ (T.node 5 0 ⟨#[]⟩ ks).may ∧ ∃ v', e = .returned (.tuple #[v', .int .i64 0]) ∧ Rd (fun q => w.heap.size ≤ q) w' d v' (.node 5 0 ⟨#[]⟩ ks))
set_option maxRecDepth 100000 in
set_option maxHeartbeats 4000000 in
theorem rjoin_any {K : Nat → Prop} {d : Nat} {a : Option Addr} {c : Nat} {ks : List T} (w : World) (h : RdL K w d a ks) : Calls Tryz.prog 26 #[.slice a ks.length c] w (RJoinR w (d + 1) ks) := by
  have HA := hid h
  have hl : (ks.length : Int) ≤ 140737488355328 := by have := h.1; omega
  clear h
  go_enter Tryz.func26, Tryz.ntmps26
  go_wp2_with fail
  go_loopw [4] (fun i wr => ∃ j : Nat, j ≤ ks.length ∧ i = .int .i64 j ∧ Ext w wr ∧ wr.heap[w.heap.size]? = some (.cells #[.int .i64 0, .int .i64 0, .string ⟨#[]⟩, .slice none 0 0] 27) ∧ (∀ t ∈ ks.take j, t.may)) (fun i _ => ks.length - (intOf i).toNat)
  case atStart => exact ⟨0, Nat.zero_le _, rfl, Ext.alloc _ _, blk0 _ _, by simp⟩
  case round =>
    obtain ⟨j, hj, rfl, hx, hbr, hall⟩ := hrel
    have HX := hid hx
    have HBR := hid hbr
    have HALL := hid hall
    have hsw := lt_of_block hbr
    clear hx hall hbr
    by_cases hlt : j < ks.length
    · have hlt' : (j : Int) < ks.length := by omega
      obtain ⟨g, off, k', n', x', a', l', c', rfl, hg, h4, hrd⟩ := HA.out.kid hlt
      obtain ⟨m0, m1, m2, m3⟩ := h4.keep (HX.out.kp K) hg
      have HR := hid (hrd.later HX.out)
      have HT := hid (T.take_succ' ks j hlt)
      clear h4 hg hrd
      by_cases hm : ks[j].may
      · have HM := hid (rmay_to HR.out true (decide_eq_true hm))
        have HMM := hid hm
        clear hm
        go_wp2_with fail
        refine (HM.out _ (Ext.refl _)).mono ?_
        rintro e w1 ⟨rfl, hx1⟩
        have HX1 := hid (HX.out.trans hx1)
        have HBR1 := hid (hx1.block HBR.out)
        clear hx1 m0 m1 m2 m3
        go_wp2_with fail
        go_roundw
        case rel =>
          refine ⟨j + 1, hlt, by go_num, HX1.out, HBR1.out, fun t ht => ?_⟩
          rw [HT.out] at ht
          rcases List.mem_append.1 ht with h | h
          · exact HALL.out t h
          · rw [List.mem_singleton.1 h]; exact HMM.out
        case measure => simp [intOf]; omega
      · have HM := hid (rmay_to HR.out false (decide_eq_false hm))
        have HMM := hid hm
        clear hm
        go_wp2_with fail
        refine (HM.out _ (Ext.refl _)).mono ?_
        rintro e w1 ⟨rfl, hx1⟩
        have HX1 := hid (HX.out.trans hx1)
        have HBR1 := hid (hx1.block HBR.out)
        obtain ⟨r0, r1, r2, r3⟩ := four_of HBR1.out
        obtain ⟨e0, e1, e2, e3⟩ := four_free HBR1.out
        have hs1 := lt_of_block HBR1.out
        clear hx1 m0 m1 m2 m3
        go_wp2_with fail
        obtain ⟨z0, z1, z2, z3⟩ := four_of (four_set (u0 := .int .i64 0) (u1 := .int .i64 0) (u2 := .string ⟨#[]⟩) (u3 := .slice none 0 0) HBR1.out)
        refine bodyPost_ret (v := .tuple #[.agg #[.int .i64 0, .int .i64 0, .string ⟨#[]⟩, .slice none 0 0], .int .i64 1]) (by simp [results, Tryz.results26, go_sem, z0, z1, z2, z3]) rfl ?_
        exact ⟨Kp.ext ((HX1.out.kp _).trans (Kp.set4 w1 w.heap.size 0 (.int .i64 0) (.int .i64 0) (.string ⟨#[]⟩) (.slice none 0 0))) (fun q hq => by show q ≠ w.heap.size; omega), .inl ⟨⟨ks[j], List.getElem_mem hlt, HMM.out⟩, rfl⟩⟩
    · have hje : j = ks.length := by omega
      have HALL' := hid (show ∀ t ∈ ks, t.may by have := HALL.out; rw [hje, List.take_length] at this; exact this)
      have HR := hid (RdL.node c (HA.out.keep (HX.out.kp K)))
      clear hje
      go_upto_region 7 with fail
      have HNB := hid (blk0 wr (.cells #[.int .i64 5, .int .i64 0, .string ⟨#[]⟩, .slice a ks.length c] 27))
      have HX2 := hid (Ext.alloc wr (.cells #[.int .i64 5, .int .i64 0, .string ⟨#[]⟩, .slice a ks.length c] 27))
      generalize wr.alloc (.cells #[.int .i64 5, .int .i64 0, .string ⟨#[]⟩, .slice a ks.length c] 27) = W2 at *
      obtain ⟨p0, p1, p2, p3⟩ := four_of HNB.out
      have hs2 := lt_of_block HNB.out
      by_cases hm : (T.node 5 0 ⟨#[]⟩ ks).may
      · have HM := hid (rmay_to HR.out true (decide_eq_true hm))
        have HG := hid hm
        clear hm
        go_wp2_with fail
        refine (HM.out _ HX2.out).mono ?_
        rintro e w1 ⟨rfl, hx1⟩
        obtain ⟨p0, p1, p2, p3⟩ := four_of (hx1.block HNB.out)
        have HX1 := hid (HX2.out.trans hx1)
        clear hx1
        go_wp2_with fail
        refine (rcopy_any (d + 1) _ _ K w1 (HR.out.later HX1.out)).mono ?_
        rintro e w2 ⟨v', rfl, hrd, hy⟩
        obtain ⟨u0, u1, u2, u3, rfl⟩ := hrd.agg
        obtain ⟨k2, n2, x2, a2, c2, rfl, rfl, rfl, rfl⟩ := hrd.shape
        have HRD := hid hrd
        have HY := hid (HX1.out.trans hy)
        have HSZ := hid (HX1.out.size)
        have HBR1 := hid (HY.out.block HBR.out)
        clear hrd hy p0 p1 p2 p3
        obtain ⟨r0, r1, r2, r3⟩ := four_of HBR1.out
        obtain ⟨e0, e1, e2, e3⟩ := four_free HBR1.out
        have hs1 := lt_of_block HBR1.out
        generalize hkn : (T.kids (T.node 5 0 ⟨#[]⟩ ks)).length = kl at HRD
        clear hkn
        go_wp2_with fail
        obtain ⟨z0, z1, z2, z3⟩ := four_of (four_set (u0 := .int .i64 k2) (u1 := .int .i64 n2) (u2 := .string x2) (u3 := .slice a2 kl c2) HBR1.out)
        refine bodyPost_ret (v := .tuple #[.agg #[.int .i64 k2, .int .i64 n2, .string x2, .slice a2 kl c2], .int .i64 0]) (by simp [results, Tryz.results26, go_sem, z0, z1, z2, z3]) rfl ?_
        have k4 := Kp.set4 w2 w.heap.size 0 (.int .i64 k2) (.int .i64 n2) (.string x2) (.slice a2 kl c2)
        refine ⟨Kp.ext ((HX.out.trans HY.out).kp _ |>.trans k4) (fun q hq => by show q ≠ w.heap.size; omega), .inr (.inr ⟨HALL'.out, HG.out, _, rfl, ?_⟩)⟩
        have hz := HSZ.out
        exact ((HRD.out.mono (L := fun q => w1.heap.size ≤ q) (fun q _ h => h)).keep (k4.mono (fun q _ h => by have h' : w1.heap.size ≤ q := h; omega))).mono (fun q _ h => by have h' : w1.heap.size ≤ q := h; show w.heap.size ≤ q; omega)
      · have HM := hid (rmay_to HR.out false (decide_eq_false hm))
        have HG := hid hm
        clear hm
        go_wp2_with fail
        refine (HM.out _ HX2.out).mono ?_
        rintro e w1 ⟨rfl, hx1⟩
        have HX1 := hid (HX2.out.trans hx1)
        have HBR1 := hid (HX1.out.block HBR.out)
        obtain ⟨r0, r1, r2, r3⟩ := four_of HBR1.out
        obtain ⟨e0, e1, e2, e3⟩ := four_free HBR1.out
        have hs1 := lt_of_block HBR1.out
        clear hx1 p0 p1 p2 p3
        go_wp2_with fail
        obtain ⟨z0, z1, z2, z3⟩ := four_of (four_set (u0 := .int .i64 0) (u1 := .int .i64 0) (u2 := .string ⟨#[]⟩) (u3 := .slice none 0 0) HBR1.out)
        refine bodyPost_ret (v := .tuple #[.agg #[.int .i64 0, .int .i64 0, .string ⟨#[]⟩, .slice none 0 0], .int .i64 2]) (by simp [results, Tryz.results26, go_sem, z0, z1, z2, z3]) rfl ?_
        exact ⟨Kp.ext ((HX.out.trans HX1.out).kp _ |>.trans (Kp.set4 w1 w.heap.size 0 (.int .i64 0) (.int .i64 0) (.string ⟨#[]⟩) (.slice none 0 0))) (fun q hq => by show q ≠ w.heap.size; omega), .inr (.inl ⟨HALL'.out, HG.out, rfl⟩)⟩
end Go.Proofs.YtbpbkihcfdnphaaGreatDoor
