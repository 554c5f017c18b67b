/-
  The reference's Read by a contract.
-/
import Derived.Test.YtbpbkihcfdnphaaGreatDoorRVal
import Derived.Test.YtbpbkihcfdnphaaGreatDoorRCmp
import Derived.Test.YtbpbkihcfdnphaaGreatDoorRJoin
import Derived.Test.YtbpbkihcfdnphaaGreatDoorBackBad
namespace Go.Proofs.YtbpbkihcfdnphaaGreatDoor
open Go.RowKit
/-- What the reference's Read answers. -/
def RReadR (w : World) (r : Rs) (e : Ending) (w' : World) : Prop := Ext w w' ∧
  match r with
  | .ok t _ => ∃ v', e = .returned (.tuple #[v', .int .i64 0, .int .i64 0]) ∧ Rd (fun q => w.heap.size ≤ q) w' 65 v' t
  | .bad c a => e = .returned (.tuple #[zeroP, .int .i64 a, .int .i64 c]) ∧ c ≠ 0
set_option maxRecDepth 100000 in
set_option maxHeartbeats 4000000 in
theorem rread_any (s : ByteArray) (w : World) (hx : s.size ≤ 140737488351232) : Calls Tryz.prog 24 #[.string s] w (RReadR w (readR s (quoQ s))) := by
  by_cases hs : 1048576 < s.size
  · have HR := hid (show readR s (quoQ s) = .bad 2 0 by unfold readR; rw [if_pos hs])
    have hs' : (1048576 : Int) < s.size := by omega
    have hx' : (s.size : Int) ≤ 140737488355328 := by omega
    clear hs
    go_enter Tryz.func24, Tryz.ntmps24
    go_wp2_with fail
    refine bodyPost_ret (v := .tuple #[.agg #[.int .i64 0, .int .i64 0, .string ⟨#[]⟩, .slice none 0 0], .int .i64 0, .int .i64 2]) (by simp [results, Tryz.results24, go_sem]) rfl ?_
    rw [HR.out]
    exact ⟨Ext.alloc _ _, rfl, by decide⟩
  · obtain ⟨r, hr⟩ : ∃ r, readR s (quoQ s) = r := ⟨_, rfl⟩
    have HW := hid (show r = wholeX s by rw [← hr, wholeX_eq]; unfold readR; rw [if_neg hs])
    have HOK := hid (show ∀ t a, r = .ok t a → t.may from fun t a h => (readR_ok (hr.trans h)).1)
    rw [hr]
    have hs0 : s.size ≤ 1048576 := by omega
    have hs' : (s.size : Int) ≤ 1048576 := by omega
    obtain ⟨b, hb⟩ : ∃ b, (w.alloc (.cells #[.int .i64 0, .int .i64 0, .string ⟨#[]⟩, .slice none 0 0] 27)).heap.size = b := ⟨_, rfl⟩
    have HBS := hid (show b = w.heap.size + 1 by rw [← hb]; exact blkS _ _)
    obtain ⟨U, hU⟩ : ∃ U, (w.alloc (.cells #[.int .i64 0, .int .i64 0, .string ⟨#[]⟩, .slice none 0 0] 27)).alloc (.cells #[.string s, .int .i64 0, .int .i64 0, .int .i64 0] 76) = U := ⟨_, rfl⟩
    have HR0 := hid (show RRAt U b s 0 0 0 by rw [← hU, ← hb]; exact blk0 _ _)
    have HRB0 := hid (show U.heap[w.heap.size]? = some (.cells #[.int .i64 0, .int .i64 0, .string ⟨#[]⟩, .slice none 0 0] 27) by rw [← hU]; exact blkOld _ (blk0 w _))
    have HXU := hid (show Ext w U by rw [← hU]; exact Ext.alloc2 _ _ _)
    have HUS := hid (show U.heap.size = w.heap.size + 2 by rw [← hU, blkS, hb, HBS.out])
    have HC := hid (rval_any hs0 (2 * s.size + 1) U 0 0 0 HR0.out (Nat.zero_le _) (by omega) (by omega))
    have HNE := hid (show w.heap.size ≠ b by rw [HBS.out]; omega)
    obtain ⟨c0, c1, c2, c3⟩ := HR0.out.four
    clear hs hr
    go_enter Tryz.func24, Tryz.ntmps24
    go_upto_region 4 with fail
    clear hU hb
    go_wp2_with fail
    refine HC.out.mono ?_
    intro e w2 hE
    clear c0 c1 c2 c3
    obtain ⟨k2, n2, x2, a2, l2, cx, rfl⟩ := hE.shape
    have HK2 := hid ((HXU.out.kp (fun q => q ≠ b ∧ q ≠ w.heap.size)).trans (hE.1.mono (fun q _ h => h.1)))
    have HRB2 := hid (hE.1.block' HRB0.out HNE.out)
    go_upto_region 5 with fail
    have HK3 := hid (HK2.out.trans ((Ext.alloc w2 (.cells #[.int .i64 k2, .int .i64 n2, .string x2, .slice a2 l2 cx] 27)).kp _))
    have HRB3 := hid (show (w2.alloc (.cells #[.int .i64 k2, .int .i64 n2, .string x2, .slice a2 l2 cx] 27)).heap[w.heap.size]? = _ from blkOld _ HRB2.out)
    have HPB3 := hid (blk0 w2 (.cells #[.int .i64 k2, .int .i64 n2, .string x2, .slice a2 l2 cx] 27))
    have HX3 := hid (Ext.alloc w2 (.cells #[.int .i64 k2, .int .i64 n2, .string x2, .slice a2 l2 cx] 27))
    have HP2 := hid (show U.heap.size ≤ w2.heap.size from hE.1.size)
    cases hv : rdX s (2 * s.size + 1) 0 0 with
    | bad c a =>
      rw [hv] at hE
      obtain ⟨hk2, -, ⟨j, hr2, hj⟩, hc⟩ := hE
      have HV := hid (show r = .bad c a by rw [HW.out]; unfold wholeX; rw [hv])
      have HR3 := hid (show RRAt (w2.alloc (.cells #[.int .i64 k2, .int .i64 n2, .string x2, .slice a2 l2 cx] 27)) b s j a c from blkOld _ hr2)
      generalize w2.alloc (.cells #[.int .i64 k2, .int .i64 n2, .string x2, .slice a2 l2 cx] 27) = W3 at *
      clear hk2 hr2 hv
      have qc : ((c : Int) == 0) = false := by rw [beq_eq_false_iff_ne]; omega
      have qd : ((c : Int) != 0) = true := by simp; omega
      have qe : ¬ (c : Int) = 0 := by omega
      obtain ⟨c0, c1, c2, c3⟩ := HR3.out.four
      obtain ⟨r0, r1, r2, r3⟩ := four_of HRB3.out
      obtain ⟨e0, e1, e2, e3⟩ := four_free HRB3.out
      have hnb : b ≠ w.heap.size := fun e => HNE.out e.symm
      have hnb2 := HNE.out
      go_wp2_with fail
      go_region
      all_goals
        go_wp2_with fail
        obtain ⟨z0, z1, z2, z3⟩ := four_of (four_set (u0 := .int .i64 0) (u1 := .int .i64 0) (u2 := .string ⟨#[]⟩) (u3 := .slice none 0 0) HRB3.out)
        refine bodyPost_ret (v := .tuple #[.agg #[.int .i64 0, .int .i64 0, .string ⟨#[]⟩, .slice none 0 0], .int .i64 a, .int .i64 c]) (by simp [results, Tryz.results24, go_sem, z0, z1, z2, z3]) rfl ?_
        rw [HV.out]
        have k4 := Kp.set4 W3 w.heap.size 0 (.int .i64 0) (.int .i64 0) (.string ⟨#[]⟩) (.slice none 0 0)
        have X4 := Kp.ext (HK3.out.trans (k4.mono (L := fun q => q ≠ b ∧ q ≠ w.heap.size) (fun q _ h => h.2))) (fun q hq => ⟨by have := HBS.out; omega, by omega⟩)
        first
          | exact ⟨X4, rfl, hc⟩
          | exact ⟨X4.drewN _, rfl, hc⟩
          | exact ⟨X4.drew, rfl, hc⟩
          | exact ⟨X4.drew.drew, rfl, hc⟩
    | ok t a =>
      rw [hv] at hE
      obtain ⟨hk2, v', hv', hel, hr2, ha2⟩ := hE
      have hv2 : v' = .agg #[.int .i64 k2, .int .i64 n2, .string x2, .slice a2 l2 cx] := by injection hv' with h; exact h.symm
      rw [hv2] at hel
      have HR3 := hid (show RRAt (w2.alloc (.cells #[.int .i64 k2, .int .i64 n2, .string x2, .slice a2 l2 cx] 27)) b s a 0 0 from blkOld _ hr2)
      have HEL3 := hid ((hel.later HX3.out).mono (L := fun q => w.heap.size + 2 ≤ q) (fun q _ h => by have h' : U.heap.size ≤ q := h; have := HUS.out; show w.heap.size + 2 ≤ q; omega))
      have HV := hid (show r = if a < s.size then .bad 5 a else if 65536 < t.size then .bad 2 a else .ok t a by rw [HW.out]; unfold wholeX; rw [hv])
      generalize w2.alloc (.cells #[.int .i64 k2, .int .i64 n2, .string x2, .slice a2 l2 cx] 27) = W3 at *
      clear hk2 hr2 hv hv' hv2 hel HX3
      obtain ⟨c0, c1, c2, c3⟩ := HR3.out.four
      by_cases hlt : a < s.size
      · have hlt' : (a : Int) < (s.size : Int) := by omega
        rw [if_pos hlt] at HV
        have HF := hid (fail_any W3 b s a 0 5 a HR3.out)
        go_wp2_with fail
        refine HF.out.mono ?_
        rintro e W4 ⟨rfl, hkf, hrf⟩
        have HK4 := hid (HK3.out.trans (hkf.1.mono (fun q _ h => h.1)))
        have HRB4 := hid (hkf.1.block' HRB3.out HNE.out)
        have HR4 := hid hrf
        clear c0 c1 c2 c3 hkf hrf HF
        obtain ⟨c0, c1, c2, c3⟩ := HR4.out.four
        obtain ⟨r0, r1, r2, r3⟩ := four_of HRB4.out
        obtain ⟨e0, e1, e2, e3⟩ := four_free HRB4.out
        have hnb : b ≠ w.heap.size := fun e => HNE.out e.symm
        have hnb2 := HNE.out
        go_wp2_with fail
        go_region
        all_goals
          go_wp2_with fail
          obtain ⟨z0, z1, z2, z3⟩ := four_of (four_set (u0 := .int .i64 0) (u1 := .int .i64 0) (u2 := .string ⟨#[]⟩) (u3 := .slice none 0 0) HRB4.out)
          refine bodyPost_ret (v := .tuple #[.agg #[.int .i64 0, .int .i64 0, .string ⟨#[]⟩, .slice none 0 0], .int .i64 a, .int .i64 5]) (by simp [results, Tryz.results24, go_sem, z0, z1, z2, z3]) rfl ?_
          rw [HV.out]
          have k4 := Kp.set4 W4 w.heap.size 0 (.int .i64 0) (.int .i64 0) (.string ⟨#[]⟩) (.slice none 0 0)
          have X4 := Kp.ext (HK4.out.trans (k4.mono (L := fun q => q ≠ b ∧ q ≠ w.heap.size) (fun q _ h => h.2))) (fun q hq => ⟨by have := HBS.out; omega, by omega⟩)
          first
            | exact ⟨X4, rfl, by decide⟩
            | exact ⟨X4.drewN _, rfl, by decide⟩
            | exact ⟨X4.drew, rfl, by decide⟩
            | exact ⟨X4.drew.drew, rfl, by decide⟩
      · have hae : a = s.size := by omega
        rw [if_neg hlt] at HV
        have HAE := hid hae
        have hlt' : ¬ (a : Int) < (s.size : Int) := by omega
        have hlt2 : decide ((a : Int) < (s.size : Int)) = false := decide_eq_false hlt'
        clear hae hlt
        obtain ⟨p0, p1, p2, p3⟩ := four_of HPB3.out
        by_cases hz : 65536 < t.size
        · rw [if_pos hz] at HV
          have HM := hid (rmay_to HEL3.out false (decide_eq_false (fun h => by have := h.2.1; omega)))
          clear hz
          go_wp2_with fail
          refine (HM.out _ (Ext.refl _)).mono ?_
          rintro e W4 ⟨rfl, hx4⟩
          have HR4 := hid (show RRAt W4 b s a 0 0 from hx4.block HR3.out)
          have HF := hid (fail_any W4 b s a 0 2 s.size HR4.out)
          have HK4 := hid (HK3.out.trans (hx4.kp _))
          have HRB4 := hid (hx4.block HRB3.out)
          clear c0 c1 c2 c3 p0 p1 p2 p3 hx4
          go_wp2_with fail
          refine HF.out.mono ?_
          rintro e W5 ⟨rfl, hkf, hrf⟩
          have HK5 := hid (HK4.out.trans (hkf.1.mono (fun q _ h => h.1)))
          have HRB5 := hid (hkf.1.block' HRB4.out HNE.out)
          have HR5 := hid hrf
          clear hkf hrf HF
          obtain ⟨c0, c1, c2, c3⟩ := HR5.out.four
          obtain ⟨r0, r1, r2, r3⟩ := four_of HRB5.out
          obtain ⟨e0, e1, e2, e3⟩ := four_free HRB5.out
          have hnb : b ≠ w.heap.size := fun e => HNE.out e.symm
          have hnb2 := HNE.out
          go_wp2_with fail
          go_region
          all_goals
            go_wp2_with fail
            obtain ⟨z0, z1, z2, z3⟩ := four_of (four_set (u0 := .int .i64 0) (u1 := .int .i64 0) (u2 := .string ⟨#[]⟩) (u3 := .slice none 0 0) HRB5.out)
            refine bodyPost_ret (v := .tuple #[.agg #[.int .i64 0, .int .i64 0, .string ⟨#[]⟩, .slice none 0 0], .int .i64 s.size, .int .i64 2]) (by simp [results, Tryz.results24, go_sem, z0, z1, z2, z3]) rfl ?_
            rw [HV.out]
            have k4 := Kp.set4 W5 w.heap.size 0 (.int .i64 0) (.int .i64 0) (.string ⟨#[]⟩) (.slice none 0 0)
            have X4 := Kp.ext (HK5.out.trans (k4.mono (L := fun q => q ≠ b ∧ q ≠ w.heap.size) (fun q _ h => h.2))) (fun q hq => ⟨by have := HBS.out; omega, by omega⟩)
            first
              | exact ⟨X4, by rw [HAE.out]; rfl, by decide⟩
              | exact ⟨X4.drewN _, by rw [HAE.out]; rfl, by decide⟩
              | exact ⟨X4.drew, by rw [HAE.out]; rfl, by decide⟩
              | exact ⟨X4.drew.drew, by rw [HAE.out]; rfl, by decide⟩
        · rw [if_neg hz] at HV
          have HM := hid (rmay_to HEL3.out true (decide_eq_true (HOK.out t a HV.out)))
          clear hz
          go_wp2_with fail
          refine (HM.out _ (Ext.refl _)).mono ?_
          rintro e W4 ⟨rfl, hx4⟩
          have HR4 := hid (show RRAt W4 b s a 0 0 from hx4.block HR3.out)
          have HK4 := hid (HK3.out.trans (hx4.kp _))
          have HRB4 := hid (hx4.block HRB3.out)
          have HPB4 := hid (hx4.block HPB3.out)
          have HEL4 := hid (HEL3.out.later hx4)
          clear c0 c1 c2 c3 p0 p1 p2 p3 hx4
          obtain ⟨c0, c1, c2, c3⟩ := HR4.out.four
          obtain ⟨p0, p1, p2, p3⟩ := four_of HPB4.out
          obtain ⟨r0, r1, r2, r3⟩ := four_of HRB4.out
          obtain ⟨e0, e1, e2, e3⟩ := four_free HRB4.out
          go_wp2_with fail
          obtain ⟨z0, z1, z2, z3⟩ := four_of (four_set (u0 := .int .i64 k2) (u1 := .int .i64 n2) (u2 := .string x2) (u3 := .slice a2 l2 cx) HRB4.out)
          refine bodyPost_ret (v := .tuple #[.agg #[.int .i64 k2, .int .i64 n2, .string x2, .slice a2 l2 cx], .int .i64 0, .int .i64 0]) (by simp [results, Tryz.results24, go_sem, z0, z1, z2, z3]) rfl ?_
          rw [HV.out]
          have k4 := Kp.set4 W4 w.heap.size 0 (.int .i64 k2) (.int .i64 n2) (.string x2) (.slice a2 l2 cx)
          refine ⟨Kp.ext (HK4.out.trans (k4.mono (fun q _ h => h.2))) (fun q hq => ⟨by have := HBS.out; omega, by omega⟩), _, rfl, (HEL4.out.keep (k4.mono (fun q _ h e => by have h' : w.heap.size + 2 ≤ q := h; omega))).mono (fun q _ h => ?_)⟩
          have h' : w.heap.size + 2 ≤ q := h
          show w.heap.size ≤ q
          omega
end Go.Proofs.YtbpbkihcfdnphaaGreatDoor
