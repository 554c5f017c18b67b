/-
  The reference's Read by a contract.
-/
import Derived.Test.YtecabbifkcnbeaaGreatDoorRVal
import Derived.Test.YtecabbifkcnbeaaGreatDoorBackBad
import Derived.Test.YtecabbifkcnbeaaGreatDoorBackMath
import Derived.Test.YtecabbifkcnbeaaGreatDoorWKinds
import Derived.Lib.ParseIntBCases
import Derived.Lib.ParseIntBTie
import Derived.Test.YtecabbifkcnbeaaGreatDoorCVals
import Derived.Test.YtecabbifkcnbeaaGreatDoorWRefE
import Derived.Test.YtecabbifkcnbeaaGreatDoorCWork
namespace Go.Proofs.YtecabbifkcnbeaaGreatDoor
open Go.RowKit
/-- What the reference's Read answers. -/
def RReadR (w : World) (r : Rs) (e : Ending) (w' : World) : Prop := Ext w w' ∧
  match r with
  | .ok t _ => ∃ v', e = .returned (.tuple #[v', .int .i64 0, .int .i64 0]) ∧ Rd (fun q => w.heap.size ≤ q) w' 65 v' t
  | .bad c a => e = .returned (.tuple #[zeroP, .int .i64 a, .int .i64 c]) ∧ c ≠ 0
set_option maxRecDepth 100000 in
set_option maxHeartbeats 4000000 in
theorem rread_any (s : ByteArray) (w : World) (hx : s.size ≤ 140737488351232) : Calls Tryz.prog 68 #[.string s] w (RReadR w (readR s (quoQ s))) := by
  by_cases hs : 1048576 < s.size
  · have HR := hid (show readR s (quoQ s) = .bad 2 0 by unfold readR; rw [if_pos hs])
    have hs' : (1048576 : Int) < s.size := by omega
    have hx' : (s.size : Int) ≤ 140737488355328 := by omega
    clear hs
    go_enter Tryz.func68, Tryz.ntmps68
    go_wp2_with fail
    refine bodyPost_ret (v := .tuple #[.agg #[.int .i64 0, .int .i64 0, .string ⟨#[]⟩, .slice none 0 0], .int .i64 0, .int .i64 2]) (by simp [results, Tryz.results68, go_sem]) rfl ?_
    rw [HR.out]
    exact ⟨Ext.alloc _ _, rfl, by decide⟩
  · obtain ⟨r, hr⟩ : ∃ r, readR s (quoQ s) = r := ⟨_, rfl⟩
    have HW := hid (show r = wholeX s by rw [← hr, wholeX_eq]; unfold readR; rw [if_neg hs])
    have HOK := hid (show ∀ t a, r = .ok t a → t.may from fun t a h => (readR_ok (hr.trans h)).1)
    rw [hr]
    have hs0 : s.size ≤ 1048576 := by omega
    have hs' : (s.size : Int) ≤ 1048576 := by omega
    obtain ⟨b, hb⟩ : ∃ b, (w.alloc (.cells #[.int .i64 0, .int .i64 0, .string ⟨#[]⟩, .slice none 0 0] 34)).heap.size = b := ⟨_, rfl⟩
    have HBS := hid (show b = w.heap.size + 1 by rw [← hb]; exact blkS _ _)
    obtain ⟨U, hU⟩ : ∃ U, (w.alloc (.cells #[.int .i64 0, .int .i64 0, .string ⟨#[]⟩, .slice none 0 0] 34)).alloc (.cells #[.string s, .int .i64 0, .int .i64 0, .int .i64 0] 182) = U := ⟨_, rfl⟩
    have HR0 := hid (show RRAt U b s 0 0 0 by rw [← hU, ← hb]; exact blk0 _ _)
    have HRB0 := hid (show U.heap[w.heap.size]? = some (.cells #[.int .i64 0, .int .i64 0, .string ⟨#[]⟩, .slice none 0 0] 34) by rw [← hU]; exact blkOld _ (blk0 w _))
    have HXU := hid (show Ext w U by rw [← hU]; exact Ext.alloc2 _ _ _)
    have HUS := hid (show U.heap.size = w.heap.size + 2 by rw [← hU, blkS, hb, HBS.out])
    have HC := hid (rval_any hs0 (2 * s.size + 1) U 0 0 0 HR0.out (Nat.zero_le _) (by omega) (by omega))
    have HNE := hid (show w.heap.size ≠ b by rw [HBS.out]; omega)
    obtain ⟨c0, c1, c2, c3⟩ := HR0.out.four
    clear hs hr
    go_enter Tryz.func68, Tryz.ntmps68
    go_upto_region 4 with fail
    clear hU hb
    go_wp2_with fail
    refine HC.out.mono ?_
    intro e w2 hE
    clear c0 c1 c2 c3
    obtain ⟨k2, n2, x2, a2, l2, cx, rfl⟩ := hE.shape
    have HK2 := hid ((HXU.out.kp (fun q => q ≠ b ∧ q ≠ w.heap.size)).trans (hE.1.mono (fun q _ h => h.1)))
    have HRB2 := hid (hE.1.block' HRB0.out HNE.out)
    go_upto_region 5 with fail
    have HK3 := hid (HK2.out.trans ((Ext.alloc w2 (.cells #[.int .i64 k2, .int .i64 n2, .string x2, .slice a2 l2 cx] 34)).kp _))
    have HRB3 := hid (show (w2.alloc (.cells #[.int .i64 k2, .int .i64 n2, .string x2, .slice a2 l2 cx] 34)).heap[w.heap.size]? = _ from blkOld _ HRB2.out)
    have HPB3 := hid (blk0 w2 (.cells #[.int .i64 k2, .int .i64 n2, .string x2, .slice a2 l2 cx] 34))
    have HX3 := hid (Ext.alloc w2 (.cells #[.int .i64 k2, .int .i64 n2, .string x2, .slice a2 l2 cx] 34))
    have HP2 := hid (show U.heap.size ≤ w2.heap.size from hE.1.size)
    cases hv : rdX s (2 * s.size + 1) 0 0 with
    | bad c a =>
      rw [hv] at hE
      obtain ⟨hk2, -, ⟨j, hr2, hj⟩, hc⟩ := hE
      have HV := hid (show r = .bad c a by rw [HW.out]; unfold wholeX; rw [hv])
      have HR3 := hid (show RRAt (w2.alloc (.cells #[.int .i64 k2, .int .i64 n2, .string x2, .slice a2 l2 cx] 34)) b s j a c from blkOld _ hr2)
      generalize w2.alloc (.cells #[.int .i64 k2, .int .i64 n2, .string x2, .slice a2 l2 cx] 34) = W3 at *
      clear hk2 hr2 hv
      have qc : ((c : Int) == 0) = false := by rw [beq_eq_false_iff_ne]; omega
      have qd : ((c : Int) != 0) = true := by simp; omega
      have qe : ¬ (c : Int) = 0 := by omega
      obtain ⟨c0, c1, c2, c3⟩ := HR3.out.four
      obtain ⟨r0, r1, r2, r3⟩ := four_of HRB3.out
      obtain ⟨e0, e1, e2, e3⟩ := four_free HRB3.out
      have hnb : b ≠ w.heap.size := fun e => HNE.out e.symm
      have hnb2 := HNE.out
      go_wp2_with fail
      go_region
      all_goals
        go_wp2_with fail
        obtain ⟨z0, z1, z2, z3⟩ := four_of (four_set (u0 := .int .i64 0) (u1 := .int .i64 0) (u2 := .string ⟨#[]⟩) (u3 := .slice none 0 0) HRB3.out)
        refine bodyPost_ret (v := .tuple #[.agg #[.int .i64 0, .int .i64 0, .string ⟨#[]⟩, .slice none 0 0], .int .i64 a, .int .i64 c]) (by simp [results, Tryz.results68, go_sem, z0, z1, z2, z3]) rfl ?_
        rw [HV.out]
        have k4 := Kp.set4 W3 w.heap.size 0 (.int .i64 0) (.int .i64 0) (.string ⟨#[]⟩) (.slice none 0 0)
        have X4 := Kp.ext (HK3.out.trans (k4.mono (L := fun q => q ≠ b ∧ q ≠ w.heap.size) (fun q _ h => h.2))) (fun q hq => ⟨by have := HBS.out; omega, by omega⟩)
        first
          | exact ⟨X4, rfl, hc⟩
          | exact ⟨X4.drewN _, rfl, hc⟩
          | exact ⟨X4.drew, rfl, hc⟩
          | exact ⟨X4.drew.drew, rfl, hc⟩
    | ok t a =>
      rw [hv] at hE
      obtain ⟨hk2, v', hv', hel, hr2, ha2⟩ := hE
      have hv2 : v' = .agg #[.int .i64 k2, .int .i64 n2, .string x2, .slice a2 l2 cx] := by injection hv' with h; exact h.symm
      rw [hv2] at hel
      have HR3 := hid (show RRAt (w2.alloc (.cells #[.int .i64 k2, .int .i64 n2, .string x2, .slice a2 l2 cx] 34)) b s a 0 0 from blkOld _ hr2)
      have HEL3 := hid ((hel.later HX3.out).mono (L := fun q => w.heap.size + 2 ≤ q) (fun q _ h => by have h' : U.heap.size ≤ q := h; have := HUS.out; show w.heap.size + 2 ≤ q; omega))
      have HV := hid (show r = if a < s.size then .bad 5 a else if 65536 < t.size then .bad 2 a else .ok t a by rw [HW.out]; unfold wholeX; rw [hv])
      generalize w2.alloc (.cells #[.int .i64 k2, .int .i64 n2, .string x2, .slice a2 l2 cx] 34) = W3 at *
      clear hk2 hr2 hv hv' hv2 hel HX3
      obtain ⟨c0, c1, c2, c3⟩ := HR3.out.four
      by_cases hlt : a < s.size
      · have hlt' : (a : Int) < (s.size : Int) := by omega
        rw [if_pos hlt] at HV
        have HF := hid (fail_any W3 b s a 0 5 a HR3.out)
        go_wp2_with fail
        refine HF.out.mono ?_
        rintro e W4 ⟨rfl, hkf, hrf⟩
        have HK4 := hid (HK3.out.trans (hkf.1.mono (fun q _ h => h.1)))
        have HRB4 := hid (hkf.1.block' HRB3.out HNE.out)
        have HR4 := hid hrf
        clear c0 c1 c2 c3 hkf hrf HF
        obtain ⟨c0, c1, c2, c3⟩ := HR4.out.four
        obtain ⟨r0, r1, r2, r3⟩ := four_of HRB4.out
        obtain ⟨e0, e1, e2, e3⟩ := four_free HRB4.out
        have hnb : b ≠ w.heap.size := fun e => HNE.out e.symm
        have hnb2 := HNE.out
        go_wp2_with fail
        go_region
        all_goals
          go_wp2_with fail
          obtain ⟨z0, z1, z2, z3⟩ := four_of (four_set (u0 := .int .i64 0) (u1 := .int .i64 0) (u2 := .string ⟨#[]⟩) (u3 := .slice none 0 0) HRB4.out)
          refine bodyPost_ret (v := .tuple #[.agg #[.int .i64 0, .int .i64 0, .string ⟨#[]⟩, .slice none 0 0], .int .i64 a, .int .i64 5]) (by simp [results, Tryz.results68, go_sem, z0, z1, z2, z3]) rfl ?_
          rw [HV.out]
          have k4 := Kp.set4 W4 w.heap.size 0 (.int .i64 0) (.int .i64 0) (.string ⟨#[]⟩) (.slice none 0 0)
          have X4 := Kp.ext (HK4.out.trans (k4.mono (L := fun q => q ≠ b ∧ q ≠ w.heap.size) (fun q _ h => h.2))) (fun q hq => ⟨by have := HBS.out; omega, by omega⟩)
          first
            | exact ⟨X4, rfl, by decide⟩
            | exact ⟨X4.drewN _, rfl, by decide⟩
            | exact ⟨X4.drew, rfl, by decide⟩
            | exact ⟨X4.drew.drew, rfl, by decide⟩
      · have hae : a = s.size := by omega
        rw [if_neg hlt] at HV
        have HAE := hid hae
        have hlt' : ¬ (a : Int) < (s.size : Int) := by omega
        have hlt2 : decide ((a : Int) < (s.size : Int)) = false := decide_eq_false hlt'
        clear hae hlt
        obtain ⟨p0, p1, p2, p3⟩ := four_of HPB3.out
        by_cases hz : 65536 < t.size
        · rw [if_pos hz] at HV
          have HM := hid (rmay_to HEL3.out false (decide_eq_false (fun h => by have := h.2.1; omega)))
          clear hz
          go_wp2_with fail
          refine (HM.out _ (Ext.refl _)).mono ?_
          rintro e W4 ⟨rfl, hx4⟩
          have HR4 := hid (show RRAt W4 b s a 0 0 from hx4.block HR3.out)
          have HF := hid (fail_any W4 b s a 0 2 s.size HR4.out)
          have HK4 := hid (HK3.out.trans (hx4.kp _))
          have HRB4 := hid (hx4.block HRB3.out)
          clear c0 c1 c2 c3 p0 p1 p2 p3 hx4
          go_wp2_with fail
          refine HF.out.mono ?_
          rintro e W5 ⟨rfl, hkf, hrf⟩
          have HK5 := hid (HK4.out.trans (hkf.1.mono (fun q _ h => h.1)))
          have HRB5 := hid (hkf.1.block' HRB4.out HNE.out)
          have HR5 := hid hrf
          clear hkf hrf HF
          obtain ⟨c0, c1, c2, c3⟩ := HR5.out.four
          obtain ⟨r0, r1, r2, r3⟩ := four_of HRB5.out
          obtain ⟨e0, e1, e2, e3⟩ := four_free HRB5.out
          have hnb : b ≠ w.heap.size := fun e => HNE.out e.symm
          have hnb2 := HNE.out
          go_wp2_with fail
          go_region
          all_goals
            go_wp2_with fail
            obtain ⟨z0, z1, z2, z3⟩ := four_of (four_set (u0 := .int .i64 0) (u1 := .int .i64 0) (u2 := .string ⟨#[]⟩) (u3 := .slice none 0 0) HRB5.out)
            refine bodyPost_ret (v := .tuple #[.agg #[.int .i64 0, .int .i64 0, .string ⟨#[]⟩, .slice none 0 0], .int .i64 s.size, .int .i64 2]) (by simp [results, Tryz.results68, go_sem, z0, z1, z2, z3]) rfl ?_
            rw [HV.out]
            have k4 := Kp.set4 W5 w.heap.size 0 (.int .i64 0) (.int .i64 0) (.string ⟨#[]⟩) (.slice none 0 0)
            have X4 := Kp.ext (HK5.out.trans (k4.mono (L := fun q => q ≠ b ∧ q ≠ w.heap.size) (fun q _ h => h.2))) (fun q hq => ⟨by have := HBS.out; omega, by omega⟩)
            first
              | exact ⟨X4, by rw [HAE.out]; rfl, by decide⟩
              | exact ⟨X4.drewN _, by rw [HAE.out]; rfl, by decide⟩
              | exact ⟨X4.drew, by rw [HAE.out]; rfl, by decide⟩
              | exact ⟨X4.drew.drew, by rw [HAE.out]; rfl, by decide⟩
        · rw [if_neg hz] at HV
          have HM := hid (rmay_to HEL3.out true (decide_eq_true (HOK.out t a HV.out)))
          clear hz
          go_wp2_with fail
          refine (HM.out _ (Ext.refl _)).mono ?_
          rintro e W4 ⟨rfl, hx4⟩
          have HR4 := hid (show RRAt W4 b s a 0 0 from hx4.block HR3.out)
          have HK4 := hid (HK3.out.trans (hx4.kp _))
          have HRB4 := hid (hx4.block HRB3.out)
          have HPB4 := hid (hx4.block HPB3.out)
          have HEL4 := hid (HEL3.out.later hx4)
          clear c0 c1 c2 c3 p0 p1 p2 p3 hx4
          obtain ⟨c0, c1, c2, c3⟩ := HR4.out.four
          obtain ⟨p0, p1, p2, p3⟩ := four_of HPB4.out
          obtain ⟨r0, r1, r2, r3⟩ := four_of HRB4.out
          obtain ⟨e0, e1, e2, e3⟩ := four_free HRB4.out
          go_wp2_with fail
          obtain ⟨z0, z1, z2, z3⟩ := four_of (four_set (u0 := .int .i64 k2) (u1 := .int .i64 n2) (u2 := .string x2) (u3 := .slice a2 l2 cx) HRB4.out)
          refine bodyPost_ret (v := .tuple #[.agg #[.int .i64 k2, .int .i64 n2, .string x2, .slice a2 l2 cx], .int .i64 0, .int .i64 0]) (by simp [results, Tryz.results68, go_sem, z0, z1, z2, z3]) rfl ?_
          rw [HV.out]
          have k4 := Kp.set4 W4 w.heap.size 0 (.int .i64 k2) (.int .i64 n2) (.string x2) (.slice a2 l2 cx)
          refine ⟨Kp.ext (HK4.out.trans (k4.mono (fun q _ h => h.2))) (fun q hq => ⟨by have := HBS.out; omega, by omega⟩), _, rfl, (HEL4.out.keep (k4.mono (fun q _ h e => by have h' : w.heap.size + 2 ≤ q := h; omega))).mono (fun q _ h => ?_)⟩
          have h' : w.heap.size + 2 ≤ q := h
          show w.heap.size ≤ q
          omega
end Go.Proofs.YtecabbifkcnbeaaGreatDoor
/-
  A number's text is read as that number.
-/
namespace Go.Proofs.YtecabbifkcnbeaaGreatDoor
open Go.RowKit
theorem par_itoa {n : Int} (hn : inR n) : Lib.parseIntB 64 (Lib.itoa n) = .ok n := by
  obtain ⟨h0, h1⟩ := hn
  by_cases hneg : n < 0
  · obtain ⟨u, rfl⟩ : ∃ u : Nat, n = -(u : Int) := ⟨n.natAbs, by omega⟩
    obtain ⟨c, r, e, c1, c2⟩ := dec_head u (by omega)
    rw [Lib.itoa_neg u (by omega)]
    have hf := par_fwd u (by omega)
    rw [e] at hf ⊢
    rw [par64m, hf, Lib.signedC, if_neg (by omega)]
  · obtain ⟨u, rfl⟩ : ∃ u : Nat, n = (u : Int) := ⟨n.toNat, by omega⟩
    rw [Lib.itoa_nonneg]
    by_cases hu : u = 0
    · subst hu
      rw [Lib.decDigits_one (by decide)]
      kernel_rfl
    · obtain ⟨c, r, e, c1, c2⟩ := dec_head u (by omega)
      have hf := par_fwd u (by omega)
      rw [e] at hf ⊢
      rw [par64 c r ⟨c1, c2⟩, hf, Lib.signlessC, if_neg (by omega)]
theorem numO_itoa {n : Int} (hn : inR n) : numO (itoaS n) = some n := by
  have h : Lib.parseIntB 64 (itoaS n).data.toList = .ok n := par_itoa hn
  unfold numO
  rw [h]
  dsimp only
  rw [if_pos rfl]
theorem numO_some {s : ByteArray} {v : Int} (h : numO s = some v) : itoaS v = s ∧ inR v := by
  unfold numO at h
  split at h
  · rename_i q hq
    split at h
    · rename_i e
      obtain rfl := Option.some.inj h
      have hb := Lib.parseIntB_bounds hq
      exact ⟨e, by unfold inR; omega⟩
    · cases h
  · cases h
theorem numV_itoa {n : Int} (hn : inR n) : numV (itoaS n) = cameV n := by unfold numV; rw [numO_itoa hn]
end Go.Proofs.YtecabbifkcnbeaaGreatDoor
/-
  The number that a text tells: what the program's reading and the document's agree in.
-/
namespace Go.Proofs.YtecabbifkcnbeaaGreatDoor
theorem bytes_ext {a b : ByteArray} (h : a.data.toList = b.data.toList) : a = b := by
  apply ByteArray.ext
  exact Array.toList_inj.1 h
theorem intT_wr (n : Int) : (intT n).wr = Lib.itoa n := by
  unfold intT
  simp [T.wr]
/-- The document reads a whole number: the program's reading tells it too. -/
theorem read_num {s : ByteArray} {n : Int} {a : Nat} (h : readR s (quoQ s) = .ok (intT n) a) : numO s = some n := by
  obtain ⟨_, hf, hw, _⟩ := readR_ok h
  have hs : s = itoaS n := bytes_ext (by rw [← hw, intT_wr]; rfl)
  have hr : inR n := by
    have := hf
    simp only [intT, T.fitI] at this
    exact this.1 trivial
  rw [hs, numO_itoa hr]
/-- A text that tells a number is read as that number. -/
theorem num_read {s : ByteArray} {v : Int} (h : numO s = some v) : ∃ a, readR s (quoQ s) = .ok (intT v) a := by
  obtain ⟨hs, hr⟩ := numO_some h
  have hl : (intT v).wr.length ≤ 1048576 := by
    rw [intT_wr]
    have := Lib.itoa_length_le v hr.1 hr.2
    omega
  have hq := readR_text (t := intT v) (intT_may v) (by simp only [intT, T.fitI]; exact ⟨fun _ => hr, trivial⟩) hl
  rw [intT_wr] at hq
  have e : (⟨(Lib.itoa v).toArray⟩ : ByteArray) = s := hs
  rw [e] at hq
  exact ⟨_, hq⟩
end Go.Proofs.YtecabbifkcnbeaaGreatDoor
/-
  The document's package words: work's num, by a contract.
-/
set_option linter.unusedSimpArgs false
namespace Go.Proofs.YtecabbifkcnbeaaGreatDoor
open Go.RowKit
theorem int_wf {k n : Int} {x : ByteArray} {ks : List T} (h : (T.node k n x ks).may) (h3 : k = 3) : x = ⟨#[]⟩ ∧ ks = [] := by
  have := T.wf_of _ h.1
  have : T.wfP k n x.size ks.length := this
  unfold T.wfP at this
  subst h3
  have hx : x.size = 0 ∧ ks.length = 0 := by omega
  refine ⟨?_, List.eq_nil_of_length_eq_zero hx.2⟩
  obtain ⟨d⟩ := x
  have hd : d.size = 0 := hx.1
  rw [Array.eq_empty_of_size_eq_zero hd]
/-- What the document's num answers. -/
def NumR (s : ByteArray) (e : Ending) : Prop := (∃ v q c, numO s = some v ∧ e = .returned (.tuple #[plS 3 v ⟨#[]⟩ q 0 c, .int .i64 0])) ∨ (numO s = none ∧ e = .returned (.tuple #[plS 0 0 ⟨#[]⟩ none 0 0, .int .i64 24]))
set_option maxRecDepth 100000 in
set_option maxHeartbeats 1000000 in
theorem rwk10_num {K : Nat → Prop} {d : Nat} (a : Option Addr) (c : Nat) (s : ByteArray) (hs : s.size ≤ 65535) (w : World) (h : RdL K w d a [textT s]) : Calls Tryz.prog 33 #[.string ⟨#[119, 111, 114, 100, 115, 46, 110, 117, 109]⟩, .slice a 1 c] w fun e w' => NumR s e ∧ Ext w w' := by
  obtain ⟨g, off, k0, n0, x0, q0, l0, c0, rfl, hg, h40, hr0⟩ := h.kid (j := 0) (Nat.le_of_ble_eq_true rfl)
  obtain rfl : x0 = s := Rd.text_eq (k := k0) (n := n0) hr0
  have H40 := hid (show ∀ w1, Ext w w1 → Four w1 g off (.int .i64 k0) (.int .i64 n0) (.string x0) (.slice q0 l0 c0) from fun w1 hx => by have h := Four.keep h40 (hx.kp K) hg; rwa [Nat.zero_mul, Nat.add_zero] at h)
  have HX := hid (Ext.alloc w (.cells #[.int .i64 0, .int .i64 0, .string ⟨#[]⟩, .slice none 0 0] 34))
  have HB := hid (blk0 w (.cells #[.int .i64 0, .int .i64 0, .string ⟨#[]⟩, .slice none 0 0] 34))
  obtain ⟨z0, z1, z2, z3⟩ := four_of HB.out
  obtain ⟨f0, f1, f2, f3⟩ := four_free HB.out
  obtain ⟨o0, o1, o2, o3⟩ := H40.out _ HX.out
  have hgl := lt_of_cell o0
  clear h hg h40 hr0
  have HRD := hid (fun W => rread_any x0 W (by omega))
  have HN := hid (fun n a h => read_num (s := x0) (n := n) (a := a) h)
  have HM := hid (fun v h => num_read (s := x0) (v := v) h)
  have HMAY := hid (fun t a h => (readR_ok (s := x0) (t := t) (a := a) h).1)
  generalize readR x0 (quoQ x0) = r at *
  go_enter Tryz.func33, Tryz.ntmps33
  go_wp2_with fail
  refine (HRD.out _).mono ?_
  rintro e w1 ⟨hx, hr⟩
  have HX1 := hid (HX.out.trans hx)
  have HB1 := hid (hx.block HB.out)
  clear hx z0 z1 z2 z3 f0 f1 f2 f3 o0 o1 o2 o3 hgl H40
  cases r with
  | bad ec ad =>
    obtain ⟨rfl, hec⟩ := hr
    have HO := hid (show numO x0 = none by
      cases hn : numO x0 with
      | none => rfl
      | some v => obtain ⟨a, h⟩ := HM.out v hn; cases h)
    have he1 : ¬ (ec : Int) = 0 := by omega
    have he2 : ((ec : Int) == 0) = false := by rw [beq_eq_false_iff_ne]; exact he1
    have he3 : ((ec : Int) != 0) = true := by unfold bne; rw [he2]; rfl
    have HB2 := hid (blkOld (.cells #[.int .i64 0, .int .i64 0, .string ⟨#[]⟩, .slice none 0 0] 34) HB1.out)
    have HX2 := hid (HX1.out.trans (Ext.alloc w1 (.cells #[.int .i64 0, .int .i64 0, .string ⟨#[]⟩, .slice none 0 0] 34)))
    obtain ⟨z0, z1, z2, z3⟩ := four_of HB2.out
    obtain ⟨f0, f1, f2, f3⟩ := four_free HB2.out
    unfold zeroP
    go_wp2_with fail
    refine bodyPost_ret (v := .tuple #[plS 0 0 ⟨#[]⟩ none 0 0, .int .i64 24]) (by simp [results, Tryz.results33, go_sem, z0, z1, z2, z3, plS]) rfl ?_
    exact ⟨.inr ⟨HO.out, rfl⟩, (Kp.set4 _ w.heap.size 0 (.int .i64 0) (.int .i64 0) (.string ⟨#[]⟩) (.slice none 0 0)).extOf HX2.out (Nat.le_refl _)⟩
  | ok t ad =>
    obtain ⟨v', rfl, hrd⟩ := hr
    obtain ⟨u0, u1, u2, u3, rfl⟩ := hrd.agg
    obtain ⟨k, n, x, q, cq, rfl, rfl, rfl, rfl⟩ := hrd.shape
    have hk := hrd.kind_eq
    obtain ⟨lq, hlq⟩ : ∃ lq, t.kids.length = lq := ⟨_, rfl⟩
    rw [hlq] at hrd ⊢
    have BK := hid (blk0 w1 (.cells #[.int .i64 k, .int .i64 n, .string x, .slice q lq cq] 34))
    have HB2 := hid (blkOld (.cells #[.int .i64 k, .int .i64 n, .string x, .slice q lq cq] 34) HB1.out)
    have HX2 := hid (HX1.out.trans (Ext.alloc w1 (.cells #[.int .i64 k, .int .i64 n, .string x, .slice q lq cq] 34)))
    obtain ⟨z0, z1, z2, z3⟩ := four_of HB2.out
    obtain ⟨f0, f1, f2, f3⟩ := four_free HB2.out
    obtain ⟨b0, b1, b2, b3⟩ := four_of BK.out
    by_cases h3 : k = 3
    · have HT := hid (show ∃ v, t = intT v ∧ n = v ∧ x = ⟨#[]⟩ ∧ lq = 0 from by
        have hm := HMAY.out t ad rfl
        obtain ⟨k', n', x', ks⟩ := t
        have e1 : k' = k := hk
        have e2 : n = n' := hrd.num_eq.symm
        have e3 : x = x' := hrd.text_eq
        subst e1 e2 e3
        have e4 := int_wf (show (T.node k' n x ks).may from hm) h3
        obtain ⟨ex, ek⟩ := e4
        subst ex ek
        exact ⟨n, by rw [h3]; rfl, rfl, rfl, hlq.symm.trans rfl⟩)
      have q1 : (k == 3) = true := by rw [beq_iff_eq]; exact h3
      have q2 : (k != 3) = false := by unfold bne; rw [q1]; rfl
      obtain ⟨v, rfl, rfl, rfl, rfl⟩ := HT.out
      have HO := hid (HN.out n ad rfl)
      subst h3
      clear hk hrd q1 q2 hlq HT HM HN HRD
      go_wp2_with fail
      have HB9 := hid (four_set (u0 := .int .i64 3) (u1 := .int .i64 n) (u2 := .string ⟨#[]⟩) (u3 := .slice q 0 cq) HB2.out)
      have HE := hid ((Kp.set4 (w1.alloc (.cells #[.int .i64 3, .int .i64 n, .string ⟨#[]⟩, .slice q 0 cq] 34)) w.heap.size 0 (.int .i64 3) (.int .i64 n) (.string ⟨#[]⟩) (.slice q 0 cq)).extOf HX2.out (Nat.le_refl _))
      obtain ⟨y0, y1, y2, y3⟩ := four_of HB9.out
      refine bodyPost_ret (v := .tuple #[plS 3 n ⟨#[]⟩ q 0 cq, .int .i64 0]) (by simp [results, Tryz.results33, go_sem, y0, y1, y2, y3, plS]) rfl ?_
      exact ⟨.inl ⟨n, q, cq, HO.out, rfl⟩, HE.out⟩
    · have q1 : (k == 3) = false := by rw [beq_eq_false_iff_ne]; exact h3
      have q2 : (k != 3) = true := by unfold bne; rw [q1]; rfl
      have HO := hid (show numO x0 = none by
        cases hn : numO x0 with
        | none => rfl
        | some v =>
          obtain ⟨a, h⟩ := HM.out v hn
          injection h with h1 h2
          rw [h1] at hk
          exact absurd hk.symm h3)
      clear hk hrd hlq HM HN HRD
      go_wp2_with fail
      refine bodyPost_ret (v := .tuple #[plS 0 0 ⟨#[]⟩ none 0 0, .int .i64 24]) (by simp [results, Tryz.results33, go_sem, z0, z1, z2, z3, plS]) rfl ?_
      exact ⟨.inr ⟨HO.out, rfl⟩, (Kp.set4 _ w.heap.size 0 (.int .i64 0) (.int .i64 0) (.string ⟨#[]⟩) (.slice none 0 0)).extOf HX2.out (Nat.le_refl _)⟩

end Go.Proofs.YtecabbifkcnbeaaGreatDoor
/-
  craft.Work where the operation is none, or the number of values is wrong: whatever the values.
-/
namespace Go.Proofs.YtecabbifkcnbeaaGreatDoor
open Go.RowKit
set_option maxRecDepth 100000 in
set_option maxHeartbeats 4000000 in
theorem work_far (ks : List Kd) (tb : Nat) (op : ByteArray) (a : Option Addr) (c : Nat) (ts : List T) (R : Value) (w : World) (hl : ks.length ≤ 1000) (ht : TabAt w tb ks) (hn : ts.length ≤ 140737488351232)
    (hc : ∀ k f, kdFind ks op = some k → k.does = some f → cntOk k ts.length = false) :
    Calls Tryz.prog 30 #[.slice (some ⟨tb, 0, none⟩) ks.length ks.length, .string op, .slice a ts.length c] w fun e w' => e = .returned (workV ks op ts R) ∧ Ext w w' := by
  have HF := hid (fun w1 (hx : Ext w w1) => find_any ks tb op w1 hl (ht.later hx))
  have HC := hid hc
  have hn' : (ts.length : Int) ≤ 140737488351232 := by omega
  have hqn : ∀ w : World, (binOp .eql 67 .nilFunc .nilFunc).run Tryz.prog w = .ok (.bool true) w := fun _ => by kernel_rfl
  have hqf : ∀ (f : Nat) (w : World), (binOp .eql 67 (.func (.func f) #[] #[]) .nilFunc).run Tryz.prog w = .ok (.bool false) w := fun _ _ => by kernel_rfl
  clear hl ht hc
  obtain ⟨kn, hkn⟩ : ∃ n, ks.length = n := ⟨_, rfl⟩
  rw [hkn] at HF ⊢
  clear hkn
  obtain ⟨o, ho⟩ : ∃ o, kdFind ks op = o := ⟨_, rfl⟩
  cases o with
  | none =>
    have HV := hid (show workV ks op ts R = refV 1 by unfold workV; rw [ho])
    rw [ho] at HF
    clear ho
    go_enter Tryz.func30, Tryz.ntmps30
    go_wp2_with fail
    refine (HF.out _ (Ext.refl _)).mono ?_
    rintro e w1 ⟨rfl, hx1⟩
    have X1 := hid hx1
    clear hx1
    unfold kdVal
    go_wp2_with fail
    go_ret3
    exact ⟨by rw [HV.out]; rfl, X1.out.trans (Ext.alloc _ _)⟩
  | some k =>
    have HCK := hid (fun f h => HC.out k f ho h)
    have HW := hid (show workV ks op ts R = match k.does with | none => refV 1 | some _ => if cntOk k ts.length = false then refV 11 else if ∀ t ∈ ts, t.may then (if rightB k.signs.data.toList (ts.map T.kind) = true then R else refV 20) else refV 1 by unfold workV; rw [ho] <;> rfl)
    rw [ho] at HF
    have HCN := hid (show cntOk k ts.length = (decide (k.min ≤ ts.length) && (decide (k.max < 0) || decide ((ts.length : Int) ≤ k.max))) from rfl)
    clear ho HC
    obtain ⟨k0, k1, k2, k3, k4, k5, k6, k7, k8⟩ := k
    dsimp only at HW HCK HCN
    cases k7 with
    | none =>
      have HV := hid (show workV ks op ts R = refV 1 from HW.out)
      go_enter Tryz.func30, Tryz.ntmps30
      go_wp2_with fail
      refine (HF.out _ (Ext.refl _)).mono ?_
      rintro e w1 ⟨rfl, hx1⟩
      have X1 := hid hx1
      clear hx1
      unfold kdVal Kd.val fnV
      dsimp only
      go_wp2_with fail
      go_ret3
      exact ⟨by rw [HV.out]; rfl, X1.out.trans (Ext.alloc _ _)⟩
    | some f =>
      have hcb := HCK.out f rfl
      have HV := hid (show workV ks op ts R = refV 11 from HW.out.trans (if_pos hcb))
      rw [hcb] at HCN
      clear HW HCK hcb
      generalize ts.length = n at *
      have HCF := hid (show ¬ (k1 ≤ (n : Int) ∧ (k2 < 0 ∨ (n : Int) ≤ k2)) from fun h => by
        have := HCN.out
        simp only [Bool.false_eq, Bool.and_eq_false_iff, Bool.or_eq_false_iff, decide_eq_false_iff_not] at this
        omega)
      by_cases h1 : k1 ≤ (n : Int)
      · have h2 : 0 ≤ k2 := by have := HCF.out; omega
        have h3 : k2 < (n : Int) := by have := HCF.out; omega
        go_enter Tryz.func30, Tryz.ntmps30
        go_wp2_with fail
        refine (HF.out _ (Ext.refl _)).mono ?_
        rintro e w1 ⟨rfl, hx1⟩
        have X1 := hid hx1
        clear hx1
        unfold kdVal Kd.val fnV
        dsimp only
        go_wp2_with fail
        go_ret3
        exact ⟨by rw [HV.out]; rfl, X1.out.trans (Ext.alloc _ _)⟩
      · go_enter Tryz.func30, Tryz.ntmps30
        go_wp2_with fail
        refine (HF.out _ (Ext.refl _)).mono ?_
        rintro e w1 ⟨rfl, hx1⟩
        have X1 := hid hx1
        clear hx1
        unfold kdVal Kd.val fnV
        dsimp only
        go_wp2_with fail
        go_ret3
        exact ⟨by rw [HV.out]; rfl, X1.out.trans (Ext.alloc _ _)⟩
end Go.Proofs.YtecabbifkcnbeaaGreatDoor
