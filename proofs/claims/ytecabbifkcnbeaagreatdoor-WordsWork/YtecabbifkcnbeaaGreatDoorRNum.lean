/-
  The reference's number of the reader by a contract: a part.
-/
import Derived.Test.YtecabbifkcnbeaaGreatDoorRNumH
import Derived.Test.YtecabbifkcnbeaaGreatDoorRNumMinus
import Derived.Test.YtecabbifkcnbeaaGreatDoorRNumPlain
namespace Go.Proofs.YtecabbifkcnbeaaGreatDoor
open Go.RowKit
set_option maxRecDepth 100000 in
set_option maxHeartbeats 8000000 in
theorem rnum_nought (w : World) (b : Nat) (s : ByteArray) (i : Nat) (bd : Int) (d : Nat) (h : RRAt w b s i bd 0) (hi : i < s.size) (hs : s.size ≤ 1048576) (h48n : nxt s i = 48) :
    Calls Tryz.prog 154 #[.pointer (some ⟨b, 0, none⟩)] w (RvP w b s bd (d + 1) (numX s i)) := by
  have hbl := lt_of_block h
  have HNE := hid (show w.heap.size ≠ b by omega)
  obtain ⟨r, hr⟩ : ∃ r, numX s i = r := ⟨_, rfl⟩
  rw [hr]
  obtain ⟨p, hp⟩ : ∃ p, numAt s i = p := ⟨_, rfl⟩
  have HBAD := hid (show (¬ digP (nxt s p) ∨ nxt s p = 48 ∧ nxt s i = 45) → r = .bad 5 p from fun h => by rw [← hr, ← hp]; exact numX_bad (by rw [hp]; exact h))
  have HNO := hid (show nxt s p = 48 → ¬ nxt s i = 45 → digP (nxt s (p + 1)) → r = .bad 5 (p + 1) from fun h1 h2 h3 => by rw [← hr, ← hp]; exact numX_nought (by rw [hp]; exact h1) h2 (by rw [hp]; exact h3))
  have HEN0 := hid (show digP (nxt s p) → ∀ k, digEnd s p = p + k → (nxt s p = 48 → ¬ nxt s i = 45 ∧ k = 1 ∧ ¬ digP (nxt s (p + 1))) → r = nvR i (p + k) (nxt s i) (dvF s 0 p k) from fun h1 k h2 h3 => by rw [← hr, ← hp]; rw [← hp] at h1 h2 h3; exact numX_end h1 h2 h3)
  have HB := hid (nxt_lt hi)
  obtain ⟨B, hB⟩ : ∃ B, s[i] = B := ⟨_, rfl⟩
  have hB2 : s.data[i]'hi = B := hB
  rw [hB] at HB
  have HPK := hid (pk_lt hi)
  rw [hB] at HPK
  have HZ := hid (show IntKind.i64.wrap ((B.toNat : Nat) : Int) = ((B.toNat : Nat) : Int) by rw [IntKind.wrap_i64]; have := B.toNat_lt; omega)
  have hi' : (i : Int) < s.size := by omega
  have hi0 : (0 : Int) ≤ i := by omega
  have his : (i : Int) + 1 ≤ 1048576 := by omega
  have HX0 := hid (Ext.alloc w (.cells #[.int .i64 0, .int .i64 0, .string ⟨#[]⟩, .slice none 0 0] 34))
  have HH := hid (show RRAt (w.alloc (.cells #[.int .i64 0, .int .i64 0, .string ⟨#[]⟩, .slice none 0 0] 34)) b s i bd 0 from blkOld _ h)
  have HRB := hid (blk0 w (.cells #[.int .i64 0, .int .i64 0, .string ⟨#[]⟩, .slice none 0 0] 34))
  obtain ⟨c0, c1, c2, c3⟩ := HH.out.four
  have HP := hid hp
  clear h hbl hr hp
  go_enter Tryz.func154, Tryz.ntmps154
  go_wp2_with fail
  refine (peek_any _ b s i bd 0 HH.out (by omega) hs).mono ?_
  rintro e w1 ⟨rfl, k1, rfl⟩
  have HR1 := hid (HH.out.drewN k1)
  have HK1 := hid ((HX0.out.kp (· ≠ b)).trans ((Rk.refl b _).drewN k1).1)
  have HRB1 := hid (((Rk.refl b (w.alloc (.cells #[.int .i64 0, .int .i64 0, .string ⟨#[]⟩, .slice none 0 0] 34))).drewN k1).1.block' HRB.out HNE.out)
  generalize (w.alloc (.cells #[.int .i64 0, .int .i64 0, .string ⟨#[]⟩, .slice none 0 0] 34)).drewN k1 = w1 at *
  clear HH HX0 HRB c0 c1 c2 c3
  obtain ⟨c0, c1, c2, c3⟩ := HR1.out.four
  have f1 := HR1.out.free 1
  rw [HPK.out]
  have hm : ¬ B.toNat = 45 := by rw [← HB.out, h48n]; decide
  have HNM := hid (show ¬ nxt s i = 45 by rw [HB.out]; exact hm)
  have hpe : p = i := by rw [← HP.out]; unfold numAt; rw [if_neg HNM.out]
  have HPE := hid hpe
  have hb45 : (((B.toNat : Nat) : Int) == 45) = false := by rw [beq_eq_false_iff_ne]; omega
  have hb46 : (((B.toNat : Nat) : Int) != 45) = true := by simp; omega
  have hb47 : ¬ ((B.toNat : Nat) : Int) = 45 := by omega
  go_upto_region 4 with fail
  have HR2 := hid (show RRAt w1 b s p bd 0 by rw [hpe]; exact HR1.out)
  have HK2 := HK1
  have HRB2 := HRB1
  generalize w1 = w2 at *
  have hps : p ≤ s.size := by omega
  have HLT := hid (show ¬ (i : Int) < (p : Int) by omega)
  clear c0 c1 c2 c3 f1 hpe
  go_wp2_with fail
  refine (peek_any w2 b s p bd 0 HR2.out hps hs).mono ?_
  rintro e w3 ⟨rfl, k3, rfl⟩
  have HR3 := hid (HR2.out.drewN k3)
  have HK3 := hid (HK2.out.trans ((Rk.refl b w2).drewN k3).1)
  have HRB3 := hid (((Rk.refl b w2).drewN k3).1.block' HRB2.out HNE.out)
  generalize w2.drewN k3 = w3 at *
  clear HR1 HK1 HRB1 HR2 HK2 HRB2
  obtain ⟨c0, c1, c2, c3⟩ := HR3.out.four
  have HRF := hid HR3.out
  by_cases hd : digP (pk s p)
  · have HDP := hid (pk_dig.1 hd)
    have HPP := hid (pk_in (s := s) (i := p) (by have := hd.2; omega)).2
    have HEN := hid (HEN0.out HDP.out)
    obtain ⟨C, hC⟩ : ∃ C, pk s p = C := ⟨_, rfl⟩
    rw [hC] at hd HPP
    rw [hC]
    have HCE := hid hC
    clear hC
    have x1 : decide ((C : Int) < 48) = false := decide_eq_false (by have := hd.1; omega)
    have x2 : decide ((57 : Int) < (C : Int)) = false := decide_eq_false (by have := hd.2; omega)
    have HDC := hid hd
    clear hd
    have h48 : C = 48 := by rw [HPP.out, HPE.out]; exact h48n
    have HC48 := hid (HPP.out.symm.trans h48)
    have HNOU := hid (show nxt s p = 48 → digP (nxt s (i + 1)) → r = .bad 5 (i + 1) from fun h1 h2 => by rw [← HPE.out]; exact HNO.out h1 HNM.out (by rw [HPE.out]; exact h2))
    clear x1 x2
    subst h48
    rw [HPE.out] at c1
    go_upto_region 8 with fail
    clear c0 c1 c2 c3
    go_wp2_with fail
    go_loopw [5, 6] (fun vn vo wr => ∃ n over, vn = .int .u64 (n : Nat) ∧ vo = .bool over ∧ NuSt w b s bd p n over wr) (fun _ _ wr => mOf b s.size wr)
    case atStart => exact ⟨0, false, rfl, rfl, HK3.out, HRB3.out, 0, HR3.out, by omega, .inl ⟨rfl, rfl, by show (0 : Nat) ≤ _; decide⟩, rfl, by decide, fun _ => by decide⟩
    case round =>
      obtain ⟨n, over, rfl, rfl, hkp, hrb, k, hr, hpk, hdv, hde, hn, h481⟩ := hrel
      have HKR := hid hkp
      have HRBR := hid hrb
      have HRR := hid hr
      have HDV := hid hdv
      have HDE := hid hde
      have HN := hid hn
      have HK1 := hid h481
      have HMW := hid (show mOf b s.size wr = s.size + 2 - (p + k) from (mOf_rd hr).trans (if_pos rfl))
      obtain ⟨q, hq⟩ : ∃ q, p + k = q := ⟨_, rfl⟩
      have HQ := hid hq
      rw [hq] at HRR HDE HMW hpk
      clear hkp hrb hr hdv hde hn h481 hq
      go_wp2_with fail
      refine (peek_any wr b s q bd 0 HRR.out hpk hs).mono ?_
      rintro e w1 ⟨rfl, k1, rfl⟩
      have HR4 := hid (HRR.out.drewN k1)
      have HK4 := hid (HKR.out.trans ((Rk.refl b wr).drewN k1).1)
      have HRB4 := hid (((Rk.refl b wr).drewN k1).1.block' HRBR.out HNE.out)
      generalize wr.drewN k1 = w1 at *
      clear HRR HKR HRBR
      by_cases hd : digP (pk s q)
      · have HIN := hid (nxt_dig (pk_dig.1 hd))
        have HDQ := hid (pk_dig.1 hd)
        have HPQ := hid (pk_in (s := s) (i := q) (by have := hd.2; omega)).2
        obtain ⟨E, hE⟩ : ∃ E, pk s q = E := ⟨_, rfl⟩
        rw [hE] at hd HPQ
        have HEE := hid hE
        rw [hE]
        obtain ⟨G, hG⟩ : ∃ G : Nat, (E : Int) - 48 = (G : Int) ∧ E - 48 = G ∧ G ≤ 9 := ⟨E - 48, by have := hd.1; omega, rfl, by have := hd.2; omega⟩
        have x1 : decide ((48 : Int) ≤ (E : Int)) = true := decide_eq_true (by have := hd.1; omega)
        have x2 : decide ((E : Int) ≤ 57) = true := decide_eq_true (by have := hd.2; omega)
        have x3 : IntKind.i64.wrap ((E : Int) - 48) = (G : Int) := by rw [hG.1, IntKind.wrap_i64]; omega
        have x4 : IntKind.u64.wrap (G : Int) = (G : Int) := by rw [IntKind.wrap_u64]; omega
        have HG := hid hG
        have HD := hid hd
        clear hd hE hG
        go_wp2_with fail
        refine (peek_any w1 b s q bd 0 HR4.out hpk hs).mono ?_
        rintro e w2 ⟨rfl, k2, rfl⟩
        rw [HEE.out]
        have HR5 := hid (HR4.out.drewN k2)
        have HK5 := hid (HK4.out.trans ((Rk.refl b w1).drewN k2).1)
        have HRB5 := hid (((Rk.refl b w1).drewN k2).1.block' HRB4.out HNE.out)
        generalize w1.drewN k2 = w2 at *
        clear HR4 HK4 HRB4
        have c1 : w2.cell? ⟨b, 1, none⟩ = some (.int .i64 q) := HR5.out.four.2.1
        by_cases hk0 : k = 0
        · have hqi : q = i := by have := HQ.out; have := HPE.out; omega
          rw [hqi] at c1
          have HK0 := hid hk0
          clear hqi hk0
          go_wp2_with fail
          refine (peek_any w2 b s q bd 0 HR5.out hpk hs).mono ?_
          rintro e w3 ⟨rfl, k3, rfl⟩
          rw [HEE.out]
          have HR6 := hid (HR5.out.drewN k3)
          have HK6 := hid (HK5.out.trans ((Rk.refl b w2).drewN k3).1)
          have HRB6 := hid (((Rk.refl b w2).drewN k3).1.block' HRB5.out HNE.out)
          generalize w2.drewN k3 = w6 at *
          clear HR5 HK5 HRB5 c1
          obtain ⟨N1, hN1⟩ : ∃ N1 : Nat, IntKind.u64.wrap ((n : Int) * 10) = (N1 : Int) ∧ N1 = n * 10 % 18446744073709551616 := ⟨n * 10 % 18446744073709551616, by rw [IntKind.wrap_u64]; omega, rfl⟩
          obtain ⟨N2, hN2⟩ : ∃ N2 : Nat, IntKind.u64.wrap ((N1 : Int) + (G : Int)) = (N2 : Int) ∧ N2 = (n * 10 + G) % 18446744073709551616 := ⟨(n * 10 + G) % 18446744073709551616, by rw [IntKind.wrap_u64]; omega, rfl⟩
          obtain ⟨Q, hQ⟩ : ∃ Q : Nat, (9223372036854775808 - G) / 10 = Q := ⟨_, rfl⟩
          have x5 : IntKind.u64.wrap (9223372036854775808 - (G : Int)) = 9223372036854775808 - (G : Int) := by rw [IntKind.wrap_u64]; have := HG.out.2.2; omega
          have x6 : Int.tdiv (9223372036854775808 - (G : Int)) 10 = (Q : Int) := by rw [Int.tdiv_eq_ediv_of_nonneg (by have := HG.out.2.2; omega)]; have := HG.out.2.2; omega
          have x7 : IntKind.u64.wrap (Q : Int) = (Q : Int) := by rw [IntKind.wrap_u64]; omega
          have x8 := hN1.1
          have x9 := hN2.1
          have HN1 := hid hN1
          have HN2 := hid hN2
          have HQQ := hid hQ
          have HDS := hid (HDV.out.step HG.out.2.2)
          have HVS := hid (show dvF s 0 p (k + 1) = dvF s 0 p k * 10 + G by rw [dvF_snoc, HQ.out, ← HPQ.out, HG.out.2.1])
          clear hN1 hN2 hQ
          obtain ⟨c0, c1, c2, c3⟩ := HR6.out.four
          have f1 := HR6.out.free 1
          have hqs : (q : Int) + 1 ≤ 1048577 := by omega
          by_cases hov : Q < n
          · have v1 : (Q : Int) < (n : Int) := by omega
            have v2 : decide ((Q : Int) < (n : Int)) = true := decide_eq_true v1
            go_wp2_with fail
            go_roundw
            case rel =>
              refine ⟨N2, true, rfl, rfl, HK6.out.trans (Kp.set _ _ _ _ (fun h => h rfl)), set_other HRB6.out HNE.out _, k + 1, ?_, by have := HIN.out; have := HQ.out; omega, ?_, ?_, by have := HN2.out.2; omega, fun h => by have := HK0.out; omega⟩
              · rw [show p + (k + 1) = q + 1 by have := HQ.out; omega]; exact RRAt.set1' HR6.out (by omega)
              · rw [HVS.out, HN2.out.2]
                have h := HDS.out
                rw [HQQ.out, decide_eq_true hov, Bool.or_true] at h
                exact h
              · rw [HDE.out, show p + (k + 1) = q + 1 by have := HQ.out; omega]; exact digEnd_in HDQ.out
            case measure =>
              rw [HMW.out, mOf_rd (RRAt.set1' HR6.out (j := q + 1) (by omega)), if_pos rfl]
              have := HIN.out
              omega
          · have v1 : ¬ (Q : Int) < (n : Int) := by omega
            have v2 : decide ((Q : Int) < (n : Int)) = false := decide_eq_false v1
            go_wp2_with fail
            go_roundw
            case rel =>
              refine ⟨N2, over, rfl, rfl, HK6.out.trans (Kp.set _ _ _ _ (fun h => h rfl)), set_other HRB6.out HNE.out _, k + 1, ?_, by have := HIN.out; have := HQ.out; omega, ?_, ?_, by have := HN2.out.2; omega, fun h => by have := HK0.out; omega⟩
              · rw [show p + (k + 1) = q + 1 by have := HQ.out; omega]; exact RRAt.set1' HR6.out (by omega)
              · rw [HVS.out, HN2.out.2]
                have h := HDS.out
                rw [HQQ.out, decide_eq_false hov, Bool.or_false] at h
                exact h
              · rw [HDE.out, show p + (k + 1) = q + 1 by have := HQ.out; omega]; exact digEnd_in HDQ.out
            case measure =>
              rw [HMW.out, mOf_rd (RRAt.set1' HR6.out (j := q + 1) (by omega)), if_pos rfl]
              have := HIN.out
              omega
        · have hk1 : k = 1 := by have := HK1.out HC48.out; omega
          have hqi : q = i + 1 := by have := HQ.out; have := HPE.out; omega
          have hlt : ((i : Int) < (q : Int)) := by omega
          have hlt2 : decide ((i : Int) < (q : Int)) = true := decide_eq_true hlt
          have HV := hid (show r = .bad 5 q by rw [hqi]; exact HNOU.out HC48.out (by rw [← hqi]; exact HDQ.out))
          have HRF := hid HR5.out
          clear hqi hk1 hk0
          go_wp2_with (first | (go_at_call 114; refine (fail_any _ b s _ bd 5 q HRF.out).mono ?_; rintro e wf ⟨rfl, hkf, hrf⟩; have HRBF := hid (hkf.1.block' HRB5.out HNE.out); obtain ⟨r0, r1, r2, r3⟩ := four_of HRBF.out; obtain ⟨e0, e1, e2, e3⟩ := four_free HRBF.out))
          obtain ⟨z0, z1, z2, z3⟩ := four_of (four_set (u0 := .int .i64 0) (u1 := .int .i64 0) (u2 := .string ⟨#[]⟩) (u3 := .slice none 0 0) HRBF.out)
          refine bodyPost_ret (v := .agg #[.int .i64 0, .int .i64 0, .string ⟨#[]⟩, .slice none 0 0]) (by simp [results, Tryz.results154, go_sem, z0, z1, z2, z3]) rfl ?_
          rw [HV.out]
          have k4 := Kp.set4 wf w.heap.size 0 (.int .i64 0) (.int .i64 0) (.string ⟨#[]⟩) (.slice none 0 0)
          exact ⟨((HK5.out.trans hkf.1).trans' (n := w.heap.size) (L := fun _ => False) (k4.mono (fun q _ h => fun e => h.elim (fun h => by omega) id))), ⟨_, _, _, _, _, _, rfl⟩, ⟨_, k4.block' hrf (fun e => HNE.out e.symm), by omega⟩, by decide⟩
      · have HND := hid (show ¬ digP (nxt s q) from fun h => hd (pk_dig.2 h))
        have HEND := hid (HEN.out k (by rw [HDE.out, HQ.out]; exact digEnd_out HND.out) (fun _ => ⟨HNM.out, by have := HK1.out HC48.out; have h1 : k ≠ 0 := (fun h0 => HND.out (by have := HQ.out; rw [show q = p by omega, HC48.out]; decide)); omega, by have := HK1.out HC48.out; have h1 : k ≠ 0 := (fun h0 => HND.out (by have := HQ.out; rw [show q = p by omega, HC48.out]; decide)); rw [show p + 1 = q by have := HQ.out; omega]; exact HND.out⟩))
        rw [HQ.out] at HEND
        have HSP := hid (show ((pk s q : Nat) : Int) < 48 ∨ (¬ ((pk s q : Nat) : Int) < 48 ∧ (57 : Int) < ((pk s q : Nat) : Int)) by unfold digP at hd; omega)
        obtain ⟨E, hE⟩ : ∃ E, pk s q = E := ⟨_, rfl⟩
        rw [hE] at HSP
        have HEE := hid hE
        rw [hE]
        clear hd hE
        rcases HSP.out with g1 | ⟨g1, g2⟩
        · have y1 : decide ((48 : Int) ≤ (E : Int)) = false := decide_eq_false (by omega)
          clear HSP g1
          go_upto_region 19 with fail
          have HR6 := HR4
          have HK6 := HK4
          have HRB6 := HRB4
          generalize w1 = w6 at *
          obtain ⟨c0, c1, c2, c3⟩ := HR6.out.four
          obtain ⟨r0, r1, r2, r3⟩ := four_of HRB6.out
          obtain ⟨e0, e1, e2, e3⟩ := four_free HRB6.out
          have HRF := hid HR6.out
          obtain ⟨V, hV⟩ : ∃ V, dvF s 0 p k = V := ⟨_, rfl⟩
          rw [hV] at HEND HDV
          clear hV
          rcases HDV.out with ⟨ho, hnV, hVl⟩ | ⟨ho, hVl⟩
          · subst ho
            subst hnV
            by_cases h63 : n = 9223372036854775808
            · have HVV := hid (show r = .bad 21 i by rw [HEND.out]; unfold nvR; rw [if_neg HNM.out, if_neg (by omega)])
              subst h63
              clear HDV HN HEND
              go_wp2_with (first | (go_at_call 114; refine (fail_any _ b s _ bd 21 i HRF.out).mono ?_; rintro e wf ⟨rfl, hkf, hrf⟩; have HRBF := hid (hkf.1.block' HRB6.out HNE.out); obtain ⟨r0, r1, r2, r3⟩ := four_of HRBF.out; obtain ⟨e0, e1, e2, e3⟩ := four_free HRBF.out))
              obtain ⟨z0, z1, z2, z3⟩ := four_of (four_set (u0 := .int .i64 0) (u1 := .int .i64 0) (u2 := .string ⟨#[]⟩) (u3 := .slice none 0 0) HRBF.out)
              refine bodyPost_ret (v := .agg #[.int .i64 0, .int .i64 0, .string ⟨#[]⟩, .slice none 0 0]) (by simp [results, Tryz.results154, go_sem, z0, z1, z2, z3]) rfl ?_
              rw [HVV.out]
              have k4 := Kp.set4 wf w.heap.size 0 (.int .i64 0) (.int .i64 0) (.string ⟨#[]⟩) (.slice none 0 0)
              exact ⟨((HK6.out.trans hkf.1).trans' (n := w.heap.size) (L := fun _ => False) (k4.mono (fun q _ h => fun e => h.elim (fun h => by omega) id))), ⟨_, _, _, _, _, _, rfl⟩, ⟨_, k4.block' hrf (fun e => HNE.out e.symm), by omega⟩, by decide⟩
            · have HVV := hid (show r = .ok (.node 3 (n : Nat) ⟨#[]⟩ []) q by rw [HEND.out]; unfold nvR; rw [if_neg HNM.out, if_pos (by omega)])
              have t1 : ((n : Int) == 9223372036854775808) = false := by rw [beq_eq_false_iff_ne]; omega
              have t3 : IntKind.i64.wrap (n : Int) = (n : Int) := by rw [IntKind.wrap_i64]; omega
              clear HDV HN HEND
              have HVL := hid hVl
              clear hVl
              go_wp2_with fail
              obtain ⟨z0, z1, z2, z3⟩ := four_of (four_set (u0 := .int .i64 3) (u1 := .int .i64 ((n : Int))) (u2 := .string ⟨#[]⟩) (u3 := .slice none 0 0) HRB6.out)
              refine bodyPost_ret (v := .agg #[.int .i64 3, .int .i64 ((n : Int)), .string ⟨#[]⟩, .slice none 0 0]) (by simp [results, Tryz.results154, go_sem, z0, z1, z2, z3]) rfl ?_
              rw [HVV.out]
              have k4 := Kp.set4 w6 w.heap.size 0 (.int .i64 3) (.int .i64 ((n : Int))) (.string ⟨#[]⟩) (.slice none 0 0)
              exact ⟨(HK6.out.trans' (n := w.heap.size) (L := fun _ => False) (k4.mono (fun q _ h => fun e => h.elim (fun h => by omega) id))), _, rfl, ⟨none, 0, rfl, by decide, by decide, .inl rfl⟩, k4.block' HR6.out (fun e => HNE.out e.symm), by omega⟩
          · subst ho
            have HVV := hid (show r = .bad 21 i by rw [HEND.out]; unfold nvR; split <;> rw [if_neg (by omega)])
            clear HDV HN HEND hVl
            go_wp2_with (first | (go_at_call 114; refine (fail_any _ b s _ bd 21 i HRF.out).mono ?_; rintro e wf ⟨rfl, hkf, hrf⟩; have HRBF := hid (hkf.1.block' HRB6.out HNE.out); obtain ⟨r0, r1, r2, r3⟩ := four_of HRBF.out; obtain ⟨e0, e1, e2, e3⟩ := four_free HRBF.out))
            obtain ⟨z0, z1, z2, z3⟩ := four_of (four_set (u0 := .int .i64 0) (u1 := .int .i64 0) (u2 := .string ⟨#[]⟩) (u3 := .slice none 0 0) HRBF.out)
            refine bodyPost_ret (v := .agg #[.int .i64 0, .int .i64 0, .string ⟨#[]⟩, .slice none 0 0]) (by simp [results, Tryz.results154, go_sem, z0, z1, z2, z3]) rfl ?_
            rw [HVV.out]
            have k4 := Kp.set4 wf w.heap.size 0 (.int .i64 0) (.int .i64 0) (.string ⟨#[]⟩) (.slice none 0 0)
            exact ⟨((HK6.out.trans hkf.1).trans' (n := w.heap.size) (L := fun _ => False) (k4.mono (fun q _ h => fun e => h.elim (fun h => by omega) id))), ⟨_, _, _, _, _, _, rfl⟩, ⟨_, k4.block' hrf (fun e => HNE.out e.symm), by omega⟩, by decide⟩
        · have y1 : decide ((48 : Int) ≤ (E : Int)) = true := decide_eq_true (by omega)
          have y2 : decide ((E : Int) ≤ 57) = false := decide_eq_false (by omega)
          clear HSP g1 g2
          go_wp2_with fail
          refine (peek_any w1 b s q bd 0 HR4.out hpk hs).mono ?_
          rintro e w2 ⟨rfl, k2, rfl⟩
          rw [HEE.out]
          have HR6 := hid (HR4.out.drewN k2)
          have HK6 := hid (HK4.out.trans ((Rk.refl b w1).drewN k2).1)
          have HRB6 := hid (((Rk.refl b w1).drewN k2).1.block' HRB4.out HNE.out)
          generalize w1.drewN k2 = w6 at *
          clear HR4 HK4 HRB4
          go_upto_region 19 with fail
          obtain ⟨c0, c1, c2, c3⟩ := HR6.out.four
          obtain ⟨r0, r1, r2, r3⟩ := four_of HRB6.out
          obtain ⟨e0, e1, e2, e3⟩ := four_free HRB6.out
          have HRF := hid HR6.out
          obtain ⟨V, hV⟩ : ∃ V, dvF s 0 p k = V := ⟨_, rfl⟩
          rw [hV] at HEND HDV
          clear hV
          rcases HDV.out with ⟨ho, hnV, hVl⟩ | ⟨ho, hVl⟩
          · subst ho
            subst hnV
            by_cases h63 : n = 9223372036854775808
            · have HVV := hid (show r = .bad 21 i by rw [HEND.out]; unfold nvR; rw [if_neg HNM.out, if_neg (by omega)])
              subst h63
              clear HDV HN HEND
              go_wp2_with (first | (go_at_call 114; refine (fail_any _ b s _ bd 21 i HRF.out).mono ?_; rintro e wf ⟨rfl, hkf, hrf⟩; have HRBF := hid (hkf.1.block' HRB6.out HNE.out); obtain ⟨r0, r1, r2, r3⟩ := four_of HRBF.out; obtain ⟨e0, e1, e2, e3⟩ := four_free HRBF.out))
              obtain ⟨z0, z1, z2, z3⟩ := four_of (four_set (u0 := .int .i64 0) (u1 := .int .i64 0) (u2 := .string ⟨#[]⟩) (u3 := .slice none 0 0) HRBF.out)
              refine bodyPost_ret (v := .agg #[.int .i64 0, .int .i64 0, .string ⟨#[]⟩, .slice none 0 0]) (by simp [results, Tryz.results154, go_sem, z0, z1, z2, z3]) rfl ?_
              rw [HVV.out]
              have k4 := Kp.set4 wf w.heap.size 0 (.int .i64 0) (.int .i64 0) (.string ⟨#[]⟩) (.slice none 0 0)
              exact ⟨((HK6.out.trans hkf.1).trans' (n := w.heap.size) (L := fun _ => False) (k4.mono (fun q _ h => fun e => h.elim (fun h => by omega) id))), ⟨_, _, _, _, _, _, rfl⟩, ⟨_, k4.block' hrf (fun e => HNE.out e.symm), by omega⟩, by decide⟩
            · have HVV := hid (show r = .ok (.node 3 (n : Nat) ⟨#[]⟩ []) q by rw [HEND.out]; unfold nvR; rw [if_neg HNM.out, if_pos (by omega)])
              have t1 : ((n : Int) == 9223372036854775808) = false := by rw [beq_eq_false_iff_ne]; omega
              have t3 : IntKind.i64.wrap (n : Int) = (n : Int) := by rw [IntKind.wrap_i64]; omega
              clear HDV HN HEND
              have HVL := hid hVl
              clear hVl
              go_wp2_with fail
              obtain ⟨z0, z1, z2, z3⟩ := four_of (four_set (u0 := .int .i64 3) (u1 := .int .i64 ((n : Int))) (u2 := .string ⟨#[]⟩) (u3 := .slice none 0 0) HRB6.out)
              refine bodyPost_ret (v := .agg #[.int .i64 3, .int .i64 ((n : Int)), .string ⟨#[]⟩, .slice none 0 0]) (by simp [results, Tryz.results154, go_sem, z0, z1, z2, z3]) rfl ?_
              rw [HVV.out]
              have k4 := Kp.set4 w6 w.heap.size 0 (.int .i64 3) (.int .i64 ((n : Int))) (.string ⟨#[]⟩) (.slice none 0 0)
              exact ⟨(HK6.out.trans' (n := w.heap.size) (L := fun _ => False) (k4.mono (fun q _ h => fun e => h.elim (fun h => by omega) id))), _, rfl, ⟨none, 0, rfl, by decide, by decide, .inl rfl⟩, k4.block' HR6.out (fun e => HNE.out e.symm), by omega⟩
          · subst ho
            have HVV := hid (show r = .bad 21 i by rw [HEND.out]; unfold nvR; split <;> rw [if_neg (by omega)])
            clear HDV HN HEND hVl
            go_wp2_with (first | (go_at_call 114; refine (fail_any _ b s _ bd 21 i HRF.out).mono ?_; rintro e wf ⟨rfl, hkf, hrf⟩; have HRBF := hid (hkf.1.block' HRB6.out HNE.out); obtain ⟨r0, r1, r2, r3⟩ := four_of HRBF.out; obtain ⟨e0, e1, e2, e3⟩ := four_free HRBF.out))
            obtain ⟨z0, z1, z2, z3⟩ := four_of (four_set (u0 := .int .i64 0) (u1 := .int .i64 0) (u2 := .string ⟨#[]⟩) (u3 := .slice none 0 0) HRBF.out)
            refine bodyPost_ret (v := .agg #[.int .i64 0, .int .i64 0, .string ⟨#[]⟩, .slice none 0 0]) (by simp [results, Tryz.results154, go_sem, z0, z1, z2, z3]) rfl ?_
            rw [HVV.out]
            have k4 := Kp.set4 wf w.heap.size 0 (.int .i64 0) (.int .i64 0) (.string ⟨#[]⟩) (.slice none 0 0)
            exact ⟨((HK6.out.trans hkf.1).trans' (n := w.heap.size) (L := fun _ => False) (k4.mono (fun q _ h => fun e => h.elim (fun h => by omega) id))), ⟨_, _, _, _, _, _, rfl⟩, ⟨_, k4.block' hrf (fun e => HNE.out e.symm), by omega⟩, by decide⟩
  · exact absurd (pk_dig.2 (by rw [HPE.out, h48n]; decide)) hd
end Go.Proofs.YtecabbifkcnbeaaGreatDoor
/-
  The reference's number of the reader by a contract.
-/
namespace Go.Proofs.YtecabbifkcnbeaaGreatDoor
open Go.RowKit
theorem rnum_any (w : World) (b : Nat) (s : ByteArray) (i : Nat) (bd : Int) (d : Nat) (h : RRAt w b s i bd 0) (hi : i < s.size) (hs : s.size ≤ 1048576) : Calls Tryz.prog 154 #[.pointer (some ⟨b, 0, none⟩)] w (RvP w b s bd (d + 1) (numX s i)) := by
  by_cases h1 : nxt s i = 45
  · exact rnum_minus w b s i bd d h hi hs h1
  by_cases h2 : nxt s i = 48
  · exact rnum_nought w b s i bd d h hi hs h2
  · exact rnum_plain w b s i bd d h hi hs h1 h2
end Go.Proofs.YtecabbifkcnbeaaGreatDoor
