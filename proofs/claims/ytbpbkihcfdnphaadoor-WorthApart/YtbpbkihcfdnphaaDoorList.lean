/-
  The reader's list by a contract.
-/
import Derived.Test.YtbpbkihcfdnphaaDoorItems
import Derived.Defers
namespace Go.Proofs.YtbpbkihcfdnphaaDoor
open Go.RowKit
/-- What is asked of value, with so much fuel. -/
def ValTo (b : Nat) (s : ByteArray) (I : World → Prop) (Q : Nat → Rs) (f : Nat) : Prop := ∀ (w : World) (n i : Nat), I w → RdAt w b s i n → i ≤ s.size → n ≤ 64 → 2 * (s.size - i) + 1 ≤ f →
  Calls Tryd.prog 44 #[.pointer (some ⟨b, 0, none⟩)] w (RsP w b s n (65 - n) (rdV s Q f n i))
def listR (s : ByteArray) (Q : Nat → Rs) (f n i : Nat) : Rs := if n = 64 then .bad 2 i else if nxt s (i + 1) = 93 then .ok (.node 5 0 ⟨#[]⟩ []) (i + 2) else rdL s Q f (n + 1) (i + 1) []
theorem VOwn.empty {w : World} {d g : Nat} (h : w.heap[g]? = some (.cells #[] 30)) : VOwn w (d + 1) (.iface 61 (.slice (some ⟨g, 0, none⟩) 0 0)) (.node 5 0 ⟨#[]⟩ []) [g] :=
  .inr (.inr (.inr (.inr ⟨rfl, rfl, rfl, by decide, g, 0, #[], [], rfl, Nat.le_refl _, h, rfl, rfl, rfl, fun j hj => absurd hj (Nat.not_lt_zero _)⟩)))
theorem rdL_bad {s : ByteArray} {Q : Nat → Rs} {f n i : Nat} {acc : List T} {e a : Nat} (h : rdV s Q f n i = .bad e a) : rdL s Q (f + 1) n i acc = .bad e a := by simp only [rdL, h]
theorem rdL_ok {s : ByteArray} {Q : Nat → Rs} {f n i : Nat} {acc : List T} {t : T} {a : Nat} (h : rdV s Q f n i = .ok t a) : rdL s Q (f + 1) n i acc = if nxt s a = 93 then .ok (.node 5 0 ⟨#[]⟩ (acc ++ [t])) (a + 1) else if nxt s a = 44 then (if nxt s (a + 1) = 32 then rdL s Q f n (a + 2) (acc ++ [t]) else .bad 5 (a + 1)) else .bad 5 a := by simp only [rdL, h]
theorem Kp.below {B b : Nat} {w w1 w2 : World} (h : Kp (· ≠ b) w w1) (hb : Below B w1 w2) (hB : w.heap.size ≤ B := by omega) : Kp (· ≠ b) w w2 :=
  ⟨hb.os.trans h.os, hb.tape.trans h.tape, hb.output.trans h.output, Nat.le_trans h.size hb.size, fun k hk hkb => (hb.block k (by omega)).trans (h.block k hk hkb)⟩
theorem Items.up {w : World} {base N d : Nat} {lv : Value} {acc : List T} (h : Items w base N d lv acc) : Items w base w.heap.size d lv acc := by
  obtain ⟨us, bss, h1, h2, h3, h4, h5, h6, h7⟩ := h
  exact ⟨us, bss, h1, h2, h3, fun x hx => ⟨(h4 x hx).1, Nat.lt_of_lt_of_le (h4 x hx).2.1 h7, (h4 x hx).2.2⟩, h5, fun g hg => Nat.lt_of_lt_of_le (h6 g hg) h7, Nat.le_refl _⟩
theorem rd_back {w : World} {b : Nat} {s : ByteArray} {i n : Nat} (h : RdAt w b s i (n + 1)) : RdAt (w.setCell ⟨b, 2, none⟩ (.int .i64 (((n + 1 : Nat) : Int) - 1))) b s i n := by
  refine (set_at h 2 _).trans ?_
  rw [show (((n + 1 : Nat) : Int) - 1) = (n : Int) by omega]
  rfl
set_option maxRecDepth 100000 in
set_option maxHeartbeats 4000000 in
theorem list_of {b : Nat} {s : ByteArray} {I : World → Prop} {Q : Nat → Rs} (E : REnv b s I Q) {f : Nat} (ih : ∀ f', f' < f → ValTo b s I Q f') (w : World) (n i : Nat) (hI : I w) (h : RdAt w b s i n) (hi : i < s.size) (hn : n ≤ 64) (hs : s.size ≤ 1048576) (hf : 2 * (s.size - i) ≤ f) :
    Calls Tryd.prog 59 #[.pointer (some ⟨b, 0, none⟩)] w (RsP w b s n (65 - n) (listR s Q f n i)) := by
  have HH := hid h
  have HIH := hid ih
  have HI := hid hI
  have hbl := lt_of_block h
  have c1 := cell_of (i := 1) h rfl
  have c2 := cell_of (i := 2) h rfl
  have f1 := frozen_of (i := 1) h
  simp only [List.getElem_toArray, List.getElem_cons_zero, List.getElem_cons_succ] at c1 c2
  have hn' : (n : Int) ≤ 64 := by omega
  have hi' : (i : Int) ≤ 1048576 := by omega
  have hmf : ∀ (fn : Fn) (first cap : Array Value) (w : World), (Instr.makeFunc fn first cap).run Tryd.prog w = .ok (.func fn first cap) w := fun _ _ _ _ => rfl
  clear h ih hI
  by_cases n64 : n = 64
  · have HR := hid (show listR s Q f n i = .bad 2 i by unfold listR; rw [if_pos n64])
    subst n64
    go_enter_defers Tryd.func59, Tryd.ntmps59
    go_wp2_with fail
    refine ⟨_, results_tmp2 rfl _ _ _, ?_⟩
    rw [HR.out]
    exact ⟨(Ext.alloc w _).kp _, rfl, (Ext.alloc w _).block HH.out, by omega, by decide⟩
  · have q1 : ((n : Int) == 64) = false := by rw [beq_eq_false_iff_ne]; omega
    obtain ⟨v1, hv1⟩ : ∃ v1, v1 = (w.setCell ⟨b, 1, none⟩ (.int .i64 ((i : Int) + 1))).alloc (.cells #[.pointer (some ⟨b, 0, none⟩)] 85) := ⟨_, rfl⟩
    have W1 := hid (show RdAt v1 b s (i + 1) n by rw [hv1]; exact blkOld _ ((set_at HH.out 1 _).trans rfl))
    have X1 := hid (show v1.heap[w.heap.size]? = some (.cells #[.pointer (some ⟨b, 0, none⟩)] 85) by rw [hv1]; exact blkN (by rw [size_set]))
    have K1 := hid (show Kp (· ≠ b) w v1 by rw [hv1]; exact (Kp.set _ _ _ _ (fun h => h rfl)).trans ((Ext.alloc _ _).kp _))
    have S1 := hid (show v1.heap.size = w.heap.size + 1 by rw [hv1, blkS, size_set])
    go_enter_defers Tryd.func59, Tryd.ntmps59
    go_wp2_with fail
    rw [← hv1]
    have HT := hid (take_any v1 b s (i + 1) n 93 W1.out hi hs)
    clear hv1 c1 c2 f1
    by_cases h93 : nxt s (i + 1) = 93
    · have HR := hid (show listR s Q f n i = .ok (.node 5 0 ⟨#[]⟩ []) (i + 2) by unfold listR; rw [if_neg n64, if_pos h93])
      have hlt : i + 1 < s.size := by
        rcases Nat.lt_or_ge (i + 1) s.size with h | h
        · exact h
        · rw [nxt_end (by omega)] at h93; cases h93
      rw [decide_eq_true h93, if_pos h93] at HT
      have H65 := hid (show 65 - n = (64 - n) + 1 by omega)
      clear h93
      refine HT.out.mono ?_
      rintro e w2 ⟨rfl, hk2, hs2, hr2⟩
      have HK2 := hid (K1.out.trans hk2)
      have HR2 := hid hr2
      have HS2 := hid hs2
      clear hk2 hr2 hs2
      go_wp2_with fail
      refine ⟨_, results_tmp2 rfl _ _ _, ?_⟩
      rw [HR.out, H65.out]
      exact ⟨HK2.out.alloc _, _, [w2.heap.size], rfl, VOwn.empty (blk0 _ _), fun x hx => by simp at hx; subst hx; have := HK2.out.size; exact this, by simp, blkOld _ HR2.out, hlt⟩
    · have HR := hid (show listR s Q f n i = rdL s Q f (n + 1) (i + 1) [] by unfold listR; rw [if_neg n64, if_neg h93])
      rw [decide_eq_false h93, if_neg h93] at HT
      clear h93
      refine HT.out.mono ?_
      rintro e w2 ⟨rfl, hk2, hs2, hr2⟩
      have HK2 := hid (K1.out.trans hk2)
      have HR2 := hid hr2
      have HX2 := hid (hk2.block' X1.out (show w.heap.size ≠ b by omega))
      have HS2 := hid (hs2.trans S1.out)
      have c0 := cell_of (i := 0) HX2.out rfl
      have c2 := cell_of (i := 2) HR2.out rfl
      have f2 := frozen_of (i := 2) HR2.out
      simp only [List.getElem_toArray, List.getElem_cons_zero, List.getElem_cons_succ] at c0 c2
      clear hk2 hr2 hs2
      go_wp2_with fail
      have HK3 := hid (HK2.out.trans (Kp.set w2 b 2 (.int .i64 ((n : Int) + 1)) (fun h => h rfl)))
      have HR3 := hid (show RdAt (w2.setCell ⟨b, 2, none⟩ (.int .i64 ((n : Int) + 1))) b s (i + 1) (n + 1) from (set_at HR2.out 2 _).trans rfl)
      have HX3 := hid (set_other (i := 2) HX2.out (show w.heap.size ≠ b by omega) (.int .i64 ((n : Int) + 1)))
      have HS3 := hid ((size_set w2 ⟨b, 2, none⟩ (.int .i64 ((n : Int) + 1))).trans HS2.out)
      generalize w2.setCell ⟨b, 2, none⟩ (.int .i64 ((n : Int) + 1)) = w3 at *
      clear c0 c2 f2
      go_loopw [4] (fun lv wr => ∃ (f' j : Nat) (acc : List T), rdL s Q f (n + 1) (i + 1) [] = rdL s Q f' (n + 1) j acc ∧ 2 * (s.size - j) + 2 ≤ f' ∧ f' ≤ f ∧ j ≤ s.size ∧ acc.length ≤ j ∧ Items wr (w.heap.size + 1) wr.heap.size (64 - n) lv acc ∧ RdAt wr b s j (n + 1) ∧ wr.heap[w.heap.size]? = some (.cells #[.pointer (some ⟨b, 0, none⟩)] 85) ∧ Kp (· ≠ b) w wr) (fun _ wr => s.size - atOf b wr)
      case atStart => exact ⟨f, i + 1, [], rfl, by omega, Nat.le_refl _, hi, Nat.zero_le _, Items.nil _ _, HR3.out, HX3.out, HK3.out⟩
      case round =>
        obtain ⟨f', j, acc, hR, hf1, hf2, hj, hal, hit, hrd, hbx, hkp⟩ := hrel
        obtain ⟨F, rfl⟩ : ∃ F, f' = F + 1 := ⟨f' - 1, by omega⟩
        have HIT := hid hit
        have HRD := hid hrd
        have HBX := hid hbx
        have HKP := hid hkp
        have HRW := hid (HR.out.trans hR)
        have HRI := hid HR.out
        have c0 := cell_of (i := 0) HBX.out rfl
        simp only [List.getElem_toArray, List.getElem_cons_zero] at c0
        obtain ⟨ao, c4, rfl⟩ := HIT.out.shape
        have HV := hid (HIH.out F (by omega) wr (n + 1) j (E.keep _ _ HI.out HKP.out) HRD.out hj (by omega) (by omega))
        rw [show 65 - (n + 1) = 64 - n by omega] at HV
        have HGE := hid (fun t a => rdV_ge (s := s) E.ahead F (n + 1) j t a)
        have H65 := hid (show 65 - n = (64 - n) + 1 by omega)
        clear hit hrd hbx hkp hR HR
        have hwb : w.heap.size ≠ b := by omega
        cases hv : rdV s Q F (n + 1) j with
        | bad c a =>
          have HRL := hid (rdL_bad (acc := acc) hv)
          rw [hv] at HV
          clear hv HGE
          go_wp2_with fail
          refine HV.out.mono ?_
          rintro e w4 ⟨hk4, rfl, hr4, ha4, hc4⟩
          have HK4 := hid (HKP.out.trans hk4)
          have HR4 := hid hr4
          have HX4 := hid (hk4.block' HBX.out hwb)
          have q4 : ((c : Int) != 0) = true := by simp; omega
          have q5 : ¬ ((c : Int)) = 0 := by omega
          clear hk4 hr4 hc4
          go_wp2_with fail
          refine leaves_cons (f := 69) (args := #[.pointer (some ⟨w.heap.size, 0, none⟩)]) (by simp) (by simp [go_sem]) ?_
          refine (unnest _ b w.heap.size s a (n + 1) HR4.out (by omega) HX4.out).mono ?_
          rintro e u' w9 ⟨rfl, rfl, rfl⟩
          refine ⟨_, results_tmp2 rfl _ _ _, ?_⟩
          rw [HRW.out, HRL.out]
          have HZ := rd_back HR4.out
          exact ⟨HK4.out.trans (Kp.set _ _ _ _ (fun h => h rfl)), rfl, HZ, ha4, by intro h; exact q5 (by rw [h]; rfl)⟩
        | ok t a =>
          have HRL := hid (rdL_ok (acc := acc) hv)
          rw [hv] at HV
          have hja := HGE.out t a hv
          clear hv HGE
          go_wp2_with fail
          refine HV.out.mono ?_
          rintro e w4 ⟨hk4, u, bs, rfl, ho4, hge4, hnd4, hr4, ha4⟩
          obtain ⟨τ, p, rfl⟩ := ho4.rd.iface
          have HK4 := hid (HKP.out.trans hk4)
          have HR4 := hid hr4
          have HX4 := hid (hk4.block' HBX.out hwb)
          have HO4 := hid ho4
          have HGE4 := hid hge4
          have HND4 := hid hnd4
          have HIT4 := hid (HIT.out.keep hk4 (fun k hk e => by have e' : k = b := e; omega))
          have HB4 := hid (show w.heap.size + 1 ≤ w4.heap.size by have := lt_of_block HX4.out; omega)
          have HBW := hid (show w.heap.size + 1 ≤ wr.heap.size by have := lt_of_block HBX.out; omega)
          clear hk4 ho4 hge4 hnd4 hr4 c0
          go_wp2_with (at_builtin; refine app_item rfl _ _ rfl rfl (w.heap.size + 1) wr.heap.size (64 - n) (.slice ao acc.length c4) acc τ p t bs rfl rfl HB4.out HIT4.out HO4.out HGE4.out HBW.out HND4.out (by omega) ?_; intro a5 c5 w5 hit5 hb5; have HX5 := hid ((Below.block hb5 w.heap.size (by omega)).trans HX4.out); have c0 := cell_of (i := 0) HX5.out rfl; simp only [List.getElem_toArray, List.getElem_cons_zero] at c0)
          have HR5 := hid (show RdAt w5 b s a (n + 1) from (Below.block hb5 b (by omega)).trans HR4.out)
          have HK5 := hid (HK4.out.below hb5)
          have HIT5 := hid hit5
          have hs5 : w.heap.size < w5.heap.size := lt_of_block HX5.out
          clear hit5 hb5
          have HT5 := hid (take_any w5 b s a (n + 1) 93 HR5.out ha4 hs)
          by_cases h93 : nxt s a = 93
          · have hlt : a < s.size := by
              rcases Nat.lt_or_ge a s.size with h | h
              · exact h
              · rw [nxt_end (by omega)] at h93; cases h93
            have HRX := hid (HRL.out.trans (if_pos h93))
            rw [decide_eq_true h93, if_pos h93] at HT5
            clear h93 HRL
            refine HT5.out.mono ?_
            rintro e w6 ⟨rfl, hk6, hs6, hr6⟩
            have HR6 := hid hr6
            have HK6 := hid (HK5.out.trans hk6)
            have HX6 := hid (hk6.block' HX5.out hwb)
            have HIT6 := hid (HIT5.out.keep hk6 (fun k hk e => by have e' : k = b := e; omega))
            clear hk6 hs6 hr6 c0
            go_wp2_with fail
            refine leaves_cons (f := 69) (args := #[.pointer (some ⟨w.heap.size, 0, none⟩)]) (by simp) (by simp [go_sem]) ?_
            refine (unnest _ b w.heap.size s (a + 1) (n + 1) HR6.out (by omega) HX6.out).mono ?_
            rintro e u' w9 ⟨rfl, rfl, rfl⟩
            refine ⟨_, results_tmp2 rfl _ _ _, ?_⟩
            rw [HRW.out, HRX.out, H65.out]
            have HZ := rd_back HR6.out
            have HK9 : Kp (· ≠ b) w6 (w6.setCell ⟨b, 2, none⟩ (.int .i64 (((n + 1 : Nat) : Int) - 1))) := Kp.set w6 b 2 _ (fun h => h rfl)
            obtain ⟨bs9, ho9, hb9, hn9⟩ := (HIT6.out.keep HK9 (fun k hk e => by have e' : k = b := e; omega)).list (by simp) (by simp; omega)
            exact ⟨HK6.out.trans HK9, _, bs9, rfl, ho9, fun x hx => by have := hb9 x hx; omega, hn9, HZ, hlt⟩
          · rw [decide_eq_false h93, if_neg h93] at HT5
            have HRL2 := hid (HRL.out.trans (if_neg h93))
            clear h93 HRL
            refine HT5.out.mono ?_
            rintro e w6 ⟨rfl, hk6, hs6, hr6⟩
            have HR6 := hid hr6
            have HK6 := hid (HK5.out.trans hk6)
            have HX6 := hid (hk6.block' HX5.out hwb)
            have HIT6 := hid (HIT5.out.keep hk6 (fun k hk e => by have e' : k = b := e; omega))
            clear hk6 hs6 hr6 c0
            have c0 := cell_of (i := 0) HX6.out rfl
            simp only [List.getElem_toArray, List.getElem_cons_zero] at c0
            have HT6 := hid (take_any w6 b s a (n + 1) 44 HR6.out ha4 hs)
            by_cases h44 : nxt s a = 44
            · have hlt : a < s.size := by
                rcases Nat.lt_or_ge a s.size with h | h
                · exact h
                · rw [nxt_end (by omega)] at h44; cases h44
              have HRL3 := hid (HRL2.out.trans (if_pos h44))
              rw [decide_eq_true h44, if_pos h44] at HT6
              clear h44 HRL2
              go_wp2_with fail
              refine HT6.out.mono ?_
              rintro e w7 ⟨rfl, hk7, hs7, hr7⟩
              have HR7 := hid hr7
              have HK7 := hid (HK6.out.trans hk7)
              have HX7 := hid (hk7.block' HX6.out hwb)
              have HIT7 := hid (HIT6.out.keep hk7 (fun k hk e => by have e' : k = b := e; omega))
              clear hk7 hs7 hr7 c0
              have c0 := cell_of (i := 0) HX7.out rfl
              simp only [List.getElem_toArray, List.getElem_cons_zero] at c0
              have HT7 := hid (take_any w7 b s (a + 1) (n + 1) 32 HR7.out hlt hs)
              by_cases h32 : nxt s (a + 1) = 32
              · have hlt2 : a + 1 < s.size := by
                  rcases Nat.lt_or_ge (a + 1) s.size with h | h
                  · exact h
                  · rw [nxt_end (by omega)] at h32; cases h32
                have HRL4 := hid (HRL3.out.trans (if_pos h32))
                rw [decide_eq_true h32, if_pos h32] at HT7
                clear h32 HRL3
                go_wp2_with fail
                refine HT7.out.mono ?_
                rintro e w8 ⟨rfl, hk8, hs8, hr8⟩
                have HREL := hid (show ∃ (f' j' : Nat) (acc' : List T), rdL s Q f (n + 1) (i + 1) [] = rdL s Q f' (n + 1) j' acc' ∧ 2 * (s.size - j') + 2 ≤ f' ∧ f' ≤ f ∧ j' ≤ s.size ∧ acc'.length ≤ j' ∧ Items w8 (w.heap.size + 1) w8.heap.size (64 - n) (.slice a5 (acc.length + 1) c5) acc' ∧ RdAt w8 b s j' (n + 1) ∧ w8.heap[w.heap.size]? = some (.cells #[.pointer (some ⟨b, 0, none⟩)] 85) ∧ Kp (· ≠ b) w w8 from
                  ⟨F, a + 2, acc ++ [t], HRI.out.symm.trans (HRW.out.trans HRL4.out), by omega, by omega, hlt2, by simp; omega, (HIT7.out.keep hk8 (fun k hk e => by have e' : k = b := e; omega)).up, hr8, hk8.block' HX7.out hwb, HK7.out.trans hk8⟩)
                have HM := hid (show s.size - atOf b w8 < s.size - atOf b wr by rw [atOf_rd hr8, atOf_rd HRD.out]; omega)
                clear hk8 hs8 hr8 c0
                go_wp2_with fail
                go_roundw
                case rel => first | exact HREL.out | ((repeat apply Exists.intro); exact ⟨HREL.out, rfl⟩)
                case measure => exact HM.out
              · have HRX := hid (HRL3.out.trans (if_neg h32))
                rw [decide_eq_false h32, if_neg h32] at HT7
                clear h32 HRL3
                go_wp2_with fail
                refine HT7.out.mono ?_
                rintro e w8 ⟨rfl, hk8, hs8, hr8⟩
                have HR8 := hid hr8
                have HK8 := hid (HK7.out.trans hk8)
                have HX8 := hid (hk8.block' HX7.out hwb)
                clear hk8 hs8 hr8 c0
                go_wp2_with fail
                refine leaves_cons (f := 69) (args := #[.pointer (some ⟨w.heap.size, 0, none⟩)]) (by simp) (by simp [go_sem]) ?_
                refine (unnest _ b w.heap.size s (a + 1) (n + 1) HR8.out (by omega) HX8.out).mono ?_
                rintro e u' w9 ⟨rfl, rfl, rfl⟩
                refine ⟨_, results_tmp2 rfl _ _ _, ?_⟩
                rw [HRW.out, HRX.out]
                have HZ := rd_back HR8.out
                exact ⟨HK8.out.trans (Kp.set _ _ _ _ (fun h => h rfl)), rfl, HZ, hlt, by decide⟩
            · have HRX := hid (HRL2.out.trans (if_neg h44))
              rw [decide_eq_false h44, if_neg h44] at HT6
              clear h44 HRL2
              go_wp2_with fail
              refine HT6.out.mono ?_
              rintro e w7 ⟨rfl, hk7, hs7, hr7⟩
              have HR7 := hid hr7
              have HK7 := hid (HK6.out.trans hk7)
              have HX7 := hid (hk7.block' HX6.out hwb)
              clear hk7 hs7 hr7 c0
              go_wp2_with fail
              refine leaves_cons (f := 69) (args := #[.pointer (some ⟨w.heap.size, 0, none⟩)]) (by simp) (by simp [go_sem]) ?_
              refine (unnest _ b w.heap.size s a (n + 1) HR7.out (by omega) HX7.out).mono ?_
              rintro e u' w9 ⟨rfl, rfl, rfl⟩
              refine ⟨_, results_tmp2 rfl _ _ _, ?_⟩
              rw [HRW.out, HRX.out]
              have HZ := rd_back HR7.out
              exact ⟨HK7.out.trans (Kp.set _ _ _ _ (fun h => h rfl)), rfl, HZ, ha4, by decide⟩
end Go.Proofs.YtbpbkihcfdnphaaDoor
