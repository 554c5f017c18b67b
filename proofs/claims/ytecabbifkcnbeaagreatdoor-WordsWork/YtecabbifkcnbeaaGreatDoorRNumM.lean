/-
  The reference's text of the reader by a contract.
-/
import Derived.Test.YtecabbifkcnbeaaGreatDoorREsc
import Derived.Test.YtecabbifkcnbeaaGreatDoorWRefB
import Derived.Test.YtecabbifkcnbeaaGreatDoorQuoted
import Derived.Test.YtecabbifkcnbeaaGreatDoorBackMath
namespace Go.Proofs.YtecabbifkcnbeaaGreatDoor
open Go.RowKit
/-- What the reference reader's calls answer and leave. -/
def RvP (w : World) (b : Nat) (s : ByteArray) (bd : Int) (d : Nat) (r : Rs) (e : Ending) (w' : World) : Prop := Kp (· ≠ b) w w' ∧
  match r with
  | .ok t i => ∃ v', e = .returned v' ∧ Rd (fun q => w.heap.size ≤ q) w' d v' t ∧ RRAt w' b s i bd 0 ∧ i ≤ s.size
  | .bad c i => (∃ k n x a l c', e = .returned (.agg #[.int .i64 k, .int .i64 n, .string x, .slice a l c'])) ∧ (∃ j, RRAt w' b s j (i : Int) (c : Int) ∧ j ≤ s.size) ∧ c ≠ 0
theorem Bs.kp {B b : Nat} {w w' : World} {v : Value} {l : List UInt8} (h : Bs B w v l) (hk : Kp (· ≠ b) w w') (hb : b < B) : Bs B w' v l := by
  obtain ⟨h1, h2⟩ := h
  refine ⟨h1, ?_⟩
  rcases h2 with h2 | ⟨g, cap, cur, hv, hg, hc, hr⟩
  · exact .inl h2
  · exact .inr ⟨g, cap, cur, hv, hg, hk.block' hc (by show g ≠ b; omega), hr⟩
/-- How much is left to read. -/
def mOf (b n : Nat) (w : World) : Nat := match w.cell? ⟨b, 3, none⟩, w.cell? ⟨b, 1, none⟩ with
  | some e, some v => if intOf e = 0 then n + 2 - (intOf v).toNat else 0
  | _, _ => 0
theorem mOf_rd {w : World} {b n : Nat} {s : ByteArray} {i : Nat} {bd er : Int} (h : RRAt w b s i bd er) : mOf b n w = if er = 0 then n + 2 - i else 0 := by
  have c1 : w.cell? ⟨b, 1, none⟩ = some (.int .i64 i) := h.four.2.1
  have c3 : w.cell? ⟨b, 3, none⟩ = some (.int .i64 er) := h.four.2.2.2
  unfold mOf
  rw [c1, c3]
  show (if er = 0 then n + 2 - ((i : Int)).toNat else 0) = _
  rw [Int.toNat_natCast]
theorem quoL_q {s : ByteArray} {f j : Nat} {acc : List UInt8} (h : nxt s j = 34) : quoL s (f + 1) j acc = .ok (.node 4 0 ⟨acc.toArray⟩ []) (j + 1) := by rw [quoL, if_pos h]
theorem quoL_x {s : ByteArray} {f j : Nat} {acc : List UInt8} (h : nxt s j ≠ 34) (h2 : ¬ (32 ≤ nxt s j ∧ nxt s j ≤ 126)) : quoL s (f + 1) j acc = .bad 5 j := by rw [quoL, if_neg h, if_pos h2]
theorem quoL_n {s : ByteArray} {f j a : Nat} {acc : List UInt8} (h : nxt s j = 92) (h2 : escD s (j + 1) = (none, a)) : quoL s (f + 1) j acc = .bad 5 a := by
  rw [quoL, if_neg (by omega), if_neg (by omega), if_pos h, h2]
theorem quoL_s {s : ByteArray} {f j a c : Nat} {acc : List UInt8} (h : nxt s j = 92) (h2 : escD s (j + 1) = (some c, a)) : quoL s (f + 1) j acc = quoL s f a (acc ++ [c.toUInt8]) := by
  rw [quoL, if_neg (by omega), if_neg (by omega), if_pos h, h2]
theorem quoL_o {s : ByteArray} {f j : Nat} {acc : List UInt8} (h : nxt s j ≠ 34) (h1 : nxt s j ≠ 92) (h2 : 32 ≤ nxt s j ∧ nxt s j ≤ 126) : quoL s (f + 1) j acc = quoL s f (j + 1) (acc ++ [(nxt s j).toUInt8]) := by rw [quoL, if_neg h, if_neg (fun h => h h2), if_neg h1]
theorem lit1 {c : Nat} (h : c < 256) : #[Value.int .u8 (c : Int)] = (Lib.byteCells [c.toUInt8]).toArray := by
  have e := u8_cell [] c h
  have e2 : [Value.int .u8 (c : Int)] = Lib.byteCells [c.toUInt8] := e
  rw [← e2]
/-- What the loop holds. -/
def TxSt (w : World) (b : Nat) (s : ByteArray) (bd : Int) (r : Rs) (o : Value) (wr : World) : Prop :=
  Kp (· ≠ b) w wr ∧ wr.heap[w.heap.size]? = some (.cells #[.int .i64 0, .int .i64 0, .string ⟨#[]⟩, .slice none 0 0] 34) ∧ ∃ (acc : List UInt8) (a : Option Addr) (c : Nat), o = .slice a acc.length c ∧ Bs (w.heap.size + 1) wr o acc ∧ acc.length ≤ s.size + 1 ∧
   ((∃ f j, RRAt wr b s j bd 0 ∧ j ≤ s.size ∧ acc.length ≤ j ∧ s.size + 2 ≤ f + j ∧ quoL s f j acc = r) ∨ ∃ a, r = .bad 5 a ∧ RRAt wr b s a (a : Int) 5 ∧ a ≤ s.size)
set_option maxRecDepth 100000 in
set_option maxHeartbeats 4000000 in
theorem rtx_any (w : World) (b : Nat) (s : ByteArray) (i : Nat) (bd : Int) (d : Nat) (h : RRAt w b s i bd 0) (hi : i < s.size) (hs : s.size ≤ 1048576) :
    Calls Tryz.prog 155 #[.pointer (some ⟨b, 0, none⟩)] w (RvP w b s bd (d + 1) (quoQ s i)) := by
  have hbl := lt_of_block h
  have HQ := hid (show quoL s (s.size + 1) (i + 1) [] = quoQ s i from rfl)
  generalize quoQ s i = r at *
  have HBL := hid hbl
  have HX0 := hid (Ext.alloc w (.cells #[.int .i64 0, .int .i64 0, .string ⟨#[]⟩, .slice none 0 0] 34))
  have HH := hid (show RRAt (w.alloc (.cells #[.int .i64 0, .int .i64 0, .string ⟨#[]⟩, .slice none 0 0] 34)) b s i bd 0 from blkOld _ h)
  have HRB := hid (blk0 w (.cells #[.int .i64 0, .int .i64 0, .string ⟨#[]⟩, .slice none 0 0] 34))
  obtain ⟨c0, c1, c2, c3⟩ := HH.out.four
  have f1 := HH.out.free 1
  have his : (i : Int) + 1 ≤ 1048576 := by omega
  clear h
  go_enter Tryz.func155, Tryz.ntmps155
  go_upto_region 2 with fail
  have hsz : (w.alloc (.cells #[.int .i64 0, .int .i64 0, .string ⟨#[]⟩, .slice none 0 0] 34)).heap.size = w.heap.size + 1 := blkS _ _
  have HSZ := hid hsz
  clear hsz
  generalize w.alloc (.cells #[.int .i64 0, .int .i64 0, .string ⟨#[]⟩, .slice none 0 0] 34) = W0 at *
  go_wp2_with fail
  go_loopw [3] (fun o wr => TxSt w b s bd r o wr) (fun _ wr => mOf b s.size wr)
  case atStart =>
    refine ⟨(HX0.out.kp _).trans (Kp.set _ _ _ _ (fun h => h rfl)), set_other HRB.out (by omega) _, [], none, 0, rfl, Bs.nil _ _, by simp, .inl ⟨s.size + 1, i + 1, RRAt.set1' HH.out (by omega), hi, by simp, by omega, HQ.out⟩⟩
  case round =>
    obtain ⟨hkp, hrb, acc, a0, c0', rfl, hbs, hal, hcase⟩ := hrel
    have HKP := hid hkp
    have HRB1 := hid hrb
    have HBS := hid hbs
    have hsw := lt_of_block hrb
    clear hkp hrb hbs
    rcases hcase with ⟨f, j, hr, hj, haj, hfj, hq⟩ | ⟨a, hq, hr, ha⟩
    · have HR := hid hr
      have HQ1 := hid hq
      obtain ⟨f, rfl⟩ : ∃ f', f = f' + 1 := ⟨f - 1, by omega⟩
      have HU := hid (show quoL s (f + 1) j acc = _ from by rw [quoL])
      have HMO := hid (mOf_rd (n := s.size) hr)
      obtain ⟨c0, c1, c2, c3⟩ := hr.four
      clear hr hq
      go_wp2_with fail
      refine (peek_any wr b s j bd 0 HR.out hj hs).mono ?_
      rintro e w1 ⟨rfl, k1, rfl⟩
      have HR1 := hid (HR.out.drewN k1)
      have HK1 := hid ((Rk.refl b wr).drewN k1)
      generalize wr.drewN k1 = w1 at *
      clear c0 c1 c2 c3
      obtain ⟨c0, c1, c2, c3⟩ := HR1.out.four
      have f1 := HR1.out.free 1
      have HBS1 := hid (HBS.out.kp HK1.out.1 (by have := HBL.out; omega))
      have HRB2 := hid (HK1.out.1.block' HRB1.out (by show w.heap.size ≠ b; have := HBL.out; omega))
      have hjs : (j : Int) + 1 ≤ 1048577 := by omega
      have HKW := hid (HKP.out.trans HK1.out.1)
      have hs1 : w.heap.size < w1.heap.size := lt_of_block HRB2.out
      have HNE := hid (show w.heap.size ≠ b by have := HBL.out; omega)
      have HMW := hid (show mOf b s.size wr = s.size + 2 - j from (mOf_rd HR.out).trans (if_pos rfl))
      clear HU HMO
      by_cases p34 : pk s j = 34
      · have hin := (pk_in (s := s) (i := j) (by omega)).1
        have HV := hid (show r = .ok (.node 4 0 ⟨acc.toArray⟩ []) (j + 1) by rw [← HQ1.out]; exact quoL_q ((pk_nxt (by decide) (by decide)).1 p34))
        have HR2 := hid (show RRAt (w1.setCell ⟨b, 1, none⟩ (.int .i64 ((j : Int) + 1))) b s (j + 1) bd 0 from RRAt.set1' HR1.out (by omega))
        have HB2 := hid (HBS1.out.kp (b := b) (Kp.set w1 b 1 (.int .i64 ((j : Int) + 1)) (fun h => h rfl)) (by have := HBL.out; omega))
        have HRB3 := hid (set_other (i := 1) HRB2.out HNE.out (.int .i64 ((j : Int) + 1)))
        have HK2 := hid (HKW.out.trans (Kp.set (K := (· ≠ b)) w1 b 1 (.int .i64 ((j : Int) + 1)) (fun h => h rfl)))
        have HCV := HB2.out.convert
        obtain ⟨r0, r1, r2, r3⟩ := four_of HRB3.out
        obtain ⟨e0, e1, e2, e3⟩ := four_free HRB3.out
        rw [p34]
        go_upto_region 9 with fail
        generalize w1.setCell ⟨b, 1, none⟩ (.int .i64 ((j : Int) + 1)) = W2 at *
        go_wp2_with fail
        obtain ⟨z0, z1, z2, z3⟩ := four_of (four_set (u0 := .int .i64 4) (u1 := .int .i64 0) (u2 := .string ⟨acc.toArray⟩) (u3 := .slice none 0 0) HRB3.out)
        refine bodyPost_ret (v := .agg #[.int .i64 4, .int .i64 0, .string ⟨acc.toArray⟩, .slice none 0 0]) (by simp [results, Tryz.results155, go_sem, z0, z1, z2, z3]) rfl ?_
        rw [HV.out]
        have k4 := Kp.set4 W2 w.heap.size 0 (.int .i64 4) (.int .i64 0) (.string ⟨acc.toArray⟩) (.slice none 0 0)
        refine ⟨(HK2.out.trans' (n := w.heap.size) (L := fun _ => False) (k4.mono (fun q _ h => fun e => h.elim (fun h => by omega) id))), _, rfl, ⟨none, 0, rfl, ?_, by simp, .inl rfl⟩, k4.block' HR2.out (fun e => HNE.out e.symm), hin⟩
        show acc.length ≤ 140737488351232
        omega
      by_cases p92 : pk s j = 92
      · have hin := (pk_in (s := s) (i := j) (by omega)).1
        have HN92 := hid ((pk_nxt (s := s) (i := j) (c := 92) (by decide) (by decide)).1 p92)
        have HR2 := hid (show RRAt (w1.setCell ⟨b, 1, none⟩ (.int .i64 ((j : Int) + 1))) b s (j + 1) bd 0 from RRAt.set1' HR1.out (by omega))
        have HB2 := hid (HBS1.out.kp (b := b) (Kp.set w1 b 1 (.int .i64 ((j : Int) + 1)) (fun h => h rfl)) (by have := HBL.out; omega))
        have HRB3 := hid (set_other (i := 1) HRB2.out HNE.out (.int .i64 ((j : Int) + 1)))
        have HK2 := hid (HKW.out.trans (Kp.set (K := (· ≠ b)) w1 b 1 (.int .i64 ((j : Int) + 1)) (fun h => h rfl)))
        rw [p92]
        go_upto_region 12 with fail
        generalize w1.setCell ⟨b, 1, none⟩ (.int .i64 ((j : Int) + 1)) = W2 at *
        go_wp2_with fail
        refine (escape_any W2 b s (j + 1) bd HR2.out hin hs).mono ?_
        intro e w3 hE
        obtain ⟨eo, ea, heq⟩ : ∃ o a, escD s (j + 1) = (o, a) := ⟨_, _, rfl⟩
        rw [heq] at hE
        obtain ⟨hk3, hea, hE⟩ := hE
        have hea' : ea ≤ s.size := hea
        have HK3 := hid (HK2.out.trans hk3.1)
        have HB3 := hid (HB2.out.kp hk3.1 (by have := HBL.out; omega))
        have HRB4 := hid (hk3.1.block' HRB3.out HNE.out)
        have HS3 := hid (show w.heap.size + 1 ≤ w3.heap.size from lt_of_block HRB4.out)
        clear hk3 hea
        cases eo with
        | some C =>
          have hE' : e = .returned (.int .u8 C) ∧ RRAt w3 b s ea bd 0 := hE
          obtain ⟨rfl, hr3⟩ := hE'
          have HR3 := hid hr3
          obtain ⟨hlt, hC⟩ := escD_some heq
          have HV := hid (show quoL s f ea (acc ++ [C.toUInt8]) = r by rw [← HQ1.out]; exact (quoL_s HN92.out heq).symm)
          have HLT := hid (lit1 hC)
          clear hE hr3 heq
          go_wp2_with (at_builtin; refine app_litG rfl _ _ rfl rfl (w.heap.size + 1) _ acc [C.toUInt8] rfl HS3.out HB3.out HLT.out rfl rfl (by simp; omega) ?_; intro a2 c2 w4 ho2 hb2)
          go_roundw
          case rel =>
            refine ⟨HK3.out.belowL hb2.below (by omega), hb2.other _ _ _ (by decide) HRB4.out, acc ++ [C.toUInt8], a2, c2, by simp, by simpa using ho2, by simp; omega, .inl ⟨f, ea, hb2.other b _ _ (by decide) HR3.out, hea', by simp; omega, by omega, HV.out⟩⟩
          case measure =>
            have HR4 : RRAt w4 b s ea bd 0 := hb2.other b _ _ (by decide) HR3.out
            rw [HMW.out, mOf_rd HR4, if_pos rfl]
            omega
        | none =>
          have hE' : e = .returned (.int .u8 0) ∧ RRAt w3 b s ea (ea : Int) 5 := hE
          obtain ⟨rfl, hr3⟩ := hE'
          have HR3 := hid hr3
          have HV := hid (show r = .bad 5 ea by rw [← HQ1.out]; exact quoL_n HN92.out heq)
          have HLT := hid (lit1 (c := 0) (by decide))
          clear hE hr3 heq
          go_wp2_with (at_builtin; refine app_litG rfl _ _ rfl rfl (w.heap.size + 1) _ acc [(0 : Nat).toUInt8] rfl HS3.out HB3.out HLT.out rfl rfl (by simp; omega) ?_; intro a2 c2 w4 ho2 hb2)
          go_roundw
          case rel =>
            refine ⟨HK3.out.belowL hb2.below (by omega), hb2.other _ _ _ (by decide) HRB4.out, acc ++ [(0 : Nat).toUInt8], a2, c2, by simp, by simpa using ho2, by simp; omega, .inr ⟨ea, HV.out, hb2.other b _ _ (by decide) HR3.out, hea'⟩⟩
          case measure =>
            have HR4 : RRAt w4 b s ea (ea : Int) 5 := hb2.other b _ _ (by decide) HR3.out
            rw [HMW.out, mOf_rd HR4, if_neg (by decide)]
            omega
      have q1 : (((pk s j : Nat) : Int) == 34) = false := by rw [beq_eq_false_iff_ne]; omega
      have q2 : (((pk s j : Nat) : Int) == 92) = false := by rw [beq_eq_false_iff_ne]; omega
      by_cases hp : 32 ≤ pk s j ∧ pk s j ≤ 126
      · obtain ⟨hin, hpn⟩ := pk_in (s := s) (i := j) (by omega)
        have HV := hid (show quoL s f (j + 1) (acc ++ [(pk s j).toUInt8]) = r by rw [← HQ1.out, hpn]; exact (quoL_o (by omega) (by omega) (by omega)).symm)
        have HR2 := hid (show RRAt (w1.setCell ⟨b, 1, none⟩ (.int .i64 ((j : Int) + 1))) b s (j + 1) bd 0 from RRAt.set1' HR1.out (by omega))
        have HB2 := hid (HBS1.out.kp (b := b) (Kp.set w1 b 1 (.int .i64 ((j : Int) + 1)) (fun h => h rfl)) (by have := HBL.out; omega))
        have HRB3 := hid (set_other (i := 1) HRB2.out HNE.out (.int .i64 ((j : Int) + 1)))
        have HK2 := hid (HKW.out.trans (Kp.set (K := (· ≠ b)) w1 b 1 (.int .i64 ((j : Int) + 1)) (fun h => h rfl)))
        have HS2 := hid (show w.heap.size + 1 ≤ (w1.setCell ⟨b, 1, none⟩ (.int .i64 ((j : Int) + 1))).heap.size from lt_of_block HRB3.out)
        clear hpn
        generalize pk s j = C at *
        have hC : C < 256 := by omega
        have HLT := hid (lit1 hC)
        have HHW := hid (show IntKind.u8.wrap (C : Int) = (C : Int) by rw [IntKind.wrap_u8]; omega)
        obtain ⟨g3, g4⟩ := hp
        have g1 : (32 : Int) ≤ (C : Int) := by omega
        have g2 : (C : Int) ≤ 126 := by omega
        go_upto_region 13 with fail
        clear p34 p92 hC g3 g4
        generalize (C : Int) = Ci at *
        have d1 : decide (Ci < 32) = false := decide_eq_false (by omega)
        have d2 : decide (126 < Ci) = false := decide_eq_false (by omega)
        have G1 := hid g1
        have G2 := hid g2
        clear g1 g2 q1 q2
        go_upto_region 6 with fail
        generalize w1.setCell ⟨b, 1, none⟩ (.int .i64 ((j : Int) + 1)) = W2 at *
        have hw := HHW.out
        go_wp2_with (at_builtin; refine app_litG rfl _ _ rfl rfl (w.heap.size + 1) _ acc [C.toUInt8] rfl HS2.out HB2.out HLT.out rfl rfl (by simp; omega) ?_; intro a2 c2 w2 ho2 hb2)
        go_roundw
        case rel =>
          refine ⟨HK2.out.belowL hb2.below (by omega), hb2.other _ _ _ (by decide) HRB3.out, acc ++ [C.toUInt8], a2, c2, by simp, by simpa using ho2, by simp; omega, .inl ⟨f, j + 1, hb2.other b _ _ (by decide) HR2.out, hin, by simp; omega, by omega, HV.out⟩⟩
        case measure =>
          have HR3 : RRAt w2 b s (j + 1) bd 0 := hb2.other b _ _ (by decide) HR2.out
          rw [HMW.out, mOf_rd HR3, if_pos rfl]
          omega
      · have HV := hid (show r = .bad 5 j by
          rw [← HQ1.out]
          refine quoL_x (fun h => p34 ((pk_nxt (by decide) (by decide)).2 h)) (fun h => hp ?_)
          have : pk s j = nxt s j := (pk_nxt (by omega) (by omega)).2 rfl
          omega)
        have HF := hid (fail_any w1 b s j bd 5 j HR1.out)
        have HS := hid (show (((pk s j : Nat) : Int) < 32) ∨ (¬ (((pk s j : Nat) : Int) < 32) ∧ (126 : Int) < ((pk s j : Nat) : Int)) by omega)
        clear hp
        generalize pk s j = C at *
        rcases HS.out with g1 | ⟨g1, g2⟩
        all_goals
          go_wp2_with (first | (go_at_call 114; refine HF.out.mono ?_; rintro e w2 ⟨rfl, hk2, hr2⟩))
          go_roundw
          case rel =>
            refine ⟨HKW.out.trans hk2.1, hk2.1.block' HRB2.out HNE.out, acc, a0, c0', rfl, HBS1.out.kp hk2.1 (by have := HBL.out; omega), hal, .inr ⟨j, HV.out, hr2, hj⟩⟩
          case measure =>
            rw [HMW.out, mOf_rd hr2, if_neg (by decide)]
            omega
    · have HR := hid hr
      have HQ1 := hid hq
      obtain ⟨c0, c1, c2, c3⟩ := hr.four
      obtain ⟨r0, r1, r2, r3⟩ := four_of HRB1.out
      obtain ⟨e0, e1, e2, e3⟩ := four_free HRB1.out
      clear hr hq
      go_wp2_with fail
      obtain ⟨z0, z1, z2, z3⟩ := four_of (four_set (u0 := .int .i64 0) (u1 := .int .i64 0) (u2 := .string ⟨#[]⟩) (u3 := .slice none 0 0) HRB1.out)
      refine bodyPost_ret (v := .agg #[.int .i64 0, .int .i64 0, .string ⟨#[]⟩, .slice none 0 0]) (by simp [results, Tryz.results155, go_sem, z0, z1, z2, z3]) rfl ?_
      rw [HQ1.out]
      have k4 := Kp.set4 wr w.heap.size 0 (.int .i64 0) (.int .i64 0) (.string ⟨#[]⟩) (.slice none 0 0)
      refine ⟨(HKP.out.trans' (n := w.heap.size) (L := fun _ => False) (k4.mono (fun q _ h => fun e => h.elim (fun h => by omega) id))), ⟨_, _, _, _, _, _, rfl⟩, ⟨_, k4.block' HR.out (by show b ≠ w.heap.size; have := HBL.out; omega), ha⟩, by decide⟩
end Go.Proofs.YtecabbifkcnbeaaGreatDoor
/-
  The number that digits stand for, and what numR answers by it.
-/
namespace Go.Proofs.YtecabbifkcnbeaaGreatDoor
open Go.RowKit
/-- The number of k digits from p on, behind acc. -/
def dvF (s : ByteArray) : Nat → Nat → Nat → Nat
  | acc, _, 0 => acc
  | acc, p, k + 1 => dvF s (acc * 10 + (nxt s p - 48)) (p + 1) k
theorem dvF_snoc (s : ByteArray) : ∀ (k acc p : Nat), dvF s acc p (k + 1) = dvF s acc p k * 10 + (nxt s (p + k) - 48)
  | 0, acc, p => rfl
  | k + 1, acc, p => by
    rw [show dvF s acc p (k + 1 + 1) = dvF s (acc * 10 + (nxt s p - 48)) (p + 1) (k + 1) from rfl, dvF_snoc s k _ (p + 1), show p + 1 + k = p + (k + 1) by omega]
    rfl
/-- What the reference's loop holds: the number itself, or that it is beyond 2^63. -/
def DvSt (V n : Nat) (over : Bool) : Prop := (over = false ∧ n = V ∧ V ≤ 9223372036854775808) ∨ (over = true ∧ 9223372036854775808 < V)
theorem DvSt.step {V n d : Nat} {over : Bool} (h : DvSt V n over) (hd : d ≤ 9) : DvSt (V * 10 + d) ((n * 10 + d) % 18446744073709551616) (over || decide ((9223372036854775808 - d) / 10 < n)) := by
  rcases h with ⟨rfl, rfl, h⟩ | ⟨rfl, h⟩
  · by_cases hg : (9223372036854775808 - d) / 10 < n
    · refine .inr ⟨by simp [hg], by omega⟩
    · refine .inl ⟨by simp [hg], by omega, by omega⟩
  · exact .inr ⟨by simp, by omega⟩
def dfold : Nat → List UInt8 → Nat
  | acc, [] => acc
  | acc, c :: r => dfold (acc * 10 + (c.toNat - 48)) r
theorem dfold_ge : ∀ (l : List UInt8) (acc : Nat), acc ≤ dfold acc l
  | [], acc => Nat.le_refl _
  | c :: r, acc => Nat.le_trans (by omega) (dfold_ge r (acc * 10 + (c.toNat - 48)))
theorem par_all : ∀ (l : List UInt8) (acc : Nat), (∀ x ∈ l, 48 ≤ x.toNat ∧ x.toNat ≤ 57) → acc ≤ 18446744073709551615 → Lib.parseUintM 18446744073709551615 acc l = if dfold acc l ≤ 18446744073709551615 then .ok (dfold acc l) else .range
  | [], acc, _, ha => by rw [show dfold acc [] = acc from rfl, if_pos ha]; rfl
  | c :: r, acc, hl, ha => by
    have hc := hl c (by simp)
    have hg := dfold_ge r (acc * 10 + (c.toNat - 48))
    rw [Lib.parseUintM, if_pos hc, show dfold acc (c :: r) = dfold (acc * 10 + (c.toNat - 48)) r from rfl]
    by_cases h1 : 1844674407370955162 ≤ acc
    · rw [if_pos h1, if_neg (by omega)]
    rw [if_neg h1]
    by_cases h2 : 18446744073709551615 < acc * 10 + (c.toNat - 48)
    · rw [if_pos h2, if_neg (by omega)]
    · rw [if_neg h2]
      exact par_all r _ (fun x hx => hl x (by simp [hx])) (by omega)
theorem digEnd_dig (s : ByteArray) : ∀ (m p : Nat), s.size - p ≤ m → ∀ q, p ≤ q → q < digEnd s p → q < s.size ∧ digP (nxt s q)
  | m, p, hm, q, h1, h2 => by
    rw [digEnd] at h2
    split at h2
    · next hh =>
      rcases Nat.lt_or_eq_of_le h1 with h | h
      · cases m with
        | zero => omega
        | succ m => exact digEnd_dig s m (p + 1) (by omega) q h h2
      · subst h; exact hh
    · omega
theorem At.fold {s : ByteArray} : ∀ {l : List UInt8} {p : Nat} (acc : Nat), At s p l → dfold acc l = dvF s acc p l.length
  | [], _, _, _ => rfl
  | c :: r, p, acc, h => by
    obtain ⟨_, h2, h3⟩ := h
    rw [show dfold acc (c :: r) = dfold (acc * 10 + (c.toNat - 48)) r from rfl, At.fold _ h3, ← h2]
    rfl
theorem At.alldig {s : ByteArray} : ∀ {l : List UInt8} {p : Nat}, At s p l → (∀ q, p ≤ q → q < p + l.length → digP (nxt s q)) → ∀ x ∈ l, 48 ≤ x.toNat ∧ x.toNat ≤ 57
  | [], _, _, _, x, hx => by cases hx
  | c :: r, p, h, hd, x, hx => by
    obtain ⟨_, h2, h3⟩ := h
    rcases List.mem_cons.1 hx with e | e
    · subst e; have := hd p (Nat.le_refl _) (by simp); rw [h2] at this; exact this
    · exact At.alldig h3 (fun q a b => hd q (by omega) (by simp only [List.length_cons]; omega)) x e
theorem nxt_dig {s : ByteArray} {p : Nat} (h : digP (nxt s p)) : p < s.size := by
  rcases Nat.lt_or_ge p s.size with e | e
  · exact e
  · rw [nxt_end (by omega)] at h; exact absurd h.1 (by decide)
/-- What numR answers, by the number itself. -/
theorem numR_val {s : ByteArray} {i : Nat} (hd : digP (nxt s (numAt s i))) (h48 : nxt s (numAt s i) ≠ 48) :
    numR s i = (if nxt s i = 45 then (if dvF s 0 (numAt s i) (digEnd s (numAt s i) - numAt s i) ≤ 9223372036854775808 then .ok (.node 3 (-(dvF s 0 (numAt s i) (digEnd s (numAt s i) - numAt s i) : Nat)) ⟨#[]⟩ []) (digEnd s (numAt s i)) else .bad 21 i)
      else (if dvF s 0 (numAt s i) (digEnd s (numAt s i) - numAt s i) < 9223372036854775808 then .ok (.node 3 (dvF s 0 (numAt s i) (digEnd s (numAt s i) - numAt s i) : Nat) ⟨#[]⟩ []) (digEnd s (numAt s i)) else .bad 21 i)) := by
  have hps : numAt s i < s.size := nxt_dig hd
  have hD := digEnd_le (s := s) (numAt s i) (by omega)
  have hl := digEnd_lt hd
  have hall := digEnd_dig s s.size (numAt s i) (by omega)
  unfold numR
  rw [if_neg (fun h => h48 h.1), if_neg (fun h => h.elim h48 (fun h => h hd))]
  by_cases h45 : nxt s i = 45
  · have hp : numAt s i = i + 1 := by unfold numAt; rw [if_pos h45]
    rw [hp] at hd h48 hps hD hl hall ⊢
    rw [if_pos h45]
    obtain ⟨a1, a2⟩ := At.take (s := s) (i := i) (D := digEnd s (i + 1)) (by omega) hD
    generalize (s.extract i (digEnd s (i + 1))).data.toList = L at *
    match L, a1, a2 with
    | [], _, a2 => simp at a2; omega
    | [x], _, a2 => simp at a2; omega
    | x :: c :: r, a1, a2 =>
      obtain ⟨b1, b2, b3⟩ := a1
      have hx : x = 45 := UInt8.toNat_inj.1 (by rw [← b2, h45]; rfl)
      have hlen : (c :: r).length = digEnd s (i + 1) - (i + 1) := by simp only [List.length_cons] at a2 ⊢; omega
      have hdg := At.alldig b3 (fun q q1 q2 => (hall q q1 (by omega)).2)
      have hf := At.fold 0 b3
      rw [hlen] at hf
      rw [hx, par64m, par_all _ _ hdg (by omega), hf]
      generalize dvF s 0 (i + 1) (digEnd s (i + 1) - (i + 1)) = V
      by_cases v1 : V ≤ 18446744073709551615
      · rw [if_pos v1]
        simp only [Lib.signedC]
        by_cases v2 : V ≤ 9223372036854775808
        · rw [if_neg (by omega), if_pos v2]
        · rw [if_pos (by omega), if_neg v2]
      · rw [if_neg v1, if_neg (by omega)]
        rfl
  · have hp : numAt s i = i := by unfold numAt; rw [if_neg h45]
    rw [hp] at hd h48 hps hD hl hall ⊢
    rw [if_neg h45]
    obtain ⟨a1, a2⟩ := At.take (s := s) (i := i) (D := digEnd s i) (by omega) hD
    generalize (s.extract i (digEnd s i)).data.toList = L at *
    match L, a1, a2 with
    | [], _, a2 => simp at a2; omega
    | c :: r, a1, a2 =>
      have hdg := At.alldig a1 (fun q q1 q2 => (hall q q1 (by omega)).2)
      have hf := At.fold 0 a1
      rw [a2] at hf
      have hc : 49 ≤ c.toNat ∧ c.toNat ≤ 57 := by
        have e := a1.2.1
        have := hdg c (by simp)
        omega
      rw [par64 c r hc, par_all _ _ hdg (by omega), hf]
      generalize dvF s 0 i (digEnd s i - i) = V
      by_cases v1 : V ≤ 18446744073709551615
      · rw [if_pos v1]
        simp only [Lib.signlessC]
        by_cases v2 : V < 9223372036854775808
        · rw [if_neg (by omega), if_pos v2]
        · rw [if_pos (by omega), if_neg v2]
      · rw [if_neg v1, if_neg (by omega)]
        rfl
end Go.Proofs.YtecabbifkcnbeaaGreatDoor
