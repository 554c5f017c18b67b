/-
  The reference's write in general, and its Text, each by a contract.
-/
import Derived.Test.YtbpbkihcfdnphaaGreatDoorRWrite
import Derived.Test.YtbpbkihcfdnphaaGreatDoorTextF
import Derived.Test.YtbpbkihcfdnphaaGreatDoorRCmp
namespace Go.Proofs.YtbpbkihcfdnphaaGreatDoor
open Go.RowKit
set_option maxRecDepth 100000 in
set_option maxHeartbeats 4000000 in
theorem rwrite_any (B : Nat) : ∀ d, RwTo B d := by
  intro d
  induction d with
  | zero => intro v t K w o l h; exact h.elim
  | succ d ih =>
    intro v t K w o l h hK hB hown hl hf
    obtain ⟨k, n, x, ks⟩ := t
    obtain ⟨a, c, rfl, hkl⟩ := h.kidsL
    simp only [T.size] at hl
    by_cases k4 : k = 4
    · subst k4
      refine (rwrite_text B n x a ks.length c o l w hB hown (by omega) (by omega)).mono ?_
      rintro e w' ⟨ao, c', rfl, h1, h2⟩
      have e0 : T.wr (.node 4 n x ks) = quo x := by simp [T.wr]
      rw [e0]
      exact ⟨_, ao, c', rfl, h1, h2, .inl rfl⟩
    have HGW := hid (Gk.ofExt (Ext.alloc w (.cells #[.int .i64 k, .int .i64 n, .string x, .slice a ks.length c] 27)) hB)
    have HO := hid (hown.alloc (.cells #[.int .i64 k, .int .i64 n, .string x, .slice a ks.length c] 27))
    have HB := hid (show B ≤ (w.alloc (.cells #[.int .i64 k, .int .i64 n, .string x, .slice a ks.length c] 27)).heap.size by rw [blkS]; omega)
    have HBOX := hid (blk0 w (.cells #[.int .i64 k, .int .i64 n, .string x, .slice a ks.length c] 27))
    by_cases k1 : k = 1
    · subst k1
      have HW := hid (show T.wr (.node 1 n x ks) = [117, 110, 105, 116] by simp [T.wr])
      obtain ⟨ao, c0, rfl⟩ := hown.shape
      have HL := hid hl
      clear ih hf hK hkl h hown hl hB
      go_enter Tryz.func38, Tryz.ntmps38
      go_wp2_with (at_builtin; refine app_strG rfl _ _ rfl B _ l rfl HB.out HO.out ⟨#[117, 110, 105, 116]⟩ rfl (by have := HL.out; show l.length + 4 ≤ _; omega) ?_; intro a3 c3 w3 ho3 hb3)
      go_ret
      rw [HW.out]
      exact ⟨l ++ [117, 110, 105, 116], a3, c3, ret_sl (by simp), ho3, HGW.out.trans hb3, .inl rfl⟩
    by_cases k2 : k = 2
    · subst k2
      obtain ⟨ao, c0, rfl⟩ := hown.shape
      have HL := hid hl
      clear ih hf hK hkl h hown hl hB k1 k4
      by_cases n1 : n = 1
      · subst n1
        have HW := hid (show T.wr (.node 2 1 x ks) = [121, 101, 115] by simp [T.wr])
        go_enter Tryz.func38, Tryz.ntmps38
        go_wp2_with (at_builtin; refine app_strG rfl _ _ rfl B _ l rfl HB.out HO.out ⟨#[121, 101, 115]⟩ rfl (by have := HL.out; show l.length + 3 ≤ _; omega) ?_; intro a3 c3 w3 ho3 hb3)
        go_ret
        rw [HW.out]
        exact ⟨l ++ [121, 101, 115], a3, c3, ret_sl (by simp), ho3, HGW.out.trans hb3, .inl rfl⟩
      · have HW := hid (show T.wr (.node 2 n x ks) = [110, 111] by simp [T.wr, n1])
        have n2 : (n == 1) = false := beq_eq_false_iff_ne.2 n1
        go_enter Tryz.func38, Tryz.ntmps38
        go_wp2_with (at_builtin; refine app_strG rfl _ _ rfl B _ l rfl HB.out HO.out ⟨#[110, 111]⟩ rfl (by have := HL.out; show l.length + 2 ≤ _; omega) ?_; intro a3 c3 w3 ho3 hb3)
        go_ret
        rw [HW.out]
        exact ⟨l ++ [110, 111], a3, c3, ret_sl (by simp), ho3, HGW.out.trans hb3, .inl rfl⟩
    by_cases k3 : k = 3
    · subst k3
      obtain ⟨ao, c0, rfl⟩ := hown.shape
      have HL := hid hl
      have HW := hid (show T.wr (.node 3 n x ks) = (itoaS n).data.toList by simp [T.wr, itoaS])
      have HSZ := hid (show (itoaS n).size ≤ 21 by have := Lib.itoa_length_le n (hf.1 rfl).1 (hf.1 rfl).2; simpa [itoaS, ByteArray.size] using this)
      have HC := hid (fun w => digits_any n (hf.1 rfl).1 (hf.1 rfl).2 w)
      clear ih hf hK hkl h hown hl hB k1 k4 k2
      generalize itoaS n = s at *
      go_enter Tryz.func38, Tryz.ntmps38
      go_wp2_with (first | (go_at_call 55; refine (HC.out _).mono ?_; rintro e w2 ⟨rfl, hx2⟩; have HX2 := hid hx2) | (at_builtin; refine app_strG rfl _ _ rfl B _ l rfl (Nat.le_trans HB.out HX2.out.size) (HO.out.ext HX2.out) s rfl (by have := HL.out; have := HSZ.out; omega) ?_; intro a3 c3 w3 ho3 hb3))
      go_ret
      rw [HW.out]
      exact ⟨l ++ s.data.toList, a3, c3, ret_sl (by simp), ho3, (HGW.out.trans (Gk.ofExt HX2.out HB.out)).trans hb3, .inl rfl⟩
    · have e0 : T.wr (.node k n x ks) = 91 :: (T.wrL ks ++ [93]) := by simp [T.wr, k1, k2, k3, k4]
      rw [e0]
      exact rwrite_list ih K w k n x a c ks o l k1 k2 k3 k4 hkl hK hB hown (by omega) hf.2
set_option maxRecDepth 100000 in
set_option maxHeartbeats 2000000 in
theorem rtext_any {K : Nat → Prop} {d : Nat} {v : Value} {t : T} (w : World) (hr : Rd K w d v t) (hf : t.fitI) : Calls Tryz.prog 23 #[v] w fun e w' => e = .returned (textV t) ∧ Ext w w' := by
  obtain ⟨u0, u1, u2, u3, rfl⟩ := hr.agg
  obtain ⟨k, n, x, a, c, rfl, rfl, rfl, rfl⟩ := hr.shape
  have HR := hid hr
  generalize t.kids.length = l at *
  by_cases hm : t.may
  · have HM := hid (rmay_to hr true (decide_eq_true hm))
    have HG := hid hm
    have HF := hid hf
    clear hr hm hf
    go_enter Tryz.func23, Tryz.ntmps23
    go_wp2_with fail
    refine (HM.out _ (Ext.alloc _ _)).mono ?_
    rintro e w1 ⟨rfl, hx1⟩
    obtain ⟨p0, p1, p2, p3⟩ := four_of (hx1.block (blk0 w _))
    have HX1 := hid ((Ext.alloc w _).trans hx1)
    clear hx1
    go_wp2_with fail
    refine (rwrite_any w1.heap.size d _ t _ w1 _ [] ((HR.out.later HX1.out).mono (L := fun q => q < w1.heap.size) (fun q hq _ => hq)) (fun _ h => h) (Nat.le_refl _) (Bs.nil _ _) (by have := HG.out.2.1; simp; omega) HF.out).mono ?_
    rintro e w3 ⟨m, ao, c3, rfl, hb, hbl, hout⟩
    have HX3 := hid (show Ext w w3 from HX1.out.trans hbl.below)
    have hwl := T.wr_len t HF.out
    have hsz := HG.out.2.1
    have hml : m.length ≤ 10000000 := by
      rcases hout with e | ⟨_, e⟩
      · rw [e]; simp; omega
      · simp at e; omega
    have hl' : (m.length : Int) ≤ 140737488355328 := by omega
    have HCV := hb.convert
    have HOUT := hid hout
    clear hb hbl hwl hsz p0 p1 p2 p3 hout
    by_cases hg : m.length ≤ 1048576
    · have hmt : m = t.wr := by
        have := HOUT.out.resolve_right (fun h => by omega)
        simpa using this
      have HV := hid (show textV t = .tuple #[.string ⟨m.toArray⟩, .int .i64 0] by rw [textV, if_pos HG.out, ← hmt, if_pos hg])
      have hg' : (m.length : Int) ≤ 1048576 := by omega
      clear hmt
      go_wp2_with fail
      go_ret2
      exact ⟨by rw [HV.out]; rfl, HX3.out⟩
    · have hmt : ¬ t.wr.length ≤ 1048576 := by
        rcases HOUT.out with e | ⟨h1, e⟩
        · have e' : m = t.wr := by simpa using e
          rw [← e']; exact hg
        · have e' : m.length ≤ t.wr.length := by simpa using e
          omega
      have HV := hid (show textV t = .tuple #[.string ⟨#[]⟩, .int .i64 2] by rw [textV, if_pos HG.out, if_neg hmt])
      have hg' : (1048576 : Int) < m.length := by omega
      clear hmt
      go_wp2_with fail
      go_ret2
      exact ⟨by rw [HV.out]; rfl, HX3.out⟩
  · have HM := hid (rmay_to hr false (decide_eq_false hm))
    have HV := hid (show textV t = .tuple #[.string ⟨#[]⟩, .int .i64 1] by rw [textV, if_neg hm])
    clear hr hm hf
    go_enter Tryz.func23, Tryz.ntmps23
    go_wp2_with fail
    refine (HM.out _ (Ext.alloc _ _)).mono ?_
    rintro e w1 ⟨rfl, hx1⟩
    have HX1 := hid ((Ext.alloc w _).trans hx1)
    clear hx1
    go_wp2_with fail
    go_ret2
    exact ⟨by rw [HV.out]; rfl, HX1.out⟩
end Go.Proofs.YtbpbkihcfdnphaaGreatDoor
