/-
  The reference's write by a contract: a value's text behind bytes, or as much of it as is beyond the bound.
-/
import Derived.Test.YtbpbkihcfdnphaaGreatDoorRWText
namespace Go.Proofs.YtbpbkihcfdnphaaGreatDoor
open Go.RowKit
/-- What was written behind l: the whole text, or so much that both are beyond the bound. -/
def WOut (l x m : List UInt8) : Prop := m = l ++ x ∨ (1048576 < m.length ∧ m.length ≤ (l ++ x).length)
/-- What write answers. -/
def RwR (B : Nat) (w : World) (l x : List UInt8) (e : Ending) (w' : World) : Prop := ∃ (m : List UInt8) (ao : Option Addr) (c : Nat), e = .returned (.slice ao m.length c) ∧ Bs B w' (.slice ao m.length c) m ∧ Gk B w w' ∧ WOut l x m
def RwTo (B d : Nat) : Prop := ∀ (v : Value) (t : T) (K : Nat → Prop) (w : World) (o : Value) (l : List UInt8), Rd K w d v t → (∀ g, K g → g < B) → B ≤ w.heap.size → Bs B w o l → l.length + 26 * t.size ≤ 100000000 → t.fitI →
    Calls Tryz.prog 38 #[o, v] w (RwR B w l t.wr)
theorem wrL_mono (ks : List T) (j : Nat) : (T.wrL (ks.take j)).length ≤ (T.wrL ks).length := by
  cases ks with
  | nil => simp
  | cons t r =>
    cases j with
    | zero => simp [T.wrL]
    | succ j =>
      rw [List.take_succ_cons, T.wrL, T.wrL]
      have e := T.wrR_append (r.take j) (r.drop j)
      rw [List.take_append_drop] at e
      rw [e]
      simp only [List.length_append]
      omega
/-- What the loop over a list's values holds. -/
def RwSt (B : Nat) (W0 : World) (l : List UInt8) (ks : List T) (j : Nat) (o : Value) (wr : World) : Prop :=
  ∃ (acc : List UInt8) (a' : Option Addr) (c' : Nat), o = .slice a' acc.length c' ∧ Bs B wr (.slice a' acc.length c') acc ∧ Gk B W0 wr ∧ WOut (l ++ [91]) (T.wrL (ks.take j)) acc
set_option maxRecDepth 100000 in
set_option maxHeartbeats 4000000 in
theorem rwrite_list {B d : Nat} (ih : RwTo B d) (K : Nat → Prop) (w : World) (k n : Int) (x : ByteArray) (a : Option Addr) (c : Nat) (ks : List T) (o : Value) (l : List UInt8) (hk1 : k ≠ 1) (hk2 : k ≠ 2) (hk3 : k ≠ 3) (hk4 : k ≠ 4)
    (h : RdL K w d a ks) (hK : ∀ g, K g → g < B) (hB : B ≤ w.heap.size) (hown : Bs B w o l) (hl : l.length + 26 * (1 + T.sizeL ks) ≤ 100000000) (hf : T.fitIL ks) :
    Calls Tryz.prog 38 #[o, .agg #[.int .i64 k, .int .i64 n, .string x, .slice a ks.length c]] w (RwR B w l (91 :: (T.wrL ks ++ [93]))) := by
  have HGW := hid (Gk.ofExt (Ext.alloc w (.cells #[.int .i64 k, .int .i64 n, .string x, .slice a ks.length c] 27)) hB)
  have HO := hid (hown.alloc (.cells #[.int .i64 k, .int .i64 n, .string x, .slice a ks.length c] 27))
  have HB := hid (show B ≤ (w.alloc (.cells #[.int .i64 k, .int .i64 n, .string x, .slice a ks.length c] 27)).heap.size by rw [blkS]; omega)
  have HBOX := hid (blk0 w (.cells #[.int .i64 k, .int .i64 n, .string x, .slice a ks.length c] 27))
  have HIH := hid ih
  have HA := hid h
  have HKB := hid hK
  have HL := hid hl
  have HF := hid hf
  have hlen : (ks.length : Int) ≤ 140737488355328 := by have := h.1; omega
  have q1 : (k == 1) = false := beq_eq_false_iff_ne.2 hk1
  have q2 : (k == 2) = false := beq_eq_false_iff_ne.2 hk2
  have q3 : (k == 3) = false := beq_eq_false_iff_ne.2 hk3
  have q4 : (k == 4) = false := beq_eq_false_iff_ne.2 hk4
  obtain ⟨ao, c0, rfl⟩ := hown.shape
  clear ih h hown hB hK hf hl
  go_enter Tryz.func38, Tryz.ntmps38
  go_upto_block 0 with fail
  obtain ⟨s0, s1, s2, s3⟩ := four_of HBOX.out
  have hwsz : w.heap.size = w.heap.size := rfl
  generalize HW0 : w.alloc (.cells #[.int .i64 k, .int .i64 n, .string x, .slice a ks.length c] 27) = W0 at *
  have HWX := hid (show Ext w W0 from HW0 ▸ Ext.alloc _ _)
  clear HW0
  go_wp2_with (at_builtin; refine app_litG rfl _ _ rfl rfl B _ l [91] rfl HB.out HO.out rfl rfl rfl (by have := HL.out; simp; omega) ?_; intro a1 c1 w1 ho1 hb1)
  have HO1 := hid ho1
  have HB1 := hid hb1
  clear ho1 hb1 s0 s1 s2 s3
  go_loopw [0, 7] (fun o i wr => ∃ (j : Nat), j ≤ ks.length ∧ i = .int .i64 j ∧ RwSt B W0 l ks j o wr) (fun _ i _ => ks.length - (intOf i).toNat)
  case atStart => exact ⟨0, Nat.zero_le _, rfl, l ++ [91], a1, c1, by simp, HO1.out, HB1.out, .inl (by simp [T.wrL])⟩
  case round =>
    obtain ⟨j, hj, rfl, acc, a', c', rfl, hbs, hbw, hout⟩ := hrel
    have HBS := hid hbs
    have HBW := hid hbw
    have HOUT := hid hout
    have HBZ := hid (Nat.le_trans HB.out hbw.below.size)
    obtain ⟨s0, s1, s2, s3⟩ := four_of (hbw.other _ _ _ (by decide) HBOX.out)
    have hwl := T.wrL_len (ks.take j) (T.fitIL_take HF.out j)
    have hsp := T.sizeL_split ks j
    have hal : acc.length + 2 ≤ 100000000 := by
      have := HL.out
      rcases hout with e | ⟨_, e⟩
      · rw [e]; simp only [List.length_append, List.length_cons, List.length_nil]; omega
      · simp only [List.length_append, List.length_cons, List.length_nil] at e; omega
    clear hbs hbw hout
    by_cases hlt : j < ks.length
    · have hlt' : (j : Int) < ks.length := by omega
      by_cases hmx : acc.length ≤ 1048576
      · have hmx' : (acc.length : Int) ≤ 1048576 := by omega
        have HACC := hid (show l ++ [91] ++ T.wrL (ks.take j) = acc from (HOUT.out.resolve_right (fun h => by omega)).symm)
        have HT := hid (T.wrL_take ks j hlt)
        have hst := T.sizeL_take ks j hlt
        have hs2 := T.sizeL_split ks (j + 1)
        obtain ⟨g, off, k', n', x', a2, l2, c2, rfl, hg, h4, hr⟩ := HA.out.kid hlt
        have HWR := hid (show Below B w wr from HGW.out.below.trans HBW.out.below)
        obtain ⟨m0, m1, m2, m3⟩ := h4.keep (below_kp HWR.out HKB.out) hg
        have hgl := lt_of_cell m0
        have HBD := hid (show acc.length + 2 + 26 * ks[j].size ≤ 100000000 by
          have := HL.out
          rw [← HACC.out]
          simp only [List.length_append, List.length_cons, List.length_nil]
          omega)
        have HC := hid (fun (w2 : World) (o2 : Value) (l2 : List UInt8) (hb : Below B w w2) (ho : Bs B w2 o2 l2) (hz : B ≤ w2.heap.size) (hl2 : l2.length + 26 * ks[j].size ≤ 100000000) =>
          HIH.out _ ks[j] K w2 o2 l2 (hr.keep (below_kp hb HKB.out)) HKB.out hz ho hl2 (T.fitIL_mem HF.out (List.getElem_mem hlt)))
        have hgK := hg
        clear hr h4 hg hwl hsp hst hs2
        by_cases j0 : j = 0
        · have HT' := hid (show l ++ [91] ++ T.wrL (ks.take (j + 1)) = acc ++ ks[j].wr by rw [HT.out, if_pos j0, List.nil_append, ← List.append_assoc, HACC.out])
          have q0 : decide ((0 : Int) < (j : Int)) = false := decide_eq_false (by omega)
          have q5 : (j : Int) ≤ 0 := by omega
          have q6 : ¬ 0 < j := by omega
          clear j0 HT
          go_wp2_with fail
          refine (HC.out _ _ acc HWR.out HBS.out HBZ.out (by have := HBD.out; omega)).mono ?_
          rintro e w2 ⟨m, a3, c3, rfl, ho2, hb2, hw2⟩
          have HREL := hid (show ∃ (j' : Nat), j' ≤ ks.length ∧ Value.int .i64 ((j : Int) + 1) = .int .i64 j' ∧ RwSt B W0 l ks j' (.slice a3 m.length c3) w2 from
            ⟨j + 1, hlt, by go_num, m, a3, c3, rfl, ho2, HBW.out.trans hb2, by unfold WOut at hw2 ⊢; rw [HT'.out]; exact hw2⟩)
          clear ho2 hb2 hw2
          go_wp2_with fail
          go_roundw
          case rel => first | exact HREL.out | ((repeat apply Exists.intro); exact ⟨HREL.out, rfl⟩)
          case measure => simp [intOf]; omega
        · have HT' := hid (show l ++ [91] ++ T.wrL (ks.take (j + 1)) = acc ++ [44, 32] ++ ks[j].wr by rw [HT.out, if_neg j0, ← List.append_assoc, ← List.append_assoc, HACC.out])
          have q5 : (0 : Int) < j := by omega
          have q6 : 0 < j := by omega
          clear HT
          have HFB := hid (fun (w3 : World) (h : Gk B wr w3) => four_of ((HBW.out.trans h).other _ _ _ (by decide) HBOX.out))
          have HM := hid (fun (w3 : World) (h : Gk B wr w3) => Four.keep ⟨m0, m1, m2, m3⟩ (below_kp (K := fun q => q < B) h.below (fun _ h => h)) (show g < B from HKB.out g hgK))
          go_wp2_with (at_builtin; refine app_strG rfl _ _ rfl B _ acc rfl HBZ.out HBS.out ⟨#[44, 32]⟩ rfl (by have := HBD.out; show acc.length + 2 ≤ _; omega) ?_; intro a4 c4 w3 ho3 hb3; obtain ⟨s0, s1, s2, s3⟩ := HFB.out w3 hb3; obtain ⟨m0, m1, m2, m3⟩ := HM.out w3 hb3)
          have HO3 := hid (show Bs B w3 (.slice a4 (acc.length + 2) c4) (acc ++ [44, 32]) by have e : Bs B w3 (.slice a4 (acc ++ [44, 32]).length c4) (acc ++ [44, 32]) := ho3; rw [List.length_append] at e; exact e)
          have HB3 := hid hb3
          have HE3 := hid (show (acc ++ [44, 32]).length = acc.length + 2 by simp)
          clear ho3
          refine (HC.out _ _ (acc ++ [44, 32]) (HWR.out.trans HB3.out.below) HO3.out (Nat.le_trans HBZ.out HB3.out.below.size) (by have := HBD.out; have := HE3.out; omega)).mono ?_
          rintro e w2 ⟨m, a3, c3, rfl, ho2, hb2, hw2⟩
          have HREL := hid (show ∃ (j' : Nat), j' ≤ ks.length ∧ Value.int .i64 ((j : Int) + 1) = .int .i64 j' ∧ RwSt B W0 l ks j' (.slice a3 m.length c3) w2 from
            ⟨j + 1, hlt, by go_num, m, a3, c3, rfl, ho2, (HBW.out.trans HB3.out).trans hb2, by unfold WOut at hw2 ⊢; rw [HT'.out]; exact hw2⟩)
          clear ho2 hb2 hw2 hb3
          go_wp2_with fail
          go_roundw
          case rel => first | exact HREL.out | ((repeat apply Exists.intro); exact ⟨HREL.out, rfl⟩)
          case measure => simp [intOf]; omega
      · have hmx' : ¬ (acc.length : Int) ≤ 1048576 := by omega
        have HF2 := hid (show WOut l (91 :: (T.wrL ks ++ [93])) (acc ++ [93]) by
          refine .inr ⟨by simp; omega, ?_⟩
          have hm := wrL_mono ks j
          rcases HOUT.out with e | ⟨_, e⟩
          · rw [e]; simp only [List.length_append, List.length_cons, List.length_nil]; omega
          · simp only [List.length_append, List.length_cons, List.length_nil] at e ⊢; omega)
        clear hwl hsp
        go_wp2_with (at_builtin; refine app_litG rfl _ _ rfl rfl B _ acc [93] rfl HBZ.out HBS.out rfl rfl rfl (by simp; omega) ?_; intro a2 c2 w2 ho2 hb2)
        go_ret
        exact ⟨acc ++ [93], a2, c2, ret_sl (by simp), ho2, (HGW.out.trans HBW.out).trans hb2, HF2.out⟩
    · have hje : j = ks.length := by omega
      have HF2 := hid (show WOut l (91 :: (T.wrL ks ++ [93])) (acc ++ [93]) by
        have ht : ks.take j = ks := by rw [hje, List.take_length]
        rcases HOUT.out with e | ⟨e0, e⟩
        · exact .inl (by rw [e, ht]; simp)
        · rw [ht] at e
          refine .inr ⟨by simp; omega, ?_⟩
          simp only [List.length_append, List.length_cons, List.length_nil] at e ⊢; omega)
      clear hwl hsp
      go_wp2_with (at_builtin; refine app_litG rfl _ _ rfl rfl B _ acc [93] rfl HBZ.out HBS.out rfl rfl rfl (by simp; omega) ?_; intro a2 c2 w2 ho2 hb2)
      go_ret
      exact ⟨acc ++ [93], a2, c2, ret_sl (by simp), ho2, (HGW.out.trans HBW.out).trans hb2, HF2.out⟩
end Go.Proofs.YtbpbkihcfdnphaaGreatDoor
