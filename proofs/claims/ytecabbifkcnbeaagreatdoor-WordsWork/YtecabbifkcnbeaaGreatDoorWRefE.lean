/-
  The document's package words: rep, by a contract.
-/
import Derived.Test.YtecabbifkcnbeaaGreatDoorWRefB
import Derived.Test.YtecabbifkcnbeaaGreatDoorWRefD
import Derived.Test.YtecabbifkcnbeaaGreatDoorWOps
namespace Go.Proofs.YtecabbifkcnbeaaGreatDoor
open Go.RowKit
/-- What the document's rep answers. -/
def repR (s : ByteArray) (n : Int) : Value := if n < 0 then .tuple #[plV 0 0 ⟨#[]⟩, .int .i64 23] else if s.size = 0 then .tuple #[plV 4 0 ⟨#[]⟩, .int .i64 0] else if n ≤ (65535 / s.size : Nat) then .tuple #[plV 4 0 (repS s n.toNat), .int .i64 0] else .tuple #[plV 0 0 ⟨#[]⟩, .int .i64 2]
theorem rep_snoc (l : List UInt8) (j : Nat) : Lib.repeatL l j ++ l = Lib.repeatL l (j + 1) := by
  rw [Lib.repeatL_add, Lib.repeatL_one]
theorem tup_eq {V V' : Value} (h : V' = V) : Ending.returned V = Ending.returned V' := by rw [h]
set_option maxRecDepth 100000 in
set_option maxHeartbeats 2000000 in
theorem rrep_any10 (s : ByteArray) (n : Int) (hs : s.size ≤ 65535) (hn : inR n) (w : World) : Calls Tryz.prog 65 #[.string s, .int .i64 n] w fun e w' => e = .returned (repR s n) ∧ Ext w w' := by
  have hs' : (s.size : Int) ≤ 65535 := by omega
  obtain ⟨hn1, hn2⟩ := hn
  have HBK := hid (blk0 w (.cells #[.int .i64 0, .int .i64 0, .string ⟨#[]⟩, .slice none 0 0] 34))
  obtain ⟨z0, z1, z2, z3⟩ := four_of HBK.out
  obtain ⟨f0, f1, f2, f3⟩ := four_free HBK.out
  have HX := hid (Ext.alloc w (.cells #[.int .i64 0, .int .i64 0, .string ⟨#[]⟩, .slice none 0 0] 34))
  by_cases h0 : n < 0
  · have HV := hid (show repR s n = .tuple #[plV 0 0 ⟨#[]⟩, .int .i64 23] from if_pos h0)
    go_enter Tryz.func65, Tryz.ntmps65
    go_wp2_with fail
    refine bodyPost_ret (v := .tuple #[plV 0 0 ⟨#[]⟩, .int .i64 23]) (by simp [results, Tryz.results65, go_sem, z0, z1, z2, z3, plV]) rfl ?_
    exact ⟨tup_eq HV.out, HX.out⟩
  by_cases hz : s.size = 0
  · have HV := hid (show repR s n = .tuple #[plV 4 0 ⟨#[]⟩, .int .i64 0] by unfold repR; rw [if_neg h0, if_pos hz])
    obtain rfl := arr_nil hz
    clear hz
    go_enter Tryz.func65, Tryz.ntmps65
    go_wp2_with fail
    refine (rtext_any10 _ _).mono ?_
    rintro e w1 ⟨rfl, hx1⟩
    have HX1 := hid (HX.out.trans hx1)
    have HB1 := hid (hx1.block HBK.out)
    clear hx1 z0 z1 z2 z3 f0 f1 f2 f3
    obtain ⟨z0, z1, z2, z3⟩ := four_of HB1.out
    obtain ⟨f0, f1, f2, f3⟩ := four_free HB1.out
    unfold plV
    go_wp2_with fail
    have HB2 := hid (four_set (u0 := .int .i64 4) (u1 := .int .i64 0) (u2 := .string ⟨#[]⟩) (u3 := .slice none 0 0) HB1.out)
    have HE := hid ((Kp.set4 w1 w.heap.size 0 (.int .i64 4) (.int .i64 0) (.string ⟨#[]⟩) (.slice none 0 0)).extOf HX1.out (Nat.le_refl _))
    obtain ⟨y0, y1, y2, y3⟩ := four_of HB2.out
    refine bodyPost_ret (v := .tuple #[plV 4 0 ⟨#[]⟩, .int .i64 0]) (by simp [results, Tryz.results65, go_sem, y0, y1, y2, y3, plV]) rfl ?_
    exact ⟨tup_eq HV.out, HE.out⟩
  have hz' : 1 ≤ (s.size : Int) := by omega
  obtain ⟨e0, e1⟩ := empty_ne hz
  by_cases hb : n ≤ (65535 / s.size : Nat)
  case neg =>
    have HV := hid (show repR s n = .tuple #[plV 0 0 ⟨#[]⟩, .int .i64 2] by unfold repR; rw [if_neg h0, if_neg hz, if_neg hb])
    have hb2 : ¬ n * (s.size : Int) ≤ 65535 := fun h => hb (by
      obtain ⟨c, rfl⟩ : ∃ c : Nat, n = c := ⟨n.toNat, by omega⟩
      have h2 : c * s.size ≤ 65535 := Int.ofNat_le.1 (show ((c * s.size : Nat) : Int) ≤ ((65535 : Nat) : Int) by rw [Int.natCast_mul]; exact h)
      have := (Nat.le_div_iff_mul_le (k := s.size) (x := c) (y := 65535) (by omega)).2 h2
      exact Int.ofNat_le.2 this)
    clear hb hz
    by_cases hc : (65535 : Int) < n
    · go_enter Tryz.func65, Tryz.ntmps65
      go_wp2_with fail
      refine bodyPost_ret (v := .tuple #[plV 0 0 ⟨#[]⟩, .int .i64 2]) (by simp [results, Tryz.results65, go_sem, z0, z1, z2, z3, plV]) rfl ?_
      exact ⟨tup_eq HV.out, HX.out⟩
    · have m1 : n * (s.size : Int) ≤ 65535 * 65535 := Int.mul_le_mul (by omega) hs' (by omega) (by omega)
      obtain ⟨p, hp⟩ : ∃ p, n * (s.size : Int) = p := ⟨_, rfl⟩
      have HP := hid hp
      rw [hp] at hb2 m1
      have p1 : -9223372036854775808 ≤ p := by omega
      have p2 : p ≤ 9223372036854775807 := by omega
      have p3 : (65535 : Int) < p := by omega
      clear hb2 m1
      go_enter Tryz.func65, Tryz.ntmps65
      go_wp2_with fail
      refine bodyPost_ret (v := .tuple #[plV 0 0 ⟨#[]⟩, .int .i64 2]) (by simp [results, Tryz.results65, go_sem, z0, z1, z2, z3, plV]) rfl ?_
      exact ⟨tup_eq HV.out, HX.out⟩
  obtain ⟨m, rfl⟩ : ∃ m : Nat, n = m := ⟨n.toNat, by omega⟩
  have hm : m * s.size ≤ 65535 := (Nat.le_div_iff_mul_le (by omega)).1 (Int.ofNat_le.1 hb)
  have hm2 : m ≤ 65535 := Nat.le_trans (Nat.le_mul_of_pos_right m (by omega)) hm
  have HV := hid (show repR s (m : Int) = .tuple #[plV 4 0 (repS s m), .int .i64 0] by unfold repR; rw [if_neg h0, if_neg hz, if_pos hb, Int.toNat_natCast])
  have HL := hid (show ∀ j, j ≤ m → (Lib.repeatL s.data.toList j).length ≤ 65535 from fun j hj => by
    rw [Lib.repeatL_length, Array.length_toList]
    exact Nat.le_trans (Nat.mul_le_mul_right s.size hj) hm)
  have HS := hid (show ∀ j, Lib.repeatL s.data.toList j ++ s.data.toList = Lib.repeatL s.data.toList (j + 1) from fun j => rep_snoc _ j)
  have hm3 : (m : Int) * (s.size : Int) ≤ 65535 := by rw [← Int.natCast_mul]; exact Int.ofNat_le.2 hm
  have hm4 : 0 ≤ (m : Int) * (s.size : Int) := Int.mul_nonneg (by omega) (by omega)
  obtain ⟨p, hp⟩ : ∃ p, (m : Int) * (s.size : Int) = p := ⟨_, rfl⟩
  rw [hp] at hm3 hm4
  have p1 : -9223372036854775808 ≤ p := by omega
  have p2 : p ≤ 9223372036854775807 := by omega
  have p3 : ¬ (65535 : Int) < p := by omega
  have p4 : ¬ (65535 : Int) < (m : Int) := by omega
  have p5 : ¬ (m : Int) < 0 := by omega
  clear hb hm z0 z1 z2 z3 f0 f1 f2 f3 h0 hz
  go_enter Tryz.func65, Tryz.ntmps65
  go_wp2_with fail
  go_loopw [6, 7] (fun q6 q7 wr => ∃ (j : Nat) (ao : Option Addr) (c : Nat), j ≤ m ∧ q7 = .int .i64 j ∧ q6 = .slice ao (Lib.repeatL s.data.toList j).length c ∧ Bs (w.heap.size + 1) wr (.slice ao (Lib.repeatL s.data.toList j).length c) (Lib.repeatL s.data.toList j) ∧ wr.heap[w.heap.size]? = some (.cells #[.int .i64 0, .int .i64 0, .string ⟨#[]⟩, .slice none 0 0] 34) ∧ Ext w wr ∧ w.heap.size + 1 ≤ wr.heap.size) (fun _ q7 _ => m - (intOf q7).toNat)
  case atStart => exact ⟨0, none, 0, Nat.zero_le _, rfl, rfl, Bs.nil _ _, HBK.out, HX.out, by rw [blkS]; omega⟩
  case round =>
    obtain ⟨j, ao, c, hj, rfl, rfl, hbs, hbk, hx, hsz⟩ := hrel
    have HBS := hid hbs
    have HBW := hid hbk
    have X := hid hx
    have HSZ := hid hsz
    clear hbs hbk hx hsz HBK
    by_cases hlt : j < m
    · have hlt' : (j : Int) < (m : Int) := by omega
      have HLJ := hid (show (Lib.repeatL s.data.toList j).length + s.size ≤ 140737488355328 by have := HL.out j hj; omega)
      have HSJ := hid (HS.out j)
      go_wp2_with (at_builtin; refine app_strG rfl _ _ rfl (w.heap.size + 1) _ (Lib.repeatL s.data.toList j) rfl HSZ.out HBS.out s rfl HLJ.out ?_; intro a9 c9 w9 hb9 hg9)
      have HB9 := hid hb9
      rw [HSJ.out] at HB9
      have HG9 := hid hg9
      clear hb9 hg9
      go_roundw
      case rel => exact ⟨j + 1, a9, c9, hlt, by go_num, by rw [← HSJ.out, List.length_append, Array.length_toList]; rfl, HB9.out, (HG9.out.below.block w.heap.size (by omega)).trans HBW.out, Below.trans X.out (HG9.out.below.mono (by omega)), Nat.le_trans HSZ.out HG9.out.below.size⟩
      case measure => simp [intOf]; omega
    · obtain rfl : j = m := by omega
      have hlt3 : ¬ (j : Int) < (j : Int) := by omega
      have hcv := HBS.out.convert
      obtain ⟨z0, z1, z2, z3⟩ := four_of HBW.out
      go_wp2_with fail
      refine (rtext_any10 _ _).mono ?_
      rintro e w4 ⟨rfl, hx4⟩
      have HX4 := hid (X.out.trans hx4)
      have HB4 := hid (hx4.block HBW.out)
      clear hx4 z0 z1 z2 z3 hcv
      obtain ⟨z0, z1, z2, z3⟩ := four_of HB4.out
      obtain ⟨f0, f1, f2, f3⟩ := four_free HB4.out
      unfold plV
      go_wp2_with fail
      have HB2 := hid (four_set (u0 := .int .i64 4) (u1 := .int .i64 0) (u2 := .string ⟨(Lib.repeatL s.data.toList j).toArray⟩) (u3 := .slice none 0 0) HB4.out)
      have HE := hid ((Kp.set4 w4 w.heap.size 0 (.int .i64 4) (.int .i64 0) (.string ⟨(Lib.repeatL s.data.toList j).toArray⟩) (.slice none 0 0)).extOf HX4.out (Nat.le_refl _))
      obtain ⟨y0, y1, y2, y3⟩ := four_of HB2.out
      refine bodyPost_ret (v := .tuple #[plV 4 0 (repS s j), .int .i64 0]) (by simp [results, Tryz.results65, go_sem, y0, y1, y2, y3, plV, repS]) rfl ?_
      exact ⟨tup_eq HV.out, HE.out⟩
end Go.Proofs.YtecabbifkcnbeaaGreatDoor
/-
  The document's package words: work, operation by operation, by contracts (join, size, find, less, of, rep).
-/
set_option linter.unusedSimpArgs false
namespace Go.Proofs.YtecabbifkcnbeaaGreatDoor
open Go.RowKit
def T2 (k n : Int) (x : ByteArray) (c : Int) : Value := .tuple #[plV k n x, .int .i64 c]
theorem Rd.text_eq {K : Nat → Prop} {w : World} {d : Nat} {k n : Int} {x : ByteArray} {sv : Value} {k' n' : Int} {x' : ByteArray} {ks : List T} (h : Rd K w d (.agg #[.int .i64 k, .int .i64 n, .string x, sv]) (.node k' n' x' ks)) : x = x' := by
  cases d with
  | zero => exact h.elim
  | succ d =>
    obtain ⟨a, c, e, _⟩ := h
    simp only [Value.agg.injEq, Array.mk.injEq, List.cons.injEq, Value.string.injEq] at e
    exact e.2.2.1
set_option maxRecDepth 100000 in
set_option maxHeartbeats 1000000 in
theorem rwk10_size {K : Nat → Prop} {d : Nat} (a : Option Addr) (c : Nat) (s : ByteArray) (hs : s.size ≤ 65535) (w : World) (h : RdL K w d a [textT s]) : Calls Tryz.prog 33 #[.string ⟨#[119, 111, 114, 100, 115, 46, 115, 105, 122, 101]⟩, .slice a 1 c] w fun e w' => e = .returned (T2 3 s.size ⟨#[]⟩ 0) ∧ Ext w w' := by
  obtain ⟨g, off, k0, n0, x0, q0, l0, c0, rfl, hg, h40, hr0⟩ := h.kid (j := 0) (Nat.le_of_ble_eq_true rfl)
  obtain rfl : x0 = s := Rd.text_eq (k := k0) (n := n0) hr0
  have H40 := hid (show ∀ w1, Ext w w1 → Four w1 g off (.int .i64 k0) (.int .i64 n0) (.string x0) (.slice q0 l0 c0) from fun w1 hx => by have h := Four.keep h40 (hx.kp K) hg; rwa [Nat.zero_mul, Nat.add_zero] at h)
  have HX := hid (Ext.alloc w (.cells #[.int .i64 0, .int .i64 0, .string ⟨#[]⟩, .slice none 0 0] 34))
  have HB := hid (blk0 w (.cells #[.int .i64 0, .int .i64 0, .string ⟨#[]⟩, .slice none 0 0] 34))
  obtain ⟨z0, z1, z2, z3⟩ := four_of HB.out
  obtain ⟨f0, f1, f2, f3⟩ := four_free HB.out
  obtain ⟨o0, o1, o2, o3⟩ := H40.out _ HX.out
  have hgl := lt_of_cell o0
  clear h hg h40 hr0
  have HV := hid (show T2 3 x0.size ⟨#[]⟩ 0 = T2 3 x0.size ⟨#[]⟩ 0 from rfl)
  have hs' : (x0.size : Int) ≤ 65535 := by omega
  go_enter Tryz.func33, Tryz.ntmps33
  go_wp2_with fail
  refine (rnum_any10 _ _).mono ?_
  rintro e w1 ⟨rfl, hx⟩
  have HX1 := hid (HX.out.trans hx)
  have HB1 := hid (hx.block HB.out)
  clear hx z0 z1 z2 z3 f0 f1 f2 f3
  obtain ⟨z0, z1, z2, z3⟩ := four_of HB1.out
  obtain ⟨f0, f1, f2, f3⟩ := four_free HB1.out
  unfold plV
  go_wp2_with fail
  have HB9 := hid (four_set (u0 := .int .i64 3) (u1 := .int .i64 x0.size) (u2 := .string ⟨#[]⟩) (u3 := .slice none 0 0) HB1.out)
  have HE := hid ((Kp.set4 w1 w.heap.size 0 (.int .i64 3) (.int .i64 x0.size) (.string ⟨#[]⟩) (.slice none 0 0)).extOf HX1.out (Nat.le_refl _))
  obtain ⟨y0, y1, y2, y3⟩ := four_of HB9.out
  refine bodyPost_ret (v := T2 3 x0.size ⟨#[]⟩ 0) (by simp [results, Tryz.results33, go_sem, y0, y1, y2, y3, plV, T2]) rfl ?_
  exact ⟨rfl, HE.out⟩
set_option maxRecDepth 100000 in
set_option maxHeartbeats 1000000 in
theorem rwk10_find {K : Nat → Prop} {d : Nat} (a : Option Addr) (c : Nat) (s : ByteArray) (t : ByteArray) (hs : s.size ≤ 65535) (ht : t.size ≤ 65535) (w : World) (h : RdL K w d a [textT s, textT t]) : Calls Tryz.prog 33 #[.string ⟨#[119, 111, 114, 100, 115, 46, 102, 105, 110, 100]⟩, .slice a 2 c] w fun e w' => e = .returned (T2 3 (Lib.index s.data.toList t.data.toList) ⟨#[]⟩ 0) ∧ Ext w w' := by
  obtain ⟨g, off, k0, n0, x0, q0, l0, c0, rfl, hg, h40, hr0⟩ := h.kid (j := 0) (Nat.le_of_ble_eq_true rfl)
  obtain rfl : x0 = s := Rd.text_eq (k := k0) (n := n0) hr0
  obtain ⟨g1, off1, k1, n1, x1, q1, l1, c1, e1, _, h41, hr1⟩ := h.kid (j := 1) (Nat.le_of_ble_eq_true rfl)
  obtain rfl : x1 = t := Rd.text_eq (k := k1) (n := n1) hr1
  obtain ⟨rfl, rfl⟩ : g = g1 ∧ off = off1 := by injection e1 with e1; injection e1 with e1 e2; exact ⟨e1, e2⟩
  clear e1
  have H40 := hid (show ∀ w1, Ext w w1 → Four w1 g off (.int .i64 k0) (.int .i64 n0) (.string x0) (.slice q0 l0 c0) from fun w1 hx => by have h := Four.keep h40 (hx.kp K) hg; rwa [Nat.zero_mul, Nat.add_zero] at h)
  have H41 := hid (show ∀ w1, Ext w w1 → Four w1 g (off + 4) (.int .i64 k1) (.int .i64 n1) (.string x1) (.slice q1 l1 c1) from fun w1 hx => by have h := Four.keep h41 (hx.kp K) hg; rwa [Nat.one_mul] at h)
  have HX := hid (Ext.alloc w (.cells #[.int .i64 0, .int .i64 0, .string ⟨#[]⟩, .slice none 0 0] 34))
  have HB := hid (blk0 w (.cells #[.int .i64 0, .int .i64 0, .string ⟨#[]⟩, .slice none 0 0] 34))
  obtain ⟨z0, z1, z2, z3⟩ := four_of HB.out
  obtain ⟨f0, f1, f2, f3⟩ := four_free HB.out
  obtain ⟨o0, o1, o2, o3⟩ := H40.out _ HX.out
  have hgl := lt_of_cell o0
  obtain ⟨p0, p1, p2, p3⟩ := H41.out _ HX.out
  clear h hg h40 hr0 h41 hr1
  have HF := hid (fun W => rfind_any10 x0 x1 hs ht W)
  obtain ⟨r, hr⟩ : ∃ r, Lib.index x0.data.toList x1.data.toList = r := ⟨_, rfl⟩
  rw [hr] at HF ⊢
  clear hr
  have HV := hid (show T2 3 r ⟨#[]⟩ 0 = T2 3 r ⟨#[]⟩ 0 from rfl)
  go_enter Tryz.func33, Tryz.ntmps33
  go_wp2_with fail
  refine (HF.out _).mono ?_
  rintro e w0 ⟨rfl, rfl⟩
  go_wp2_with fail
  refine (rnum_any10 _ _).mono ?_
  rintro e w1 ⟨rfl, hx⟩
  have HX1 := hid (HX.out.trans hx)
  have HB1 := hid (hx.block HB.out)
  clear hx z0 z1 z2 z3 f0 f1 f2 f3
  obtain ⟨z0, z1, z2, z3⟩ := four_of HB1.out
  obtain ⟨f0, f1, f2, f3⟩ := four_free HB1.out
  unfold plV
  go_wp2_with fail
  have HB9 := hid (four_set (u0 := .int .i64 3) (u1 := .int .i64 r) (u2 := .string ⟨#[]⟩) (u3 := .slice none 0 0) HB1.out)
  have HE := hid ((Kp.set4 w1 w.heap.size 0 (.int .i64 3) (.int .i64 r) (.string ⟨#[]⟩) (.slice none 0 0)).extOf HX1.out (Nat.le_refl _))
  obtain ⟨y0, y1, y2, y3⟩ := four_of HB9.out
  refine bodyPost_ret (v := T2 3 r ⟨#[]⟩ 0) (by simp [results, Tryz.results33, go_sem, y0, y1, y2, y3, plV, T2]) rfl ?_
  exact ⟨rfl, HE.out⟩
set_option maxRecDepth 100000 in
set_option maxHeartbeats 1000000 in
theorem rwk10_less {K : Nat → Prop} {d : Nat} (a : Option Addr) (c : Nat) (s : ByteArray) (t : ByteArray)  (w : World) (h : RdL K w d a [textT s, textT t]) : Calls Tryz.prog 33 #[.string ⟨#[119, 111, 114, 100, 115, 46, 108, 101, 115, 115]⟩, .slice a 2 c] w fun e w' => e = .returned (T2 2 (tellI (Op.bytesLess s.toList t.toList)) ⟨#[]⟩ 0) ∧ Ext w w' := by
  obtain ⟨g, off, k0, n0, x0, q0, l0, c0, rfl, hg, h40, hr0⟩ := h.kid (j := 0) (Nat.le_of_ble_eq_true rfl)
  obtain rfl : x0 = s := Rd.text_eq (k := k0) (n := n0) hr0
  obtain ⟨g1, off1, k1, n1, x1, q1, l1, c1, e1, _, h41, hr1⟩ := h.kid (j := 1) (Nat.le_of_ble_eq_true rfl)
  obtain rfl : x1 = t := Rd.text_eq (k := k1) (n := n1) hr1
  obtain ⟨rfl, rfl⟩ : g = g1 ∧ off = off1 := by injection e1 with e1; injection e1 with e1 e2; exact ⟨e1, e2⟩
  clear e1
  have H40 := hid (show ∀ w1, Ext w w1 → Four w1 g off (.int .i64 k0) (.int .i64 n0) (.string x0) (.slice q0 l0 c0) from fun w1 hx => by have h := Four.keep h40 (hx.kp K) hg; rwa [Nat.zero_mul, Nat.add_zero] at h)
  have H41 := hid (show ∀ w1, Ext w w1 → Four w1 g (off + 4) (.int .i64 k1) (.int .i64 n1) (.string x1) (.slice q1 l1 c1) from fun w1 hx => by have h := Four.keep h41 (hx.kp K) hg; rwa [Nat.one_mul] at h)
  have HX := hid (Ext.alloc w (.cells #[.int .i64 0, .int .i64 0, .string ⟨#[]⟩, .slice none 0 0] 34))
  have HB := hid (blk0 w (.cells #[.int .i64 0, .int .i64 0, .string ⟨#[]⟩, .slice none 0 0] 34))
  obtain ⟨z0, z1, z2, z3⟩ := four_of HB.out
  obtain ⟨f0, f1, f2, f3⟩ := four_free HB.out
  obtain ⟨o0, o1, o2, o3⟩ := H40.out _ HX.out
  have hgl := lt_of_cell o0
  obtain ⟨p0, p1, p2, p3⟩ := H41.out _ HX.out
  clear h hg h40 hr0 h41 hr1
  obtain ⟨r, hr⟩ : ∃ r, Op.bytesLess x0.toList x1.toList = r := ⟨_, rfl⟩
  rw [hr]
  have HR := hid hr
  have HV := hid (show T2 2 (tellI r) ⟨#[]⟩ 0 = T2 2 (tellI r) ⟨#[]⟩ 0 from rfl)
  go_enter Tryz.func33, Tryz.ntmps33
  go_wp2_with fail
  refine (rtruth_any10 _ _).mono ?_
  rintro e w1 ⟨rfl, hx⟩
  have HX1 := hid (HX.out.trans hx)
  have HB1 := hid (hx.block HB.out)
  clear hx z0 z1 z2 z3 f0 f1 f2 f3
  obtain ⟨z0, z1, z2, z3⟩ := four_of HB1.out
  obtain ⟨f0, f1, f2, f3⟩ := four_free HB1.out
  unfold plV
  go_wp2_with fail
  have HB9 := hid (four_set (u0 := .int .i64 2) (u1 := .int .i64 (tellI r)) (u2 := .string ⟨#[]⟩) (u3 := .slice none 0 0) HB1.out)
  have HE := hid ((Kp.set4 w1 w.heap.size 0 (.int .i64 2) (.int .i64 (tellI r)) (.string ⟨#[]⟩) (.slice none 0 0)).extOf HX1.out (Nat.le_refl _))
  obtain ⟨y0, y1, y2, y3⟩ := four_of HB9.out
  refine bodyPost_ret (v := T2 2 (tellI r) ⟨#[]⟩ 0) (by simp [results, Tryz.results33, go_sem, y0, y1, y2, y3, plV, T2]) rfl ?_
  exact ⟨rfl, HE.out⟩
set_option maxRecDepth 100000 in
set_option maxHeartbeats 1000000 in
theorem rwk10_of {K : Nat → Prop} {d : Nat} (a : Option Addr) (c : Nat) (a0 : Int) (ha : inR a0) (w : World) (h : RdL K w d a [intT a0]) : Calls Tryz.prog 33 #[.string ⟨#[119, 111, 114, 100, 115, 46, 111, 102]⟩, .slice a 1 c] w fun e w' => e = .returned (T2 4 0 (itoaS a0) 0) ∧ Ext w w' := by
  obtain ⟨g, off, k0, n0, x0, q0, l0, c0, rfl, hg, h40, hr0⟩ := h.kid (j := 0) (Nat.le_of_ble_eq_true rfl)
  obtain rfl : n0 = a0 := hr0.num_eq.symm
  have H40 := hid (show ∀ w1, Ext w w1 → Four w1 g off (.int .i64 k0) (.int .i64 n0) (.string x0) (.slice q0 l0 c0) from fun w1 hx => by have h := Four.keep h40 (hx.kp K) hg; rwa [Nat.zero_mul, Nat.add_zero] at h)
  have HX := hid (Ext.alloc w (.cells #[.int .i64 0, .int .i64 0, .string ⟨#[]⟩, .slice none 0 0] 34))
  have HB := hid (blk0 w (.cells #[.int .i64 0, .int .i64 0, .string ⟨#[]⟩, .slice none 0 0] 34))
  obtain ⟨z0, z1, z2, z3⟩ := four_of HB.out
  obtain ⟨f0, f1, f2, f3⟩ := four_free HB.out
  obtain ⟨o0, o1, o2, o3⟩ := H40.out _ HX.out
  have hgl := lt_of_cell o0
  clear h hg h40 hr0
  have HD := hid (fun W => rdigits_any n0 ha.1 ha.2 W)
  generalize itoaS n0 = r at *
  have HV := hid (show T2 4 0 r 0 = T2 4 0 r 0 from rfl)
  go_enter Tryz.func33, Tryz.ntmps33
  go_wp2_with fail
  refine (HD.out _).mono ?_
  rintro e w1 ⟨rfl, hx⟩
  have HX1 := hid (HX.out.trans hx)
  have HB1 := hid (hx.block HB.out)
  clear hx z0 z1 z2 z3 f0 f1 f2 f3
  obtain ⟨z0, z1, z2, z3⟩ := four_of HB1.out
  obtain ⟨f0, f1, f2, f3⟩ := four_free HB1.out
  go_wp2_with fail
  refine (rtext_any10 _ _).mono ?_
  rintro e w2 ⟨rfl, hx⟩
  have HX2 := hid (HX1.out.trans hx)
  have HB2 := hid (hx.block HB1.out)
  clear hx z0 z1 z2 z3 f0 f1 f2 f3
  obtain ⟨z0, z1, z2, z3⟩ := four_of HB2.out
  obtain ⟨f0, f1, f2, f3⟩ := four_free HB2.out
  unfold plV
  go_wp2_with fail
  have HB9 := hid (four_set (u0 := .int .i64 4) (u1 := .int .i64 0) (u2 := .string r) (u3 := .slice none 0 0) HB2.out)
  have HE := hid ((Kp.set4 w2 w.heap.size 0 (.int .i64 4) (.int .i64 0) (.string r) (.slice none 0 0)).extOf HX2.out (Nat.le_refl _))
  obtain ⟨y0, y1, y2, y3⟩ := four_of HB9.out
  refine bodyPost_ret (v := T2 4 0 r 0) (by simp [results, Tryz.results33, go_sem, y0, y1, y2, y3, plV, T2]) rfl ?_
  exact ⟨rfl, HE.out⟩
set_option maxRecDepth 100000 in
set_option maxHeartbeats 1000000 in
theorem rwk10_join {K : Nat → Prop} {d : Nat} (a : Option Addr) (c : Nat) (s : ByteArray) (t : ByteArray) (hs : s.size ≤ 65535) (ht : t.size ≤ 65535) (w : World) (h : RdL K w d a [textT s, textT t]) : Calls Tryz.prog 33 #[.string ⟨#[119, 111, 114, 100, 115, 46, 106, 111, 105, 110]⟩, .slice a 2 c] w fun e w' => e = .returned (if s.size + t.size ≤ 65535 then T2 4 0 (s ++ t) 0 else T2 0 0 ⟨#[]⟩ 2) ∧ Ext w w' := by
  obtain ⟨g, off, k0, n0, x0, q0, l0, c0, rfl, hg, h40, hr0⟩ := h.kid (j := 0) (Nat.le_of_ble_eq_true rfl)
  obtain rfl : x0 = s := Rd.text_eq (k := k0) (n := n0) hr0
  obtain ⟨g1, off1, k1, n1, x1, q1, l1, c1, e1, _, h41, hr1⟩ := h.kid (j := 1) (Nat.le_of_ble_eq_true rfl)
  obtain rfl : x1 = t := Rd.text_eq (k := k1) (n := n1) hr1
  obtain ⟨rfl, rfl⟩ : g = g1 ∧ off = off1 := by injection e1 with e1; injection e1 with e1 e2; exact ⟨e1, e2⟩
  clear e1
  have H40 := hid (show ∀ w1, Ext w w1 → Four w1 g off (.int .i64 k0) (.int .i64 n0) (.string x0) (.slice q0 l0 c0) from fun w1 hx => by have h := Four.keep h40 (hx.kp K) hg; rwa [Nat.zero_mul, Nat.add_zero] at h)
  have H41 := hid (show ∀ w1, Ext w w1 → Four w1 g (off + 4) (.int .i64 k1) (.int .i64 n1) (.string x1) (.slice q1 l1 c1) from fun w1 hx => by have h := Four.keep h41 (hx.kp K) hg; rwa [Nat.one_mul] at h)
  have HX := hid (Ext.alloc w (.cells #[.int .i64 0, .int .i64 0, .string ⟨#[]⟩, .slice none 0 0] 34))
  have HB := hid (blk0 w (.cells #[.int .i64 0, .int .i64 0, .string ⟨#[]⟩, .slice none 0 0] 34))
  obtain ⟨z0, z1, z2, z3⟩ := four_of HB.out
  obtain ⟨f0, f1, f2, f3⟩ := four_free HB.out
  obtain ⟨o0, o1, o2, o3⟩ := H40.out _ HX.out
  have hgl := lt_of_cell o0
  obtain ⟨p0, p1, p2, p3⟩ := H41.out _ HX.out
  clear h hg h40 hr0 h41 hr1
  have hadd := fun W => run_string_add_sum (P := Tryz.prog) (w := W) x0 x1 (by omega)
  have hs' : (x0.size : Int) ≤ 65535 := by omega
  have ht' : (x1.size : Int) ≤ 65535 := by omega
  by_cases hc : x0.size + x1.size ≤ 65535
  · have HV := hid (show (if x0.size + x1.size ≤ 65535 then T2 4 0 (x0 ++ x1) 0 else T2 0 0 ⟨#[]⟩ 2) = T2 4 0 (x0 ++ x1) 0 from if_pos hc)
    have hc' : ¬ (65535 : Int) < (x0.size : Int) + x1.size := by omega
    clear hc
    go_enter Tryz.func33, Tryz.ntmps33
    go_wp2_with fail
    refine (rtext_any10 _ _).mono ?_
    rintro e w1 ⟨rfl, hx⟩
    have HX1 := hid (HX.out.trans hx)
    have HB1 := hid (hx.block HB.out)
    clear hx z0 z1 z2 z3 f0 f1 f2 f3
    obtain ⟨z0, z1, z2, z3⟩ := four_of HB1.out
    obtain ⟨f0, f1, f2, f3⟩ := four_free HB1.out
    unfold plV
    go_wp2_with fail
    have HB9 := hid (four_set (u0 := .int .i64 4) (u1 := .int .i64 0) (u2 := .string (x0 ++ x1)) (u3 := .slice none 0 0) HB1.out)
    have HE := hid ((Kp.set4 w1 w.heap.size 0 (.int .i64 4) (.int .i64 0) (.string (x0 ++ x1)) (.slice none 0 0)).extOf HX1.out (Nat.le_refl _))
    obtain ⟨y0, y1, y2, y3⟩ := four_of HB9.out
    refine bodyPost_ret (v := T2 4 0 (x0 ++ x1) 0) (by simp [results, Tryz.results33, go_sem, y0, y1, y2, y3, plV, T2]) rfl ?_
    exact ⟨rfl, HE.out⟩
  · have HV := hid (show (if x0.size + x1.size ≤ 65535 then T2 4 0 (x0 ++ x1) 0 else T2 0 0 ⟨#[]⟩ 2) = T2 0 0 ⟨#[]⟩ 2 from if_neg hc)
    have hc' : (65535 : Int) < (x0.size : Int) + x1.size := by omega
    clear hc
    go_enter Tryz.func33, Tryz.ntmps33
    go_wp2_with fail
    refine bodyPost_ret (v := T2 0 0 ⟨#[]⟩ 2) (by simp [results, Tryz.results33, go_sem, z0, z1, z2, z3, plV, T2]) rfl ?_
    exact ⟨rfl, HX.out⟩

end Go.Proofs.YtecabbifkcnbeaaGreatDoor
