/-
  The document's answer beside the program's: the plain value of what it gives, none beside a fault; its list may be any list of length 0.
-/
import Derived.Test.YtecabbifkcnbeaaGreatDoorWRefD
import Derived.Test.YtecabbifkcnbeaaGreatDoorWRefE
import Derived.Deep.QuietTactic
import Derived.BigQuiet
import Derived.Test.YtecabbifkcnbeaaGreatDoorVal
import Derived.Test.YtecabbifkcnbeaaGreatDoorComp
import Derived.Test.YtecabbifkcnbeaaGreatDoorWrite
import Derived.Test.YtecabbifkcnbeaaGreatDoorShelf
namespace Go.Proofs.YtecabbifkcnbeaaGreatDoor
open Go.RowKit
/-- What the document's plain value and number have to be beside the program's answer. -/
def RefT (V : Value) (k m : Int) (x : ByteArray) (ec : Int) : Prop := (V = cameV m ∧ k = 3 ∧ x = ⟨#[]⟩ ∧ ec = 0) ∨ (∃ b, V = toldV b ∧ k = 2 ∧ m = tellI b ∧ x = ⟨#[]⟩ ∧ ec = 0) ∨
  (x.size ≤ 65535 ∧ V = wroteV x ∧ k = 4 ∧ m = 0 ∧ ec = 0) ∨ ((ec == 0) = false ∧ V = refV ec ∧ k = 0 ∧ m = 0 ∧ x = ⟨#[]⟩)
theorem RefT.came (n : Int) : RefT (cameV n) 3 n ⟨#[]⟩ 0 := .inl ⟨rfl, rfl, rfl, rfl⟩
theorem RefT.told (b : Bool) : RefT (toldV b) 2 (tellI b) ⟨#[]⟩ 0 := .inr (.inl ⟨b, rfl, rfl, rfl, rfl, rfl⟩)
theorem RefT.wrote {s : ByteArray} (h : s.size ≤ 65535) : RefT (wroteV s) 4 0 s 0 := .inr (.inr (.inl ⟨h, rfl, rfl, rfl, rfl⟩))
theorem RefT.ref {c : Int} (h : (c == 0) = false) : RefT (refV c) 0 0 ⟨#[]⟩ c := .inr (.inr (.inr ⟨h, rfl, rfl, rfl, rfl⟩))
/-- The document's answer beside the program's. -/
def RefOf (V R : Value) : Prop := ∃ k m x ec q c, RefT V k m x ec ∧ R = .tuple #[plS k m x q 0 c, .int .i64 ec, .string ⟨#[]⟩]
def RefR (w : World) (V : Value) (e : Ending) (w' : World) : Prop := ∃ R, e = .returned R ∧ RefOf V R ∧ Ext w w'
/-- What the document refuses. -/
theorem rWr_bad {K : Nat → Prop} {d : Nat} (op : ByteArray) (a : Option Addr) (c : Nat) (ts : List T) (w : World) (h : RdL K w d a ts) (V : Int) (hV : askI wordsR op ts = V) (hz : (V == 0) = false) : Calls Tryz.prog 9 #[.string op, .slice a ts.length c] w (RefR w (refV V)) :=
  (rW10_bad op a c ts w h V hV hz).mono fun _ _ ⟨he, hx⟩ => ⟨_, he, ⟨_, _, _, _, none, 0, RefT.ref hz, rfl⟩, hx⟩
theorem rWr_kind {K : Nat → Prop} {d : Nat} (op : ByteArray) (a : Option Addr) (c : Nat) (ts : List T) (w : World) (h : RdL K w d a ts) (hV : askI wordsR op ts = 0) (HS : ∀ w1, Ext w w1 → Calls Tryz.prog 32 #[.string op, .slice a ts.length c] w1 fun e w' => e = .returned (.bool false) ∧ Ext w1 w') : Calls Tryz.prog 9 #[.string op, .slice a ts.length c] w (RefR w (refV 20)) :=
  (rW10_kind op a c ts w h hV HS).mono fun _ _ ⟨he, hx⟩ => ⟨_, he, ⟨_, _, _, _, none, 0, RefT.ref (c := 20) rfl, rfl⟩, hx⟩
/-- What its work answers, in general. -/
def WorkT (V : Value) (op : ByteArray) (a : Option Addr) (n c : Nat) (w : World) : Prop := ∀ w1, Ext w w1 → Calls Tryz.prog 33 #[.string op, .slice a n c] w1 fun e w' => ∃ k m x q l cc ec, (l = 0 ∧ RefT V k m x ec) ∧ e = .returned (.tuple #[plS k m x q l cc, .int .i64 ec]) ∧ Ext w1 w'
theorem WorkT.of {V : Value} {op : ByteArray} {a : Option Addr} {n c : Nat} {w : World} {k m ec : Int} {x : ByteArray} (hR : RefT V k m x ec) (h : ∀ w1, Ext w w1 → Calls Tryz.prog 33 #[.string op, .slice a n c] w1 fun e w' => e = .returned (T2 k m x ec) ∧ Ext w1 w') : WorkT V op a n c w :=
  fun w1 hx => (h w1 hx).mono fun _ _ ⟨he, hy⟩ => ⟨k, m, x, none, 0, 0, ec, ⟨rfl, hR⟩, he, hy⟩
theorem rWr_ok {K : Nat → Prop} {d : Nat} (op : ByteArray) (a : Option Addr) (c : Nat) (ts : List T) (w : World) (V : Value) (h : RdL K w d a ts) (hV : askI wordsR op ts = 0) (HS : ∀ w1, Ext w w1 → Calls Tryz.prog 32 #[.string op, .slice a ts.length c] w1 fun e w' => e = .returned (.bool true) ∧ Ext w1 w')
    (HW : WorkT V op a ts.length c w) : Calls Tryz.prog 9 #[.string op, .slice a ts.length c] w (RefR w V) :=
  (rW10_ok op a c ts w h hV HS (fun k m x l ec => l = 0 ∧ RefT V k m x ec) HW).mono fun _ _ ⟨k, m, x, q, l, cc, ec, ⟨hl, hR⟩, he, hx⟩ => ⟨_, he, ⟨k, m, x, ec, q, cc, hR, by rw [hl]⟩, hx⟩
end Go.Proofs.YtecabbifkcnbeaaGreatDoor
/-
  The document's package words: work's rep, by a contract.
-/
set_option linter.unusedSimpArgs false
namespace Go.Proofs.YtecabbifkcnbeaaGreatDoor
open Go.RowKit
set_option maxRecDepth 100000 in
set_option maxHeartbeats 1000000 in
theorem rwk10_rep {K : Nat → Prop} {d : Nat} (a : Option Addr) (c : Nat) (s : ByteArray) (a0 : Int) (hs : s.size ≤ 65535) (ha : inR a0) (w : World) (h : RdL K w d a [textT s, intT a0]) : Calls Tryz.prog 33 #[.string ⟨#[119, 111, 114, 100, 115, 46, 114, 101, 112]⟩, .slice a 2 c] w fun e w' => e = .returned (repR s a0) ∧ Ext w w' := by
  obtain ⟨g, off, k0, n0, x0, q0, l0, c0, rfl, hg, h40, hr0⟩ := h.kid (j := 0) (Nat.le_of_ble_eq_true rfl)
  obtain rfl : x0 = s := Rd.text_eq (k := k0) (n := n0) hr0
  obtain ⟨g1, off1, k1, n1, x1, q1, l1, c1, e1, _, h41, hr1⟩ := h.kid (j := 1) (Nat.le_of_ble_eq_true rfl)
  obtain rfl : n1 = a0 := hr1.num_eq.symm
  obtain ⟨rfl, rfl⟩ : g = g1 ∧ off = off1 := by injection e1 with e1; injection e1 with e1 e2; exact ⟨e1, e2⟩
  clear e1
  have H40 := hid (show ∀ w1, Ext w w1 → Four w1 g off (.int .i64 k0) (.int .i64 n0) (.string x0) (.slice q0 l0 c0) from fun w1 hx => by have h := Four.keep h40 (hx.kp K) hg; rwa [Nat.zero_mul, Nat.add_zero] at h)
  have H41 := hid (show ∀ w1, Ext w w1 → Four w1 g (off + 4) (.int .i64 k1) (.int .i64 n1) (.string x1) (.slice q1 l1 c1) from fun w1 hx => by have h := Four.keep h41 (hx.kp K) hg; rwa [Nat.one_mul] at h)
  have HX := hid (Ext.alloc w (.cells #[.int .i64 0, .int .i64 0, .string ⟨#[]⟩, .slice none 0 0] 34))
  have HB := hid (blk0 w (.cells #[.int .i64 0, .int .i64 0, .string ⟨#[]⟩, .slice none 0 0] 34))
  obtain ⟨z0, z1, z2, z3⟩ := four_of HB.out
  obtain ⟨f0, f1, f2, f3⟩ := four_free HB.out
  obtain ⟨o0, o1, o2, o3⟩ := H40.out _ HX.out
  have hgl := lt_of_cell o0
  obtain ⟨p0, p1, p2, p3⟩ := H41.out _ HX.out
  clear h hg h40 hr0 h41 hr1
  have HR := hid (fun W => rrep_any10 x0 n1 hs ha W)
  obtain ⟨r, hr⟩ : ∃ r, repR x0 n1 = r := ⟨_, rfl⟩
  have HS := hid (show ∃ k n x ec, r = T2 k n x ec from by
    rw [← hr]
    unfold repR
    split
    · exact ⟨_, _, _, _, rfl⟩
    split
    · exact ⟨_, _, _, _, rfl⟩
    split
    · exact ⟨_, _, _, _, rfl⟩
    · exact ⟨_, _, _, _, rfl⟩)
  rw [hr] at HR ⊢
  clear hr
  obtain ⟨k, n, x, ec, rfl⟩ := HS.out
  go_enter Tryz.func33, Tryz.ntmps33
  go_wp2_with fail
  refine (HR.out _).mono ?_
  rintro e w1 ⟨rfl, hx⟩
  have HX1 := hid (HX.out.trans hx)
  have HB1 := hid (hx.block HB.out)
  clear hx z0 z1 z2 z3 f0 f1 f2 f3 HR HS
  obtain ⟨z0, z1, z2, z3⟩ := four_of HB1.out
  obtain ⟨f0, f1, f2, f3⟩ := four_free HB1.out
  unfold T2 plV
  go_wp2_with fail
  have HB9 := hid (four_set (u0 := .int .i64 k) (u1 := .int .i64 n) (u2 := .string x) (u3 := .slice none 0 0) HB1.out)
  have HE := hid ((Kp.set4 w1 w.heap.size 0 (.int .i64 k) (.int .i64 n) (.string x) (.slice none 0 0)).extOf HX1.out (Nat.le_refl _))
  obtain ⟨y0, y1, y2, y3⟩ := four_of HB9.out
  refine bodyPost_ret (v := T2 k n x ec) (by simp [results, Tryz.results33, go_sem, y0, y1, y2, y3, plV, T2]) rfl ?_
  exact ⟨rfl, HE.out⟩

end Go.Proofs.YtecabbifkcnbeaaGreatDoor
/-
  The document's package words: work's cut, by a contract.
-/
set_option linter.unusedSimpArgs false
namespace Go.Proofs.YtecabbifkcnbeaaGreatDoor
open Go.RowKit
set_option maxRecDepth 100000 in
set_option maxHeartbeats 1000000 in
theorem rwk10_cut {K : Nat → Prop} {d : Nat} (a : Option Addr) (c : Nat) (s : ByteArray) (a0 b0 : Int) (hs : s.size ≤ 65535) (w : World) (h : RdL K w d a [textT s, intT a0, intT b0]) : Calls Tryz.prog 33 #[.string ⟨#[119, 111, 114, 100, 115, 46, 99, 117, 116]⟩, .slice a 3 c] w fun e w' => e = .returned (if 0 ≤ a0 ∧ a0 ≤ b0 ∧ b0 ≤ s.size then T2 4 0 (s.extract a0.toNat b0.toNat) 0 else T2 0 0 ⟨#[]⟩ 23) ∧ Ext w w' := by
  obtain ⟨g, off, k0, n0, x0, q0, l0, c0, rfl, hg, h40, hr0⟩ := h.kid (j := 0) (Nat.le_of_ble_eq_true rfl)
  obtain rfl : x0 = s := Rd.text_eq (k := k0) (n := n0) hr0
  obtain ⟨g1, off1, k1, n1, x1, q1, l1, c1, e1, _, h41, hr1⟩ := h.kid (j := 1) (Nat.le_of_ble_eq_true rfl)
  obtain rfl : n1 = a0 := hr1.num_eq.symm
  obtain ⟨rfl, rfl⟩ : g = g1 ∧ off = off1 := by injection e1 with e1; injection e1 with e1 e9; exact ⟨e1, e9⟩
  clear e1
  obtain ⟨g2, off2, k2, n2, x2, q2, l2, c2, e2, _, h42, hr2⟩ := h.kid (j := 2) (Nat.le_of_ble_eq_true rfl)
  obtain rfl : n2 = b0 := hr2.num_eq.symm
  obtain ⟨rfl, rfl⟩ : g = g2 ∧ off = off2 := by injection e2 with e2; injection e2 with e2 e9; exact ⟨e2, e9⟩
  clear e2
  have H40 := hid (show ∀ w1, Ext w w1 → Four w1 g off (.int .i64 k0) (.int .i64 n0) (.string x0) (.slice q0 l0 c0) from fun w1 hx => by have h := Four.keep h40 (hx.kp K) hg; rwa [Nat.zero_mul, Nat.add_zero] at h)
  have H41 := hid (show ∀ w1, Ext w w1 → Four w1 g (off + 4) (.int .i64 k1) (.int .i64 n1) (.string x1) (.slice q1 l1 c1) from fun w1 hx => by have h := Four.keep h41 (hx.kp K) hg; rwa [Nat.one_mul] at h)
  have H42 := hid (show ∀ w1, Ext w w1 → Four w1 g (off + 8) (.int .i64 k2) (.int .i64 n2) (.string x2) (.slice q2 l2 c2) from fun w1 hx => Four.keep h42 (hx.kp K) hg)
  have HX := hid (Ext.alloc w (.cells #[.int .i64 0, .int .i64 0, .string ⟨#[]⟩, .slice none 0 0] 34))
  have HB := hid (blk0 w (.cells #[.int .i64 0, .int .i64 0, .string ⟨#[]⟩, .slice none 0 0] 34))
  obtain ⟨z0, z1, z2, z3⟩ := four_of HB.out
  obtain ⟨f0, f1, f2, f3⟩ := four_free HB.out
  obtain ⟨o0, o1, o2, o3⟩ := H40.out _ HX.out
  have hgl := lt_of_cell o0
  obtain ⟨p0, p1, p2, p3⟩ := H41.out _ HX.out
  obtain ⟨r0, r1, r2, r3⟩ := H42.out _ HX.out
  clear h hg h40 hr0 h41 hr1 h42 hr2
  have hs' : (x0.size : Int) ≤ 65535 := by omega
  by_cases hc : 0 ≤ n1 ∧ n1 ≤ n2 ∧ n2 ≤ x0.size
  · rw [show (if 0 ≤ n1 ∧ n1 ≤ n2 ∧ n2 ≤ x0.size then T2 4 0 (x0.extract n1.toNat n2.toNat) 0 else T2 0 0 ⟨#[]⟩ 23) = T2 4 0 (x0.extract n1.toNat n2.toNat) 0 from if_pos hc]
    obtain ⟨c1, c2, c3⟩ := hc
    have d1 : ¬ n1 < 0 := by omega
    have d2 : ¬ n2 < n1 := by omega
    have d3 : ¬ (x0.size : Int) < n2 := by omega
    have d4 : 0 ≤ n2 := by omega
    go_enter Tryz.func33, Tryz.ntmps33
    go_upto_region 10 with fail
    go_quiet (fail)
    have HX0 := hid (HX.out.drewN nq)
    have HB0 := hid (show ((w.alloc (.cells #[.int .i64 0, .int .i64 0, .string ⟨#[]⟩, .slice none 0 0] 34)).drewN nq).heap[w.heap.size]? = some (.cells #[.int .i64 0, .int .i64 0, .string ⟨#[]⟩, .slice none 0 0] 34) from HB.out)
    go_wp2_with fail
    refine (rtext_any10 _ _).mono ?_
    rintro e w1 ⟨rfl, hx⟩
    have HX1 := hid (HX0.out.trans hx)
    have HB1 := hid (hx.block HB0.out)
    clear hx z0 z1 z2 z3 f0 f1 f2 f3
    obtain ⟨z0, z1, z2, z3⟩ := four_of HB1.out
    obtain ⟨f0, f1, f2, f3⟩ := four_free HB1.out
    unfold plV
    go_wp2_with fail
    have HB9 := hid (four_set (u0 := .int .i64 4) (u1 := .int .i64 0) (u2 := .string (x0.extract n1.toNat n2.toNat)) (u3 := .slice none 0 0) HB1.out)
    have HE := hid ((Kp.set4 w1 w.heap.size 0 (.int .i64 4) (.int .i64 0) (.string (x0.extract n1.toNat n2.toNat)) (.slice none 0 0)).extOf HX1.out (Nat.le_refl _))
    obtain ⟨y0, y1, y2, y3⟩ := four_of HB9.out
    refine bodyPost_ret (v := T2 4 0 (x0.extract n1.toNat n2.toNat) 0) (by simp [results, Tryz.results33, go_sem, y0, y1, y2, y3, plV, T2]) rfl ?_
    exact ⟨rfl, HE.out⟩
  · rw [show (if 0 ≤ n1 ∧ n1 ≤ n2 ∧ n2 ≤ x0.size then T2 4 0 (x0.extract n1.toNat n2.toNat) 0 else T2 0 0 ⟨#[]⟩ 23) = T2 0 0 ⟨#[]⟩ 23 from if_neg hc]
    by_cases d1 : n1 < 0
    · clear hc
      go_enter Tryz.func33, Tryz.ntmps33
      go_upto_region 10 with fail
      go_quiet (fail)
      have HX0 := hid (HX.out.drewN nq)
      have HB0 := hid (show ((w.alloc (.cells #[.int .i64 0, .int .i64 0, .string ⟨#[]⟩, .slice none 0 0] 34)).drewN nq).heap[w.heap.size]? = some (.cells #[.int .i64 0, .int .i64 0, .string ⟨#[]⟩, .slice none 0 0] 34) from HB.out)
      go_wp2_with fail
      have HB9 := hid (four_set (u0 := .int .i64 0) (u1 := .int .i64 0) (u2 := .string ⟨#[]⟩) (u3 := .slice none 0 0) HB0.out)
      have HE := hid ((Kp.set4 ((w.alloc (.cells #[.int .i64 0, .int .i64 0, .string ⟨#[]⟩, .slice none 0 0] 34)).drewN nq) w.heap.size 0 (.int .i64 0) (.int .i64 0) (.string ⟨#[]⟩) (.slice none 0 0)).extOf HX0.out (Nat.le_refl _))
      obtain ⟨y0, y1, y2, y3⟩ := four_of HB9.out
      refine bodyPost_ret (v := T2 0 0 ⟨#[]⟩ 23) (by simp [results, Tryz.results33, go_sem, y0, y1, y2, y3, plV, T2]) rfl ?_
      exact ⟨rfl, HE.out⟩
    by_cases d2 : n2 < n1
    · clear hc
      go_enter Tryz.func33, Tryz.ntmps33
      go_upto_region 10 with fail
      go_quiet (fail)
      have HX0 := hid (HX.out.drewN nq)
      have HB0 := hid (show ((w.alloc (.cells #[.int .i64 0, .int .i64 0, .string ⟨#[]⟩, .slice none 0 0] 34)).drewN nq).heap[w.heap.size]? = some (.cells #[.int .i64 0, .int .i64 0, .string ⟨#[]⟩, .slice none 0 0] 34) from HB.out)
      go_wp2_with fail
      have HB9 := hid (four_set (u0 := .int .i64 0) (u1 := .int .i64 0) (u2 := .string ⟨#[]⟩) (u3 := .slice none 0 0) HB0.out)
      have HE := hid ((Kp.set4 ((w.alloc (.cells #[.int .i64 0, .int .i64 0, .string ⟨#[]⟩, .slice none 0 0] 34)).drewN nq) w.heap.size 0 (.int .i64 0) (.int .i64 0) (.string ⟨#[]⟩) (.slice none 0 0)).extOf HX0.out (Nat.le_refl _))
      obtain ⟨y0, y1, y2, y3⟩ := four_of HB9.out
      refine bodyPost_ret (v := T2 0 0 ⟨#[]⟩ 23) (by simp [results, Tryz.results33, go_sem, y0, y1, y2, y3, plV, T2]) rfl ?_
      exact ⟨rfl, HE.out⟩
    have d3 : (x0.size : Int) < n2 := by omega
    clear hc
    go_enter Tryz.func33, Tryz.ntmps33
    go_upto_region 10 with fail
    go_quiet (fail)
    have HX0 := hid (HX.out.drewN nq)
    have HB0 := hid (show ((w.alloc (.cells #[.int .i64 0, .int .i64 0, .string ⟨#[]⟩, .slice none 0 0] 34)).drewN nq).heap[w.heap.size]? = some (.cells #[.int .i64 0, .int .i64 0, .string ⟨#[]⟩, .slice none 0 0] 34) from HB.out)
    go_wp2_with fail
    have HB9 := hid (four_set (u0 := .int .i64 0) (u1 := .int .i64 0) (u2 := .string ⟨#[]⟩) (u3 := .slice none 0 0) HB0.out)
    have HE := hid ((Kp.set4 ((w.alloc (.cells #[.int .i64 0, .int .i64 0, .string ⟨#[]⟩, .slice none 0 0] 34)).drewN nq) w.heap.size 0 (.int .i64 0) (.int .i64 0) (.string ⟨#[]⟩) (.slice none 0 0)).extOf HX0.out (Nat.le_refl _))
    obtain ⟨y0, y1, y2, y3⟩ := four_of HB9.out
    refine bodyPost_ret (v := T2 0 0 ⟨#[]⟩ 23) (by simp [results, Tryz.results33, go_sem, y0, y1, y2, y3, plV, T2]) rfl ?_
    exact ⟨rfl, HE.out⟩

end Go.Proofs.YtecabbifkcnbeaaGreatDoor
/-
  The reader's next, take, digit, word, each by a contract.
-/
namespace Go.Proofs.YtecabbifkcnbeaaGreatDoor
open Go.RowKit
/-- The byte that stands there; 0 at the end. -/
def nxt (s : ByteArray) (i : Nat) : Nat := if h : i < s.size then s[i].toNat else 0
theorem nxt_lt {s : ByteArray} {i : Nat} (h : i < s.size) : nxt s i = s[i].toNat := dif_pos h
theorem nxt_end {s : ByteArray} {i : Nat} (h : ¬ i < s.size) : nxt s i = 0 := dif_neg h
theorem drewN_ext {w w' : World} (h : ∃ k, w' = w.drewN k) : Ext w w' := by
  obtain ⟨k, rfl⟩ := h
  exact (Ext.refl w).drewN k
end Go.Proofs.YtecabbifkcnbeaaGreatDoor
/-
  The reader's byDigits and escaped, each by a contract.
-/
namespace Go.Proofs.YtecabbifkcnbeaaGreatDoor
open Go.RowKit
/-- What a byte is as a digit; -1: none. -/
def hexV (c : Nat) : Int := Lib.indexByte hexL c.toUInt8
theorem indexByte_lt : ∀ (l : List UInt8) (c : UInt8), -1 ≤ Lib.indexByte l c ∧ (Lib.indexByte l c < l.length)
  | [], _ => by simp [Lib.indexByte]
  | b :: l, c => by
    obtain ⟨h1, h2⟩ := indexByte_lt l c
    simp only [Lib.indexByte, List.length_cons]
    split
    · omega
    split
    · omega
    · rename_i h3
      have h4 : Lib.indexByte l c ≠ -1 := by simpa using h3
      omega
theorem hexV_lt (c : Nat) : -1 ≤ hexV c ∧ hexV c ≤ 15 := by
  have h := indexByte_lt hexL c.toUInt8
  have e : hexL.length = 16 := rfl
  unfold hexV
  omega
theorem hexV_bounds (s : ByteArray) (i : Nat) : -1 ≤ hexV (nxt s i) ∧ hexV (nxt s i) ≤ 15 := hexV_lt _
/-- What byDigits reads: the byte, or none; and where it stands then. -/
def byD (s : ByteArray) (i : Nat) : Option Nat × Nat :=
  let h := hexV (nxt s i)
  if h < 0 ∨ (2 ≤ h ∧ h ≤ 6) then (none, i)
  else
    let l := hexV (nxt s (i + 1))
    if l < 0 ∨ (32 ≤ 16 * h + l ∧ 16 * h + l ≤ 126) then (none, i + 1) else (some (16 * h + l).toNat, i + 2)
theorem nxt_hex {s : ByteArray} {i : Nat} (h : 0 ≤ hexV (nxt s i)) : i < s.size := by
  rcases Nat.lt_or_ge i s.size with h' | h'
  · exact h'
  · rw [nxt_end (by omega)] at h
    exact absurd h (by decide)
theorem bits_all : ∀ h l : Fin 16, bits .or .i64 ((h.1 : Int) * 16) (l.1 : Int) = (h.1 : Int) * 16 + (l.1 : Int) := by decide
theorem bits_or (H G : Int) (h0 : 0 ≤ H) (h1 : H ≤ 15) (g0 : 0 ≤ G) (g1 : G ≤ 15) : bits .or .i64 (H * 16) G = H * 16 + G := by
  have e := bits_all ⟨H.toNat, by omega⟩ ⟨G.toNat, by omega⟩
  simp only [Int.toNat_of_nonneg h0, Int.toNat_of_nonneg g0] at e
  exact e
/-- What escaped reads. -/
def escD (s : ByteArray) (i : Nat) : Option Nat × Nat := if nxt s i = 34 ∨ nxt s i = 92 then (some (nxt s i), i + 1) else if nxt s i = 120 then byD s (i + 1) else (none, i)
theorem nxt_in {s : ByteArray} {i : Nat} (h : nxt s i ≠ 0) : i < s.size := by
  rcases Nat.lt_or_ge i s.size with h' | h'
  · exact h'
  · exact absurd (nxt_end (by omega)) h
end Go.Proofs.YtecabbifkcnbeaaGreatDoor
/-
  The reader's word by a contract.
-/
namespace Go.Proofs.YtecabbifkcnbeaaGreatDoor
open Go.RowKit
/-- How many bytes of a word stand there. -/
def wordK (s : ByteArray) : Nat → List UInt8 → Nat
  | _, [] => 0
  | i, c :: r => if nxt s i = c.toNat then 1 + wordK s (i + 1) r else 0
theorem wordK_of (s : ByteArray) : ∀ (l : List UInt8) (i j : Nat), j ≤ l.length → (∀ k, (h : k < l.length) → k < j → nxt s (i + k) = l[k].toNat) → (j = l.length ∨ ∃ h : j < l.length, nxt s (i + j) ≠ l[j].toNat) → wordK s i l = j
  | [], i, j, hj, _, _ => by simp at hj; subst hj; rfl
  | c :: r, i, j, hj, h1, h2 => by
    cases j with
    | zero =>
      rcases h2 with h2 | ⟨h, h2⟩
      · simp at h2
      · simp only [wordK]; rw [if_neg (by simpa using h2)]
    | succ j =>
      have h0 := h1 0 (by simp) (by omega)
      simp only [wordK]
      have e := wordK_of s r (i + 1) j (by simpa using hj) (fun k h hk => by
        have := h1 (k + 1) (by simpa using h) (by omega)
        rw [show i + 1 + k = i + (k + 1) by omega]
        simpa using this) (by
        rcases h2 with h2 | ⟨h, h2⟩
        · exact .inl (by simpa using h2)
        · exact .inr ⟨by simpa using h, by rw [show i + 1 + j = i + (j + 1) by omega]; simpa using h2⟩)
      rw [if_pos (by simpa using h0), e]
      omega
/-- What word answers. -/
def wordV (W m : Nat) (v : Value) : Value := if W = m then .tuple #[v, .int .i64 0] else .tuple #[.nilIface, .int .i64 5]
end Go.Proofs.YtecabbifkcnbeaaGreatDoor
