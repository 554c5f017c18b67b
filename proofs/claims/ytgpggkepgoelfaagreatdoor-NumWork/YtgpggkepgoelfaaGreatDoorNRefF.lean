/-
  espalierref8.Work by a contract: what the document answers, as package num does.
-/
import Derived.Test.YtgpggkepgoelfaaGreatDoorNRefW
import Derived.Test.YtgpggkepgoelfaaGreatDoorNAsk
import Derived.Test.YtgpggkepgoelfaaGreatDoorNRRef
import Derived.Test.YtgpggkepgoelfaaGreatDoorPMarks
namespace Go.Proofs.YtgpggkepgoelfaaGreatDoor
open Go.RowKit
/-- The document's answer beside the program's: the plain value of what it gives, none beside a fault. -/
def RefOf (V R : Value) : Prop := (∃ n, V = cameV n ∧ R = .tuple #[plV 3 n ⟨#[]⟩, .int .i64 0, .string ⟨#[]⟩]) ∨ (∃ b, V = toldV b ∧ R = .tuple #[plV 2 (tellI b) ⟨#[]⟩, .int .i64 0, .string ⟨#[]⟩]) ∨
  (∃ s : ByteArray, s.size ≤ 65535 ∧ V = wroteV s ∧ R = .tuple #[plV 4 0 s, .int .i64 0, .string ⟨#[]⟩]) ∨ (∃ c, (c == 0) = false ∧ V = refV c ∧ R = .tuple #[plV 0 0 ⟨#[]⟩, .int .i64 c, .string ⟨#[]⟩])
def RefR (w : World) (V : Value) (e : Ending) (w' : World) : Prop := ∃ R, e = .returned R ∧ RefOf V R ∧ Ext w w'
theorem Rd.kind_eq {K : Nat → Prop} {w : World} {d : Nat} {k n : Int} {x : ByteArray} {sv : Value} {t : T} (h : Rd K w d (.agg #[.int .i64 k, .int .i64 n, .string x, sv]) t) : t.kind = k := by
  cases d with
  | zero => exact h.elim
  | succ d =>
    obtain ⟨k', n', x', ks⟩ := t
    obtain ⟨a, c, e, _⟩ := h
    simp only [Value.agg.injEq, Array.mk.injEq, List.cons.injEq, Value.int.injEq, true_and] at e
    exact e.1.symm
theorem Rd.num_eq {K : Nat → Prop} {w : World} {d : Nat} {k n : Int} {x : ByteArray} {sv : Value} {t : T} (h : Rd K w d (.agg #[.int .i64 k, .int .i64 n, .string x, sv]) t) : t.num = n := by
  cases d with
  | zero => exact h.elim
  | succ d =>
    obtain ⟨k', n', x', ks⟩ := t
    obtain ⟨a, c, e, _⟩ := h
    simp only [Value.agg.injEq, Array.mk.injEq, List.cons.injEq, Value.int.injEq, true_and] at e
    exact e.2.1.symm
set_option maxRecDepth 100000 in
set_option maxHeartbeats 2000000 in
theorem rW_bad {K : Nat → Prop} {d : Nat} (op : ByteArray) (a : Option Addr) (c : Nat) (ts : List T) (w : World) (h : RdL K w d a ts) (V : Int) (hV : askI numR op ts = V) (hz : (V == 0) = false) : Calls Tryz.prog 12 #[.string op, .slice a ts.length c] w (RefR w (refV V)) := by
  have HA := hid (fun w1 (hx : Ext w w1) => askedN_any (K := K) (d := d) numR op a c ts w1 (by decide) (by decide) refRows_any (h.keep (hx.kp K)))
  rw [hV] at HA
  clear h hV
  generalize ts.length = n at *
  go_enter Tryz.func12, Tryz.ntmps12
  go_wp2_with fail
  refine (HA.out _ (Ext.alloc _ _)).mono ?_
  rintro e w1 ⟨rfl, hx1⟩
  have HX := hid ((Ext.alloc w _).trans hx1)
  have HB := hid (hx1.block (blk0 w (.cells #[.int .i64 0, .int .i64 0, .string ⟨#[]⟩, .slice none 0 0] 34)))
  obtain ⟨z0, z1, z2, z3⟩ := four_of HB.out
  obtain ⟨f0, f1, f2, f3⟩ := four_free HB.out
  clear hx1
  go_wp2_with fail
  have HB2 := hid (four_set (u0 := .int .i64 0) (u1 := .int .i64 0) (u2 := .string ⟨#[]⟩) (u3 := .slice none 0 0) HB.out)
  have HE := hid ((Kp.set4 w1 w.heap.size 0 (.int .i64 0) (.int .i64 0) (.string ⟨#[]⟩) (.slice none 0 0)).extOf HX.out (Nat.le_refl _))
  obtain ⟨y0, y1, y2, y3⟩ := four_of HB2.out
  refine bodyPost_ret (v := .tuple #[plV 0 0 ⟨#[]⟩, .int .i64 V, .string ⟨#[]⟩]) (by simp [results, Tryz.results12, go_sem, y0, y1, y2, y3, plV]) rfl ?_
  exact ⟨_, rfl, .inr (.inr (.inr ⟨V, hz, rfl, rfl⟩)), HE.out⟩
set_option maxRecDepth 100000 in
set_option maxHeartbeats 2000000 in
theorem rW_kind {K : Nat → Prop} {d : Nat} (op : ByteArray) (a : Option Addr) (c : Nat) (ts : List T) (w : World) (h : RdL K w d a ts) (hV : askI numR op ts = 0) (h3 : ¬ ∀ t ∈ ts, t.kind = 3) : Calls Tryz.prog 12 #[.string op, .slice a ts.length c] w (RefR w (refV 20)) := by
  have HA := hid (fun w1 (hx : Ext w w1) => askedN_any (K := K) (d := d) numR op a c ts w1 (by decide) (by decide) refRows_any (h.keep (hx.kp K)))
  rw [hV] at HA
  have HK := hid h
  have hts : (ts.length : Int) ≤ 140737488351232 := by have := h.1; omega
  clear h hV
  have H3 := hid (show ¬ ∀ i, (hi : i < ts.length) → ts[i].kind = 3 from fun hh => h3 fun t ht => by
    obtain ⟨i, hi, rfl⟩ := List.getElem_of_mem ht
    exact hh i hi)
  clear h3
  obtain ⟨n, hne⟩ : ∃ n, ts.length = n := ⟨_, rfl⟩
  have HNE := hid hne
  rw [hne] at HA hts ⊢
  clear hne
  go_enter Tryz.func12, Tryz.ntmps12
  go_wp2_with fail
  refine (HA.out _ (Ext.alloc _ _)).mono ?_
  rintro e w1 ⟨rfl, hx1⟩
  have HX := hid ((Ext.alloc w _).trans hx1)
  have HB := hid (hx1.block (blk0 w (.cells #[.int .i64 0, .int .i64 0, .string ⟨#[]⟩, .slice none 0 0] 34)))
  clear hx1
  go_wp2_with fail
  go_loopw [8] (fun q8 wr => ∃ j : Nat, j ≤ n ∧ q8 = .int .i64 j ∧ (∀ i, (hi : i < ts.length) → i < j → ts[i].kind = 3) ∧ wr.heap[w.heap.size]? = some (.cells #[.int .i64 0, .int .i64 0, .string ⟨#[]⟩, .slice none 0 0] 34) ∧ Ext w wr) (fun q8 _ => n - (intOf q8).toNat)
  case atStart => exact ⟨0, Nat.zero_le _, rfl, fun _ _ h => absurd h (Nat.not_lt_zero _), HB.out, HX.out⟩
  case round =>
    obtain ⟨j, hj, rfl, hall, hbk, hx⟩ := hrel
    have HX2 := hid hx
    have HB2 := hid hbk
    clear hx hbk HX HB
    obtain ⟨z0, z1, z2, z3⟩ := four_of HB2.out
    obtain ⟨f0, f1, f2, f3⟩ := four_free HB2.out
    have HALL := hid hall
    clear hall
    by_cases hlt : j < n
    · have hlt' : (j : Int) < n := by omega
      have hjt : j < ts.length := by rw [HNE.out]; exact hlt
      obtain ⟨g, off, k', n', x', a', l', c', rfl, hg, h4, hrd⟩ := HK.out.kid hjt
      obtain ⟨o0, o1, o2, o3⟩ := Four.keep h4 (HX2.out.kp K) hg
      have hgl := lt_of_cell o0
      have HKD := hid (show ts[j].kind = k' from hrd.kind_eq)
      by_cases e3 : k' = 3
      · have q1 : (k' == 3) = true := by rw [beq_iff_eq]; exact e3
        have q2 : (k' != 3) = false := by unfold bne; rw [q1]; rfl
        have HE3 := hid (HKD.out.trans e3)
        clear h4 hrd e3
        go_wp2_with fail
        go_roundw
        case rel => exact ⟨j + 1, hlt, by go_num, fun i hi h => by
          rcases Nat.lt_succ_iff_lt_or_eq.1 h with h | rfl
          · exact HALL.out i hi h
          · exact HE3.out, HB2.out, HX2.out⟩
        case measure => simp [intOf]; omega
      · have q1 : (k' == 3) = false := by rw [beq_eq_false_iff_ne]; exact e3
        have q2 : (k' != 3) = true := by unfold bne; rw [q1]; rfl
        clear h4 hrd e3 o1 o2 o3
        go_wp2_with fail
        have HB3 := hid (four_set (u0 := .int .i64 0) (u1 := .int .i64 0) (u2 := .string ⟨#[]⟩) (u3 := .slice none 0 0) HB2.out)
        have HE := hid ((Kp.set4 wr w.heap.size 0 (.int .i64 0) (.int .i64 0) (.string ⟨#[]⟩) (.slice none 0 0)).extOf HX2.out (Nat.le_refl _))
        obtain ⟨y0, y1, y2, y3⟩ := four_of HB3.out
        refine bodyPost_ret (v := .tuple #[plV 0 0 ⟨#[]⟩, .int .i64 20, .string ⟨#[]⟩]) (by simp [results, Tryz.results12, go_sem, y0, y1, y2, y3, plV]) rfl ?_
        exact ⟨_, rfl, .inr (.inr (.inr ⟨20, by decide, rfl, rfl⟩)), HE.out⟩
    · exact absurd (fun i hi => HALL.out i hi (by have := HNE.out; omega)) H3.out
set_option maxRecDepth 100000 in
set_option maxHeartbeats 2000000 in
theorem rW_num1 {K : Nat → Prop} {d : Nat} (op : ByteArray) (a : Option Addr) (c : Nat) (x : Int)  (w : World) (h : RdL K w d a [intT x]) (hV : askI numR op [intT x] = 0) (hl : op ≠ ⟨#[110, 117, 109, 46, 108, 101, 115, 115]⟩) (hm : op ≠ ⟨#[110, 117, 109, 46, 109, 111, 115, 116]⟩) (V : Value) (hI : IRes V) (hw : ∀ w1, Calls Tryz.prog 35 #[.string op, .int .i64 x, .int .i64 0] w1 fun e w' => e = .returned (lawV V) ∧ w' = w1) : Calls Tryz.prog 12 #[.string op, .slice a 1 c] w (RefR w V) := by
  have HA := hid (fun w1 (hx : Ext w w1) => askedN_any (K := K) (d := d) numR op a c [intT x] w1 (by decide) (by decide) refRows_any (h.keep (hx.kp K)))
  rw [hV] at HA
  have HA2 : Hid (∀ (w1 : World), Ext w w1 → Calls Tryz.prog 33 #[.string op, .slice a 1 c] w1 fun e w' => e = .returned (.int .i64 0) ∧ Ext w1 w') := HA
  clear HA
  obtain ⟨g, off, k0, n0, x0, a0, l0, c0, rfl, hg, h40, hr0⟩ := h.kid (j := 0) (Nat.le_of_ble_eq_true rfl)
  obtain ⟨rfl, rfl⟩ : k0 = 3 ∧ n0 = x := ⟨hr0.kind_eq.symm, hr0.num_eq.symm⟩
  have H40 := hid (show ∀ w1, Ext w w1 → Four w1 g off (.int .i64 3) (.int .i64 n0) (.string x0) (.slice a0 l0 c0) from fun w1 hx => by have h := Four.keep h40 (hx.kp K) hg; rwa [Nat.zero_mul, Nat.add_zero] at h)
  have HW := hid hw
  have HT := hid hI
  have e1 : (op.toList == [110, 117, 109, 46, 108, 101, 115, 115]) = false := by rw [beq_eq_false_iff_ne]; exact fun e => hl (toList_inj (e.trans (by rw [ByteArray.toList_eq])))
  have e2 : (op.toList == [110, 117, 109, 46, 109, 111, 115, 116]) = false := by rw [beq_eq_false_iff_ne]; exact fun e => hm (toList_inj (e.trans (by rw [ByteArray.toList_eq])))
  have e3 : ¬ op = ⟨#[110, 117, 109, 46, 108, 101, 115, 115]⟩ := hl
  have e4 : ¬ op = ⟨#[110, 117, 109, 46, 109, 111, 115, 116]⟩ := hm
  clear hl hm hw hI
  clear h hV h40 hr0
  go_enter Tryz.func12, Tryz.ntmps12
  go_wp2_with fail
  refine (HA2.out _ (Ext.alloc _ _)).mono ?_
  rintro e w1 ⟨rfl, hx1⟩
  have HX := hid ((Ext.alloc w _).trans hx1)
  have HB := hid (hx1.block (blk0 w (.cells #[.int .i64 0, .int .i64 0, .string ⟨#[]⟩, .slice none 0 0] 34)))
  clear hx1
  go_wp2_with fail
  go_loopw [8] (fun q8 wr => ∃ j : Nat, j ≤ 1 ∧ q8 = .int .i64 j ∧ wr.heap[w.heap.size]? = some (.cells #[.int .i64 0, .int .i64 0, .string ⟨#[]⟩, .slice none 0 0] 34) ∧ Ext w wr) (fun q8 _ => 1 - (intOf q8).toNat)
  case atStart => exact ⟨0, Nat.zero_le _, rfl, HB.out, HX.out⟩
  case round =>
    obtain ⟨j, hj, rfl, hbk, hx⟩ := hrel
    have HX2 := hid hx
    have HB2 := hid hbk
    clear hx hbk HX HB
    obtain ⟨z0, z1, z2, z3⟩ := four_of HB2.out
    obtain ⟨f0, f1, f2, f3⟩ := four_free HB2.out
    by_cases hlt : j < 1
    · have hj2 : j = 0 := by omega
      rcases hj2 with rfl
      · obtain ⟨o0, o1, o2, o3⟩ := H40.out _ HX2.out
        have hgl := lt_of_cell o0
        go_wp2_with fail
        go_roundw
        case rel => exact ⟨1, by decide, by go_num, HB2.out, HX2.out⟩
        case measure => simp [intOf]
    · obtain rfl : j = 1 := by omega
      obtain ⟨o0, o1, o2, o3⟩ := H40.out _ HX2.out
      have hgl := lt_of_cell o0
      go_wp2_with fail
      refine (HW.out _).mono ?_
      rintro e w3 ⟨rfl, rfl⟩
      rcases HT.out with ⟨m, rfl⟩ | ⟨m, hm, rfl⟩
      · rw [lawV_came]
        go_wp2_with fail
        refine (rnum_any m _).mono ?_
        rintro e w4 ⟨rfl, hx4⟩
        have HX4 := hid (HX2.out.trans hx4)
        have HB4 := hid (hx4.block HB2.out)
        clear hx4 z0 z1 z2 z3 f0 f1 f2 f3 o0 o1 o2 o3
        obtain ⟨z0, z1, z2, z3⟩ := four_of HB4.out
        obtain ⟨f0, f1, f2, f3⟩ := four_free HB4.out
        unfold plV
        go_wp2_with fail
        have HB3 := hid (four_set (u0 := .int .i64 3) (u1 := .int .i64 m) (u2 := .string ⟨#[]⟩) (u3 := .slice none 0 0) HB4.out)
        have HE := hid ((Kp.set4 w4 w.heap.size 0 (.int .i64 3) (.int .i64 m) (.string ⟨#[]⟩) (.slice none 0 0)).extOf HX4.out (Nat.le_refl _))
        obtain ⟨y0, y1, y2, y3⟩ := four_of HB3.out
        refine bodyPost_ret (v := .tuple #[plV 3 m ⟨#[]⟩, .int .i64 0, .string ⟨#[]⟩]) (by simp [results, Tryz.results12, go_sem, y0, y1, y2, y3, plV]) rfl ?_
        exact ⟨_, rfl, .inl ⟨m, rfl, rfl⟩, HE.out⟩
      · rw [lawV_ref]
        go_wp2_with fail
        have HB3 := hid (four_set (u0 := .int .i64 0) (u1 := .int .i64 0) (u2 := .string ⟨#[]⟩) (u3 := .slice none 0 0) HB2.out)
        have HE := hid ((Kp.set4 w3 w.heap.size 0 (.int .i64 0) (.int .i64 0) (.string ⟨#[]⟩) (.slice none 0 0)).extOf HX2.out (Nat.le_refl _))
        obtain ⟨y0, y1, y2, y3⟩ := four_of HB3.out
        refine bodyPost_ret (v := .tuple #[plV 0 0 ⟨#[]⟩, .int .i64 m, .string ⟨#[]⟩]) (by simp [results, Tryz.results12, go_sem, y0, y1, y2, y3, plV]) rfl ?_
        exact ⟨_, rfl, .inr (.inr (.inr ⟨m, hm, rfl, rfl⟩)), HE.out⟩
set_option maxRecDepth 100000 in
set_option maxHeartbeats 2000000 in
theorem rW_num2 {K : Nat → Prop} {d : Nat} (op : ByteArray) (a : Option Addr) (c : Nat) (x : Int) (y : Int) (w : World) (h : RdL K w d a [intT x, intT y]) (hV : askI numR op [intT x, intT y] = 0) (hl : op ≠ ⟨#[110, 117, 109, 46, 108, 101, 115, 115]⟩) (hm : op ≠ ⟨#[110, 117, 109, 46, 109, 111, 115, 116]⟩) (V : Value) (hI : IRes V) (hw : ∀ w1, Calls Tryz.prog 35 #[.string op, .int .i64 x, .int .i64 y] w1 fun e w' => e = .returned (lawV V) ∧ w' = w1) : Calls Tryz.prog 12 #[.string op, .slice a 2 c] w (RefR w V) := by
  have HA := hid (fun w1 (hx : Ext w w1) => askedN_any (K := K) (d := d) numR op a c [intT x, intT y] w1 (by decide) (by decide) refRows_any (h.keep (hx.kp K)))
  rw [hV] at HA
  have HA2 : Hid (∀ (w1 : World), Ext w w1 → Calls Tryz.prog 33 #[.string op, .slice a 2 c] w1 fun e w' => e = .returned (.int .i64 0) ∧ Ext w1 w') := HA
  clear HA
  obtain ⟨g, off, k0, n0, x0, a0, l0, c0, rfl, hg, h40, hr0⟩ := h.kid (j := 0) (Nat.le_of_ble_eq_true rfl)
  obtain ⟨rfl, rfl⟩ : k0 = 3 ∧ n0 = x := ⟨hr0.kind_eq.symm, hr0.num_eq.symm⟩
  obtain ⟨g1, off1, k1, n1, x1, a1, l1, c1, e1, _, h41, hr1⟩ := h.kid (j := 1) (Nat.le_of_ble_eq_true rfl)
  obtain ⟨rfl, rfl⟩ : k1 = 3 ∧ n1 = y := ⟨hr1.kind_eq.symm, hr1.num_eq.symm⟩
  obtain ⟨rfl, rfl⟩ : g = g1 ∧ off = off1 := by injection e1 with e1; injection e1 with e1 e2; exact ⟨e1, e2⟩
  clear e1
  have H40 := hid (show ∀ w1, Ext w w1 → Four w1 g off (.int .i64 3) (.int .i64 n0) (.string x0) (.slice a0 l0 c0) from fun w1 hx => by have h := Four.keep h40 (hx.kp K) hg; rwa [Nat.zero_mul, Nat.add_zero] at h)
  have H41 := hid (show ∀ w1, Ext w w1 → Four w1 g (off + 4) (.int .i64 3) (.int .i64 n1) (.string x1) (.slice a1 l1 c1) from fun w1 hx => by have h := Four.keep h41 (hx.kp K) hg; rwa [Nat.one_mul] at h)
  have HW := hid hw
  have HT := hid hI
  have e1 : (op.toList == [110, 117, 109, 46, 108, 101, 115, 115]) = false := by rw [beq_eq_false_iff_ne]; exact fun e => hl (toList_inj (e.trans (by rw [ByteArray.toList_eq])))
  have e2 : (op.toList == [110, 117, 109, 46, 109, 111, 115, 116]) = false := by rw [beq_eq_false_iff_ne]; exact fun e => hm (toList_inj (e.trans (by rw [ByteArray.toList_eq])))
  have e3 : ¬ op = ⟨#[110, 117, 109, 46, 108, 101, 115, 115]⟩ := hl
  have e4 : ¬ op = ⟨#[110, 117, 109, 46, 109, 111, 115, 116]⟩ := hm
  clear hl hm hw hI
  clear h hV h40 hr0 h41 hr1
  go_enter Tryz.func12, Tryz.ntmps12
  go_wp2_with fail
  refine (HA2.out _ (Ext.alloc _ _)).mono ?_
  rintro e w1 ⟨rfl, hx1⟩
  have HX := hid ((Ext.alloc w _).trans hx1)
  have HB := hid (hx1.block (blk0 w (.cells #[.int .i64 0, .int .i64 0, .string ⟨#[]⟩, .slice none 0 0] 34)))
  clear hx1
  go_wp2_with fail
  go_loopw [8] (fun q8 wr => ∃ j : Nat, j ≤ 2 ∧ q8 = .int .i64 j ∧ wr.heap[w.heap.size]? = some (.cells #[.int .i64 0, .int .i64 0, .string ⟨#[]⟩, .slice none 0 0] 34) ∧ Ext w wr) (fun q8 _ => 2 - (intOf q8).toNat)
  case atStart => exact ⟨0, Nat.zero_le _, rfl, HB.out, HX.out⟩
  case round =>
    obtain ⟨j, hj, rfl, hbk, hx⟩ := hrel
    have HX2 := hid hx
    have HB2 := hid hbk
    clear hx hbk HX HB
    obtain ⟨z0, z1, z2, z3⟩ := four_of HB2.out
    obtain ⟨f0, f1, f2, f3⟩ := four_free HB2.out
    by_cases hlt : j < 2
    · have hj2 : j = 0 ∨ j = 1 := by omega
      rcases hj2 with rfl | rfl
      · obtain ⟨o0, o1, o2, o3⟩ := H40.out _ HX2.out
        have hgl := lt_of_cell o0
        go_wp2_with fail
        go_roundw
        case rel => exact ⟨1, by decide, by go_num, HB2.out, HX2.out⟩
        case measure => simp [intOf]
      · obtain ⟨o0, o1, o2, o3⟩ := H41.out _ HX2.out
        have hgl := lt_of_cell o0
        go_wp2_with fail
        go_roundw
        case rel => exact ⟨2, by decide, by go_num, HB2.out, HX2.out⟩
        case measure => simp [intOf]
    · obtain rfl : j = 2 := by omega
      obtain ⟨o0, o1, o2, o3⟩ := H40.out _ HX2.out
      have hgl := lt_of_cell o0
      obtain ⟨p0, p1, p2, p3⟩ := H41.out _ HX2.out
      go_wp2_with fail
      refine (HW.out _).mono ?_
      rintro e w3 ⟨rfl, rfl⟩
      rcases HT.out with ⟨m, rfl⟩ | ⟨m, hm, rfl⟩
      · rw [lawV_came]
        go_wp2_with fail
        refine (rnum_any m _).mono ?_
        rintro e w4 ⟨rfl, hx4⟩
        have HX4 := hid (HX2.out.trans hx4)
        have HB4 := hid (hx4.block HB2.out)
        clear hx4 z0 z1 z2 z3 f0 f1 f2 f3 o0 o1 o2 o3
        obtain ⟨z0, z1, z2, z3⟩ := four_of HB4.out
        obtain ⟨f0, f1, f2, f3⟩ := four_free HB4.out
        unfold plV
        go_wp2_with fail
        have HB3 := hid (four_set (u0 := .int .i64 3) (u1 := .int .i64 m) (u2 := .string ⟨#[]⟩) (u3 := .slice none 0 0) HB4.out)
        have HE := hid ((Kp.set4 w4 w.heap.size 0 (.int .i64 3) (.int .i64 m) (.string ⟨#[]⟩) (.slice none 0 0)).extOf HX4.out (Nat.le_refl _))
        obtain ⟨y0, y1, y2, y3⟩ := four_of HB3.out
        refine bodyPost_ret (v := .tuple #[plV 3 m ⟨#[]⟩, .int .i64 0, .string ⟨#[]⟩]) (by simp [results, Tryz.results12, go_sem, y0, y1, y2, y3, plV]) rfl ?_
        exact ⟨_, rfl, .inl ⟨m, rfl, rfl⟩, HE.out⟩
      · rw [lawV_ref]
        go_wp2_with fail
        have HB3 := hid (four_set (u0 := .int .i64 0) (u1 := .int .i64 0) (u2 := .string ⟨#[]⟩) (u3 := .slice none 0 0) HB2.out)
        have HE := hid ((Kp.set4 w3 w.heap.size 0 (.int .i64 0) (.int .i64 0) (.string ⟨#[]⟩) (.slice none 0 0)).extOf HX2.out (Nat.le_refl _))
        obtain ⟨y0, y1, y2, y3⟩ := four_of HB3.out
        refine bodyPost_ret (v := .tuple #[plV 0 0 ⟨#[]⟩, .int .i64 m, .string ⟨#[]⟩]) (by simp [results, Tryz.results12, go_sem, y0, y1, y2, y3, plV]) rfl ?_
        exact ⟨_, rfl, .inr (.inr (.inr ⟨m, hm, rfl, rfl⟩)), HE.out⟩
set_option maxRecDepth 100000 in
set_option maxHeartbeats 2000000 in
theorem rW_less2 {K : Nat → Prop} {d : Nat} (a : Option Addr) (c : Nat) (x : Int) (y : Int) (w : World) (h : RdL K w d a [intT x, intT y]) (hV : askI numR ⟨#[110, 117, 109, 46, 108, 101, 115, 115]⟩ [intT x, intT y] = 0)  : Calls Tryz.prog 12 #[.string ⟨#[110, 117, 109, 46, 108, 101, 115, 115]⟩, .slice a 2 c] w (RefR w (toldV (decide (x < y)))) := by
  have HA := hid (fun w1 (hx : Ext w w1) => askedN_any (K := K) (d := d) numR ⟨#[110, 117, 109, 46, 108, 101, 115, 115]⟩ a c [intT x, intT y] w1 (by decide) (by decide) refRows_any (h.keep (hx.kp K)))
  rw [hV] at HA
  have HA2 : Hid (∀ (w1 : World), Ext w w1 → Calls Tryz.prog 33 #[.string ⟨#[110, 117, 109, 46, 108, 101, 115, 115]⟩, .slice a 2 c] w1 fun e w' => e = .returned (.int .i64 0) ∧ Ext w1 w') := HA
  clear HA
  obtain ⟨g, off, k0, n0, x0, a0, l0, c0, rfl, hg, h40, hr0⟩ := h.kid (j := 0) (Nat.le_of_ble_eq_true rfl)
  obtain ⟨rfl, rfl⟩ : k0 = 3 ∧ n0 = x := ⟨hr0.kind_eq.symm, hr0.num_eq.symm⟩
  obtain ⟨g1, off1, k1, n1, x1, a1, l1, c1, e1, _, h41, hr1⟩ := h.kid (j := 1) (Nat.le_of_ble_eq_true rfl)
  obtain ⟨rfl, rfl⟩ : k1 = 3 ∧ n1 = y := ⟨hr1.kind_eq.symm, hr1.num_eq.symm⟩
  obtain ⟨rfl, rfl⟩ : g = g1 ∧ off = off1 := by injection e1 with e1; injection e1 with e1 e2; exact ⟨e1, e2⟩
  clear e1
  have H40 := hid (show ∀ w1, Ext w w1 → Four w1 g off (.int .i64 3) (.int .i64 n0) (.string x0) (.slice a0 l0 c0) from fun w1 hx => by have h := Four.keep h40 (hx.kp K) hg; rwa [Nat.zero_mul, Nat.add_zero] at h)
  have H41 := hid (show ∀ w1, Ext w w1 → Four w1 g (off + 4) (.int .i64 3) (.int .i64 n1) (.string x1) (.slice a1 l1 c1) from fun w1 hx => by have h := Four.keep h41 (hx.kp K) hg; rwa [Nat.one_mul] at h)
  clear h hV h40 hr0 h41 hr1
  go_enter Tryz.func12, Tryz.ntmps12
  go_wp2_with fail
  refine (HA2.out _ (Ext.alloc _ _)).mono ?_
  rintro e w1 ⟨rfl, hx1⟩
  have HX := hid ((Ext.alloc w _).trans hx1)
  have HB := hid (hx1.block (blk0 w (.cells #[.int .i64 0, .int .i64 0, .string ⟨#[]⟩, .slice none 0 0] 34)))
  clear hx1
  go_wp2_with fail
  go_loopw [8] (fun q8 wr => ∃ j : Nat, j ≤ 2 ∧ q8 = .int .i64 j ∧ wr.heap[w.heap.size]? = some (.cells #[.int .i64 0, .int .i64 0, .string ⟨#[]⟩, .slice none 0 0] 34) ∧ Ext w wr) (fun q8 _ => 2 - (intOf q8).toNat)
  case atStart => exact ⟨0, Nat.zero_le _, rfl, HB.out, HX.out⟩
  case round =>
    obtain ⟨j, hj, rfl, hbk, hx⟩ := hrel
    have HX2 := hid hx
    have HB2 := hid hbk
    clear hx hbk HX HB
    obtain ⟨z0, z1, z2, z3⟩ := four_of HB2.out
    obtain ⟨f0, f1, f2, f3⟩ := four_free HB2.out
    by_cases hlt : j < 2
    · have hj2 : j = 0 ∨ j = 1 := by omega
      rcases hj2 with rfl | rfl
      · obtain ⟨o0, o1, o2, o3⟩ := H40.out _ HX2.out
        have hgl := lt_of_cell o0
        go_wp2_with fail
        go_roundw
        case rel => exact ⟨1, by decide, by go_num, HB2.out, HX2.out⟩
        case measure => simp [intOf]
      · obtain ⟨o0, o1, o2, o3⟩ := H41.out _ HX2.out
        have hgl := lt_of_cell o0
        go_wp2_with fail
        go_roundw
        case rel => exact ⟨2, by decide, by go_num, HB2.out, HX2.out⟩
        case measure => simp [intOf]
    · obtain rfl : j = 2 := by omega
      obtain ⟨o0, o1, o2, o3⟩ := H40.out _ HX2.out
      have hgl := lt_of_cell o0
      obtain ⟨p0, p1, p2, p3⟩ := H41.out _ HX2.out
      obtain ⟨bb, hbb⟩ : ∃ bb, decide (n0 < n1) = bb := ⟨_, rfl⟩
      rw [hbb]
      go_wp2_with fail
      refine (rtruth_any _ _).mono ?_
      rintro e w4 ⟨rfl, hx4⟩
      have HX4 := hid (HX2.out.trans hx4)
      have HB4 := hid (hx4.block HB2.out)
      clear hx4 z0 z1 z2 z3 f0 f1 f2 f3 o0 o1 o2 o3 p0 p1 p2 p3
      obtain ⟨z0, z1, z2, z3⟩ := four_of HB4.out
      obtain ⟨f0, f1, f2, f3⟩ := four_free HB4.out
      unfold plV
      go_wp2_with fail
      have HB3 := hid (four_set (u0 := .int .i64 2) (u1 := .int .i64 (tellI bb)) (u2 := .string ⟨#[]⟩) (u3 := .slice none 0 0) HB4.out)
      have HE := hid ((Kp.set4 w4 w.heap.size 0 (.int .i64 2) (.int .i64 (tellI bb)) (.string ⟨#[]⟩) (.slice none 0 0)).extOf HX4.out (Nat.le_refl _))
      obtain ⟨y0, y1, y2, y3⟩ := four_of HB3.out
      refine bodyPost_ret (v := .tuple #[plV 2 (tellI bb) ⟨#[]⟩, .int .i64 0, .string ⟨#[]⟩]) (by simp [results, Tryz.results12, go_sem, y0, y1, y2, y3, plV]) rfl ?_
      exact ⟨_, rfl, .inr (.inl ⟨bb, by rw [hbb], rfl⟩), HE.out⟩
set_option maxRecDepth 100000 in
set_option maxHeartbeats 2000000 in
theorem rW_most2 {K : Nat → Prop} {d : Nat} (a : Option Addr) (c : Nat) (x : Int) (y : Int) (w : World) (h : RdL K w d a [intT x, intT y]) (hV : askI numR ⟨#[110, 117, 109, 46, 109, 111, 115, 116]⟩ [intT x, intT y] = 0)  : Calls Tryz.prog 12 #[.string ⟨#[110, 117, 109, 46, 109, 111, 115, 116]⟩, .slice a 2 c] w (RefR w (toldV (decide (x ≤ y)))) := by
  have HA := hid (fun w1 (hx : Ext w w1) => askedN_any (K := K) (d := d) numR ⟨#[110, 117, 109, 46, 109, 111, 115, 116]⟩ a c [intT x, intT y] w1 (by decide) (by decide) refRows_any (h.keep (hx.kp K)))
  rw [hV] at HA
  have HA2 : Hid (∀ (w1 : World), Ext w w1 → Calls Tryz.prog 33 #[.string ⟨#[110, 117, 109, 46, 109, 111, 115, 116]⟩, .slice a 2 c] w1 fun e w' => e = .returned (.int .i64 0) ∧ Ext w1 w') := HA
  clear HA
  obtain ⟨g, off, k0, n0, x0, a0, l0, c0, rfl, hg, h40, hr0⟩ := h.kid (j := 0) (Nat.le_of_ble_eq_true rfl)
  obtain ⟨rfl, rfl⟩ : k0 = 3 ∧ n0 = x := ⟨hr0.kind_eq.symm, hr0.num_eq.symm⟩
  obtain ⟨g1, off1, k1, n1, x1, a1, l1, c1, e1, _, h41, hr1⟩ := h.kid (j := 1) (Nat.le_of_ble_eq_true rfl)
  obtain ⟨rfl, rfl⟩ : k1 = 3 ∧ n1 = y := ⟨hr1.kind_eq.symm, hr1.num_eq.symm⟩
  obtain ⟨rfl, rfl⟩ : g = g1 ∧ off = off1 := by injection e1 with e1; injection e1 with e1 e2; exact ⟨e1, e2⟩
  clear e1
  have H40 := hid (show ∀ w1, Ext w w1 → Four w1 g off (.int .i64 3) (.int .i64 n0) (.string x0) (.slice a0 l0 c0) from fun w1 hx => by have h := Four.keep h40 (hx.kp K) hg; rwa [Nat.zero_mul, Nat.add_zero] at h)
  have H41 := hid (show ∀ w1, Ext w w1 → Four w1 g (off + 4) (.int .i64 3) (.int .i64 n1) (.string x1) (.slice a1 l1 c1) from fun w1 hx => by have h := Four.keep h41 (hx.kp K) hg; rwa [Nat.one_mul] at h)
  clear h hV h40 hr0 h41 hr1
  go_enter Tryz.func12, Tryz.ntmps12
  go_wp2_with fail
  refine (HA2.out _ (Ext.alloc _ _)).mono ?_
  rintro e w1 ⟨rfl, hx1⟩
  have HX := hid ((Ext.alloc w _).trans hx1)
  have HB := hid (hx1.block (blk0 w (.cells #[.int .i64 0, .int .i64 0, .string ⟨#[]⟩, .slice none 0 0] 34)))
  clear hx1
  go_wp2_with fail
  go_loopw [8] (fun q8 wr => ∃ j : Nat, j ≤ 2 ∧ q8 = .int .i64 j ∧ wr.heap[w.heap.size]? = some (.cells #[.int .i64 0, .int .i64 0, .string ⟨#[]⟩, .slice none 0 0] 34) ∧ Ext w wr) (fun q8 _ => 2 - (intOf q8).toNat)
  case atStart => exact ⟨0, Nat.zero_le _, rfl, HB.out, HX.out⟩
  case round =>
    obtain ⟨j, hj, rfl, hbk, hx⟩ := hrel
    have HX2 := hid hx
    have HB2 := hid hbk
    clear hx hbk HX HB
    obtain ⟨z0, z1, z2, z3⟩ := four_of HB2.out
    obtain ⟨f0, f1, f2, f3⟩ := four_free HB2.out
    by_cases hlt : j < 2
    · have hj2 : j = 0 ∨ j = 1 := by omega
      rcases hj2 with rfl | rfl
      · obtain ⟨o0, o1, o2, o3⟩ := H40.out _ HX2.out
        have hgl := lt_of_cell o0
        go_wp2_with fail
        go_roundw
        case rel => exact ⟨1, by decide, by go_num, HB2.out, HX2.out⟩
        case measure => simp [intOf]
      · obtain ⟨o0, o1, o2, o3⟩ := H41.out _ HX2.out
        have hgl := lt_of_cell o0
        go_wp2_with fail
        go_roundw
        case rel => exact ⟨2, by decide, by go_num, HB2.out, HX2.out⟩
        case measure => simp [intOf]
    · obtain rfl : j = 2 := by omega
      obtain ⟨o0, o1, o2, o3⟩ := H40.out _ HX2.out
      have hgl := lt_of_cell o0
      obtain ⟨p0, p1, p2, p3⟩ := H41.out _ HX2.out
      obtain ⟨bb, hbb⟩ : ∃ bb, decide (n0 ≤ n1) = bb := ⟨_, rfl⟩
      rw [hbb]
      go_wp2_with fail
      refine (rtruth_any _ _).mono ?_
      rintro e w4 ⟨rfl, hx4⟩
      have HX4 := hid (HX2.out.trans hx4)
      have HB4 := hid (hx4.block HB2.out)
      clear hx4 z0 z1 z2 z3 f0 f1 f2 f3 o0 o1 o2 o3 p0 p1 p2 p3
      obtain ⟨z0, z1, z2, z3⟩ := four_of HB4.out
      obtain ⟨f0, f1, f2, f3⟩ := four_free HB4.out
      unfold plV
      go_wp2_with fail
      have HB3 := hid (four_set (u0 := .int .i64 2) (u1 := .int .i64 (tellI bb)) (u2 := .string ⟨#[]⟩) (u3 := .slice none 0 0) HB4.out)
      have HE := hid ((Kp.set4 w4 w.heap.size 0 (.int .i64 2) (.int .i64 (tellI bb)) (.string ⟨#[]⟩) (.slice none 0 0)).extOf HX4.out (Nat.le_refl _))
      obtain ⟨y0, y1, y2, y3⟩ := four_of HB3.out
      refine bodyPost_ret (v := .tuple #[plV 2 (tellI bb) ⟨#[]⟩, .int .i64 0, .string ⟨#[]⟩]) (by simp [results, Tryz.results12, go_sem, y0, y1, y2, y3, plV]) rfl ?_
      exact ⟨_, rfl, .inr (.inl ⟨bb, by rw [hbb], rfl⟩), HE.out⟩

end Go.Proofs.YtgpggkepgoelfaaGreatDoor
