/-
  espalierref11.Work by a contract, operation by operation.
-/
import Derived.Test.YtaafcmmmkalgjaaGreatDoorLRefB
import Derived.Test.YtaafcmmmkalgjaaGreatDoorYRef
import Derived.BigQuiet
import Derived.Deep.QuietTactic
import Derived.Deep.RegionLaw
namespace Go.Proofs.YtaafcmmmkalgjaaGreatDoor
open Go.RowKit
theorem listR_eq : listK.map kdRow = listR := by kernel_rfl
theorem listTab : TabK listK where
  strict := by
    intro k hk
    obtain ⟨i, hi, rfl⟩ := List.getElem_of_mem hk
    rw [listLen] at hi
    match i, hi with
    | 0, _ => exact (show anyS strictS (kdRow (listK[0]'(by decide))).abs = true from by kernel_rfl)
    | 1, _ => exact (show anyS strictS (kdRow (listK[1]'(by decide))).abs = true from by kernel_rfl)
    | 2, _ => exact (show anyS strictS (kdRow (listK[2]'(by decide))).abs = true from by kernel_rfl)
    | 3, _ => exact (show anyS strictS (kdRow (listK[3]'(by decide))).abs = true from by kernel_rfl)
    | 4, _ => exact (show anyS strictS (kdRow (listK[4]'(by decide))).abs = true from by kernel_rfl)
    | 5, _ => exact (show anyS strictS (kdRow (listK[5]'(by decide))).abs = true from by kernel_rfl)
    | 6, _ => exact (show anyS strictS (kdRow (listK[6]'(by decide))).abs = true from by kernel_rfl)
    | 7, _ => exact (show anyS strictS (kdRow (listK[7]'(by decide))).abs = true from by kernel_rfl)
    | 8, _ => exact (show anyS strictS (kdRow (listK[8]'(by decide))).abs = false from by kernel_rfl)
    | 9, _ => exact (show anyS strictS (kdRow (listK[9]'(by decide))).abs = false from by kernel_rfl)
    | n + 10, h => exact absurd h (by omega)
  nodup := by decide
  max := by
    intro k hk
    obtain ⟨i, hi, rfl⟩ := List.getElem_of_mem hk
    rw [listLen] at hi
    match i, hi with
    | 0, _ => exact .inl rfl
    | 1, _ => exact .inr (show (0 : Int) ≤ 1 by decide)
    | 2, _ => exact .inr (show (0 : Int) ≤ 2 by decide)
    | 3, _ => exact .inr (show (0 : Int) ≤ 2 by decide)
    | 4, _ => exact .inr (show (0 : Int) ≤ 2 by decide)
    | 5, _ => exact .inr (show (0 : Int) ≤ 3 by decide)
    | 6, _ => exact .inr (show (0 : Int) ≤ 1 by decide)
    | 7, _ => exact .inr (show (0 : Int) ≤ 1 by decide)
    | 8, _ => exact .inr (show (0 : Int) ≤ 2 by decide)
    | 9, _ => exact .inr (show (0 : Int) ≤ 2 by decide)
    | n + 10, h => exact absurd h (by omega)

theorem mayL_any {K : Nat → Prop} {d : Nat} (op : ByteArray) (a : Option Addr) (c : Nat) (ts : List T) (w : World) (h : RdL K w d a ts) : Calls Tryz.prog 19 #[.string op, .slice a ts.length c] w fun e w' => e = .returned (.int .i64 (askK listK op ts)) ∧ Ext w w' := by
  have := mayL_gen (K := K) (d := d) listR op a c ts w (by decide) (by decide) refRowsL_any h
  rwa [← listR_eq, ask_eq listK listTab] at this
theorem rdl_low {K : Nat → Prop} {w : World} {d : Nat} {a : Option Addr} {ks : List T} (h : RdL K w d a ks) : RdL (· < w.heap.size) w d a ks := by
  refine ⟨h.1, ?_⟩
  rcases h.2 with h | ⟨g, off, ha, _, hc⟩
  · exact .inl h
  · by_cases h0 : 0 < ks.length
    · refine .inr ⟨g, off, ha, ?_, fun j hj => ?_⟩
      · obtain ⟨_, _, _, _, h4, _⟩ := hc 0 h0
        exact lt_of_cell h4.1
      · obtain ⟨u0, u1, u2, u3, h4, hr⟩ := hc j hj
        exact ⟨u0, u1, u2, u3, h4, hr.low⟩
    · exact .inl (List.eq_nil_of_length_eq_zero (by omega))
theorem rdl_srow {w : World} {B d : Nat} {a : Option Addr} {ks : List T} (h : RdL (· < B) w d a ks) : SRow w B d a ks :=
  h.2.imp id fun ⟨g, off, ha, _, hc⟩ => ⟨g, off, ha, hc⟩
theorem arg_any {K : Nat → Prop} {w : World} {d : Nat} {a : Option Addr} {ts : List T} (h : RdL K w d a ts) {j : Nat} {t : T} (ht : ts[j]? = some t) : ∃ g off k n x a0 l0 c0, a = some ⟨g, off, none⟩ ∧ K g ∧ Four w g (off + j * 4) (.int .i64 k) (.int .i64 n) (.string x) (.slice a0 l0 c0) ∧ Rd K w d (.agg #[.int .i64 k, .int .i64 n, .string x, .slice a0 l0 c0]) t := by
  obtain ⟨hj, rfl⟩ := List.getElem?_eq_some_iff.1 ht
  exact h.kid hj
theorem arg_list {K : Nat → Prop} {w : World} {d : Nat} {a : Option Addr} {ts : List T} (h : RdL K w d a ts) {j : Nat} {ks : List T} (ht : ts[j]? = some (listT ks)) : ∃ g off d' a0 c0, a = some ⟨g, off, none⟩ ∧ K g ∧ Four w g (off + j * 4) (.int .i64 5) (.int .i64 0) (.string ⟨#[]⟩) (.slice a0 ks.length c0) ∧ RdL K w d' a0 ks := by
  obtain ⟨g, off, k, n, x, a0, l0, c0, ha, hg, h4, hr⟩ := arg_any h ht
  cases d with
  | zero => exact hr.elim
  | succ d =>
    obtain ⟨a1, c1, e, hk⟩ := Rd.kidsL (show Rd K w (d + 1) _ (.node 5 0 ⟨#[]⟩ ks) from hr)
    simp only [Value.agg.injEq, Array.mk.injEq, List.cons.injEq, and_true, Value.int.injEq, Value.string.injEq, true_and] at e
    obtain ⟨rfl, rfl, rfl, e4⟩ := e
    rw [e4] at h4
    exact ⟨g, off, d, a1, c1, ha, hg, h4, hk⟩
theorem arg_int {K : Nat → Prop} {w : World} {d : Nat} {a : Option Addr} {ts : List T} (h : RdL K w d a ts) {j : Nat} {i : Int} (ht : ts[j]? = some (intT i)) : ∃ g off q l c, a = some ⟨g, off, none⟩ ∧ Four w g (off + j * 4) (.int .i64 3) (.int .i64 i) (.string ⟨#[]⟩) (.slice q l c) := by
  obtain ⟨g, off, k, n, x, a0, l0, c0, ha, hg, h4, hr⟩ := arg_any h ht
  cases d with
  | zero => exact hr.elim
  | succ d =>
    obtain ⟨a1, c1, e, _⟩ := Rd.kidsL (show Rd K w (d + 1) _ (.node 3 i ⟨#[]⟩ []) from hr)
    simp only [Value.agg.injEq, Array.mk.injEq, List.cons.injEq, and_true, Value.int.injEq, Value.string.injEq, true_and] at e
    obtain ⟨rfl, rfl, rfl, _⟩ := e
    exact ⟨g, off, a0, l0, c0, ha, h4⟩
theorem kdROf (a : Option Addr) (n c : Nat) (w : World) : Calls Tryz.prog 20 #[.string nOf, .slice a n c] w fun e w' => e = .returned (.bool true) ∧ w' = w := by
  unfold nOf
  go_enter Tryz.func20, Tryz.ntmps20
  go_wp2_with fail
  go_ret
  exact ⟨rfl, rfl⟩
/-- Below b, or behind N. -/
def KB (b N : Nat) (x : Nat) : Prop := x < b ∨ N < x
theorem kb_keep {b N : Nat} (hb : b ≤ N) {w w' : World} (h : Kp (· ≠ N) w w') : Kp (KB b N) w w' := h.mono fun k _ hk e => by
  have h1 : k < b ∨ N < k := hk
  have h2 : k = N := e
  omega
/-- What a call of Work comes to. -/
def WorkR (b : Nat) (r : Ans) (w : World) (e : Ending) (w' : World) : Prop := ∃ R, e = .returned R ∧ AnsK (KB b w.heap.size) r w' R ∧ Ext w w'
set_option maxRecDepth 100000 in
set_option maxHeartbeats 4000000 in
theorem rwL_bad {d : Nat} (a : Option Addr) (c : Nat) (op : ByteArray) (ts : List T) (w : World) (bq : Nat) (_ : bq ≤ w.heap.size) (h : RdL (· < bq) w d a ts) (V : Int) (hV : askK listK op ts = V) (hz : (V == 0) = false) : Calls Tryz.prog 7 #[.string op, .slice a ts.length c] w (WorkR bq (Ans.one V) w) := by
  have HA := hid (fun w1 (hx : Ext w w1) => mayL_any (K := (· < bq)) (d := d) op a c ts w1 (h.keep (hx.kp _)))
  rw [hV] at HA
  have hz' : (V != 0) = true := by unfold bne; rw [hz]; rfl
  clear h hV
  generalize ts.length = n at *
  go_enter Tryz.func7, Tryz.ntmps7
  go_wp2_with fail
  refine (HA.out _ (Ext.alloc _ _)).mono ?_
  rintro e w1 ⟨rfl, hx1⟩
  have HX := hid ((Ext.alloc w (.cells #[.int .i64 0, .int .i64 0, .string ⟨#[]⟩, .slice none 0 0] 30)).trans hx1)
  have HB := hid (hx1.block (blk0 w (.cells #[.int .i64 0, .int .i64 0, .string ⟨#[]⟩, .slice none 0 0] 30)))
  have HSZ := hid (lt_of_block HB.out)
  obtain ⟨z0, z1, z2, z3⟩ := four_of HB.out
  obtain ⟨f0, f1, f2, f3⟩ := four_free HB.out
  clear hx1
  go_wp2_with fail
  have HB2 := hid (four_set (u0 := .int .i64 0) (u1 := .int .i64 0) (u2 := .string ⟨#[]⟩) (u3 := .slice none 0 0) HB.out)
  have HKZ := hid (Kp.set4 w1 w.heap.size 0 (.int .i64 0) (.int .i64 0) (.string ⟨#[]⟩) (.slice none 0 0))
  have HE := hid (HKZ.out.extOf HX.out (Nat.le_refl _))
  obtain ⟨y0, y1, y2, y3⟩ := four_of HB2.out
  refine bodyPost_ret (v := .tuple #[.agg #[.int .i64 0, .int .i64 0, .string ⟨#[]⟩, .slice none 0 0], .int .i64 V, .string ⟨#[]⟩]) (by simp [results, Tryz.results7, go_sem, y0, y1, y2, y3]) rfl ?_
  first | exact ⟨_, rfl, rfl, HE.out⟩ | exact ⟨_, rfl, rfl, HE.out.drew⟩
set_option maxRecDepth 100000 in
set_option maxHeartbeats 4000000 in
theorem rwL_kind {d : Nat} (a : Option Addr) (c : Nat) (op : ByteArray) (ts : List T) (w : World) (bq : Nat) (_ : bq ≤ w.heap.size) (h : RdL (· < bq) w d a ts) (hV : askK listK op ts = 0) (hk : ∀ w1, Ext w w1 → Calls Tryz.prog 20 #[.string op, .slice a ts.length c] w1 fun e w' => e = .returned (.bool false) ∧ w' = w1) : Calls Tryz.prog 7 #[.string op, .slice a ts.length c] w (WorkR bq (Ans.one 20) w) := by
  have HA := hid (fun w1 (hx : Ext w w1) => mayL_any (K := (· < bq)) (d := d) op a c ts w1 (h.keep (hx.kp _)))
  rw [hV] at HA
  have HKD := hid hk
  clear h hV hk
  generalize ts.length = n at *
  go_enter Tryz.func7, Tryz.ntmps7
  go_wp2_with fail
  refine (HA.out _ (Ext.alloc _ _)).mono ?_
  rintro e w1 ⟨rfl, hx1⟩
  have HX := hid ((Ext.alloc w (.cells #[.int .i64 0, .int .i64 0, .string ⟨#[]⟩, .slice none 0 0] 30)).trans hx1)
  have HB := hid (hx1.block (blk0 w (.cells #[.int .i64 0, .int .i64 0, .string ⟨#[]⟩, .slice none 0 0] 30)))
  have HSZ := hid (lt_of_block HB.out)
  obtain ⟨z0, z1, z2, z3⟩ := four_of HB.out
  obtain ⟨f0, f1, f2, f3⟩ := four_free HB.out
  clear hx1
  go_wp2_with fail
  refine (HKD.out _ HX.out).mono ?_
  rintro e w2 ⟨rfl, hw2⟩
  rw [hw2]
  clear hw2 w2
  go_wp2_with fail
  have HB2 := hid (four_set (u0 := .int .i64 0) (u1 := .int .i64 0) (u2 := .string ⟨#[]⟩) (u3 := .slice none 0 0) HB.out)
  have HKZ := hid (Kp.set4 w1 w.heap.size 0 (.int .i64 0) (.int .i64 0) (.string ⟨#[]⟩) (.slice none 0 0))
  have HE := hid (HKZ.out.extOf HX.out (Nat.le_refl _))
  obtain ⟨y0, y1, y2, y3⟩ := four_of HB2.out
  refine bodyPost_ret (v := .tuple #[.agg #[.int .i64 0, .int .i64 0, .string ⟨#[]⟩, .slice none 0 0], .int .i64 20, .string ⟨#[]⟩]) (by simp [results, Tryz.results7, go_sem, y0, y1, y2, y3]) rfl ?_
  first | exact ⟨_, rfl, rfl, HE.out⟩ | exact ⟨_, rfl, rfl, HE.out.drew⟩
set_option maxRecDepth 100000 in
set_option maxHeartbeats 4000000 in
theorem rwL_of {d : Nat} (a : Option Addr) (c : Nat) (ts : List T) (w : World) (bq : Nat) (hbq : bq ≤ w.heap.size) (h : RdL (· < bq) w d a ts) (hV : askK listK nOf ts = 0) : Calls Tryz.prog 7 #[.string nOf, .slice a ts.length c] w (WorkR bq (lonF ts) w) := by
  have HA := hid (fun w1 (hx : Ext w w1) => mayL_any (K := (· < bq)) (d := d) nOf a c ts w1 (h.keep (hx.kp _)))
  rw [hV] at HA
  have HKD := hid (fun w1 (_ : Ext w w1) => kdROf a ts.length c w1)
  have HS := hid (fun w1 (hx : Ext w w1) => (rdl_srow h).later hx)
  have hlen := h.1
  clear h hV
  obtain ⟨n, hne⟩ : ∃ n, ts.length = n := ⟨_, rfl⟩
  have HNE := hid hne
  rw [hne] at HA HKD hlen ⊢
  clear hne
  unfold nOf at *
  go_enter Tryz.func7, Tryz.ntmps7
  go_wp2_with fail
  refine (HA.out _ (Ext.alloc _ _)).mono ?_
  rintro e w1 ⟨rfl, hx1⟩
  have HX := hid ((Ext.alloc w (.cells #[.int .i64 0, .int .i64 0, .string ⟨#[]⟩, .slice none 0 0] 30)).trans hx1)
  have HB := hid (hx1.block (blk0 w (.cells #[.int .i64 0, .int .i64 0, .string ⟨#[]⟩, .slice none 0 0] 30)))
  have HSZ := hid (lt_of_block HB.out)
  obtain ⟨z0, z1, z2, z3⟩ := four_of HB.out
  obtain ⟨f0, f1, f2, f3⟩ := four_free HB.out
  clear hx1
  go_wp2_with fail
  refine (HKD.out _ HX.out).mono ?_
  rintro e w2 ⟨rfl, hw2⟩
  rw [hw2]
  clear hw2 w2
  go_wp2_with (at_builtin; refine app_rits rfl _ _ rfl rfl bq (w.heap.size + 1) d (.slice none 0 0) [] a n c ts rfl rfl HNE.out (by omega) (by have := HSZ.out; omega) (RIt.nil _ _ _) (HS.out _ HX.out) (by simp; omega) n (by simp) ts (List.nil_append _) ?_; intro a9 c9 w9 hit9 _ hx9; have HI9 := hid hit9; have X9 := hid (hx9 rfl); clear hit9 hx9)
  have HBW := hid (X9.out.block HB.out)
  have HWH := hid (whole_any (K := KB bq w.heap.size) c9 w9 (HI9.out.rdl (fun x hx => by show x < bq ∨ w.heap.size < x; omega) (by rw [HNE.out]; omega)))
  rw [HNE.out] at HWH
  clear z0 z1 z2 z3 f0 f1 f2 f3
  refine HWH.out.mono ?_
  rintro e w4 ⟨R, rfl, hr, hx4⟩
  obtain ⟨pk, pn, px, pa, pl', pc, ec, ex, rfl⟩ := hr.shape
  have HR := hid hr
  have HX4 := hid ((HX.out.trans X9.out).trans hx4)
  have HB4 := hid (hx4.block HBW.out)
  obtain ⟨z0, z1, z2, z3⟩ := four_of HB4.out
  obtain ⟨f0, f1, f2, f3⟩ := four_free HB4.out
  clear hr hx4
  go_wp2_with fail
  have HB2 := hid (four_set (u0 := .int .i64 pk) (u1 := .int .i64 pn) (u2 := .string px) (u3 := (.slice pa pl' pc)) HB4.out)
  have HKZ := hid (Kp.set4 w4 w.heap.size 0 (.int .i64 pk) (.int .i64 pn) (.string px) ((.slice pa pl' pc)))
  have HE := hid (HKZ.out.extOf HX4.out (Nat.le_refl _))
  obtain ⟨y0, y1, y2, y3⟩ := four_of HB2.out
  refine bodyPost_ret (v := .tuple #[.agg #[.int .i64 pk, .int .i64 pn, .string px, (.slice pa pl' pc)], .int .i64 ec, .string ex]) (by simp [results, Tryz.results7, go_sem, y0, y1, y2, y3]) rfl ?_
  first | exact ⟨_, rfl, (HR.out.keep (kb_keep hbq HKZ.out)), HE.out⟩ | exact ⟨_, rfl, (HR.out.keep (kb_keep hbq HKZ.out)), HE.out.drew⟩

end Go.Proofs.YtaafcmmmkalgjaaGreatDoor
/-
  espalierref11.Work: size, at, count, turn, cut; by contracts.
-/
namespace Go.Proofs.YtaafcmmmkalgjaaGreatDoor
open Go.RowKit
/-- The room of a list that came in is no less than its length. -/
def CapL (w : World) (a : Option Addr) (n : Nat) : Prop := ∀ g off, a = some ⟨g, off, none⟩ → ∀ j, j < n → ∀ q l c, w.cell? ⟨g, off + j * 4 + 3, none⟩ = some (.slice q l c) → l ≤ c
set_option maxRecDepth 100000 in
set_option maxHeartbeats 4000000 in
theorem rwL_size {d : Nat} (a : Option Addr) (c : Nat) (ks : List T) (w : World) (bq : Nat) (_ : bq ≤ w.heap.size) (h : RdL (· < bq) w d a [listT ks]) (hV : askK listK nSize [listT ks] = 0) : Calls Tryz.prog 7 #[.string nSize, .slice a 1 c] w (WorkR bq (.good (intT (ks.length : Int))) w) := by
  obtain ⟨g, off, d', a0, c0, rfl, hg, h40, hks⟩ := arg_list (j := 0) h (show [listT ks][0]? = some (listT ks) from rfl)
  have H40 := hid (show ∀ w1, Ext w w1 → Four w1 g off (.int .i64 5) (.int .i64 0) (.string ⟨#[]⟩) (.slice a0 ks.length c0) from fun w1 hx => by
    have := Four.keep h40 (hx.kp (fun _ => True)) trivial
    rwa [Nat.zero_mul, Nat.add_zero] at this)
  have HKS := hid hks
  have hgw : g < w.heap.size := lt_of_cell h40.1
  have hlen := hks.1
  have HA := hid (show ∀ w1, Ext w w1 → Calls Tryz.prog 19 #[.string nSize, .slice (some ⟨g, off, none⟩) 1 c] w1 (fun e w' => e = .returned (.int .i64 0) ∧ Ext w1 w') from fun w1 hx => by
    have := mayL_any (K := (· < bq)) (d := d) nSize (some ⟨g, off, none⟩) c [listT ks] w1 (h.keep (hx.kp _))
    rwa [hV] at this)
  have HKD := hid (show ∀ w1, Ext w w1 → Calls Tryz.prog 20 #[.string nSize, .slice (some ⟨g, off, none⟩) 1 c] w1 (fun e w' => e = .returned (.bool true) ∧ w' = w1) from fun w1 hx => kdRSize g off c 5 w1 (H40.out w1 hx).1)
  clear h hV h40 hks hg
  generalize ks.length = n at *
  have hn' : (n : Int) ≤ 140737488351232 := by omega
  unfold nSize at *
  go_enter Tryz.func7, Tryz.ntmps7
  go_wp2_with fail
  refine (HA.out _ (Ext.alloc _ _)).mono ?_
  rintro e w1 ⟨rfl, hx1⟩
  have HX := hid ((Ext.alloc w (.cells #[.int .i64 0, .int .i64 0, .string ⟨#[]⟩, .slice none 0 0] 30)).trans hx1)
  have HB := hid (hx1.block (blk0 w (.cells #[.int .i64 0, .int .i64 0, .string ⟨#[]⟩, .slice none 0 0] 30)))
  have HSZ := hid (lt_of_block HB.out)
  obtain ⟨z0, z1, z2, z3⟩ := four_of HB.out
  obtain ⟨f0, f1, f2, f3⟩ := four_free HB.out
  clear hx1
  go_wp2_with fail
  refine (HKD.out _ HX.out).mono ?_
  rintro e w2 ⟨rfl, hw2⟩
  rw [hw2]
  clear hw2 w2
  obtain ⟨o0, o1, o2, o3⟩ := H40.out _ HX.out
  have hgl := lt_of_cell o0
  clear o0 o1 o2
  go_wp2_with fail
  have HB2 := hid (four_set (u0 := .int .i64 3) (u1 := .int .i64 (n : Int)) (u2 := .string ⟨#[]⟩) (u3 := .slice none 0 0) HB.out)
  have HKZ := hid (Kp.set4 w1 w.heap.size 0 (.int .i64 3) (.int .i64 (n : Int)) (.string ⟨#[]⟩) (.slice none 0 0))
  have HE := hid (HKZ.out.extOf HX.out (Nat.le_refl _))
  obtain ⟨y0, y1, y2, y3⟩ := four_of HB2.out
  refine bodyPost_ret (v := .tuple #[.agg #[.int .i64 3, .int .i64 (n : Int), .string ⟨#[]⟩, .slice none 0 0], .int .i64 0, .string ⟨#[]⟩]) (by simp [results, Tryz.results7, go_sem, y0, y1, y2, y3]) rfl ?_
  first | exact ⟨_, rfl, ⟨1, _, rfl, none, 0, rfl, by decide, by decide, .inl rfl⟩, HE.out⟩ | exact ⟨_, rfl, ⟨1, _, rfl, none, 0, rfl, by decide, by decide, .inl rfl⟩, HE.out.drew⟩
set_option maxRecDepth 100000 in
set_option maxHeartbeats 4000000 in
theorem rwL_count {d : Nat} (a : Option Addr) (c : Nat) (x : Int) (w : World) (bq : Nat) (hbq : bq ≤ w.heap.size) (h : RdL (· < bq) w d a [intT x]) (hV : askK listK nCount [intT x] = 0) : Calls Tryz.prog 7 #[.string nCount, .slice a 1 c] w (WorkR bq (countF x) w) := by
  obtain ⟨g, off, q0, l0, c0, rfl, h40⟩ := arg_int (j := 0) h (show [intT x][0]? = some (intT x) from rfl)
  have H40 := hid (show ∀ w1, Ext w w1 → Four w1 g off (.int .i64 3) (.int .i64 x) (.string ⟨#[]⟩) (.slice q0 l0 c0) from fun w1 hx => by
    have := Four.keep h40 (hx.kp (fun _ => True)) trivial
    rwa [Nat.zero_mul, Nat.add_zero] at this)
  have HA := hid (show ∀ w1, Ext w w1 → Calls Tryz.prog 19 #[.string nCount, .slice (some ⟨g, off, none⟩) 1 c] w1 (fun e w' => e = .returned (.int .i64 0) ∧ Ext w1 w') from fun w1 hx => by
    have := mayL_any (K := (· < bq)) (d := d) nCount (some ⟨g, off, none⟩) c [intT x] w1 (h.keep (hx.kp _))
    rwa [hV] at this)
  have HKD := hid (show ∀ w1, Ext w w1 → Calls Tryz.prog 20 #[.string nCount, .slice (some ⟨g, off, none⟩) 1 c] w1 (fun e w' => e = .returned (.bool true) ∧ w' = w1) from fun w1 hx => kdRCount g off c 3 w1 (H40.out w1 hx).1)
  clear h hV h40
  unfold nCount at *
  go_enter Tryz.func7, Tryz.ntmps7
  go_wp2_with fail
  refine (HA.out _ (Ext.alloc _ _)).mono ?_
  rintro e w1 ⟨rfl, hx1⟩
  have HX := hid ((Ext.alloc w (.cells #[.int .i64 0, .int .i64 0, .string ⟨#[]⟩, .slice none 0 0] 30)).trans hx1)
  have HB := hid (hx1.block (blk0 w (.cells #[.int .i64 0, .int .i64 0, .string ⟨#[]⟩, .slice none 0 0] 30)))
  have HSZ := hid (lt_of_block HB.out)
  obtain ⟨z0, z1, z2, z3⟩ := four_of HB.out
  obtain ⟨f0, f1, f2, f3⟩ := four_free HB.out
  clear hx1
  go_wp2_with fail
  refine (HKD.out _ HX.out).mono ?_
  rintro e w2 ⟨rfl, hw2⟩
  rw [hw2]
  clear hw2 w2
  obtain ⟨o0, o1, o2, o3⟩ := H40.out _ HX.out
  have hgl := lt_of_cell o0
  clear o0 o2 o3
  have HBW := HB
  have HCN := hid (show Calls Tryz.prog 22 #[.int .i64 x] w1 (fun e w' => ∃ R, e = .returned R ∧ AnsK (KB bq w.heap.size) (countF x) w' R ∧ Ext w1 w') from (rcount_any x w.heap.size w1 HSZ.out).mono fun e w' ⟨R, he, hr, hx⟩ => ⟨R, he, hr.mono (fun k _ hk => .inr hk), hx⟩)
  go_wp2_with fail
  clear o1 hgl z0 z1 z2 z3 f0 f1 f2 f3
  refine HCN.out.mono ?_
  rintro e w4 ⟨R, rfl, hr, hx4⟩
  obtain ⟨pk, pn, px, pa, pl', pc, ec, ex, rfl⟩ := hr.shape
  have HR := hid hr
  have HX4 := hid (HX.out.trans hx4)
  have HB4 := hid (hx4.block HBW.out)
  obtain ⟨z0, z1, z2, z3⟩ := four_of HB4.out
  obtain ⟨f0, f1, f2, f3⟩ := four_free HB4.out
  clear hr hx4
  go_wp2_with fail
  have HB2 := hid (four_set (u0 := .int .i64 pk) (u1 := .int .i64 pn) (u2 := .string px) (u3 := (.slice pa pl' pc)) HB4.out)
  have HKZ := hid (Kp.set4 w4 w.heap.size 0 (.int .i64 pk) (.int .i64 pn) (.string px) ((.slice pa pl' pc)))
  have HE := hid (HKZ.out.extOf HX4.out (Nat.le_refl _))
  obtain ⟨y0, y1, y2, y3⟩ := four_of HB2.out
  refine bodyPost_ret (v := .tuple #[.agg #[.int .i64 pk, .int .i64 pn, .string px, (.slice pa pl' pc)], .int .i64 ec, .string ex]) (by simp [results, Tryz.results7, go_sem, y0, y1, y2, y3]) rfl ?_
  first | exact ⟨_, rfl, (HR.out.keep (kb_keep hbq HKZ.out)), HE.out⟩ | exact ⟨_, rfl, (HR.out.keep (kb_keep hbq HKZ.out)), HE.out.drew⟩
set_option maxRecDepth 100000 in
set_option maxHeartbeats 4000000 in
theorem rwL_at {d : Nat} (a : Option Addr) (c : Nat) (ks : List T) (i : Int) (w : World) (bq : Nat) (hbq : bq ≤ w.heap.size) (h : RdL (· < bq) w d a [listT ks, intT i]) (hV : askK listK nAt [listT ks, intT i] = 0) : Calls Tryz.prog 7 #[.string nAt, .slice a 2 c] w (WorkR bq (if i < 0 ∨ (ks.length : Int) ≤ i then .one 23 else .good (ks.getD i.toNat unitT)) w) := by
  obtain ⟨g, off, d', a0, c0, rfl, hg, h40, hks⟩ := arg_list (j := 0) h (show [listT ks, intT i][0]? = some (listT ks) from rfl)
  have H40 := hid (show ∀ w1, Ext w w1 → Four w1 g off (.int .i64 5) (.int .i64 0) (.string ⟨#[]⟩) (.slice a0 ks.length c0) from fun w1 hx => by
    have := Four.keep h40 (hx.kp (fun _ => True)) trivial
    rwa [Nat.zero_mul, Nat.add_zero] at this)
  have HKS := hid hks
  have hgw : g < w.heap.size := lt_of_cell h40.1
  have hlen := hks.1
  obtain ⟨ig, ioff, iq, il, ic, ea, h4i⟩ := arg_int (j := 1) h (show [listT ks, intT i][1]? = some (intT i) from rfl)
  obtain ⟨rfl, rfl⟩ : g = ig ∧ off = ioff := by injection ea with ea; injection ea with ea eb; exact ⟨ea, eb⟩
  clear ea
  have H4i := hid (show ∀ w1, Ext w w1 → Four w1 g (off + 4) (.int .i64 3) (.int .i64 i) (.string ⟨#[]⟩) (.slice iq il ic) from fun w1 hx => Four.keep h4i (hx.kp (fun _ => True)) trivial)
  clear h4i
  have HA := hid (show ∀ w1, Ext w w1 → Calls Tryz.prog 19 #[.string nAt, .slice (some ⟨g, off, none⟩) 2 c] w1 (fun e w' => e = .returned (.int .i64 0) ∧ Ext w1 w') from fun w1 hx => by
    have := mayL_any (K := (· < bq)) (d := d) nAt (some ⟨g, off, none⟩) c [listT ks, intT i] w1 (h.keep (hx.kp _))
    rwa [hV] at this)
  have HKD := hid (show ∀ w1, Ext w w1 → Calls Tryz.prog 20 #[.string nAt, .slice (some ⟨g, off, none⟩) 2 c] w1 (fun e w' => e = .returned (.bool true) ∧ w' = w1) from fun w1 hx => kdRAt g off c 5 3 w1 (H40.out w1 hx).1 (H4i.out w1 hx).1)
  clear h hV h40 hks hg
  unfold nAt at *
  by_cases b1 : i < 0
  · rw [if_pos (.inl b1)]
    generalize ks.length = n at *
    have hn' : (n : Int) ≤ 140737488351232 := by omega
    go_enter Tryz.func7, Tryz.ntmps7
    go_wp2_with fail
    refine (HA.out _ (Ext.alloc _ _)).mono ?_
    rintro e w1 ⟨rfl, hx1⟩
    have HX := hid ((Ext.alloc w (.cells #[.int .i64 0, .int .i64 0, .string ⟨#[]⟩, .slice none 0 0] 30)).trans hx1)
    have HB := hid (hx1.block (blk0 w (.cells #[.int .i64 0, .int .i64 0, .string ⟨#[]⟩, .slice none 0 0] 30)))
    have HSZ := hid (lt_of_block HB.out)
    obtain ⟨z0, z1, z2, z3⟩ := four_of HB.out
    obtain ⟨f0, f1, f2, f3⟩ := four_free HB.out
    clear hx1
    go_wp2_with fail
    refine (HKD.out _ HX.out).mono ?_
    rintro e w2 ⟨rfl, hw2⟩
    rw [hw2]
    clear hw2 w2
    obtain ⟨o0, o1, o2, o3⟩ := H40.out _ HX.out
    obtain ⟨p0, p1, p2, p3⟩ := H4i.out _ HX.out
    have hgl := lt_of_cell o0
    clear o0 o1 o2 p0 p2 p3
    go_wp2_with fail
    have HB2 := hid (four_set (u0 := .int .i64 0) (u1 := .int .i64 0) (u2 := .string ⟨#[]⟩) (u3 := .slice none 0 0) HB.out)
    have HKZ := hid (Kp.set4 w1 w.heap.size 0 (.int .i64 0) (.int .i64 0) (.string ⟨#[]⟩) (.slice none 0 0))
    have HE := hid (HKZ.out.extOf HX.out (Nat.le_refl _))
    obtain ⟨y0, y1, y2, y3⟩ := four_of HB2.out
    refine bodyPost_ret (v := .tuple #[.agg #[.int .i64 0, .int .i64 0, .string ⟨#[]⟩, .slice none 0 0], .int .i64 23, .string ⟨#[]⟩]) (by simp [results, Tryz.results7, go_sem, y0, y1, y2, y3]) rfl ?_
    first | exact ⟨_, rfl, rfl, HE.out⟩ | exact ⟨_, rfl, rfl, HE.out.drew⟩
  by_cases b2 : (ks.length : Int) ≤ i
  · rw [if_pos (.inr b2)]
    generalize ks.length = n at *
    have hn' : (n : Int) ≤ 140737488351232 := by omega
    go_enter Tryz.func7, Tryz.ntmps7
    go_wp2_with fail
    refine (HA.out _ (Ext.alloc _ _)).mono ?_
    rintro e w1 ⟨rfl, hx1⟩
    have HX := hid ((Ext.alloc w (.cells #[.int .i64 0, .int .i64 0, .string ⟨#[]⟩, .slice none 0 0] 30)).trans hx1)
    have HB := hid (hx1.block (blk0 w (.cells #[.int .i64 0, .int .i64 0, .string ⟨#[]⟩, .slice none 0 0] 30)))
    have HSZ := hid (lt_of_block HB.out)
    obtain ⟨z0, z1, z2, z3⟩ := four_of HB.out
    obtain ⟨f0, f1, f2, f3⟩ := four_free HB.out
    clear hx1
    go_wp2_with fail
    refine (HKD.out _ HX.out).mono ?_
    rintro e w2 ⟨rfl, hw2⟩
    rw [hw2]
    clear hw2 w2
    obtain ⟨o0, o1, o2, o3⟩ := H40.out _ HX.out
    obtain ⟨p0, p1, p2, p3⟩ := H4i.out _ HX.out
    have hgl := lt_of_cell o0
    clear o0 o1 o2 p0 p2 p3
    go_wp2_with fail
    have HB2 := hid (four_set (u0 := .int .i64 0) (u1 := .int .i64 0) (u2 := .string ⟨#[]⟩) (u3 := .slice none 0 0) HB.out)
    have HKZ := hid (Kp.set4 w1 w.heap.size 0 (.int .i64 0) (.int .i64 0) (.string ⟨#[]⟩) (.slice none 0 0))
    have HE := hid (HKZ.out.extOf HX.out (Nat.le_refl _))
    obtain ⟨y0, y1, y2, y3⟩ := four_of HB2.out
    refine bodyPost_ret (v := .tuple #[.agg #[.int .i64 0, .int .i64 0, .string ⟨#[]⟩, .slice none 0 0], .int .i64 23, .string ⟨#[]⟩]) (by simp [results, Tryz.results7, go_sem, y0, y1, y2, y3]) rfl ?_
    first | exact ⟨_, rfl, rfl, HE.out⟩ | exact ⟨_, rfl, rfl, HE.out.drew⟩
  rw [if_neg (fun h => h.elim b1 b2)]
  obtain ⟨j, rfl⟩ : ∃ j : Nat, i = (j : Int) := ⟨i.toNat, by omega⟩
  have hj : j < ks.length := by omega
  rw [Int.toNat_natCast, show ks.getD j unitT = ks[j] by rw [List.getD_eq_getElem?_getD, List.getElem?_eq_getElem hj]; rfl]
  obtain ⟨g0, o0', k', n', x', a', l', c', rfl, _, h4j, hrj⟩ := HKS.out.kid hj
  have H4J := hid (show ∀ w1, Ext w w1 → Four w1 g0 (o0' + j * 4) (.int .i64 k') (.int .i64 n') (.string x') (.slice a' l' c') from fun w1 hx => Four.keep h4j (hx.kp (fun _ => True)) trivial)
  have HRJ := hid hrj
  have hg0 : g0 < w.heap.size := lt_of_cell h4j.1
  clear h4j hrj HKS
  generalize ks[j] = tj at *
  generalize ks.length = n at *
  have hn' : (n : Int) ≤ 140737488351232 := by omega
  have hj' : (j : Int) < (n : Int) := by omega
  have b3 : ¬ (n : Int) ≤ (j : Int) := b2
  go_enter Tryz.func7, Tryz.ntmps7
  go_wp2_with fail
  refine (HA.out _ (Ext.alloc _ _)).mono ?_
  rintro e w1 ⟨rfl, hx1⟩
  have HX := hid ((Ext.alloc w (.cells #[.int .i64 0, .int .i64 0, .string ⟨#[]⟩, .slice none 0 0] 30)).trans hx1)
  have HB := hid (hx1.block (blk0 w (.cells #[.int .i64 0, .int .i64 0, .string ⟨#[]⟩, .slice none 0 0] 30)))
  have HSZ := hid (lt_of_block HB.out)
  obtain ⟨z0, z1, z2, z3⟩ := four_of HB.out
  obtain ⟨f0, f1, f2, f3⟩ := four_free HB.out
  clear hx1
  go_wp2_with fail
  refine (HKD.out _ HX.out).mono ?_
  rintro e w2 ⟨rfl, hw2⟩
  rw [hw2]
  clear hw2 w2
  obtain ⟨o0, o1, o2, o3⟩ := H40.out _ HX.out
  obtain ⟨p0, p1, p2, p3⟩ := H4i.out _ HX.out
  obtain ⟨r0, r1, r2, r3⟩ := H4J.out _ HX.out
  have hgl := lt_of_cell o0
  have hgl2 := lt_of_cell r0
  clear o0 o1 o2 p0 p2 p3
  go_wp2_with fail
  have HB2 := hid (four_set (u0 := .int .i64 k') (u1 := .int .i64 n') (u2 := .string x') (u3 := (.slice a' l' c')) HB.out)
  have HKZ := hid (Kp.set4 w1 w.heap.size 0 (.int .i64 k') (.int .i64 n') (.string x') ((.slice a' l' c')))
  have HE := hid (HKZ.out.extOf HX.out (Nat.le_refl _))
  obtain ⟨y0, y1, y2, y3⟩ := four_of HB2.out
  refine bodyPost_ret (v := .tuple #[.agg #[.int .i64 k', .int .i64 n', .string x', (.slice a' l' c')], .int .i64 0, .string ⟨#[]⟩]) (by simp [results, Tryz.results7, go_sem, y0, y1, y2, y3]) rfl ?_
  first | exact ⟨_, rfl, ⟨d', _, rfl, ((HRJ.out.later HX.out).mono (fun k _ hk => .inl hk)).keep (kb_keep hbq HKZ.out)⟩, HE.out⟩ | exact ⟨_, rfl, ⟨d', _, rfl, ((HRJ.out.later HX.out).mono (fun k _ hk => .inl hk)).keep (kb_keep hbq HKZ.out)⟩, HE.out.drew⟩

end Go.Proofs.YtaafcmmmkalgjaaGreatDoor
/-
  espalierref11.Work: turn, cut; by contracts.
-/
namespace Go.Proofs.YtaafcmmmkalgjaaGreatDoor
open Go.RowKit
set_option maxRecDepth 100000 in
set_option maxHeartbeats 4000000 in
theorem rwL_turn {d : Nat} (a : Option Addr) (c : Nat) (ks : List T) (w : World) (bq : Nat) (hbq : bq ≤ w.heap.size) (h : RdL (· < bq) w d a [listT ks]) (hV : askK listK nTurn [listT ks] = 0) : Calls Tryz.prog 7 #[.string nTurn, .slice a 1 c] w (WorkR bq (lonF ks.reverse) w) := by
  obtain ⟨g, off, d', a0, c0, rfl, hg, h40, hks⟩ := arg_list (j := 0) h (show [listT ks][0]? = some (listT ks) from rfl)
  have H40 := hid (show ∀ w1, Ext w w1 → Four w1 g off (.int .i64 5) (.int .i64 0) (.string ⟨#[]⟩) (.slice a0 ks.length c0) from fun w1 hx => by
    have := Four.keep h40 (hx.kp (fun _ => True)) trivial
    rwa [Nat.zero_mul, Nat.add_zero] at this)
  have HKS := hid hks
  have hgw : g < w.heap.size := lt_of_cell h40.1
  have hlen := hks.1
  have HA := hid (show ∀ w1, Ext w w1 → Calls Tryz.prog 19 #[.string nTurn, .slice (some ⟨g, off, none⟩) 1 c] w1 (fun e w' => e = .returned (.int .i64 0) ∧ Ext w1 w') from fun w1 hx => by
    have := mayL_any (K := (· < bq)) (d := d) nTurn (some ⟨g, off, none⟩) c [listT ks] w1 (h.keep (hx.kp _))
    rwa [hV] at this)
  have HKD := hid (show ∀ w1, Ext w w1 → Calls Tryz.prog 20 #[.string nTurn, .slice (some ⟨g, off, none⟩) 1 c] w1 (fun e w' => e = .returned (.bool true) ∧ w' = w1) from fun w1 hx => kdRTurn g off c 5 w1 (H40.out w1 hx).1)
  clear h hV h40 hks hg
  obtain ⟨n, hne⟩ : ∃ n, ks.length = n := ⟨_, rfl⟩
  have HNE := hid hne
  rw [hne] at H40 hlen
  clear hne
  have hn' : (n : Int) ≤ 140737488351232 := by omega
  unfold nTurn at *
  go_enter Tryz.func7, Tryz.ntmps7
  go_wp2_with fail
  refine (HA.out _ (Ext.alloc _ _)).mono ?_
  rintro e w1 ⟨rfl, hx1⟩
  have HX := hid ((Ext.alloc w (.cells #[.int .i64 0, .int .i64 0, .string ⟨#[]⟩, .slice none 0 0] 30)).trans hx1)
  have HB := hid (hx1.block (blk0 w (.cells #[.int .i64 0, .int .i64 0, .string ⟨#[]⟩, .slice none 0 0] 30)))
  have HSZ := hid (lt_of_block HB.out)
  obtain ⟨z0, z1, z2, z3⟩ := four_of HB.out
  obtain ⟨f0, f1, f2, f3⟩ := four_free HB.out
  clear hx1
  go_wp2_with fail
  refine (HKD.out _ HX.out).mono ?_
  rintro e w2 ⟨rfl, hw2⟩
  rw [hw2]
  clear hw2 w2
  obtain ⟨o0, o1, o2, o3⟩ := H40.out _ HX.out
  have hgl := lt_of_cell o0
  clear o0 o1 o2
  have HBW := HB
  go_wp2_with fail
  clear o3 z0 z1 z2 z3 f0 f1 f2 f3
  go_loopw [12, 13] (fun q12 q13 wr => ∃ (j : Nat) (ao : Option Addr) (c1 : Nat), j ≤ n ∧ q13 = .int .i64 ((n : Int) - 1 - (j : Int)) ∧ q12 = .slice ao j c1 ∧ RIt wr bq (w.heap.size + 1) d' (.slice ao j c1) (ks.reverse.take j) ∧ wr.heap[w.heap.size]? = some (.cells #[.int .i64 0, .int .i64 0, .string ⟨#[]⟩, .slice none 0 0] 30) ∧ Ext w wr) (fun _ q13 _ => (intOf q13 + 1).toNat)
  case atStart => exact ⟨0, none, 0, Nat.zero_le _, by simp, rfl, RIt.nil _ _ _, HB.out, HX.out⟩
  case round =>
    obtain ⟨j, ao, c1, hj, rfl, rfl, hit, hbk, hx⟩ := hrel
    have HIT := hid hit
    have HBR := hid hbk
    have X := hid hx
    clear hit hbk hx HBW HB
    by_cases hlt : j < n
    · obtain ⟨i, hi⟩ : ∃ i : Nat, (n : Int) - 1 - (j : Int) = (i : Int) := ⟨n - 1 - j, by omega⟩
      have HIN := hid (show i = n - 1 - j by omega)
      have hil : i < ks.length := by have := HIN.out; rw [HNE.out]; omega
      have hi' : (i : Int) < (n : Int) := by omega
      obtain ⟨g0, o0', k', n', x', a', l', c', rfl, _, h4j, hrj⟩ := HKS.out.kid hil
      obtain ⟨r0, r1, r2, r3⟩ := Four.keep h4j (X.out.kp (fun _ => True)) trivial
      have HRJ := hid (hrj.later X.out)
      have hgl2 := lt_of_cell r0
      have HTS := hid (show ks.reverse.take j ++ [ks[i]] = ks.reverse.take (j + 1) from by
        have hjr : j < ks.reverse.length := by rw [List.length_reverse, HNE.out]; exact hlt
        rw [List.take_succ_eq_append_getElem hjr, List.getElem_reverse]
        congr 2
        congr 1
        have := HNE.out
        have := HIN.out
        omega)
      have HTL := hid (show (ks.reverse.take j).length = j by rw [List.length_take, List.length_reverse, HNE.out]; omega)
      clear h4j hrj
      generalize ks[i] = tj at *
      have HSB := hid (lt_of_block HBR.out)
      have HSR := hid (show SRow (wr.alloc (.cells #[.int .i64 k', .int .i64 n', .string x', .slice a' l' c'] 30)) bq d' (some ⟨wr.heap.size, 0, none⟩) [tj] from .inr ⟨_, 0, rfl, fun q hq => by
        obtain rfl : q = 0 := by simpa using hq
        obtain ⟨s0, s1, s2, s3⟩ := four_of (blk0 wr (.cells #[.int .i64 k', .int .i64 n', .string x', .slice a' l' c'] 30))
        exact ⟨_, _, _, _, ⟨s0, s1, s2, s3⟩, HRJ.out.later (Ext.alloc _ _)⟩⟩)
      have HIA := hid (HIT.out.later (Ext.alloc wr (.cells #[.int .i64 k', .int .i64 n', .string x', .slice a' l' c'] 30)))
      first | rw [hi] | skip
      go_wp2_with (at_builtin; refine app_rits rfl _ _ rfl rfl bq (w.heap.size + 1) d' _ (ks.reverse.take j) (some ⟨wr.heap.size, 0, none⟩) 1 1 [tj] rfl rfl rfl (by omega) (by rw [blkS]; have := HSB.out; omega) HIA.out HSR.out (by rw [HTL.out]; omega) (j + 1) (by rw [HTL.out]) (ks.reverse.take (j + 1)) HTS.out ?_; intro a9 c9 w9 hit9 hb9 _; have HI9 := hid hit9; have HB9' := hid hb9; clear hit9 hb9)
      go_roundw
      case rel =>
        have hsz := HSB.out
        refine ⟨j + 1, a9, c9, hlt, ?_, rfl, HI9.out, ?_, ?_⟩
        · congr 1
          omega
        · exact (HB9'.out.block w.heap.size (by omega)).trans (blkOld _ HBR.out)
        · exact Below.trans (X.out.trans (Ext.alloc _ _)) (HB9'.out.mono (by omega))
      case measure => simp [intOf]
    · obtain rfl : j = n := by omega
      have hlt3 : ¬ (0 : Int) ≤ (j : Int) - 1 - (j : Int) := by omega
      have hl2 : (j : Int) - 1 - (j : Int) < 0 := by omega
      have HTK := hid (show ks.reverse.take j = ks.reverse by rw [← HNE.out, ← List.length_reverse, List.take_length])
      rw [HTK.out] at HIT
      have HLR := hid (show ks.reverse.length = j by rw [List.length_reverse, HNE.out])
      have HWH := hid (whole_any (K := KB bq w.heap.size) c1 wr (HIT.out.rdl (fun x hx => by show x < bq ∨ w.heap.size < x; omega) (by rw [HLR.out]; omega)))
      rw [HLR.out] at HWH
      have HBW := HBR
      go_wp2_with fail
      refine HWH.out.mono ?_
      rintro e w4 ⟨R, rfl, hr, hx4⟩
      obtain ⟨pk, pn, px, pa, pl', pc, ec, ex, rfl⟩ := hr.shape
      have HR := hid hr
      have HX4 := hid (X.out.trans hx4)
      have HB4 := hid (hx4.block HBW.out)
      obtain ⟨z0, z1, z2, z3⟩ := four_of HB4.out
      obtain ⟨f0, f1, f2, f3⟩ := four_free HB4.out
      clear hr hx4
      go_wp2_with fail
      have HB2 := hid (four_set (u0 := .int .i64 pk) (u1 := .int .i64 pn) (u2 := .string px) (u3 := (.slice pa pl' pc)) HB4.out)
      have HKZ := hid (Kp.set4 w4 w.heap.size 0 (.int .i64 pk) (.int .i64 pn) (.string px) ((.slice pa pl' pc)))
      have HE := hid (HKZ.out.extOf HX4.out (Nat.le_refl _))
      obtain ⟨y0, y1, y2, y3⟩ := four_of HB2.out
      refine bodyPost_ret (v := .tuple #[.agg #[.int .i64 pk, .int .i64 pn, .string px, (.slice pa pl' pc)], .int .i64 ec, .string ex]) (by simp [results, Tryz.results7, go_sem, y0, y1, y2, y3]) rfl ?_
      first | exact ⟨_, rfl, (HR.out.keep (kb_keep hbq HKZ.out)), HE.out⟩ | exact ⟨_, rfl, (HR.out.keep (kb_keep hbq HKZ.out)), HE.out.drew⟩
set_option maxRecDepth 100000 in
set_option maxHeartbeats 4000000 in
theorem rwL_cut {d : Nat} (a : Option Addr) (c : Nat) (ks : List T) (i k : Int) (w : World) (bq : Nat) (hbq : bq ≤ w.heap.size) (h : RdL (· < bq) w d a [listT ks, intT i, intT k]) (hcap : CapL w a 3) (hV : askK listK nCut [listT ks, intT i, intT k] = 0) : Calls Tryz.prog 7 #[.string nCut, .slice a 3 c] w (WorkR bq (if i < 0 ∨ k < i ∨ (ks.length : Int) < k then .one 23 else lonF ((ks.take k.toNat).drop i.toNat)) w) := by
  obtain ⟨g, off, d', a0, c0, rfl, hg, h40, hks⟩ := arg_list (j := 0) h (show [listT ks, intT i, intT k][0]? = some (listT ks) from rfl)
  have H40 := hid (show ∀ w1, Ext w w1 → Four w1 g off (.int .i64 5) (.int .i64 0) (.string ⟨#[]⟩) (.slice a0 ks.length c0) from fun w1 hx => by
    have := Four.keep h40 (hx.kp (fun _ => True)) trivial
    rwa [Nat.zero_mul, Nat.add_zero] at this)
  have HKS := hid hks
  have hgw : g < w.heap.size := lt_of_cell h40.1
  have hlen := hks.1
  obtain ⟨ig, ioff, iq, il, ic, ea, h4i⟩ := arg_int (j := 1) h (show [listT ks, intT i, intT k][1]? = some (intT i) from rfl)
  obtain ⟨rfl, rfl⟩ : g = ig ∧ off = ioff := by injection ea with ea; injection ea with ea eb; exact ⟨ea, eb⟩
  clear ea
  have H4i := hid (show ∀ w1, Ext w w1 → Four w1 g (off + 4) (.int .i64 3) (.int .i64 i) (.string ⟨#[]⟩) (.slice iq il ic) from fun w1 hx => Four.keep h4i (hx.kp (fun _ => True)) trivial)
  clear h4i
  obtain ⟨kg, koff, kq, kl, kc, ea, h4k⟩ := arg_int (j := 2) h (show [listT ks, intT i, intT k][2]? = some (intT k) from rfl)
  obtain ⟨rfl, rfl⟩ : g = kg ∧ off = koff := by injection ea with ea; injection ea with ea eb; exact ⟨ea, eb⟩
  clear ea
  have H4k := hid (show ∀ w1, Ext w w1 → Four w1 g (off + 8) (.int .i64 3) (.int .i64 k) (.string ⟨#[]⟩) (.slice kq kl kc) from fun w1 hx => Four.keep h4k (hx.kp (fun _ => True)) trivial)
  clear h4k
  have HA := hid (show ∀ w1, Ext w w1 → Calls Tryz.prog 19 #[.string nCut, .slice (some ⟨g, off, none⟩) 3 c] w1 (fun e w' => e = .returned (.int .i64 0) ∧ Ext w1 w') from fun w1 hx => by
    have := mayL_any (K := (· < bq)) (d := d) nCut (some ⟨g, off, none⟩) c [listT ks, intT i, intT k] w1 (h.keep (hx.kp _))
    rwa [hV] at this)
  have HKD := hid (show ∀ w1, Ext w w1 → Calls Tryz.prog 20 #[.string nCut, .slice (some ⟨g, off, none⟩) 3 c] w1 (fun e w' => e = .returned (.bool true) ∧ w' = w1) from fun w1 hx => kdRCut g off c 5 3 3 w1 (H40.out w1 hx).1 (H4i.out w1 hx).1 (H4k.out w1 hx).1)
  have hlc : ks.length ≤ c0 := hcap g off rfl 0 (by decide) a0 ks.length c0 h40.2.2.2
  clear h hV h40 hks hg hcap
  unfold nCut at *
  by_cases b1 : i < 0
  case pos =>
    rw [if_pos (.inl b1)]
    generalize ks.length = n at *
    have hn' : (n : Int) ≤ 140737488351232 := by omega
    go_enter Tryz.func7, Tryz.ntmps7
    go_wp2_with fail
    refine (HA.out _ (Ext.alloc _ _)).mono ?_
    rintro e w1 ⟨rfl, hx1⟩
    have HX := hid ((Ext.alloc w (.cells #[.int .i64 0, .int .i64 0, .string ⟨#[]⟩, .slice none 0 0] 30)).trans hx1)
    have HB := hid (hx1.block (blk0 w (.cells #[.int .i64 0, .int .i64 0, .string ⟨#[]⟩, .slice none 0 0] 30)))
    have HSZ := hid (lt_of_block HB.out)
    obtain ⟨z0, z1, z2, z3⟩ := four_of HB.out
    obtain ⟨f0, f1, f2, f3⟩ := four_free HB.out
    clear hx1
    go_wp2_with fail
    refine (HKD.out _ HX.out).mono ?_
    rintro e w2 ⟨rfl, hw2⟩
    rw [hw2]
    clear hw2 w2
    obtain ⟨o0, o1, o2, o3⟩ := H40.out _ HX.out
    obtain ⟨p0, p1, p2, p3⟩ := H4i.out _ HX.out
    obtain ⟨q0, q1, q2, q3⟩ := H4k.out _ HX.out
    have hgl := lt_of_cell o0
    clear o0 o1 o2 p0 p2 p3 q0 q2 q3
    go_wp2_with fail
    go_quiet (fail)
    have HXq := hid (HX.out.drewN nq)
    have HBq := hid (show (w1.drewN nq).heap[w.heap.size]? = some (.cells #[.int .i64 0, .int .i64 0, .string ⟨#[]⟩, .slice none 0 0] 30) from HB.out)
    go_wp2_with fail
    have HB2 := hid (four_set (u0 := .int .i64 0) (u1 := .int .i64 0) (u2 := .string ⟨#[]⟩) (u3 := .slice none 0 0) HBq.out)
    have HKZ := hid (Kp.set4 (w1.drewN nq) w.heap.size 0 (.int .i64 0) (.int .i64 0) (.string ⟨#[]⟩) (.slice none 0 0))
    have HE := hid (HKZ.out.extOf HXq.out (Nat.le_refl _))
    obtain ⟨y0, y1, y2, y3⟩ := four_of HB2.out
    refine bodyPost_ret (v := .tuple #[.agg #[.int .i64 0, .int .i64 0, .string ⟨#[]⟩, .slice none 0 0], .int .i64 23, .string ⟨#[]⟩]) (by simp [results, Tryz.results7, go_sem, y0, y1, y2, y3]) rfl ?_
    first | exact ⟨_, rfl, rfl, HE.out⟩ | exact ⟨_, rfl, rfl, HE.out.drew⟩
  by_cases b2 : k < i
  case pos =>
    rw [if_pos (.inr (.inl b2))]
    generalize ks.length = n at *
    have hn' : (n : Int) ≤ 140737488351232 := by omega
    go_enter Tryz.func7, Tryz.ntmps7
    go_wp2_with fail
    refine (HA.out _ (Ext.alloc _ _)).mono ?_
    rintro e w1 ⟨rfl, hx1⟩
    have HX := hid ((Ext.alloc w (.cells #[.int .i64 0, .int .i64 0, .string ⟨#[]⟩, .slice none 0 0] 30)).trans hx1)
    have HB := hid (hx1.block (blk0 w (.cells #[.int .i64 0, .int .i64 0, .string ⟨#[]⟩, .slice none 0 0] 30)))
    have HSZ := hid (lt_of_block HB.out)
    obtain ⟨z0, z1, z2, z3⟩ := four_of HB.out
    obtain ⟨f0, f1, f2, f3⟩ := four_free HB.out
    clear hx1
    go_wp2_with fail
    refine (HKD.out _ HX.out).mono ?_
    rintro e w2 ⟨rfl, hw2⟩
    rw [hw2]
    clear hw2 w2
    obtain ⟨o0, o1, o2, o3⟩ := H40.out _ HX.out
    obtain ⟨p0, p1, p2, p3⟩ := H4i.out _ HX.out
    obtain ⟨q0, q1, q2, q3⟩ := H4k.out _ HX.out
    have hgl := lt_of_cell o0
    clear o0 o1 o2 p0 p2 p3 q0 q2 q3
    go_wp2_with fail
    go_quiet (fail)
    have HXq := hid (HX.out.drewN nq)
    have HBq := hid (show (w1.drewN nq).heap[w.heap.size]? = some (.cells #[.int .i64 0, .int .i64 0, .string ⟨#[]⟩, .slice none 0 0] 30) from HB.out)
    go_wp2_with fail
    have HB2 := hid (four_set (u0 := .int .i64 0) (u1 := .int .i64 0) (u2 := .string ⟨#[]⟩) (u3 := .slice none 0 0) HBq.out)
    have HKZ := hid (Kp.set4 (w1.drewN nq) w.heap.size 0 (.int .i64 0) (.int .i64 0) (.string ⟨#[]⟩) (.slice none 0 0))
    have HE := hid (HKZ.out.extOf HXq.out (Nat.le_refl _))
    obtain ⟨y0, y1, y2, y3⟩ := four_of HB2.out
    refine bodyPost_ret (v := .tuple #[.agg #[.int .i64 0, .int .i64 0, .string ⟨#[]⟩, .slice none 0 0], .int .i64 23, .string ⟨#[]⟩]) (by simp [results, Tryz.results7, go_sem, y0, y1, y2, y3]) rfl ?_
    first | exact ⟨_, rfl, rfl, HE.out⟩ | exact ⟨_, rfl, rfl, HE.out.drew⟩
  by_cases b3 : (ks.length : Int) < k
  case pos =>
    rw [if_pos (.inr (.inr b3))]
    generalize ks.length = n at *
    have hn' : (n : Int) ≤ 140737488351232 := by omega
    go_enter Tryz.func7, Tryz.ntmps7
    go_wp2_with fail
    refine (HA.out _ (Ext.alloc _ _)).mono ?_
    rintro e w1 ⟨rfl, hx1⟩
    have HX := hid ((Ext.alloc w (.cells #[.int .i64 0, .int .i64 0, .string ⟨#[]⟩, .slice none 0 0] 30)).trans hx1)
    have HB := hid (hx1.block (blk0 w (.cells #[.int .i64 0, .int .i64 0, .string ⟨#[]⟩, .slice none 0 0] 30)))
    have HSZ := hid (lt_of_block HB.out)
    obtain ⟨z0, z1, z2, z3⟩ := four_of HB.out
    obtain ⟨f0, f1, f2, f3⟩ := four_free HB.out
    clear hx1
    go_wp2_with fail
    refine (HKD.out _ HX.out).mono ?_
    rintro e w2 ⟨rfl, hw2⟩
    rw [hw2]
    clear hw2 w2
    obtain ⟨o0, o1, o2, o3⟩ := H40.out _ HX.out
    obtain ⟨p0, p1, p2, p3⟩ := H4i.out _ HX.out
    obtain ⟨q0, q1, q2, q3⟩ := H4k.out _ HX.out
    have hgl := lt_of_cell o0
    clear o0 o1 o2 p0 p2 p3 q0 q2 q3
    go_wp2_with fail
    go_quiet (fail)
    have HXq := hid (HX.out.drewN nq)
    have HBq := hid (show (w1.drewN nq).heap[w.heap.size]? = some (.cells #[.int .i64 0, .int .i64 0, .string ⟨#[]⟩, .slice none 0 0] 30) from HB.out)
    go_wp2_with fail
    have HB2 := hid (four_set (u0 := .int .i64 0) (u1 := .int .i64 0) (u2 := .string ⟨#[]⟩) (u3 := .slice none 0 0) HBq.out)
    have HKZ := hid (Kp.set4 (w1.drewN nq) w.heap.size 0 (.int .i64 0) (.int .i64 0) (.string ⟨#[]⟩) (.slice none 0 0))
    have HE := hid (HKZ.out.extOf HXq.out (Nat.le_refl _))
    obtain ⟨y0, y1, y2, y3⟩ := four_of HB2.out
    refine bodyPost_ret (v := .tuple #[.agg #[.int .i64 0, .int .i64 0, .string ⟨#[]⟩, .slice none 0 0], .int .i64 23, .string ⟨#[]⟩]) (by simp [results, Tryz.results7, go_sem, y0, y1, y2, y3]) rfl ?_
    first | exact ⟨_, rfl, rfl, HE.out⟩ | exact ⟨_, rfl, rfl, HE.out.drew⟩
  rw [if_neg (fun h => h.elim b1 (fun h => h.elim b2 b3))]
  obtain ⟨i, rfl⟩ : ∃ j : Nat, i = (j : Int) := ⟨i.toNat, by omega⟩
  obtain ⟨k, rfl⟩ : ∃ j : Nat, k = (j : Int) := ⟨k.toNat, by omega⟩
  rw [Int.toNat_natCast, Int.toNat_natCast]
  have hik : i ≤ k := by omega
  have hkl : k ≤ ks.length := by omega
  have HLN := hid (show ((ks.take k).drop i).length = k - i by rw [List.length_drop, List.length_take]; omega)
  have HSW := hid (show ∀ w1, Ext w w1 → SRow w1 bq d' a0 ks from fun w1 hx => (rdl_srow HKS.out).later hx)
  have HS1 := hid (show ∀ w1 g0 o0', Ext w w1 → a0 = some ⟨g0, o0', none⟩ → SRow w1 bq d' (some ⟨g0, o0' + i * 4, none⟩) ((ks.take k).drop i) from fun w1 g0 o0' hx e => by
    rcases HSW.out w1 hx with h | ⟨g1, o1, e1, hc⟩
    · exact .inl (by rw [h]; simp)
    · rw [e] at e1
      injection e1 with e1
      injection e1 with e1 e2
      subst e1; subst e2
      refine .inr ⟨_, _, rfl, fun j hj => ?_⟩
      rw [List.length_drop, List.length_take] at hj
      obtain ⟨u0, u1, u2, u3, h4, hr⟩ := hc (i + j) (by omega)
      refine ⟨u0, u1, u2, u3, ?_, ?_⟩
      · rw [show o0' + i * 4 + j * 4 = o0' + (i + j) * 4 by omega]
        exact h4
      · rw [List.getElem_drop, List.getElem_take]
        exact hr)
  have HS2 := hid (show ∀ (w1 : World) q, i = k → SRow w1 bq d' q ((ks.take k).drop i) from fun w1 q e => .inl (List.eq_nil_of_length_eq_zero (by rw [HLN.out]; omega)))
  have HZ := hid (show ks.length = 0 → ∀ (w1 : World) q, SRow w1 bq d' q ((ks.take k).drop i) from fun e w1 q => .inl (by rw [List.eq_nil_of_length_eq_zero e]; simp))
  have HP := hid (show 0 < ks.length → ∃ g0 o0', a0 = some ⟨g0, o0', none⟩ from fun e => by
    rcases HKS.out.2 with h | ⟨g0, o0', h, _⟩
    · rw [h] at e; exact absurd e (by decide)
    · exact ⟨g0, o0', h⟩)
  clear HKS HSW
  generalize ks.length = n at *
  have hn' : (n : Int) ≤ 140737488351232 := by omega
  have i1 : ¬ (i : Int) < 0 := b1
  have i2 : ¬ (k : Int) < (i : Int) := b2
  have i3 : ¬ (n : Int) < (k : Int) := b3
  have i5 : (i : Int) ≤ (k : Int) := by omega
  have i6 : (k : Int) ≤ (n : Int) := by omega
  have i7 : (n : Int) ≤ (c0 : Int) := by omega
  have j1 : ¬ k < i := by omega
  have j2 : ¬ n < k := by omega
  clear b1 b2 b3
  go_enter Tryz.func7, Tryz.ntmps7
  go_wp2_with fail
  refine (HA.out _ (Ext.alloc _ _)).mono ?_
  rintro e w1 ⟨rfl, hx1⟩
  have HX := hid ((Ext.alloc w (.cells #[.int .i64 0, .int .i64 0, .string ⟨#[]⟩, .slice none 0 0] 30)).trans hx1)
  have HB := hid (hx1.block (blk0 w (.cells #[.int .i64 0, .int .i64 0, .string ⟨#[]⟩, .slice none 0 0] 30)))
  have HSZ := hid (lt_of_block HB.out)
  obtain ⟨z0, z1, z2, z3⟩ := four_of HB.out
  obtain ⟨f0, f1, f2, f3⟩ := four_free HB.out
  clear hx1
  go_wp2_with fail
  refine (HKD.out _ HX.out).mono ?_
  rintro e w2 ⟨rfl, hw2⟩
  rw [hw2]
  clear hw2 w2
  obtain ⟨o0, o1, o2, o3⟩ := H40.out _ HX.out
  obtain ⟨p0, p1, p2, p3⟩ := H4i.out _ HX.out
  obtain ⟨q0, q1, q2, q3⟩ := H4k.out _ HX.out
  have hgl := lt_of_cell o0
  clear o0 o1 o2 p0 p2 p3 q0 q2 q3
  go_wp2_with fail
  go_quiet (fail)
  have HXq := hid (HX.out.drewN nq)
  have HBq := hid (show (w1.drewN nq).heap[w.heap.size]? = some (.cells #[.int .i64 0, .int .i64 0, .string ⟨#[]⟩, .slice none 0 0] 30) from HB.out)
  go_upto_region 27 with fail
  have HXW := hid HXq.out
  have HBW0 := hid HBq.out
  rcases Nat.eq_zero_or_pos n with hn0 | hn0
  case inl =>
    rw [show (ks.take k).drop i = [] from List.eq_nil_of_length_eq_zero (by rw [HLN.out]; omega)]
    obtain rfl : k = 0 := by omega
    obtain rfl : i = 0 := by omega
    subst hn0
    cases a0 with
    | none =>
      have HWH := hid (fun W (hx : Ext w W) (hb : W.heap[w.heap.size]? = some (.cells #[.int .i64 0, .int .i64 0, .string ⟨#[]⟩, .slice none 0 0] 30)) q cq (hi : RIt W bq (w.heap.size + 1) d' (.slice q 0 cq) []) => whole_any (K := KB bq w.heap.size) cq W (hi.rdl (fun x hx => by show x < bq ∨ w.heap.size < x; omega) (by decide)))
      go_wp2_with (at_builtin; refine app_rits rfl _ _ rfl rfl bq (w.heap.size + 1) d' (.slice none 0 0) [] _ 0 _ [] rfl rfl rfl (by omega) (by have := HSZ.out; exact this) (RIt.nil _ _ _) (.inl rfl) (by decide) 0 rfl [] rfl ?_; intro a9 c9 w9 hit9 _ hx9; have HI9 := hid hit9; have X9 := hid (hx9 rfl); clear hit9 hx9)
      have HBW := hid (X9.out.block HBW0.out)
      clear z0 z1 z2 z3 f0 f1 f2 f3
      refine (HWH.out _ (HXW.out.trans X9.out) HBW.out _ _ HI9.out).mono ?_
      rintro e w4 ⟨R, rfl, hr, hx4⟩
      obtain ⟨pk, pn, px, pa, pl', pc, ec, ex, rfl⟩ := hr.shape
      have HR := hid hr
      have HX4 := hid ((HXW.out.trans X9.out).trans hx4)
      have HB4 := hid (hx4.block HBW.out)
      obtain ⟨z0, z1, z2, z3⟩ := four_of HB4.out
      obtain ⟨f0, f1, f2, f3⟩ := four_free HB4.out
      clear hr hx4
      go_wp2_with fail
      have HB2 := hid (four_set (u0 := .int .i64 pk) (u1 := .int .i64 pn) (u2 := .string px) (u3 := (.slice pa pl' pc)) HB4.out)
      have HKZ := hid (Kp.set4 w4 w.heap.size 0 (.int .i64 pk) (.int .i64 pn) (.string px) ((.slice pa pl' pc)))
      have HE := hid (HKZ.out.extOf HX4.out (Nat.le_refl _))
      obtain ⟨y0, y1, y2, y3⟩ := four_of HB2.out
      refine bodyPost_ret (v := .tuple #[.agg #[.int .i64 pk, .int .i64 pn, .string px, (.slice pa pl' pc)], .int .i64 ec, .string ex]) (by simp [results, Tryz.results7, go_sem, y0, y1, y2, y3]) rfl ?_
      first | exact ⟨_, rfl, (HR.out.keep (kb_keep hbq HKZ.out)), HE.out⟩ | exact ⟨_, rfl, (HR.out.keep (kb_keep hbq HKZ.out)), HE.out.drew⟩
    | some ad =>
      have HWH := hid (fun W (hx : Ext w W) (hb : W.heap[w.heap.size]? = some (.cells #[.int .i64 0, .int .i64 0, .string ⟨#[]⟩, .slice none 0 0] 30)) q cq (hi : RIt W bq (w.heap.size + 1) d' (.slice q 0 cq) []) => whole_any (K := KB bq w.heap.size) cq W (hi.rdl (fun x hx => by show x < bq ∨ w.heap.size < x; omega) (by decide)))
      go_wp2_with (at_builtin; refine app_rits rfl _ _ rfl rfl bq (w.heap.size + 1) d' (.slice none 0 0) [] _ 0 _ [] rfl rfl rfl (by omega) (by have := HSZ.out; exact this) (RIt.nil _ _ _) (.inl rfl) (by decide) 0 rfl [] rfl ?_; intro a9 c9 w9 hit9 _ hx9; have HI9 := hid hit9; have X9 := hid (hx9 rfl); clear hit9 hx9)
      have HBW := hid (X9.out.block HBW0.out)
      clear z0 z1 z2 z3 f0 f1 f2 f3
      refine (HWH.out _ (HXW.out.trans X9.out) HBW.out _ _ HI9.out).mono ?_
      rintro e w4 ⟨R, rfl, hr, hx4⟩
      obtain ⟨pk, pn, px, pa, pl', pc, ec, ex, rfl⟩ := hr.shape
      have HR := hid hr
      have HX4 := hid ((HXW.out.trans X9.out).trans hx4)
      have HB4 := hid (hx4.block HBW.out)
      obtain ⟨z0, z1, z2, z3⟩ := four_of HB4.out
      obtain ⟨f0, f1, f2, f3⟩ := four_free HB4.out
      clear hr hx4
      go_wp2_with fail
      have HB2 := hid (four_set (u0 := .int .i64 pk) (u1 := .int .i64 pn) (u2 := .string px) (u3 := (.slice pa pl' pc)) HB4.out)
      have HKZ := hid (Kp.set4 w4 w.heap.size 0 (.int .i64 pk) (.int .i64 pn) (.string px) ((.slice pa pl' pc)))
      have HE := hid (HKZ.out.extOf HX4.out (Nat.le_refl _))
      obtain ⟨y0, y1, y2, y3⟩ := four_of HB2.out
      refine bodyPost_ret (v := .tuple #[.agg #[.int .i64 pk, .int .i64 pn, .string px, (.slice pa pl' pc)], .int .i64 ec, .string ex]) (by simp [results, Tryz.results7, go_sem, y0, y1, y2, y3]) rfl ?_
      first | exact ⟨_, rfl, (HR.out.keep (kb_keep hbq HKZ.out)), HE.out⟩ | exact ⟨_, rfl, (HR.out.keep (kb_keep hbq HKZ.out)), HE.out.drew⟩
  obtain ⟨g0, o0', rfl⟩ := HP.out hn0
  by_cases hci : c0 = i
  case pos =>
    obtain rfl : k = i := by omega
    subst hci
    have HE0 := hid (show (ks.take c0).drop c0 = [] from List.eq_nil_of_length_eq_zero (by rw [List.length_drop, List.length_take]; omega))
    have HWH := hid (fun W (hx : Ext w W) (hb : W.heap[w.heap.size]? = some (.cells #[.int .i64 0, .int .i64 0, .string ⟨#[]⟩, .slice none 0 0] 30)) q cq (hi : RIt W bq (w.heap.size + 1) d' (.slice q 0 cq) []) => whole_any (K := KB bq w.heap.size) cq W (hi.rdl (fun x hx => by show x < bq ∨ w.heap.size < x; omega) (by decide)))
    go_wp2_with (at_builtin; refine app_rits rfl _ _ rfl rfl bq (w.heap.size + 1) d' (.slice none 0 0) [] _ 0 _ [] rfl rfl rfl (by omega) (by have := HSZ.out; exact this) (RIt.nil _ _ _) (.inl rfl) (by decide) 0 rfl [] rfl ?_; intro a9 c9 w9 hit9 _ hx9; have HI9 := hid hit9; have X9 := hid (hx9 rfl); clear hit9 hx9)
    have HBW := hid (X9.out.block HBW0.out)
    clear z0 z1 z2 z3 f0 f1 f2 f3
    refine (HWH.out _ (HXW.out.trans X9.out) HBW.out _ _ HI9.out).mono ?_
    rintro e w4 ⟨R, rfl, hr, hx4⟩
    obtain ⟨pk, pn, px, pa, pl', pc, ec, ex, rfl⟩ := hr.shape
    have HR := hid hr
    have HX4 := hid ((HXW.out.trans X9.out).trans hx4)
    have HB4 := hid (hx4.block HBW.out)
    obtain ⟨z0, z1, z2, z3⟩ := four_of HB4.out
    obtain ⟨f0, f1, f2, f3⟩ := four_free HB4.out
    clear hr hx4
    go_wp2_with fail
    have HB2 := hid (four_set (u0 := .int .i64 pk) (u1 := .int .i64 pn) (u2 := .string px) (u3 := (.slice pa pl' pc)) HB4.out)
    have HKZ := hid (Kp.set4 w4 w.heap.size 0 (.int .i64 pk) (.int .i64 pn) (.string px) ((.slice pa pl' pc)))
    have HE := hid (HKZ.out.extOf HX4.out (Nat.le_refl _))
    obtain ⟨y0, y1, y2, y3⟩ := four_of HB2.out
    refine bodyPost_ret (v := .tuple #[.agg #[.int .i64 pk, .int .i64 pn, .string px, (.slice pa pl' pc)], .int .i64 ec, .string ex]) (by simp [results, Tryz.results7, go_sem, y0, y1, y2, y3]) rfl ?_
    first | exact ⟨_, rfl, (by rw [HE0.out]; exact (HR.out.keep (kb_keep hbq HKZ.out))), HE.out⟩ | exact ⟨_, rfl, (by rw [HE0.out]; exact (HR.out.keep (kb_keep hbq HKZ.out))), HE.out.drew⟩
  have hc2 : ¬ (c0 - i = 0) := by omega
  have hc3 : ¬ c0 ≤ i := by omega
  have hc4 : i < c0 := by omega
  have hc5 : ¬ i = c0 := by omega
  go_wp2_with (at_builtin; refine app_rits rfl _ _ rfl rfl bq (w.heap.size + 1) d' (.slice none 0 0) [] (some ⟨g0, o0' + i * 4, none⟩) (k - i) (c0 - i) ((ks.take k).drop i) rfl rfl HLN.out (by omega) (by have := HSZ.out; exact this) (RIt.nil _ _ _) (HS1.out _ g0 o0' HXW.out rfl) (by rw [List.length_nil]; omega) (k - i) (by rw [List.length_nil, Nat.zero_add]) ((ks.take k).drop i) (List.nil_append _) ?_; intro a9 c9 w9 hit9 _ hx9; have HI9 := hid hit9; have X9 := hid (hx9 rfl); clear hit9 hx9)
  have HBW := hid (X9.out.block HBW0.out)
  have HWH := hid (whole_any (K := KB bq w.heap.size) c9 w9 (HI9.out.rdl (fun x hx => by show x < bq ∨ w.heap.size < x; omega) (by rw [HLN.out]; omega)))
  rw [HLN.out] at HWH
  clear z0 z1 z2 z3 f0 f1 f2 f3
  refine HWH.out.mono ?_
  rintro e w4 ⟨R, rfl, hr, hx4⟩
  obtain ⟨pk, pn, px, pa, pl', pc, ec, ex, rfl⟩ := hr.shape
  have HR := hid hr
  have HX4 := hid ((HXW.out.trans X9.out).trans hx4)
  have HB4 := hid (hx4.block HBW.out)
  obtain ⟨z0, z1, z2, z3⟩ := four_of HB4.out
  obtain ⟨f0, f1, f2, f3⟩ := four_free HB4.out
  clear hr hx4
  go_wp2_with fail
  have HB2 := hid (four_set (u0 := .int .i64 pk) (u1 := .int .i64 pn) (u2 := .string px) (u3 := (.slice pa pl' pc)) HB4.out)
  have HKZ := hid (Kp.set4 w4 w.heap.size 0 (.int .i64 pk) (.int .i64 pn) (.string px) ((.slice pa pl' pc)))
  have HE := hid (HKZ.out.extOf HX4.out (Nat.le_refl _))
  obtain ⟨y0, y1, y2, y3⟩ := four_of HB2.out
  refine bodyPost_ret (v := .tuple #[.agg #[.int .i64 pk, .int .i64 pn, .string px, (.slice pa pl' pc)], .int .i64 ec, .string ex]) (by simp [results, Tryz.results7, go_sem, y0, y1, y2, y3]) rfl ?_
  first | exact ⟨_, rfl, (HR.out.keep (kb_keep hbq HKZ.out)), HE.out⟩ | exact ⟨_, rfl, (HR.out.keep (kb_keep hbq HKZ.out)), HE.out.drew⟩

end Go.Proofs.YtaafcmmmkalgjaaGreatDoor
