/-
  truth.Work as data; espalierref9.Work by a contract: the same answer.
-/
import Derived.Test.YtnmcmjgfnncdmaaGreatDoorTBeg
import Derived.Test.YtnmcmjgfnncdmaaGreatDoorTWorkG
import Derived.Test.YtnmcmjgfnncdmaaGreatDoorYRef
import Derived.Test.YtnmcmjgfnncdmaaGreatDoorTRSame
import Derived.Test.YtnmcmjgfnncdmaaGreatDoorPMarks
import Derived.Deep.Cut
import Derived.Deep.CutRange
namespace Go.Proofs.YtnmcmjgfnncdmaaGreatDoor
open Go.RowKit
def nNot : ByteArray := ⟨#[116, 114, 117, 116, 104, 46, 110, 111, 116]⟩
def nSame : ByteArray := ⟨#[116, 114, 117, 116, 104, 46, 115, 97, 109, 101]⟩
def truthF (ts : List T) : Ans := match ts with
  | [.node _ n _ _] => .good (trT (decide (n = 0)))
  | [t, u] => .good (trT (T.beq t u))
  | _ => .one 1
theorem truthF_one (t : T) : truthF [t] = .good (trT (decide (t.num = 0))) := by obtain ⟨k, n, x, ks⟩ := t; rfl
theorem truthF_two (t u : T) : truthF [t, u] = .good (trT (T.beq t u)) := by obtain ⟨k, n, x, ks⟩ := t; rfl
theorem trT_may (b : Bool) : (trT b).may := by
  refine ⟨⟨.inr (.inl ⟨rfl, by cases b; exact .inl rfl; exact .inr rfl, rfl, rfl⟩), trivial⟩, ?_, ?_⟩
  · show (T.node 2 (truthI b) ⟨#[]⟩ []).size ≤ 65536
    simp only [T.size, T.sizeL]; decide
  · show (T.node 2 (truthI b) ⟨#[]⟩ []).deep ≤ 64
    simp only [T.deep]; simp
theorem trT_vrd (K : Nat → Prop) (w : World) (b : Bool) : VRd K w 1 (.iface 85 (.bool b)) (trT b) := .inr (.inl ⟨rfl, rfl, rfl, b, rfl, rfl⟩)
theorem trT_rd (K : Nat → Prop) (w : World) (b : Bool) : Rd K w 1 (.agg #[.int .i64 2, .int .i64 (truthI b), .string ⟨#[]⟩, .slice none 0 0]) (trT b) := ⟨none, 0, rfl, by decide, by decide, .inl rfl⟩
theorem VRd.trT {K : Nat → Prop} {w : World} {d : Nat} {v : Value} {b : Bool} (h : VRd K w d v (trT b)) : v = .iface 85 (.bool b) := by
  cases d with
  | zero => exact h.elim
  | succ d =>
    rcases h with ⟨h, _⟩ | ⟨_, _, _, c, hc, h⟩ | ⟨h, _⟩ | ⟨h, _⟩ | ⟨h, _⟩
    · exact absurd h (by decide)
    · have e : b = c := by unfold truthI at hc; cases b <;> cases c <;> simp at hc ⊢
      rw [e]; exact h
    · exact absurd h (by decide)
    · exact absurd h (by decide)
    · exact absurd h (by decide)
theorem truthAt {op : ByteArray} {k : Kd} {f : Nat} (h : kdFind truthK op = some k) (hd : k.does = some f) : (op = nNot ∧ k = truthK[0] ∧ f = 143) ∨ (op = nSame ∧ k = truthK[1] ∧ f = 144) := by
  have h1 := List.mem_of_find?_eq_some h
  have h2 := List.find?_some h
  obtain ⟨i, hi, rfl⟩ := List.getElem_of_mem h1
  have h3 := (of_decide_eq_true h2).symm
  rw [truthLen] at hi
  match i, hi with
  | 0, _ => exact .inl ⟨h3, rfl, (Option.some.inj hd).symm⟩
  | 1, _ => exact .inr ⟨h3, rfl, (Option.some.inj hd).symm⟩
  | 2, _ => cases hd
  | 3, _ => cases hd
  | 4, _ => cases hd
  | n + 5, h => exact absurd h (by omega)
theorem cntT0 (n : Nat) : cntOk truthK[0] n = decide (n = 1) := by
  unfold cntOk
  show (decide (((1 : Int)) ≤ n) && (decide (((1 : Int)) < 0) || decide ((n : Int) ≤ 1))) = _
  rw [Bool.eq_iff_iff]
  simp only [Bool.and_eq_true, Bool.or_eq_true, decide_eq_true_eq]
  omega
theorem cntT1 (n : Nat) : cntOk truthK[1] n = decide (n = 2) := by
  unfold cntOk
  show (decide (((2 : Int)) ≤ n) && (decide (((2 : Int)) < 0) || decide ((n : Int) ≤ 2))) = _
  rw [Bool.eq_iff_iff]
  simp only [Bool.and_eq_true, Bool.or_eq_true, decide_eq_true_eq]
  omega
theorem rightT0 : ∀ k1 : Int, (k1 = 1 ∨ k1 = 2 ∨ k1 = 3 ∨ k1 = 4 ∨ k1 = 5) → rightB truthK[0].signs.data.toList [k1] = decide (k1 = 2) := by
  rintro k1 (rfl | rfl | rfl | rfl | rfl) <;> kernel_rfl
theorem rightT1 : ∀ k1 k2 : Int, (k1 = 1 ∨ k1 = 2 ∨ k1 = 3 ∨ k1 = 4 ∨ k1 = 5) → (k2 = 1 ∨ k2 = 2 ∨ k2 = 3 ∨ k2 = 4 ∨ k2 = 5) → rightB truthK[1].signs.data.toList [k1, k2] = true := by
  rintro k1 k2 (rfl | rfl | rfl | rfl | rfl) (rfl | rfl | rfl | rfl | rfl) <;> kernel_rfl
theorem list_one {ts : List T} (h : ts.length = 1) : ∃ t, ts = [t] := by
  rcases ts with _ | ⟨t, _ | ⟨u, r⟩⟩
  · simp at h
  · exact ⟨t, rfl⟩
  · simp at h
theorem list_two {ts : List T} (h : ts.length = 2) : ∃ t u, ts = [t, u] := by
  rcases ts with _ | ⟨t, _ | ⟨u, _ | ⟨v, r⟩⟩⟩
  · simp at h
  · simp at h
  · exact ⟨t, u, rfl⟩
  · simp at h
theorem resT_told (b : Bool) (w : World) : ResR (AnsV (.good (trT b))) w (toldV b) := .inr ⟨_, _, true, rfl, fun w1 _ => cmay_tu _ w1, fun _ _ => ⟨trT_may b, fun _ => True, 1, _, rfl, trT_vrd _ _ b⟩⟩
theorem not_num (b : Bool) : (!b) = decide ((trT b).num = 0) := by cases b <;> rfl
/-- truth.Work: the answer as data. -/
theorem truthWork_any (op : ByteArray) (ts : List T) (hlen : ts.length ≤ 1000000) (a : Option Addr) (c : Nat) (w : World) (hm : MaxAt w) (hp : PRow w a ts) : Calls Tryz.prog 35 #[.string op, .slice a ts.length c] w fun e w' => ∃ V, e = .returned V ∧ AnsV (ansOf truthK op ts (truthF ts)) w' V ∧ Ext w w' := by
  refine workT_gen op a ts.length c w (AnsV (ansOf truthK op ts (truthF ts))) fun w1 tb hx1 ht => ?_
  refine (work_gen truthK tb op a c ts (AnsV (truthF ts)) w1 (by rw [truthLen]; decide) ht (hm.later hx1) (hp.later hx1) hlen (fun k hk => truthJ k (List.mem_of_find?_eq_some hk)) ?_ ?_).mono fun e w' ⟨V, he, hq, h3, hx⟩ => ⟨V, he, ansOf_of hq, h3, hx⟩
  · intro k f h1 h2 h3 h4 h5 w2 g hx2 hv
    rcases truthAt h1 h2 with ⟨rfl, rfl, rfl⟩ | ⟨rfl, rfl, rfl⟩
    · rw [cntT0, decide_eq_true_eq] at h3
      obtain ⟨t, rfl⟩ := list_one h3
      rw [List.map_cons, List.map_nil, rightT0 _ (kind_five (h4 t (by simp))), decide_eq_true_eq] at h5
      obtain ⟨b, rfl⟩ := truth_of (h4 t (by simp)) h5
      obtain ⟨K, d, v, h0, r0⟩ := hv 0 (Nat.le_of_ble_eq_true rfl)
      rw [VRd.trT (b := b) r0] at h0
      rw [truthF_one, ← not_num]
      exact (not_any g b w2 h0).mono fun e w' ⟨he, hx⟩ => ⟨_, he, resT_told _ _, hx⟩
    · rw [cntT1, decide_eq_true_eq] at h3
      obtain ⟨t, u, rfl⟩ := list_two h3
      obtain ⟨K, d, v, h0, r0⟩ := hv 0 (Nat.le_of_ble_eq_true rfl)
      obtain ⟨K', d', v', h0', r0'⟩ := hv 1 (Nat.le_of_ble_eq_true rfl)
      rw [truthF_two]
      exact (same_any g v v' t u w2 h0 h0' r0 r0').mono fun e w' ⟨he, hx⟩ => ⟨_, he, resT_told _ _, hx⟩
  · intro k f h1 h2
    rcases truthAt h1 h2 with ⟨_, _, rfl⟩ | ⟨_, _, rfl⟩
    · exact tent_not
    · exact tent_same
theorem truthR_eq : truthK.map kdRow = truthR := by kernel_rfl
theorem truthTab : TabK truthK where
  strict := by
    intro k hk
    obtain ⟨i, hi, rfl⟩ := List.getElem_of_mem hk
    rw [truthLen] at hi
    match i, hi with
    | 0, _ => exact (show anyS strictS (kdRow (truthK[0]'(by decide))).abs = true from by kernel_rfl)
    | 1, _ => exact (show anyS strictS (kdRow (truthK[1]'(by decide))).abs = true from by kernel_rfl)
    | 2, _ => exact (show anyS strictS (kdRow (truthK[2]'(by decide))).abs = false from by kernel_rfl)
    | 3, _ => exact (show anyS strictS (kdRow (truthK[3]'(by decide))).abs = false from by kernel_rfl)
    | 4, _ => exact (show anyS strictS (kdRow (truthK[4]'(by decide))).abs = false from by kernel_rfl)

    | n + 5, h => exact absurd h (by omega)
  nodup := by decide
  max := by
    intro k hk
    obtain ⟨i, hi, rfl⟩ := List.getElem_of_mem hk
    rw [truthLen] at hi
    match i, hi with
    | 0, _ => exact .inr (show (0 : Int) ≤ 1 by decide)
    | 1, _ => exact .inr (show (0 : Int) ≤ 2 by decide)
    | 2, _ => exact .inr (show (0 : Int) ≤ 3 by decide)
    | 3, _ => exact .inr (show (0 : Int) ≤ 2 by decide)
    | 4, _ => exact .inr (show (0 : Int) ≤ 2 by decide)

    | n + 5, h => exact absurd h (by omega)
theorem mayT_any {K : Nat → Prop} {d : Nat} (op : ByteArray) (a : Option Addr) (c : Nat) (ts : List T) (w : World) (h : RdL K w d a ts) : Calls Tryz.prog 75 #[.string op, .slice a ts.length c] w fun e w' => e = .returned (.int .i64 (askK truthK op ts)) ∧ Ext w w' := by
  have := mayT_gen (K := K) (d := d) truthR op a c ts w (by decide) (by decide) refRowsT_any h
  rwa [← truthR_eq, ask_eq truthK truthTab] at this
theorem Rd.kindE {K : Nat → Prop} {w : World} {d : Nat} {k n : Int} {x : ByteArray} {sv : Value} {t : T} (h : Rd K w d (.agg #[.int .i64 k, .int .i64 n, .string x, sv]) t) : t.kind = k ∧ t.num = n ∧ t.text = x := by
  cases d with
  | zero => exact h.elim
  | succ d =>
    obtain ⟨k', n', x', ks⟩ := t
    obtain ⟨a, c, e, _⟩ := h
    simp only [Value.agg.injEq, Array.mk.injEq, List.cons.injEq, Value.int.injEq, Value.string.injEq, true_and] at e
    exact ⟨e.1.symm, e.2.1.symm, e.2.2.1.symm⟩
set_option maxRecDepth 100000 in
set_option maxHeartbeats 2000000 in
theorem rwT_bad {K : Nat → Prop} {d : Nat} (op : ByteArray) (a : Option Addr) (c : Nat) (ts : List T) (w : World) (h : RdL K w d a ts) (V : Int) (hV : askK truthK op ts = V) (hz : (V == 0) = false) : Calls Tryz.prog 39 #[.string op, .slice a ts.length c] w fun e w' => ∃ R, e = .returned R ∧ AnsP (Ans.one V) w' R ∧ Ext w w' := by
  have HA := hid (fun w1 (hx : Ext w w1) => mayT_any (K := K) (d := d) op a c ts w1 (h.keep (hx.kp K)))
  rw [hV] at HA
  have hz' : (V != 0) = true := by unfold bne; rw [hz]; rfl
  clear h hV
  generalize ts.length = n at *
  go_enter Tryz.func39, Tryz.ntmps39
  go_wp2_with fail
  refine (HA.out _ (Ext.alloc _ _)).mono ?_
  rintro e w1 ⟨rfl, hx1⟩
  have HX := hid ((Ext.alloc w _).trans hx1)
  have HB := hid (hx1.block (blk0 w (.cells #[.int .i64 0, .int .i64 0, .string ⟨#[]⟩, .slice none 0 0] 38)))
  obtain ⟨z0, z1, z2, z3⟩ := four_of HB.out
  obtain ⟨f0, f1, f2, f3⟩ := four_free HB.out
  clear hx1
  go_wp2_with fail
  have HB2 := hid (four_set (u0 := .int .i64 0) (u1 := .int .i64 0) (u2 := .string ⟨#[]⟩) (u3 := .slice none 0 0) HB.out)
  have HE := hid ((Kp.set4 w1 w.heap.size 0 (.int .i64 0) (.int .i64 0) (.string ⟨#[]⟩) (.slice none 0 0)).extOf HX.out (Nat.le_refl _))
  obtain ⟨y0, y1, y2, y3⟩ := four_of HB2.out
  refine bodyPost_ret (v := .tuple #[.agg #[.int .i64 0, .int .i64 0, .string ⟨#[]⟩, .slice none 0 0], .int .i64 V, .string ⟨#[]⟩]) (by simp [results, Tryz.results39, go_sem, y0, y1, y2, y3]) rfl ?_
  first | exact ⟨_, rfl, rfl, HE.out⟩ | exact ⟨_, rfl, rfl, HE.out.drew⟩
set_option maxRecDepth 100000 in
set_option maxHeartbeats 2000000 in
theorem rwT_not {K : Nat → Prop} {d : Nat} (a : Option Addr) (c : Nat) (t : T) (w : World) (h : RdL K w d a [t]) (hV : askK truthK nNot [t] = 0) : Calls Tryz.prog 39 #[.string nNot, .slice a 1 c] w fun e w' => ∃ R, e = .returned R ∧ AnsP (if t.kind = 2 then .good (trT (decide (t.num = 0))) else Ans.one 20) w' R ∧ Ext w w' := by
  have HA := hid (fun w1 (hx : Ext w w1) => mayT_any (K := K) (d := d) nNot a c [t] w1 (h.keep (hx.kp K)))
  rw [hV] at HA
  have HA2 : Hid (∀ (w1 : World), Ext w w1 → Calls Tryz.prog 75 #[.string nNot, .slice a 1 c] w1 fun e w' => e = .returned (.int .i64 0) ∧ Ext w1 w') := HA
  clear HA
  obtain ⟨g, off, k0, n0, x0, a0, l0, c0, rfl, hg, h40, hr0⟩ := h.kid (j := 0) (Nat.le_of_ble_eq_true rfl)
  obtain ⟨e0, e1, _⟩ := hr0.kindE
  obtain rfl : t.kind = k0 := e0
  obtain rfl : t.num = n0 := e1
  have H40 := hid (show ∀ w1, Ext w w1 → Four w1 g off (.int .i64 t.kind) (.int .i64 t.num) (.string x0) (.slice a0 l0 c0) from fun w1 hx => by have h := Four.keep h40 (hx.kp K) hg; rwa [Nat.zero_mul, Nat.add_zero] at h)
  clear h hV h40 hr0 hg
  generalize t.kind = tk at *
  generalize t.num = tn at *
  unfold nNot at *
  by_cases h2 : tk = 2
  · have q1 : (tk == 2) = true := by rw [beq_iff_eq]; exact h2
    have q2 : (tk != 2) = false := by unfold bne; rw [q1]; rfl
    rw [if_pos h2]
    clear h2
    obtain ⟨bb, hbb⟩ : ∃ bb, decide (tn = 0) = bb := ⟨_, rfl⟩
    have hbb2 : (tn == 0) = bb := by rw [← hbb]; rfl
    rw [hbb]
    clear hbb
    go_enter Tryz.func39, Tryz.ntmps39
    go_wp2_with fail
    refine (HA2.out _ (Ext.alloc _ _)).mono ?_
    rintro e w1 ⟨rfl, hx1⟩
    have HX := hid ((Ext.alloc w _).trans hx1)
    have HB := hid (hx1.block (blk0 w (.cells #[.int .i64 0, .int .i64 0, .string ⟨#[]⟩, .slice none 0 0] 38)))
    obtain ⟨z0, z1, z2, z3⟩ := four_of HB.out
    obtain ⟨f0, f1, f2, f3⟩ := four_free HB.out
    clear hx1
    obtain ⟨o0, o1, o2, o3⟩ := H40.out _ HX.out
    have hgl := lt_of_cell o0
    have hwl := lt_of_cell z0
    clear o2 o3
    cases bb with
    | false =>
      go_wp2_with fail
      have HB2 := hid ((Ext.alloc _ (.cells #[.int .i64 2, .int .i64 0, .string ⟨#[]⟩, .slice none 0 0] 38)).block (four_set (u0 := .int .i64 2) (u1 := .int .i64 0) (u2 := .string ⟨#[]⟩) (u3 := .slice none 0 0) HB.out))
      have HE := hid (((Kp.set4 w1 w.heap.size 0 (.int .i64 2) (.int .i64 0) (.string ⟨#[]⟩) (.slice none 0 0)).extOf HX.out (Nat.le_refl _)).trans (Ext.alloc _ (.cells #[.int .i64 2, .int .i64 0, .string ⟨#[]⟩, .slice none 0 0] 38)))
      obtain ⟨y0, y1, y2, y3⟩ := four_of HB2.out
      refine bodyPost_ret (v := .tuple #[.agg #[.int .i64 2, .int .i64 0, .string ⟨#[]⟩, .slice none 0 0], .int .i64 0, .string ⟨#[]⟩]) (by simp [results, Tryz.results39, go_sem, y0, y1, y2, y3]) rfl ?_
      exact ⟨_, rfl, ⟨fun _ => True, 1, _, rfl, trT_rd _ _ false⟩, HE.out⟩
    | true =>
      go_wp2_with fail
      have HB2 := hid ((Ext.alloc _ (.cells #[.int .i64 2, .int .i64 1, .string ⟨#[]⟩, .slice none 0 0] 38)).block (four_set (u0 := .int .i64 2) (u1 := .int .i64 1) (u2 := .string ⟨#[]⟩) (u3 := .slice none 0 0) HB.out))
      have HE := hid (((Kp.set4 w1 w.heap.size 0 (.int .i64 2) (.int .i64 1) (.string ⟨#[]⟩) (.slice none 0 0)).extOf HX.out (Nat.le_refl _)).trans (Ext.alloc _ (.cells #[.int .i64 2, .int .i64 1, .string ⟨#[]⟩, .slice none 0 0] 38)))
      obtain ⟨y0, y1, y2, y3⟩ := four_of HB2.out
      refine bodyPost_ret (v := .tuple #[.agg #[.int .i64 2, .int .i64 1, .string ⟨#[]⟩, .slice none 0 0], .int .i64 0, .string ⟨#[]⟩]) (by simp [results, Tryz.results39, go_sem, y0, y1, y2, y3]) rfl ?_
      exact ⟨_, rfl, ⟨fun _ => True, 1, _, rfl, trT_rd _ _ true⟩, HE.out⟩
  · have q1 : (tk == 2) = false := by rw [beq_eq_false_iff_ne]; exact h2
    have q2 : (tk != 2) = true := by unfold bne; rw [q1]; rfl
    rw [if_neg h2]
    clear h2
    go_enter Tryz.func39, Tryz.ntmps39
    go_wp2_with fail
    refine (HA2.out _ (Ext.alloc _ _)).mono ?_
    rintro e w1 ⟨rfl, hx1⟩
    have HX := hid ((Ext.alloc w _).trans hx1)
    have HB := hid (hx1.block (blk0 w (.cells #[.int .i64 0, .int .i64 0, .string ⟨#[]⟩, .slice none 0 0] 38)))
    obtain ⟨z0, z1, z2, z3⟩ := four_of HB.out
    obtain ⟨f0, f1, f2, f3⟩ := four_free HB.out
    clear hx1
    obtain ⟨o0, o1, o2, o3⟩ := H40.out _ HX.out
    have hgl := lt_of_cell o0
    clear o1 o2 o3
    go_wp2_with fail
    have HB2 := hid (four_set (u0 := .int .i64 0) (u1 := .int .i64 0) (u2 := .string ⟨#[]⟩) (u3 := .slice none 0 0) HB.out)
    have HE := hid ((Kp.set4 w1 w.heap.size 0 (.int .i64 0) (.int .i64 0) (.string ⟨#[]⟩) (.slice none 0 0)).extOf HX.out (Nat.le_refl _))
    obtain ⟨y0, y1, y2, y3⟩ := four_of HB2.out
    refine bodyPost_ret (v := .tuple #[.agg #[.int .i64 0, .int .i64 0, .string ⟨#[]⟩, .slice none 0 0], .int .i64 20, .string ⟨#[]⟩]) (by simp [results, Tryz.results39, go_sem, y0, y1, y2, y3]) rfl ?_
    first | exact ⟨_, rfl, rfl, HE.out⟩ | exact ⟨_, rfl, rfl, HE.out.drew⟩
set_option maxRecDepth 100000 in
set_option maxHeartbeats 4000000 in
theorem rwT_same {K : Nat → Prop} {d : Nat} (a : Option Addr) (c : Nat) (t u : T) (w : World) (h : RdL K w d a [t, u]) (hm : t.may) (hm' : u.may) (hV : askK truthK nSame [t, u] = 0) : Calls Tryz.prog 39 #[.string nSame, .slice a 2 c] w fun e w' => ∃ R, e = .returned R ∧ AnsP (.good (trT (T.beq t u))) w' R ∧ Ext w w' := by
  have HA := hid (fun w1 (hx : Ext w w1) => mayT_any (K := K) (d := d) nSame a c [t, u] w1 (h.keep (hx.kp K)))
  rw [hV] at HA
  have HA2 : Hid (∀ (w1 : World), Ext w w1 → Calls Tryz.prog 75 #[.string nSame, .slice a 2 c] w1 fun e w' => e = .returned (.int .i64 0) ∧ Ext w1 w') := HA
  clear HA
  obtain ⟨g, off, k0, n0, x0, a0, l0, c0, rfl, hg, h40, hr0⟩ := h.kid (j := 0) (Nat.le_of_ble_eq_true rfl)
  obtain ⟨g1, off1, k1, n1, x1, a1, l1, c1, ea, _, h41, hr1⟩ := h.kid (j := 1) (Nat.le_of_ble_eq_true rfl)
  obtain ⟨rfl, rfl⟩ : g = g1 ∧ off = off1 := by injection ea with ea; injection ea with ea eb; exact ⟨ea, eb⟩
  clear ea
  have H40 := hid (show ∀ w1, Ext w w1 → Four w1 g off (.int .i64 k0) (.int .i64 n0) (.string x0) (.slice a0 l0 c0) from fun w1 hx => by have h := Four.keep h40 (hx.kp K) hg; rwa [Nat.zero_mul, Nat.add_zero] at h)
  have H41 := hid (show ∀ w1, Ext w w1 → Four w1 g (off + 4) (.int .i64 k1) (.int .i64 n1) (.string x1) (.slice a1 l1 c1) from fun w1 hx => by have h := Four.keep h41 (hx.kp K) hg; rwa [Nat.one_mul] at h)
  have HS := hid (show ∀ w1, Ext w w1 → Calls Tryz.prog 76 #[.agg #[.int .i64 k0, .int .i64 n0, .string x0, .slice a0 l0 c0], .agg #[.int .i64 k1, .int .i64 n1, .string x1, .slice a1 l1 c1]] w1 fun e w' => e = .returned (.bool (T.beq t u)) ∧ Ext w1 w' from fun w1 hx => rsameT_any w1 (hr0.later hx) (hr1.later hx) hm hm')
  clear h hV h40 hr0 hg h41 hr1 hm hm'
  obtain ⟨bb, hbb⟩ : ∃ bb, T.beq t u = bb := ⟨_, rfl⟩
  rw [hbb] at HS ⊢
  clear hbb
  unfold nSame at *
  go_enter Tryz.func39, Tryz.ntmps39
  go_wp2_with fail
  refine (HA2.out _ (Ext.alloc _ _)).mono ?_
  rintro e w1 ⟨rfl, hx1⟩
  have HX := hid ((Ext.alloc w _).trans hx1)
  have HB := hid (hx1.block (blk0 w (.cells #[.int .i64 0, .int .i64 0, .string ⟨#[]⟩, .slice none 0 0] 38)))
  obtain ⟨z0, z1, z2, z3⟩ := four_of HB.out
  obtain ⟨f0, f1, f2, f3⟩ := four_free HB.out
  clear hx1
  have HSK := hid (show ∀ W', Ext w1 W' → (W'.cell? ⟨g, off, none⟩ = some (.int .i64 k0) ∧ W'.cell? ⟨g, off + 1, none⟩ = some (.int .i64 n0) ∧ W'.cell? ⟨g, off + 2, none⟩ = some (.string x0) ∧ W'.cell? ⟨g, off + 3, none⟩ = some (.slice a0 l0 c0) ∧ W'.cell? ⟨g, off + 4, none⟩ = some (.int .i64 k1) ∧ W'.cell? ⟨g, off + 4 + 1, none⟩ = some (.int .i64 n1) ∧ W'.cell? ⟨g, off + 4 + 2, none⟩ = some (.string x1) ∧ W'.cell? ⟨g, off + 4 + 3, none⟩ = some (.slice a1 l1 c1)) from fun W' X => by
    obtain ⟨o0, o1, o2, o3⟩ := H40.out _ (HX.out.trans X)
    obtain ⟨p0, p1, p2, p3⟩ := H41.out _ (HX.out.trans X)
    exact ⟨o0, o1, o2, o3, p0, p1, p2, p3⟩)
  have hgl := lt_of_cell (HSK.out _ (Ext.refl _)).1
  clear z0 z1 z2 z3 f0 f1 f2 f3
  go_upto_region 6 with fail
  go_cut [8] from 19 to 25 (fun s8 wx => s8 = .bool bb ∧ Ext w1 wx)
  case first =>
    go_region_held3 (fun W' => W'.cell? ⟨g, off, none⟩ = some (.int .i64 k0) ∧ W'.cell? ⟨g, off + 1, none⟩ = some (.int .i64 n0) ∧ W'.cell? ⟨g, off + 2, none⟩ = some (.string x0) ∧ W'.cell? ⟨g, off + 3, none⟩ = some (.slice a0 l0 c0) ∧ W'.cell? ⟨g, off + 4, none⟩ = some (.int .i64 k1) ∧ W'.cell? ⟨g, off + 4 + 1, none⟩ = some (.int .i64 n1) ∧ W'.cell? ⟨g, off + 4 + 2, none⟩ = some (.string x1) ∧ W'.cell? ⟨g, off + 4 + 3, none⟩ = some (.slice a1 l1 c1))
      (first | with_reducible exact HSK.out _ (Ext.refl _) | with_reducible exact HSK.out _ (Ext.refl _).drew | with_reducible exact HSK.out _ Z1 | go_keep)
      (first
        | (go_at_call 76; with_reducible refine (HS.out _ (HX.out.trans (by repeat (first | with_reducible exact Ext.refl _ | with_reducible refine Ext.drew ?_)))).mono ?_; rintro r u1 ⟨rfl, hy⟩; have Z1 : Ext w1 u1 := Ext.trans (by repeat (first | with_reducible exact Ext.refl _ | with_reducible refine Ext.drew ?_)) hy))
    all_goals
      go_wp2_with fail
      go_meet
      case rel => exact ⟨rfl, Z1⟩
  case rest =>
    obtain ⟨rfl, hxc⟩ := hcut
    have HXC := hid (HX.out.trans hxc)
    have HBC := hid (hxc.block HB.out)
    obtain ⟨z0, z1, z2, z3⟩ := four_of HBC.out
    obtain ⟨f0, f1, f2, f3⟩ := four_free HBC.out
    have hwl := lt_of_cell z0
    clear hxc hgl
    cases bb with
    | false =>
      go_wp2_with fail
      have HB2 := hid ((Ext.alloc _ (.cells #[.int .i64 2, .int .i64 0, .string ⟨#[]⟩, .slice none 0 0] 38)).block (four_set (u0 := .int .i64 2) (u1 := .int .i64 0) (u2 := .string ⟨#[]⟩) (u3 := .slice none 0 0) HBC.out))
      have HE := hid (((Kp.set4 wc w.heap.size 0 (.int .i64 2) (.int .i64 0) (.string ⟨#[]⟩) (.slice none 0 0)).extOf HXC.out (Nat.le_refl _)).trans (Ext.alloc _ (.cells #[.int .i64 2, .int .i64 0, .string ⟨#[]⟩, .slice none 0 0] 38)))
      obtain ⟨y0, y1, y2, y3⟩ := four_of HB2.out
      refine bodyPost_ret (v := .tuple #[.agg #[.int .i64 2, .int .i64 0, .string ⟨#[]⟩, .slice none 0 0], .int .i64 0, .string ⟨#[]⟩]) (by simp [results, Tryz.results39, go_sem, y0, y1, y2, y3]) rfl ?_
      exact ⟨_, rfl, ⟨fun _ => True, 1, _, rfl, trT_rd _ _ false⟩, HE.out⟩
    | true =>
      go_wp2_with fail
      have HB2 := hid ((Ext.alloc _ (.cells #[.int .i64 2, .int .i64 1, .string ⟨#[]⟩, .slice none 0 0] 38)).block (four_set (u0 := .int .i64 2) (u1 := .int .i64 1) (u2 := .string ⟨#[]⟩) (u3 := .slice none 0 0) HBC.out))
      have HE := hid (((Kp.set4 wc w.heap.size 0 (.int .i64 2) (.int .i64 1) (.string ⟨#[]⟩) (.slice none 0 0)).extOf HXC.out (Nat.le_refl _)).trans (Ext.alloc _ (.cells #[.int .i64 2, .int .i64 1, .string ⟨#[]⟩, .slice none 0 0] 38)))
      obtain ⟨y0, y1, y2, y3⟩ := four_of HB2.out
      refine bodyPost_ret (v := .tuple #[.agg #[.int .i64 2, .int .i64 1, .string ⟨#[]⟩, .slice none 0 0], .int .i64 0, .string ⟨#[]⟩]) (by simp [results, Tryz.results39, go_sem, y0, y1, y2, y3]) rfl ?_
      exact ⟨_, rfl, ⟨fun _ => True, 1, _, rfl, trT_rd _ _ true⟩, HE.out⟩

theorem refWorkT_any {K : Nat → Prop} {d : Nat} (op : ByteArray) (a : Option Addr) (c : Nat) (ts : List T) (w : World) (h : RdL K w d a ts) : Calls Tryz.prog 39 #[.string op, .slice a ts.length c] w fun e w' => ∃ R, e = .returned R ∧ AnsP (ansOf truthK op ts (truthF ts)) w' R ∧ Ext w w' := by
  by_cases hz : askK truthK op ts = 0
  case neg =>
    have hz' : (askK truthK op ts == 0) = false := by simpa using hz
    rw [ansOf_ask hz']
    exact rwT_bad op a c ts w h _ rfl hz'
  obtain ⟨k, f, h1, h2, h3, h4, h5⟩ := ask_zero hz
  rw [h5]
  rcases truthAt h1 h2 with ⟨rfl, rfl, rfl⟩ | ⟨rfl, rfl, rfl⟩
  · rw [cntT0, decide_eq_true_eq] at h3
    obtain ⟨t, rfl⟩ := list_one h3
    have e : (if rightB truthK[0].signs.data.toList ([t].map T.kind) = true then truthF [t] else Ans.one 20) = if t.kind = 2 then .good (trT (decide (t.num = 0))) else Ans.one 20 := by
      rw [List.map_cons, List.map_nil, rightT0 _ (kind_five (h4 t (by simp))), truthF_one]
      simp only [decide_eq_true_eq]
    rw [e]
    exact rwT_not a c t w h hz
  · rw [cntT1, decide_eq_true_eq] at h3
    obtain ⟨t, u, rfl⟩ := list_two h3
    have e : (if rightB truthK[1].signs.data.toList ([t, u].map T.kind) = true then truthF [t, u] else Ans.one 20) = .good (trT (T.beq t u)) := by
      rw [List.map_cons, List.map_cons, List.map_nil, rightT1 _ _ (kind_five (h4 t (by simp))) (kind_five (h4 u (by simp))), truthF_two, if_pos rfl]
    rw [e]
    exact rwT_same a c t u w h (h4 t (by simp)) (h4 u (by simp)) hz
theorem bothT (op : ByteArray) (ts : List T) (hlen : ts.length ≤ 1000000) : BothQ 35 39 op ts :=
  ⟨_, fun w a c hm hp => truthWork_any op ts hlen a c w hm hp, fun _ _ w a c h => refWorkT_any op a c ts w h⟩
end Go.Proofs.YtnmcmjgfnncdmaaGreatDoor
