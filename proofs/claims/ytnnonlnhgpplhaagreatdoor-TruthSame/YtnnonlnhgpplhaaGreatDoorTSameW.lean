/-
  Light of the statements: whether a plain value is so small that it is played; by a contract.
-/
import Derived.Test.YtnnonlnhgpplhaaGreatDoorPlain
import Derived.Test.YtnnonlnhgpplhaaGreatDoorTBeg
namespace Go.Proofs.YtnnonlnhgpplhaaGreatDoor
open Go.RowKit
mutual
/-- What is left of a number behind a plain value. -/
def lightN (n : Int) (dp : Nat) : T → Int
  | .node _ _ x ks => if 70 < dp then -1 else lightL (n - 1 - (x.size / 4 : Nat)) (dp + 1) ks
def lightL (n : Int) (dp : Nat) : List T → Int
  | [] => n
  | t :: r => if 0 ≤ n then lightL (lightN n dp t) dp r else n
end
def lightB (t : T) : Bool := decide (0 ≤ lightN 70000 0 t)
theorem lightL_neg {n : Int} (h : ¬ 0 ≤ n) (dp : Nat) (l : List T) : lightL n dp l = n := by
  cases l with
  | nil => simp only [lightL]
  | cons t r => simp only [lightL]; rw [if_neg h]
theorem lightL_step {n : Int} (h : 0 ≤ n) (dp : Nat) (l : List T) (j : Nat) (hj : j < l.length) : lightL n dp (l.drop j) = lightL (lightN n dp l[j]) dp (l.drop (j + 1)) := by
  rw [List.drop_eq_getElem_cons hj]
  simp only [lightL]
  rw [if_pos h]
theorem lightL_end (n : Int) (dp : Nat) (l : List T) (j : Nat) (hj : ¬ j < l.length) : lightL n dp (l.drop j) = n := by
  rw [List.drop_eq_nil_of_le (by omega)]
  simp only [lightL]
def LightR (w : World) (n : Int) (dp : Nat) (t : T) (e : Ending) (w' : World) : Prop := ∃ m : Int, e = .returned (.int .i64 m) ∧ m = lightN n dp t ∧ -35184372087810 ≤ m ∧ m ≤ 70000 ∧ Ext w w'
set_option maxRecDepth 100000 in
set_option maxHeartbeats 2000000 in
theorem light_any : ∀ (d : Nat) (v : Value) (t : T) (K : Nat → Prop) (w : World) (n : Int) (dp : Nat), Rd K w d v t → 0 ≤ n → n ≤ 70000 → dp ≤ 71 →
    Calls Tryz.prog 63 #[v, .int .i64 n, .int .i64 dp] w (LightR w n dp t) := by
  intro d
  induction d with
  | zero => intro v t K w n dp h; exact h.elim
  | succ d ih =>
    intro v t K w n dp hr hn0 hn1 hdp
    obtain ⟨k, m, x, ks⟩ := t
    have hxs : x.size ≤ 140737488351232 := by obtain ⟨_, _, _, h2, _⟩ := hr; exact h2
    obtain ⟨a, c, rfl, hkl⟩ := hr.kidsL
    have HK := hid hkl
    have HIH := hid ih
    have hl' : (ks.length : Int) ≤ 140737488355328 := by have := hkl.1; omega
    have hdq : (x.size : Int).tdiv 4 = ((x.size / 4 : Nat) : Int) := by rw [Int.tdiv_eq_ediv_of_nonneg (by omega)]; rfl
    have HD := hid (show lightN n dp (.node k m x ks) = if 70 < dp then -1 else lightL (n - 1 - (x.size / 4 : Nat)) (dp + 1) ks by simp only [lightN])
    have hq : x.size / 4 ≤ 35184372087808 := by omega
    clear hr hkl ih
    generalize x.size / 4 = q at *
    have hq' : (q : Int) ≤ 35184372087808 := by omega
    have hxs' : (x.size : Int) ≤ 140737488351232 := by omega
    have hq0 : 0 ≤ (q : Int) := by omega
    by_cases h70 : 70 < dp
    · have h70' : (70 : Int) < dp := by omega
      have HR := hid (show lightN n dp (.node k m x ks) = -1 by rw [HD.out, if_pos h70])
      clear h70 HD
      go_enter Tryz.func63, Tryz.ntmps63
      go_wp2_with fail
      go_ret
      exact ⟨-1, rfl, HR.out.symm, by decide, by decide, Ext.alloc _ _⟩
    · have h70' : ¬ (70 : Int) < dp := by omega
      have HR := hid (show lightN n dp (.node k m x ks) = lightL (n - 1 - (q : Int)) (dp + 1) (ks.drop 0) by rw [HD.out, if_neg h70, List.drop_zero])
      have hdp' : (dp : Int) ≤ 70 := by omega
      have hdp2 : dp + 1 ≤ 71 := by omega
      have hdc : (dp : Int) + 1 = ((dp + 1 : Nat) : Int) := by omega
      have HDP := hid hdc
      clear h70 HD hdc
      go_enter Tryz.func63, Tryz.ntmps63
      go_wp2_with fail
      go_loopw [1, 7] (fun q1 i wr => ∃ (j : Nat) (nn : Int), j ≤ ks.length ∧ i = .int .i64 j ∧ q1 = .int .i64 nn ∧ lightN n dp (.node k m x ks) = lightL nn (dp + 1) (ks.drop j) ∧ -35184372087810 ≤ nn ∧ nn ≤ 70000 ∧ wr.heap[w.heap.size]? = some (.cells #[.int .i64 k, .int .i64 m, .string x, .slice a ks.length c] 30) ∧ Ext w wr) (fun _ i _ => ks.length - (intOf i).toNat)
      case atStart => exact ⟨0, _, Nat.zero_le _, rfl, rfl, HR.out, by omega, by omega, blk0 _ _, Ext.alloc _ _⟩
      case round =>
        obtain ⟨j, nn, hj, rfl, rfl, hrec, hb1, hb2, hbt, hx⟩ := hrel
        have HX := hid hx
        have HBT := hid hbt
        have HREC := hid hrec
        obtain ⟨t0, t1, t2, t3⟩ := four_of hbt
        clear hx hbt hrec
        by_cases hlt : j < ks.length
        · have hlt' : (j : Int) < ks.length := by omega
          by_cases h0 : 0 ≤ nn
          · obtain ⟨g, off, k', n', x', a', l', c', rfl, hg, h4, hrd⟩ := HK.out.kid hlt
            obtain ⟨o0, o1, o2, o3⟩ := Four.keep h4 (HX.out.kp K) hg
            have hgl := lt_of_cell o0
            have HC := hid (HIH.out _ ks[j] K wr nn (dp + 1) (hrd.later HX.out) h0 hb2 hdp2)
            rw [← HDP.out] at HC
            clear h4 hrd
            have HREC2 := hid (HREC.out.trans (lightL_step h0 (dp + 1) ks j hlt))
            go_wp2_with fail
            refine HC.out.mono ?_
            rintro e w2 ⟨m2, rfl, hm2, hb3, hb4, hy⟩
            have HM2 := hid hm2
            have HY := hid hy
            clear hy hm2 HC t0 t1 t2 t3 o0 o1 o2 o3
            go_wp2_with fail
            go_roundw
            case rel => exact ⟨j + 1, m2, hlt, by go_num, rfl, by rw [HREC2.out, HM2.out], hb3, hb4, HY.out.block HBT.out, HX.out.trans HY.out⟩
            case measure => simp [intOf]; omega
          · have HF := hid (HREC.out.trans (lightL_neg h0 _ _))
            have h0' : decide (0 ≤ nn) = false := decide_eq_false h0
            go_wp2_with fail
            go_ret
            exact ⟨nn, rfl, HF.out.symm, hb1, hb2, HX.out⟩
        · have HF := hid (HREC.out.trans (lightL_end _ _ _ _ hlt))
          have hlt' : ¬ (j : Int) < ks.length := by omega
          go_wp2_with fail
          go_ret
          exact ⟨nn, rfl, HF.out.symm, hb1, hb2, HX.out⟩
set_option maxRecDepth 100000 in
theorem Light_any {K : Nat → Prop} {d : Nat} {v : Value} {t : T} (w : World) (hr : Rd K w d v t) : Calls Tryz.prog 36 #[v] w fun e w' => e = .returned (.bool (lightB t)) ∧ Ext w w' := by
  obtain ⟨u0, u1, u2, u3, rfl⟩ := hr.agg
  obtain ⟨k, n, x, a, c, rfl, rfl, rfl, rfl⟩ := hr.shape
  have HC := hid (fun w1 (h : Ext w w1) => light_any d _ t K w1 70000 0 (hr.later h) (by decide) (by decide) (by decide))
  have HB := hid (show lightB t = decide (0 ≤ lightN 70000 0 t) from rfl)
  clear hr
  generalize (T.kids t).length = kt at *
  go_enter Tryz.func36, Tryz.ntmps36
  go_wp2_with fail
  refine (HC.out _ (Ext.alloc _ _)).mono ?_
  rintro e w2 ⟨m2, rfl, hm2, hb3, hb4, hy⟩
  have HY := hid ((Ext.alloc w _).trans hy)
  have HM2 := hid hm2
  clear hy hm2 HC
  go_wp2_with fail
  go_ret
  exact ⟨by rw [HB.out, HM2.out]; rfl, HY.out⟩
end Go.Proofs.YtnnonlnhgpplhaaGreatDoor
/-
  light of the statements of truth; TruthSame tells true.
-/
namespace Go.Proofs.YtnnonlnhgpplhaaGreatDoor.Nd
open Go.RowKit
theorem PRow.kid {w : World} {a : Option Addr} {ts : List T} (h : PRow w a ts) {j : Nat} (hj : j < ts.length) : ∃ g off K d k n x a' l c, a = some ⟨g, off, none⟩ ∧ Four w g (off + j * 4) (.int .i64 k) (.int .i64 n) (.string x) (.slice a' l c) ∧ Rd K w d (.agg #[.int .i64 k, .int .i64 n, .string x, .slice a' l c]) ts[j] := by
  rcases h with h0 | ⟨g, off, rfl, hc⟩
  · subst h0; exact absurd hj (Nat.not_lt_zero _)
  · obtain ⟨K, d, u0, u1, u2, u3, h4, hr⟩ := hc j hj
    obtain ⟨k, n, x, a', c', rfl, rfl, rfl, rfl⟩ := hr.shape
    exact ⟨g, off, K, d, k, n, x, a', _, c', rfl, h4, hr⟩
def LightsP (w : World) (ks : List T) (e : Ending) (w' : World) : Prop := ∃ b, e = .returned (.bool b) ∧ (b = true → ks.length ≤ 2000 ∧ ∀ t ∈ ks, lightB t = true) ∧ Ext w w'
set_option maxRecDepth 100000 in
set_option maxHeartbeats 2000000 in
theorem lightsP_any {a : Option Addr} {c : Nat} {ks : List T} (w : World) (h : PRow w a ks) (hz : ks.length ≤ 1000000000000) : Calls Tryz.prog 11 #[.slice a ks.length c] w (LightsP w ks) := by
  have HK := hid h
  obtain ⟨n, hne⟩ : ∃ n, ks.length = n := ⟨_, rfl⟩
  have HNE := hid hne
  have hn' : (n : Int) ≤ 1000000000000 := by omega
  rw [hne]
  clear h hne hz
  go_enter Tryz.func11, Tryz.ntmps11
  go_wp2_with fail
  go_loopw [3, 4] (fun q3 q4 wr => ∃ j : Nat, j ≤ n ∧ j ≤ 2000 ∧ q4 = .int .i64 j ∧ q3 = .int .i64 j ∧ (∀ i, (hi : i < ks.length) → i < j → lightB ks[i] = true) ∧ Ext w wr) (fun _ q4 _ => n - (intOf q4).toNat)
  case atStart => exact ⟨0, Nat.zero_le _, Nat.zero_le _, rfl, rfl, fun _ _ h => absurd h (Nat.not_lt_zero _), Ext.refl _⟩
  case round =>
    obtain ⟨j, hj, hj2, rfl, rfl, hall, hx⟩ := hrel
    have HX := hid hx
    have HALL := hid hall
    clear hx hall
    by_cases hlt : j < n
    · have hlt' : (j : Int) < n := by omega
      have hjx : j < ks.length := by rw [HNE.out]; exact hlt
      obtain ⟨g, off, K, d, k', n', x', a', l', c', rfl, h4, hrd0⟩ := PRow.kid HK.out hjx
      obtain ⟨o0, o1, o2, o3⟩ := Four.later h4 HX.out
      have hgl := lt_of_cell o0
      have HLG := hid (Light_any wr (hrd0.later HX.out))
      have HS := hid (show lightB ks[j] = true → ∀ i, (hi : i < ks.length) → i < j + 1 → lightB ks[i] = true from fun hy i hi h => by
        rcases Nat.lt_succ_iff_lt_or_eq.1 h with h | rfl
        · exact HALL.out i hi h
        · exact hy)
      generalize ks[j] = t at *
      obtain ⟨b, hb⟩ : ∃ b, lightB t = b := ⟨_, rfl⟩
      rw [hb] at HLG HS
      clear hjx h4 hrd0 hb
      go_wp2_with fail
      refine HLG.out.mono ?_
      rintro e w1 ⟨rfl, hx1⟩
      have X1 := hid (HX.out.trans hx1)
      clear hx1 o0 o1 o2 o3 hgl
      cases b with
      | false =>
        go_wp2_with fail
        go_ret
        exact ⟨false, rfl, (fun h => Bool.noConfusion h), X1.out⟩
      | true =>
        by_cases h20 : j = 2000
        · subst h20
          go_wp2_with fail
          go_ret
          exact ⟨false, rfl, (fun h => Bool.noConfusion h), X1.out⟩
        · have h21 : ¬ (2000 : Int) < (j : Int) + 1 := by omega
          go_wp2_with fail
          go_roundw
          case rel => exact ⟨j + 1, hlt, by omega, by go_num, by go_num, HS.out (by trivial), X1.out⟩
          case measure => simp [intOf]; omega
    · have hlt3 : ¬ (j : Int) < n := by omega
      go_wp2_with fail
      go_ret
      refine ⟨true, rfl, fun _ => ⟨by have := HNE.out; omega, fun t ht => ?_⟩, HX.out⟩
      obtain ⟨i, hi, rfl⟩ := List.getElem_of_mem ht
      exact HALL.out i hi (by have := HNE.out; omega)
theorem prow2 {w : World} {g : Nat} {ty : TypeId} {K K' : Nat → Prop} {d d' : Nat} {u0 u1 u2 u3 v0 v1 v2 v3 : Value} {t t' : T} (h : w.heap[g]? = some (.cells #[u0, u1, u2, u3, v0, v1, v2, v3] ty)) (hr : Rd K w d (.agg #[u0, u1, u2, u3]) t) (hr' : Rd K' w d' (.agg #[v0, v1, v2, v3]) t') : PRow w (some ⟨g, 0, none⟩) [t, t'] := by
  refine .inr ⟨g, 0, rfl, fun j hj => ?_⟩
  match j, hj with
  | 0, _ => exact ⟨K, d, _, _, _, _, ⟨cell_of h rfl, cell_of h rfl, cell_of h rfl, cell_of h rfl⟩, hr⟩
  | 1, _ => exact ⟨K', d', _, _, _, _, ⟨cell_of h rfl, cell_of h rfl, cell_of h rfl, cell_of h rfl⟩, hr'⟩
  | n + 2, h => exact absurd h (by simp)
theorem calls_eqT {f : Nat} {args : Array Value} {w : World} {V V' : Value} {P : Prop} (h : V = V') (hc : P → Calls Tryz.prog f args w fun e w' => e = .returned V ∧ Ext w w') : P → Calls Tryz.prog f args w fun e w' => e = .returned V' ∧ Ext w w' := h ▸ hc
theorem neTu (b : Bool) (w : World) : (binOp .neq 33 (.iface 38 (.bool b)) (.iface 38 (.bool b))).run Tryz.prog w = .ok (.bool false) w := by cases b <;> kernel_rfl
theorem T.beq_symm (t t' : T) : T.beq t' t = T.beq t t' := by
  cases h : T.beq t t' with
  | true => rw [(T.beq_eq t t').1 h]; exact (T.beq_eq t' t').2 rfl
  | false =>
    cases h' : T.beq t' t with
    | false => rfl
    | true => rw [(T.beq_eq t' t).1 h', (T.beq_eq t t).2 rfl] at h; cases h
attribute [local go_sem] vs_tu_tu
set_option maxRecDepth 100000 in
set_option maxHeartbeats 4000000 in
theorem sameT_true {K K' : Nat → Prop} {d d' : Nat} (w : World) (hl : Laid w) (hm : MaxAt w) (k n : Int) (x : ByteArray) (a : Option Addr) (l c : Nat) (k' n' : Int) (x' : ByteArray) (a' : Option Addr) (l' c' : Nat) (t t' : T) (b : Bool)
    (hr : Rd K w d (.agg #[.int .i64 k, .int .i64 n, .string x, .slice a l c]) t) (hr' : Rd K' w d' (.agg #[.int .i64 k', .int .i64 n', .string x', .slice a' l' c']) t') :
    Calls Tryz.prog 4 #[.agg #[.int .i64 k, .int .i64 n, .string x, .slice a l c], .agg #[.int .i64 k', .int .i64 n', .string x', .slice a' l' c'], .bool b] w fun e w' => e = .returned (.bool true) ∧ Ext w w' := by
  have HR := hid hr
  have HR' := hid hr'
  have HM := hid hm
  have HBE := hid (fun w1 (hx : Ext w w1) => begunT_any w1 (hl.later hx) (hm.later hx))
  have hne := fun (w : World) => neTu (!b) w
  clear hr hr' hl hm
  obtain ⟨M, hM⟩ : ∃ M, (w.alloc (.cells #[.int .i64 k, .int .i64 n, .string x, .slice a l c] 30)).alloc (.cells #[.int .i64 k', .int .i64 n', .string x', .slice a' l' c'] 30) = M := ⟨_, rfl⟩
  have XM := hid (show Ext w M from hM ▸ Ext.alloc2 _ _ _)
  have HM0 := hid (show M.heap[w.heap.size]? = some (.cells #[.int .i64 k, .int .i64 n, .string x, .slice a l c] 30) from hM ▸ blkOld _ (blk0 w _))
  have HM1 := hid (show M.heap[w.heap.size + 1]? = some (.cells #[.int .i64 k', .int .i64 n', .string x', .slice a' l' c'] 30) from hM ▸ blk1 w _ _)
  go_enter Tryz.func4, Tryz.ntmps4
  go_wp2_with fail
  first | rw [hM] | skip
  clear hM
  refine (HBE.out _ XM.out).mono ?_
  rintro e w1 ⟨rfl, hx1⟩
  have X1 := hid hx1
  obtain ⟨p0, p1, p2, p3⟩ := four_of (hx1.block HM0.out)
  obtain ⟨s0, s1, s2, s3⟩ := four_of (hx1.block HM1.out)
  have hw0 := lt_of_cell p0
  have hw1 := lt_of_cell s0
  clear hx1
  go_wp2_with fail
  refine (lightsP_any (c := 2) (ks := [t, t']) _ (prow2 (blk0 w1 _) (HR.out.later (XM.out.trans (X1.out.trans (Ext.alloc _ _)))) (HR'.out.later (XM.out.trans (X1.out.trans (Ext.alloc _ _))))) (by simp)).mono ?_
  rintro e w2 ⟨bl, rfl, _, hx2⟩
  have X2 := hid (X1.out.trans ((Ext.alloc _ _).trans hx2))
  clear p0 p1 p2 p3 s0 s1 s2 s3 hw0 hw1
  obtain ⟨p0, p1, p2, p3⟩ := four_of (X2.out.block HM0.out)
  obtain ⟨s0, s1, s2, s3⟩ := four_of (X2.out.block HM1.out)
  have hw0 := lt_of_cell p0
  have hw1 := lt_of_cell s0
  clear hx2
  cases bl with
  | false =>
    go_wp2_with fail
    go_ret
    exact ⟨rfl, XM.out.trans X2.out⟩
  | true =>
  go_wp2_with fail
  refine (tw_same t t' _ _ _ (HM.out.later (XM.out.trans (X2.out.trans (Ext.alloc _ _)))) (prow2 (blk0 w2 _) (HR.out.later (XM.out.trans (X2.out.trans (Ext.alloc _ _)))) (HR'.out.later (XM.out.trans (X2.out.trans (Ext.alloc _ _)))))).mono ?_
  rintro e w3 ⟨rfl, hx3⟩
  have X3 := hid (X2.out.trans ((Ext.alloc _ _).trans hx3))
  clear p0 p1 p2 p3 s0 s1 s2 s3 hw0 hw1
  obtain ⟨p0, p1, p2, p3⟩ := four_of (X3.out.block HM0.out)
  obtain ⟨s0, s1, s2, s3⟩ := four_of (X3.out.block HM1.out)
  have hw0 := lt_of_cell p0
  have hw1 := lt_of_cell s0
  clear hx3
  obtain ⟨V, B, hV, hV2, hB⟩ : ∃ (V : Value) (B : Bool), sameV t t' = V ∧ sameV t' t = V ∧ ((V = toldV B ∧ B = T.beq t t') ∨ V = refV 1) := by
    by_cases h : t.may ∧ t'.may
    · exact ⟨_, _, rfl, by rw [sameV_yes h.1 h.2, sameV_yes h.2 h.1, T.beq_symm], .inl ⟨sameV_yes h.1 h.2, rfl⟩⟩
    · exact ⟨_, true, rfl, by rw [sameV_no h, sameV_no (fun hh => h ⟨hh.2, hh.1⟩)], .inr (sameV_no h)⟩
  have HS2 := hid (fun (W : Nat) (X : World) (A : Ext w X) => calls_eqT hV2 (tw_same t' t (some ⟨W, 0, none⟩) 2 X (HM.out.later A)))
  rw [hV]
  clear hV hV2
  rcases hB with ⟨rfl, hB⟩ | rfl
  · have HBQ := hid hB
    clear hB
    unfold toldV at HS2 ⊢
    go_wp2_with fail
    refine (HS2.out _ _ (XM.out.trans (X3.out.trans (Ext.alloc _ _))) (prow2 (blk0 w3 _) (HR'.out.later (XM.out.trans (X3.out.trans (Ext.alloc _ _)))) (HR.out.later (XM.out.trans (X3.out.trans (Ext.alloc _ _)))))).mono ?_
    rintro e w4 ⟨rfl, hx4⟩
    have X4 := hid (X3.out.trans ((Ext.alloc _ _).trans hx4))
    clear p0 p1 p2 p3 s0 s1 s2 s3 hw0 hw1 hx4
    go_wp2_with fail
    refine (truths_any [b] w4.heap.size _ (by simp) (fun j hj => by
      match j, hj with
      | 0, _ => exact cell_of (blk0 w4 _) rfl
      | n + 1, h => exact absurd h (by simp))).mono ?_
    rintro e w5 ⟨a5, c5, rfl, hp5, hx5⟩
    have HP5 := hid hp5
    have X5 := hid (X4.out.trans ((Ext.alloc _ _).trans hx5))
    clear hp5 hx5
    go_wp2_with fail
    refine (tw_not b a5 c5 w5 (HM.out.later (XM.out.trans X5.out)) HP5.out).mono ?_
    rintro e w6 ⟨rfl, hx6⟩
    have X6 := hid (X5.out.trans hx6)
    clear hx6
    obtain ⟨p0, p1, p2, p3⟩ := four_of (X6.out.block HM0.out)
    obtain ⟨s0, s1, s2, s3⟩ := four_of (X6.out.block HM1.out)
    have hw0 := lt_of_cell p0
    have hw1 := lt_of_cell s0
    have HEQ := hid (eq_any d _ _ t t' _ _ w6 d' (HR.out.later (XM.out.trans X6.out)) (HR'.out.later (XM.out.trans X6.out)))
    rw [← HBQ.out] at HEQ
    clear HBQ
    unfold toldV
    cases B with
    | true =>
      go_wp2_with fail
      refine HEQ.out.mono ?_
      rintro e w7 ⟨rfl, hx7⟩
      have X7 := hid (X6.out.trans hx7)
      clear p0 p1 p2 p3 s0 s1 s2 s3 hw0 hw1 hx7
      go_wp2_with fail
      go_ret
      exact ⟨rfl, XM.out.trans X7.out⟩
    | false =>
      go_wp2_with fail
      refine HEQ.out.mono ?_
      rintro e w7 ⟨rfl, hx7⟩
      have X7 := hid (X6.out.trans hx7)
      clear p0 p1 p2 p3 s0 s1 s2 s3 hw0 hw1 hx7
      go_wp2_with fail
      go_ret
      exact ⟨rfl, XM.out.trans X7.out⟩
  · unfold refV at HS2 ⊢
    go_wp2_with fail
    refine (HS2.out _ _ (XM.out.trans (X3.out.trans (Ext.alloc _ _))) (prow2 (blk0 w3 _) (HR'.out.later (XM.out.trans (X3.out.trans (Ext.alloc _ _)))) (HR.out.later (XM.out.trans (X3.out.trans (Ext.alloc _ _)))))).mono ?_
    rintro e w4 ⟨rfl, hx4⟩
    have X4 := hid (X3.out.trans ((Ext.alloc _ _).trans hx4))
    clear p0 p1 p2 p3 s0 s1 s2 s3 hw0 hw1 hx4
    go_wp2_with fail
    refine (truths_any [b] w4.heap.size _ (by simp) (fun j hj => by
      match j, hj with
      | 0, _ => exact cell_of (blk0 w4 _) rfl
      | n + 1, h => exact absurd h (by simp))).mono ?_
    rintro e w5 ⟨a5, c5, rfl, hp5, hx5⟩
    have HP5 := hid hp5
    have X5 := hid (X4.out.trans ((Ext.alloc _ _).trans hx5))
    clear hp5 hx5
    go_wp2_with fail
    refine (tw_not b a5 c5 w5 (HM.out.later (XM.out.trans X5.out)) HP5.out).mono ?_
    rintro e w6 ⟨rfl, hx6⟩
    have X6 := hid (X5.out.trans hx6)
    clear hx6
    unfold toldV
    go_wp2_with fail
    go_ret
    exact ⟨rfl, XM.out.trans X6.out⟩
end Go.Proofs.YtnnonlnhgpplhaaGreatDoor.Nd
