/-
  GuardChecks tells true.
-/
import Derived.Test.YtnmcmjgfnncdmabGreatDoorGBeg
import Derived.Test.YtnmcmjgfnncdmabGreatDoorCLight
import Derived.Test.YtnmcmjgfnncdmabGreatDoorCFits
namespace Go.Proofs.YtnmcmjgfnncdmabGreatDoor.Nd
open Go.RowKit
theorem PRow.kid {w : World} {a : Option Addr} {ts : List T} (h : PRow w a ts) {j : Nat} (hj : j < ts.length) : ∃ g off K d k n x a' l c, a = some ⟨g, off, none⟩ ∧ Four w g (off + j * 4) (.int .i64 k) (.int .i64 n) (.string x) (.slice a' l c) ∧ Rd K w d (.agg #[.int .i64 k, .int .i64 n, .string x, .slice a' l c]) ts[j] := by
  rcases h with h0 | ⟨g, off, rfl, hc⟩
  · subst h0; exact absurd hj (Nat.not_lt_zero _)
  · obtain ⟨K, d, u0, u1, u2, u3, h4, hr⟩ := hc j hj
    obtain ⟨k, n, x, a', c', rfl, rfl, rfl, rfl⟩ := hr.shape
    exact ⟨g, off, K, d, k, n, x, a', _, c', rfl, h4, hr⟩
def LightsP (w : World) (ks : List T) (e : Ending) (w' : World) : Prop := ∃ b, e = .returned (.bool b) ∧ (b = true → ks.length ≤ 2000 ∧ ∀ t ∈ ks, lightB t = true) ∧ Ext w w'
set_option maxRecDepth 100000 in
set_option maxHeartbeats 2000000 in
theorem lightsP_any {a : Option Addr} {c : Nat} {ks : List T} (w : World) (h : PRow w a ks) (hz : ks.length ≤ 1000000000000) : Calls Tryz.prog 7 #[.slice a ks.length c] w (LightsP w ks) := by
  have HK := hid h
  obtain ⟨n, hne⟩ : ∃ n, ks.length = n := ⟨_, rfl⟩
  have HNE := hid hne
  have hn' : (n : Int) ≤ 1000000000000 := by omega
  rw [hne]
  clear h hne hz
  go_enter Tryz.func7, Tryz.ntmps7
  go_wp2_with fail
  go_loopw [3, 4] (fun q3 q4 wr => ∃ j : Nat, j ≤ n ∧ j ≤ 2000 ∧ q4 = .int .i64 j ∧ q3 = .int .i64 j ∧ (∀ i, (hi : i < ks.length) → i < j → lightB ks[i] = true) ∧ Ext w wr) (fun _ q4 _ => n - (intOf q4).toNat)
  case atStart => exact ⟨0, Nat.zero_le _, Nat.zero_le _, rfl, rfl, fun _ _ h => absurd h (Nat.not_lt_zero _), Ext.refl _⟩
  case round =>
    obtain ⟨j, hj, hj2, rfl, rfl, hall, hx⟩ := hrel
    have HX := hid hx
    have HALL := hid hall
    clear hx hall
    by_cases hlt : j < n
    · have hlt' : (j : Int) < n := by omega
      have hjx : j < ks.length := by rw [HNE.out]; exact hlt
      obtain ⟨g, off, K, d, k', n', x', a', l', c', rfl, h4, hrd0⟩ := PRow.kid HK.out hjx
      obtain ⟨o0, o1, o2, o3⟩ := Four.later h4 HX.out
      have hgl := lt_of_cell o0
      have HLG := hid (Light_any wr (hrd0.later HX.out))
      have HS := hid (show lightB ks[j] = true → ∀ i, (hi : i < ks.length) → i < j + 1 → lightB ks[i] = true from fun hy i hi h => by
        rcases Nat.lt_succ_iff_lt_or_eq.1 h with h | rfl
        · exact HALL.out i hi h
        · exact hy)
      generalize ks[j] = t at *
      obtain ⟨b, hb⟩ : ∃ b, lightB t = b := ⟨_, rfl⟩
      rw [hb] at HLG HS
      clear hjx h4 hrd0 hb
      go_wp2_with fail
      refine HLG.out.mono ?_
      rintro e w1 ⟨rfl, hx1⟩
      have X1 := hid (HX.out.trans hx1)
      clear hx1 o0 o1 o2 o3 hgl
      cases b with
      | false =>
        go_wp2_with fail
        go_ret
        exact ⟨false, rfl, (fun h => Bool.noConfusion h), X1.out⟩
      | true =>
        by_cases h20 : j = 2000
        · subst h20
          go_wp2_with fail
          go_ret
          exact ⟨false, rfl, (fun h => Bool.noConfusion h), X1.out⟩
        · have h21 : ¬ (2000 : Int) < (j : Int) + 1 := by omega
          go_wp2_with fail
          go_roundw
          case rel => exact ⟨j + 1, hlt, by omega, by go_num, by go_num, HS.out (by trivial), X1.out⟩
          case measure => simp [intOf]; omega
    · have hlt3 : ¬ (j : Int) < n := by omega
      go_wp2_with fail
      go_ret
      refine ⟨true, rfl, fun _ => ⟨by have := HNE.out; omega, fun t ht => ?_⟩, HX.out⟩
      obtain ⟨i, hi, rfl⟩ := List.getElem_of_mem ht
      exact HALL.out i hi (by have := HNE.out; omega)
theorem prow2 {w : World} {g : Nat} {ty : TypeId} {K K' : Nat → Prop} {d d' : Nat} {u0 u1 u2 u3 v0 v1 v2 v3 : Value} {t t' : T} (h : w.heap[g]? = some (.cells #[u0, u1, u2, u3, v0, v1, v2, v3] ty)) (hr : Rd K w d (.agg #[u0, u1, u2, u3]) t) (hr' : Rd K' w d' (.agg #[v0, v1, v2, v3]) t') : PRow w (some ⟨g, 0, none⟩) [t, t'] := by
  refine .inr ⟨g, 0, rfl, fun j hj => ?_⟩
  match j, hj with
  | 0, _ => exact ⟨K, d, _, _, _, _, ⟨cell_of h rfl, cell_of h rfl, cell_of h rfl, cell_of h rfl⟩, hr⟩
  | 1, _ => exact ⟨K', d', _, _, _, _, ⟨cell_of h rfl, cell_of h rfl, cell_of h rfl, cell_of h rfl⟩, hr'⟩
  | n + 2, h => exact absurd h (by simp)

theorem eqUn (w : World) : (binOp .eql 33 (.iface 38 (.agg #[])) (.iface 38 (.agg #[]))).run Tryz.prog w = .ok (.bool true) w := by kernel_rfl
theorem eqNn (w : World) : (binOp .eql 33 .nilIface .nilIface).run Tryz.prog w = .ok (.bool true) w := by kernel_rfl
theorem neNn (w : World) : (binOp .neq 33 .nilIface .nilIface).run Tryz.prog w = .ok (.bool false) w := by kernel_rfl
attribute [local go_sem] eqUn eqNn neNn
theorem ansCheck (t u : T) : (¬ (t.may ∧ u.may) ∧ ansOf guardK nCheck [t, u] (guardF [t, u]) = Ans.one 1) ∨ ((t.may ∧ u.may) ∧ ¬ (t.kind = 2 ∧ u.kind = 4) ∧ ansOf guardK nCheck [t, u] (guardF [t, u]) = Ans.one 20) ∨
    (∃ b s, s.size ≤ 65535 ∧ t = trT b ∧ u = textT s ∧ ansOf guardK nCheck [t, u] (guardF [t, u]) = if b = true then .good unitT else .bad 25 s) := by
  have hv : ansOf guardK nCheck [t, u] (guardF [t, u]) = if ∀ q ∈ [t, u], q.may then (if rightB guardK[1].signs.data.toList ([t, u].map T.kind) = true then guardF [t, u] else Ans.one 20) else Ans.one 1 := by
    unfold ansOf
    rw [guardFind1]
    show (if cntOk guardK[1] 2 = false then Ans.one 11 else _) = _
    rw [if_neg (by rw [cntG1]; decide)]
  by_cases hm : t.may ∧ u.may
  · have ha : ∀ q ∈ [t, u], q.may := by intro q hq; simp only [List.mem_cons, List.not_mem_nil, or_false] at hq; rcases hq with rfl | rfl; exact hm.1; exact hm.2
    rw [if_pos ha, List.map_cons, List.map_cons, List.map_nil, rightG1 _ _ (kind_five hm.1) (kind_five hm.2)] at hv
    by_cases hk : t.kind = 2 ∧ u.kind = 4
    · obtain ⟨b, rfl⟩ := truth_of hm.1 hk.1
      obtain ⟨s, hs, rfl⟩ := text_of hm.2 hk.2
      refine .inr (.inr ⟨b, s, hs, rfl, rfl, ?_⟩)
      rw [hv, if_pos (by rw [decide_eq_true hk.1, decide_eq_true hk.2]; rfl)]
      cases b <;> rfl
    · refine .inr (.inl ⟨hm, hk, ?_⟩)
      rw [hv, if_neg]
      rw [Bool.and_eq_true, decide_eq_true_eq, decide_eq_true_eq]
      exact hk
  · refine .inl ⟨hm, ?_⟩
    rw [hv, if_neg (fun h => hm ⟨h t (by simp), h u (by simp)⟩)]
theorem ansRaise (u : T) : (¬ u.may ∧ ansOf guardK nRaise [u] (guardF [u]) = Ans.one 1) ∨ (u.may ∧ u.kind ≠ 4 ∧ ansOf guardK nRaise [u] (guardF [u]) = Ans.one 20) ∨ (u.may ∧ u.kind = 4 ∧ ansOf guardK nRaise [u] (guardF [u]) = .bad 25 u.text) := by
  have hv : ansOf guardK nRaise [u] (guardF [u]) = if ∀ q ∈ [u], q.may then (if rightB guardK[0].signs.data.toList ([u].map T.kind) = true then guardF [u] else Ans.one 20) else Ans.one 1 := by
    unfold ansOf
    rw [guardFind0]
    show (if cntOk guardK[0] 1 = false then Ans.one 11 else _) = _
    rw [if_neg (by rw [cntG0]; decide)]
  by_cases hm : u.may
  · have ha : ∀ q ∈ [u], q.may := by intro q hq; simp only [List.mem_cons, List.not_mem_nil, or_false] at hq; subst hq; exact hm
    rw [if_pos ha, List.map_cons, List.map_nil, rightG0 _ (kind_five hm)] at hv
    by_cases hk : u.kind = 4
    · refine .inr (.inr ⟨hm, hk, ?_⟩)
      rw [hv, if_pos (decide_eq_true hk)]
      obtain ⟨k, n, x, ks⟩ := u
      rfl
    · refine .inr (.inl ⟨hm, hk, ?_⟩)
      rw [hv, if_neg (by simpa using hk)]
  · refine .inl ⟨hm, ?_⟩
    rw [hv, if_neg (fun h => hm (h u (by simp)))]
theorem prow1R {w : World} {g : Nat} {ty : TypeId} {K : Nat → Prop} {d : Nat} {u0 u1 u2 u3 : Value} {t : T} (h : w.heap[g]? = some (.cells #[u0, u1, u2, u3] ty)) (hr : Rd K w d (.agg #[u0, u1, u2, u3]) t) : PRow w (some ⟨g, 0, none⟩) [t] := by
  refine .inr ⟨g, 0, rfl, fun j hj => ?_⟩
  match j, hj with
  | 0, _ => exact ⟨K, d, _, _, _, _, ⟨cell_of h rfl, cell_of h rfl, cell_of h rfl, cell_of h rfl⟩, hr⟩
  | n + 1, h => exact absurd h (by simp)
theorem VRd.un {K : Nat → Prop} {w : World} {d : Nat} {v : Value} (h : VRd K w d v unitT) : v = .iface 38 (.agg #[]) := by
  cases d with
  | zero => exact h.elim
  | succ d =>
    rcases h with ⟨_, _, _, _, h⟩ | ⟨h, _⟩ | ⟨h, _⟩ | ⟨h, _⟩ | ⟨h, _⟩
    · exact h
    · exact absurd h (by decide)
    · exact absurd h (by decide)
    · exact absurd h (by decide)
    · exact absurd h (by decide)
/-- What check answers. -/
theorem gwCheck (t u : T) : ∃ V, (V = refX 1 ⟨#[]⟩ ∨ (V = refX 20 ⟨#[]⟩ ∧ u.may ∧ ¬ (t.kind = 2 ∧ u.kind = 4)) ∨ (V = unitV ∧ t.kind = 2 ∧ t.num = 1 ∧ u.kind = 4 ∧ u.may) ∨ (V = refX 25 u.text ∧ t.kind = 2 ∧ t.num = 0 ∧ u.kind = 4 ∧ u.may)) ∧
    ∀ (w : World) (a : Option Addr) (c : Nat), MaxAt w → PRow w a [t, u] → Calls Tryz.prog 8 #[.string nCheck, .slice a 2 c] w fun e w' => e = .returned V ∧ Ext w w' := by
  rcases ansCheck t u with ⟨_, h⟩ | ⟨h1, h2, h⟩ | ⟨b, s, hs, h1, h2, h⟩
  · refine ⟨_, .inl rfl, fun w a c hm hp => ?_⟩
    have h3 := guardWork_any nCheck [t, u] (by simp) a c w hm hp
    rw [h] at h3
    exact h3.mono fun e w' ⟨V, he, hv, hx⟩ => ⟨by rw [he, hv.2], hx⟩
  · refine ⟨_, .inr (.inl ⟨rfl, h1.2, h2⟩), fun w a c hm hp => ?_⟩
    have h3 := guardWork_any nCheck [t, u] (by simp) a c w hm hp
    rw [h] at h3
    exact h3.mono fun e w' ⟨V, he, hv, hx⟩ => ⟨by rw [he, hv.2], hx⟩
  · subst h1 h2
    cases b with
    | true =>
      refine ⟨_, .inr (.inr (.inl ⟨rfl, rfl, rfl, rfl, textT_may hs⟩)), fun w a c hm hp => ?_⟩
      have h3 := guardWork_any nCheck [trT true, textT s] (by simp) a c w hm hp
      rw [h] at h3
      exact h3.mono fun e w' ⟨V, he, ⟨_, K, d, v, hv, hr⟩, hx⟩ => ⟨by rw [he, hv, VRd.un hr]; rfl, hx⟩
    | false =>
      refine ⟨_, .inr (.inr (.inr ⟨rfl, rfl, rfl, rfl, textT_may hs⟩)), fun w a c hm hp => ?_⟩
      have h3 := guardWork_any nCheck [trT false, textT s] (by simp) a c w hm hp
      rw [h] at h3
      exact h3.mono fun e w' ⟨V, he, hv, hx⟩ => ⟨by rw [he, hv.2]; rfl, hx⟩
/-- What raise answers. -/
theorem gwRaise (u : T) : ∃ V, (V = refX 1 ⟨#[]⟩ ∧ ¬ u.may ∨ (V = refX 20 ⟨#[]⟩ ∧ ¬ u.kind = 4) ∨ (V = refX 25 u.text ∧ u.kind = 4)) ∧
    ∀ (w : World) (a : Option Addr) (c : Nat), MaxAt w → PRow w a [u] → Calls Tryz.prog 8 #[.string nRaise, .slice a 1 c] w fun e w' => e = .returned V ∧ Ext w w' := by
  rcases ansRaise u with ⟨h1, h⟩ | ⟨_, h1, h⟩ | ⟨_, h1, h⟩
  · refine ⟨_, .inl ⟨rfl, h1⟩, fun w a c hm hp => ?_⟩
    have h3 := guardWork_any nRaise [u] (by simp) a c w hm hp
    rw [h] at h3
    exact h3.mono fun e w' ⟨V, he, hv, hx⟩ => ⟨by rw [he, hv.2], hx⟩
  · refine ⟨_, .inr (.inl ⟨rfl, h1⟩), fun w a c hm hp => ?_⟩
    have h3 := guardWork_any nRaise [u] (by simp) a c w hm hp
    rw [h] at h3
    exact h3.mono fun e w' ⟨V, he, hv, hx⟩ => ⟨by rw [he, hv.2], hx⟩
  · refine ⟨_, .inr (.inr ⟨rfl, h1⟩), fun w a c hm hp => ?_⟩
    have h3 := guardWork_any nRaise [u] (by simp) a c w hm hp
    rw [h] at h3
    exact h3.mono fun e w' ⟨V, he, hv, hx⟩ => ⟨by rw [he, hv.2], hx⟩
theorem rd_parts {K : Nat → Prop} {w : World} {d : Nat} {k n : Int} {x : ByteArray} {sv : Value} {t : T} (h : Rd K w d (.agg #[.int .i64 k, .int .i64 n, .string x, sv]) t) : t.kind = k ∧ t.num = n ∧ t.text = x := by
  cases d with
  | zero => exact h.elim
  | succ d =>
    obtain ⟨k', n', x', ks⟩ := t
    obtain ⟨a, c, e, _⟩ := h
    simp only [Value.agg.injEq, Array.mk.injEq, List.cons.injEq, Value.int.injEq, Value.string.injEq, true_and] at e
    exact ⟨e.1.symm, e.2.1.symm, e.2.2.1.symm⟩
set_option maxRecDepth 100000 in
set_option maxHeartbeats 8000000 in
theorem checksG_true {K K' : Nat → Prop} {d d' : Nat} (w : World) (hl : Laid w) (hm : MaxAt w) (k n : Int) (x : ByteArray) (a : Option Addr) (l c : Nat) (k' n' : Int) (x' : ByteArray) (a' : Option Addr) (l' c' : Nat) (t t' : T)
    (hr : Rd K w d (.agg #[.int .i64 k, .int .i64 n, .string x, .slice a l c]) t) (hr' : Rd K' w d' (.agg #[.int .i64 k', .int .i64 n', .string x', .slice a' l' c']) t') :
    Calls Tryz.prog 4 #[.agg #[.int .i64 k, .int .i64 n, .string x, .slice a l c], .agg #[.int .i64 k', .int .i64 n', .string x', .slice a' l' c']] w fun e w' => e = .returned (.bool true) ∧ Ext w w' := by
  have HR := hid hr
  have HR' := hid hr'
  have HM := hid hm
  have HP := hid (rd_parts hr)
  have HP' := hid (rd_parts hr')
  have HBE := hid (fun w1 (hx : Ext w w1) => begunG_any w1 (hl.later hx) (hm.later hx))
  clear hr hr' hl hm
  obtain ⟨M, hM⟩ : ∃ M, (w.alloc (.cells #[.int .i64 k, .int .i64 n, .string x, .slice a l c] 30)).alloc (.cells #[.int .i64 k', .int .i64 n', .string x', .slice a' l' c'] 30) = M := ⟨_, rfl⟩
  have XM := hid (show Ext w M from hM ▸ Ext.alloc2 _ _ _)
  have HM0 := hid (show M.heap[w.heap.size]? = some (.cells #[.int .i64 k, .int .i64 n, .string x, .slice a l c] 30) from hM ▸ blkOld _ (blk0 w _))
  have HM1 := hid (show M.heap[w.heap.size + 1]? = some (.cells #[.int .i64 k', .int .i64 n', .string x', .slice a' l' c'] 30) from hM ▸ blk1 w _ _)
  go_enter Tryz.func4, Tryz.ntmps4
  go_wp2_with fail
  first | rw [hM] | skip
  clear hM
  refine (HBE.out _ XM.out).mono ?_
  rintro e w1 ⟨rfl, hx1⟩
  have X1 := hid hx1
  obtain ⟨p0, p1, p2, p3⟩ := four_of (hx1.block HM0.out)
  obtain ⟨s0, s1, s2, s3⟩ := four_of (hx1.block HM1.out)
  have hw0 := lt_of_cell p0
  have hw1 := lt_of_cell s0
  clear hx1
  go_wp2_with fail
  refine (lightsP_any (c := 2) (ks := [t, t']) _ (prow2 (blk0 w1 _) (HR.out.later (XM.out.trans (X1.out.trans (Ext.alloc _ _)))) (HR'.out.later (XM.out.trans (X1.out.trans (Ext.alloc _ _))))) (by simp)).mono ?_
  rintro e w2 ⟨bl, rfl, _, hx2⟩
  have X2 := hid (X1.out.trans ((Ext.alloc _ _).trans hx2))
  clear p0 p1 p2 p3 s0 s1 s2 s3 hw0 hw1
  obtain ⟨p0, p1, p2, p3⟩ := four_of (X2.out.block HM0.out)
  obtain ⟨s0, s1, s2, s3⟩ := four_of (X2.out.block HM1.out)
  have hw0 := lt_of_cell p0
  have hw1 := lt_of_cell s0
  clear hx2
  cases bl with
  | false =>
    go_wp2_with fail
    go_ret
    exact ⟨rfl, XM.out.trans X2.out⟩
  | true =>
  obtain ⟨V1, hc1, hw1'⟩ := gwCheck t t'
  obtain ⟨V2, hc2, hw2'⟩ := gwRaise t'
  have HPW := hid (hw1' (w2.alloc (.cells #[.int .i64 k, .int .i64 n, .string x, .slice a l c, .int .i64 k', .int .i64 n', .string x', .slice a' l' c'] 30)) (some ⟨w2.heap.size, 0, none⟩) 2 (HM.out.later (XM.out.trans (X2.out.trans (Ext.alloc _ _)))) (prow2 (blk0 w2 _) (HR.out.later (XM.out.trans (X2.out.trans (Ext.alloc _ _)))) (HR'.out.later (XM.out.trans (X2.out.trans (Ext.alloc _ _))))))
  have HPR := hid (fun (W : World) (X : Ext M W) => hw2' (W.alloc (.cells #[.int .i64 k', .int .i64 n', .string x', .slice a' l' c'] 30)) (some ⟨W.heap.size, 0, none⟩) 1 (HM.out.later (XM.out.trans (X.trans (Ext.alloc _ _)))) (prow1R (blk0 W _) (HR'.out.later (XM.out.trans (X.trans (Ext.alloc _ _))))))
  rw [HP.out.1, HP.out.2.1, HP'.out.1, HP'.out.2.2] at hc1
  rw [HP'.out.1, HP'.out.2.2] at hc2
  unfold nCheck at HPW
  unfold nRaise at HPR
  clear hw1' hw2' HR HR' HM HP HP' HBE
  have hxx : (x'.toList == x'.toList) = true := beq_self_eq_true _
  rcases hc1 with rfl | ⟨rfl, hmay, hk⟩ | ⟨rfl, rfl, rfl, rfl, hmay⟩ | ⟨rfl, rfl, rfl, rfl, hmay⟩
  · rcases hc2 with ⟨rfl, _⟩ | ⟨rfl, hk4⟩ | ⟨rfl, hk4⟩
    · skip
      obtain ⟨kb, hkb⟩ : ∃ kb, (k' == 4) = kb := ⟨_, rfl⟩
      unfold refX at HPW
      go_wp2_with fail
      refine HPW.out.mono ?_
      rintro e w3 ⟨rfl, hx3⟩
      have X3 := hid (X2.out.trans ((Ext.alloc _ _).trans hx3))
      clear p0 p1 p2 p3 s0 s1 s2 s3 hw0 hw1
      obtain ⟨p0, p1, p2, p3⟩ := four_of (X3.out.block HM0.out)
      obtain ⟨s0, s1, s2, s3⟩ := four_of (X3.out.block HM1.out)
      have hw0 := lt_of_cell p0
      have hw1 := lt_of_cell s0
      clear hx3
      unfold refX at HPR
      go_wp2_with fail
      refine (HPR.out _ X3.out).mono ?_
      rintro e w4 ⟨rfl, hx4⟩
      have X4 := hid (X3.out.trans ((Ext.alloc _ _).trans hx4))
      clear p0 p1 p2 p3 s0 s1 s2 s3 hw0 hw1
      obtain ⟨p0, p1, p2, p3⟩ := four_of (X4.out.block HM0.out)
      obtain ⟨s0, s1, s2, s3⟩ := four_of (X4.out.block HM1.out)
      have hw0 := lt_of_cell p0
      have hw1 := lt_of_cell s0
      clear hx4
      go_wp2_with fail
      go_ret
      exact ⟨rfl, XM.out.trans X4.out⟩
    · skip
      obtain ⟨kb, hkb⟩ : ∃ kb, (k' == 4) = kb := ⟨_, rfl⟩
      clear hk4
      unfold refX at HPW
      go_wp2_with fail
      refine HPW.out.mono ?_
      rintro e w3 ⟨rfl, hx3⟩
      have X3 := hid (X2.out.trans ((Ext.alloc _ _).trans hx3))
      clear p0 p1 p2 p3 s0 s1 s2 s3 hw0 hw1
      obtain ⟨p0, p1, p2, p3⟩ := four_of (X3.out.block HM0.out)
      obtain ⟨s0, s1, s2, s3⟩ := four_of (X3.out.block HM1.out)
      have hw0 := lt_of_cell p0
      have hw1 := lt_of_cell s0
      clear hx3
      unfold refX at HPR
      go_wp2_with fail
      refine (HPR.out _ X3.out).mono ?_
      rintro e w4 ⟨rfl, hx4⟩
      have X4 := hid (X3.out.trans ((Ext.alloc _ _).trans hx4))
      clear p0 p1 p2 p3 s0 s1 s2 s3 hw0 hw1
      obtain ⟨p0, p1, p2, p3⟩ := four_of (X4.out.block HM0.out)
      obtain ⟨s0, s1, s2, s3⟩ := four_of (X4.out.block HM1.out)
      have hw0 := lt_of_cell p0
      have hw1 := lt_of_cell s0
      clear hx4
      go_wp2_with fail
      go_ret
      exact ⟨rfl, XM.out.trans X4.out⟩
    · skip
      obtain ⟨kb, hkb⟩ : ∃ kb, (k' == 4) = kb := ⟨_, rfl⟩
      clear hk4
      unfold refX at HPW
      go_wp2_with fail
      refine HPW.out.mono ?_
      rintro e w3 ⟨rfl, hx3⟩
      have X3 := hid (X2.out.trans ((Ext.alloc _ _).trans hx3))
      clear p0 p1 p2 p3 s0 s1 s2 s3 hw0 hw1
      obtain ⟨p0, p1, p2, p3⟩ := four_of (X3.out.block HM0.out)
      obtain ⟨s0, s1, s2, s3⟩ := four_of (X3.out.block HM1.out)
      have hw0 := lt_of_cell p0
      have hw1 := lt_of_cell s0
      clear hx3
      unfold refX at HPR
      go_wp2_with fail
      refine (HPR.out _ X3.out).mono ?_
      rintro e w4 ⟨rfl, hx4⟩
      have X4 := hid (X3.out.trans ((Ext.alloc _ _).trans hx4))
      clear p0 p1 p2 p3 s0 s1 s2 s3 hw0 hw1
      obtain ⟨p0, p1, p2, p3⟩ := four_of (X4.out.block HM0.out)
      obtain ⟨s0, s1, s2, s3⟩ := four_of (X4.out.block HM1.out)
      have hw0 := lt_of_cell p0
      have hw1 := lt_of_cell s0
      clear hx4
      go_wp2_with fail
      go_ret
      exact ⟨rfl, XM.out.trans X4.out⟩
  · rcases hc2 with ⟨rfl, hno⟩ | ⟨rfl, hk4⟩ | ⟨rfl, hk4⟩
    · exact absurd hmay hno
    · have q1 : (k' == 4) = false := by rw [beq_eq_false_iff_ne]; exact hk4
      obtain ⟨kb, hkb⟩ : ∃ kb, (k == 2) = kb := ⟨_, rfl⟩
      have hkb' : (k != 2) = !kb := by unfold bne; rw [hkb]
      clear hk hk4 hmay
      unfold refX at HPW
      go_wp2_with fail
      refine HPW.out.mono ?_
      rintro e w3 ⟨rfl, hx3⟩
      have X3 := hid (X2.out.trans ((Ext.alloc _ _).trans hx3))
      clear p0 p1 p2 p3 s0 s1 s2 s3 hw0 hw1
      obtain ⟨p0, p1, p2, p3⟩ := four_of (X3.out.block HM0.out)
      obtain ⟨s0, s1, s2, s3⟩ := four_of (X3.out.block HM1.out)
      have hw0 := lt_of_cell p0
      have hw1 := lt_of_cell s0
      clear hx3
      unfold refX at HPR
      go_wp2_with fail
      refine (HPR.out _ X3.out).mono ?_
      rintro e w4 ⟨rfl, hx4⟩
      have X4 := hid (X3.out.trans ((Ext.alloc _ _).trans hx4))
      clear p0 p1 p2 p3 s0 s1 s2 s3 hw0 hw1
      obtain ⟨p0, p1, p2, p3⟩ := four_of (X4.out.block HM0.out)
      obtain ⟨s0, s1, s2, s3⟩ := four_of (X4.out.block HM1.out)
      have hw0 := lt_of_cell p0
      have hw1 := lt_of_cell s0
      clear hx4
      cases kb
      · go_wp2_with fail
        go_ret
        exact ⟨rfl, XM.out.trans X4.out⟩
      · go_wp2_with fail
        go_ret
        exact ⟨rfl, XM.out.trans X4.out⟩
    · have q1 : (k' == 4) = true := by rw [beq_iff_eq]; exact hk4
      have q2 : (k == 2) = false := by rw [beq_eq_false_iff_ne]; exact fun h => hk ⟨h, hk4⟩
      have q3 : (k != 2) = true := by unfold bne; rw [q2]; rfl
      clear hk hk4 hmay
      unfold refX at HPW
      go_wp2_with fail
      refine HPW.out.mono ?_
      rintro e w3 ⟨rfl, hx3⟩
      have X3 := hid (X2.out.trans ((Ext.alloc _ _).trans hx3))
      clear p0 p1 p2 p3 s0 s1 s2 s3 hw0 hw1
      obtain ⟨p0, p1, p2, p3⟩ := four_of (X3.out.block HM0.out)
      obtain ⟨s0, s1, s2, s3⟩ := four_of (X3.out.block HM1.out)
      have hw0 := lt_of_cell p0
      have hw1 := lt_of_cell s0
      clear hx3
      unfold refX at HPR
      go_wp2_with fail
      refine (HPR.out _ X3.out).mono ?_
      rintro e w4 ⟨rfl, hx4⟩
      have X4 := hid (X3.out.trans ((Ext.alloc _ _).trans hx4))
      clear p0 p1 p2 p3 s0 s1 s2 s3 hw0 hw1
      obtain ⟨p0, p1, p2, p3⟩ := four_of (X4.out.block HM0.out)
      obtain ⟨s0, s1, s2, s3⟩ := four_of (X4.out.block HM1.out)
      have hw0 := lt_of_cell p0
      have hw1 := lt_of_cell s0
      clear hx4
      go_wp2_with fail
      go_ret
      exact ⟨rfl, XM.out.trans X4.out⟩
  · rcases hc2 with ⟨rfl, hno⟩ | ⟨rfl, hk4⟩ | ⟨rfl, hk4⟩
    · exact absurd hmay hno
    · exact absurd rfl hk4
    · clear hk4 hmay
      unfold unitV at HPW
      go_wp2_with fail
      refine HPW.out.mono ?_
      rintro e w3 ⟨rfl, hx3⟩
      have X3 := hid (X2.out.trans ((Ext.alloc _ _).trans hx3))
      clear p0 p1 p2 p3 s0 s1 s2 s3 hw0 hw1
      obtain ⟨p0, p1, p2, p3⟩ := four_of (X3.out.block HM0.out)
      obtain ⟨s0, s1, s2, s3⟩ := four_of (X3.out.block HM1.out)
      have hw0 := lt_of_cell p0
      have hw1 := lt_of_cell s0
      clear hx3
      unfold refX at HPR
      go_wp2_with fail
      refine (HPR.out _ X3.out).mono ?_
      rintro e w4 ⟨rfl, hx4⟩
      have X4 := hid (X3.out.trans ((Ext.alloc _ _).trans hx4))
      clear p0 p1 p2 p3 s0 s1 s2 s3 hw0 hw1
      obtain ⟨p0, p1, p2, p3⟩ := four_of (X4.out.block HM0.out)
      obtain ⟨s0, s1, s2, s3⟩ := four_of (X4.out.block HM1.out)
      have hw0 := lt_of_cell p0
      have hw1 := lt_of_cell s0
      clear hx4
      go_wp2_with fail
      go_ret
      exact ⟨rfl, XM.out.trans X4.out⟩
  · rcases hc2 with ⟨rfl, hno⟩ | ⟨rfl, hk4⟩ | ⟨rfl, hk4⟩
    · exact absurd hmay hno
    · exact absurd rfl hk4
    · clear hk4 hmay
      unfold refX at HPW
      go_wp2_with fail
      refine HPW.out.mono ?_
      rintro e w3 ⟨rfl, hx3⟩
      have X3 := hid (X2.out.trans ((Ext.alloc _ _).trans hx3))
      clear p0 p1 p2 p3 s0 s1 s2 s3 hw0 hw1
      obtain ⟨p0, p1, p2, p3⟩ := four_of (X3.out.block HM0.out)
      obtain ⟨s0, s1, s2, s3⟩ := four_of (X3.out.block HM1.out)
      have hw0 := lt_of_cell p0
      have hw1 := lt_of_cell s0
      clear hx3
      unfold refX at HPR
      go_wp2_with fail
      refine (HPR.out _ X3.out).mono ?_
      rintro e w4 ⟨rfl, hx4⟩
      have X4 := hid (X3.out.trans ((Ext.alloc _ _).trans hx4))
      clear p0 p1 p2 p3 s0 s1 s2 s3 hw0 hw1
      obtain ⟨p0, p1, p2, p3⟩ := four_of (X4.out.block HM0.out)
      obtain ⟨s0, s1, s2, s3⟩ := four_of (X4.out.block HM1.out)
      have hw0 := lt_of_cell p0
      have hw1 := lt_of_cell s0
      clear hx4
      go_wp2_with fail
      go_ret
      exact ⟨rfl, XM.out.trans X4.out⟩

end Go.Proofs.YtnmcmjgfnncdmabGreatDoor.Nd
