/-
  words.Work and the document's Work on any operation and any plain values: the same answer.
-/
import Derived.Test.YtecabbifkcnbeaaGreatDoorWord
import Derived.Test.YtecabbifkcnbeaaGreatDoorCFar
import Derived.Test.YtecabbifkcnbeaaGreatDoorWWork
import Derived.Test.YtecabbifkcnbeaaGreatDoorVal
namespace Go.Proofs.YtecabbifkcnbeaaGreatDoor
open Go.RowKit
/-- One answer of both. -/
def BothW (op : ByteArray) (ts : List T) : Prop := ∃ V, NRes V ∧ (∀ w a c, WAt w → PRow w a ts → Calls Tryz.prog 8 #[.string op, .slice a ts.length c] w fun e w' => e = .returned V ∧ Ext w w') ∧
  ∀ K d w a c, RdL K w d a ts → Calls Tryz.prog 9 #[.string op, .slice a ts.length c] w (RefR w V)
theorem kindW_five {t : T} (h : t.may) : t.kind = 1 ∨ t.kind = 2 ∨ t.kind = 3 ∨ t.kind = 4 ∨ t.kind = 5 := by
  have := T.wf_of t h.1
  obtain ⟨k, n, x, ks⟩ := t
  have : T.wfP k n x.size ks.length := this
  unfold T.wfP at this
  show k = 1 ∨ k = 2 ∨ k = 3 ∨ k = 4 ∨ k = 5
  omega
theorem intW_of {t : T} (h : t.may) (h3 : t.kind = 3) : t = intT t.num := by
  have := T.wf_of t h.1
  obtain ⟨k, n, x, ks⟩ := t
  obtain rfl : k = 3 := h3
  have : T.wfP 3 n x.size ks.length := this
  unfold T.wfP at this
  have hx : x.size = 0 ∧ ks.length = 0 := by omega
  obtain rfl := List.eq_nil_of_length_eq_zero hx.2
  obtain rfl := arr_nil hx.1
  rfl
theorem textW_of {t : T} (h : t.may) (h4 : t.kind = 4) : ∃ s : ByteArray, s.size ≤ 65535 ∧ t = textT s := by
  have hw := T.wf_of t h.1
  have hz := h.2.1
  obtain ⟨k, n, x, ks⟩ := t
  obtain rfl : k = 4 := h4
  have hw : T.wfP 4 n x.size ks.length := hw
  unfold T.wfP at hw
  have hx : n = 0 ∧ ks.length = 0 := by omega
  obtain rfl := List.eq_nil_of_length_eq_zero hx.2
  obtain rfl := hx.1
  have hz : (T.node 4 0 x []).size ≤ 65536 := hz
  simp only [T.size, T.sizeL] at hz
  exact ⟨x, by omega, rfl⟩
theorem fitW_int {n : Int} (h : (intT n).fitN) : inR n := by
  have : (T.node 3 n ⟨#[]⟩ []).fitN := h
  simp only [T.fitN] at this
  exact this.1 trivial
set_option maxRecDepth 100000 in
theorem bothW_off (op : ByteArray) (ts : List T) (V : Int) (hlen : ts.length ≤ 140737488351232) (hz : (V == 0) = false) (hask : askI wordsR op ts = V) (hc : ∀ k f, kdFind wordsK op = some k → k.does = some f → cntOk k ts.length = false) (hv : workV wordsK op ts (refV 1) = refV V) : BothW op ts := by
  refine ⟨refV V, NRes.ref hz, fun w a c hm hp => ?_, fun K d w a c h => rWr_bad op a c ts w h V hask hz⟩
  refine workW_of _ a ts.length c w _ ⟨_, _, _, rfl⟩ fun w1 tb hx1 ht => ?_
  have := work_far wordsK tb op a c ts (refV 1) w1 (by rw [wordsLen]; decide) ht hlen hc
  rw [hv] at this
  exact this
theorem rightW_join : ∀ k0 k1 : Int, (k0 = 1 ∨ k0 = 2 ∨ k0 = 3 ∨ k0 = 4 ∨ k0 = 5) → (k1 = 1 ∨ k1 = 2 ∨ k1 = 3 ∨ k1 = 4 ∨ k1 = 5) → rightB wordsK[0].signs.data.toList [k0, k1] = decide (k0 = 4 ∧ k1 = 4) := by
  rintro k0 k1 (rfl | rfl | rfl | rfl | rfl) (rfl | rfl | rfl | rfl | rfl) <;> kernel_rfl
theorem waskf_join : wordsR.find? (strictR ⟨#[119, 111, 114, 100, 115, 46, 106, 111, 105, 110]⟩) = some wordsR[0] := by kernel_rfl
theorem wcnt_join (n : Nat) : cntOk wordsK[0] n = decide (n = 2) := by
  unfold cntOk
  show (decide (((2 : Int)) ≤ n) && (decide (((2 : Int)) < 0) || decide ((n : Int) ≤ 2))) = _
  rw [Bool.eq_iff_iff]
  simp only [Bool.and_eq_true, Bool.or_eq_true, decide_eq_true_eq]
  omega
theorem wask_join (ts : List T) : askI wordsR ⟨#[119, 111, 114, 100, 115, 46, 106, 111, 105, 110]⟩ ts = if ts.length = 2 then (if ∀ t ∈ ts, t.may then 0 else 1) else 11 := by
  unfold askI
  rw [waskf_join]
  show (if (ts.length : Int) < 2 ∨ (2 : Int) < (ts.length : Int) then (11 : Int) else if ∀ t ∈ ts, t.may then 0 else 1) = _
  by_cases h : ts.length = 2
  · rw [if_neg (by omega), if_pos h]
  · rw [if_pos (by omega), if_neg h]
theorem workT_join {K : Nat → Prop} {d : Nat} (a : Option Addr) (c : Nat) (s : ByteArray) (t : ByteArray) (hs : s.size ≤ 65535) (ht : t.size ≤ 65535) (w : World) (h : RdL K w d a [textT s, textT t]) : WorkT (joinV s t) ⟨#[119, 111, 114, 100, 115, 46, 106, 111, 105, 110]⟩ a 2 c w := by
  have H := fun w1 (hx : Ext w w1) => rwk10_join a c s t hs ht w1 (h.keep (hx.kp K))
  unfold joinV
  by_cases hc : s.size + t.size ≤ 65535
  · simp only [if_pos hc] at H ⊢
    exact WorkT.of (RefT.wrote (by rw [ByteArray.size_append]; omega)) H
  · simp only [if_neg hc] at H ⊢
    exact WorkT.of (RefT.ref (c := 2) rfl) H
set_option maxRecDepth 100000 in
theorem bothW_join (ts : List T) (hlen : ts.length ≤ 140737488351232) (hfit : ∀ t ∈ ts, t.fitN) : BothW ⟨#[119, 111, 114, 100, 115, 46, 106, 111, 105, 110]⟩ ts := by
  by_cases hl : ts.length = 2
  case neg =>
    have hc : cntOk wordsK[0] ts.length = false := by rw [wcnt_join]; exact decide_eq_false hl
    refine bothW_off _ ts 11 hlen (by decide) (by rw [wask_join, if_neg hl]) (fun k f h1 _ => by
      rw [wfind_join] at h1
      obtain rfl := Option.some.inj h1
      exact hc) ?_
    unfold workV
    rw [wfind_join]
    show (if cntOk wordsK[0] ts.length = false then refV 11 else _) = _
    rw [if_pos hc]
  have hct : cntOk wordsK[0] ts.length = true := by rw [wcnt_join]; exact decide_eq_true hl
  have hent : ∀ k f, kdFind wordsK ⟨#[119, 111, 114, 100, 115, 46, 106, 111, 105, 110]⟩ = some k → k.does = some f → Enters f := fun k f h1 h2 => by
    rw [wfind_join] at h1
    obtain rfl := Option.some.inj h1
    obtain rfl : 44 = f := Option.some.inj h2
    exact went_join
  have hwv : ∀ R, workV wordsK ⟨#[119, 111, 114, 100, 115, 46, 106, 111, 105, 110]⟩ ts R = if ∀ t ∈ ts, t.may then (if rightB wordsK[0].signs.data.toList (ts.map T.kind) = true then R else refV 20) else refV 1 := fun R => by
    unfold workV
    rw [wfind_join]
    show (if cntOk wordsK[0] ts.length = false then refV 11 else _) = _
    rw [if_neg (by rw [hct]; decide)]
  by_cases hmay : ∀ t ∈ ts, t.may
  case neg =>
    refine ⟨refV 1, NRes.ref (by decide), fun w a c hm hp => ?_, fun K d w a c h => rWr_bad _ a c ts w h 1 (by rw [wask_join, if_pos hl, if_neg hmay]) (by decide)⟩
    refine workW_of _ a ts.length c w _ ⟨_, _, _, rfl⟩ fun w1 tb hx1 ht => ?_
    have := work_any wordsK tb ⟨#[119, 111, 114, 100, 115, 46, 106, 111, 105, 110]⟩ a c ts (refV 1) w1 (by rw [wordsLen]; decide) ht (hm.1.later hx1) (hp.later hx1) (by omega) wordsJ (fun k f _ _ _ h3 _ => absurd h3 hmay) hent
    rw [hwv, if_neg hmay] at this
    exact this
  have hV0 : askI wordsR ⟨#[119, 111, 114, 100, 115, 46, 106, 111, 105, 110]⟩ ts = 0 := by rw [wask_join, if_pos hl, if_pos hmay]
  match ts, hl, hmay, hfit, hwv, hV0 with
  | [t0, t1], hl, hmay, hfit, hwv, hV0 =>
    have m0 := hmay t0 List.mem_cons_self
    have f0 := hfit t0 List.mem_cons_self
    have m1 := hmay t1 (List.mem_cons_of_mem _ List.mem_cons_self)
    have f1 := hfit t1 (List.mem_cons_of_mem _ List.mem_cons_self)
    have hrt : rightB wordsK[0].signs.data.toList (([t0, t1]).map T.kind) = decide (t0.kind = 4 ∧ t1.kind = 4) := rightW_join _ _ (kindW_five m0) (kindW_five m1)
    by_cases hr : t0.kind = 4 ∧ t1.kind = 4
    case neg =>
      have hrf : rightB wordsK[0].signs.data.toList (([t0, t1]).map T.kind) = false := hrt.trans (decide_eq_false hr)
      refine ⟨refV 20, NRes.ref (by decide), fun w a c hm hp => ?_, fun K d w a c h => rWr_kind _ a c [t0, t1] w h hV0 (fun w1 hx => rsorts_join a c [t0, t1] false w1 (h.keep (hx.kp K)) rfl (fun hh => absurd (⟨hh 0 (Nat.le_of_ble_eq_true rfl) (Nat.le_of_ble_eq_true rfl), hh 1 (Nat.le_of_ble_eq_true rfl) (Nat.le_of_ble_eq_true rfl)⟩) hr) (fun _ _ _ _ => rfl))⟩
      refine workW_of _ a 2 c w _ ⟨_, _, _, rfl⟩ fun w1 tb hx1 ht => ?_
      have := work_any wordsK tb ⟨#[119, 111, 114, 100, 115, 46, 106, 111, 105, 110]⟩ a c [t0, t1] (refV 20) w1 (by rw [wordsLen]; decide) ht (hm.1.later hx1) (hp.later hx1) (Nat.le_of_ble_eq_true rfl) wordsJ (fun k f h1 _ _ _ h3 => by
        rw [wfind_join] at h1
        obtain rfl := Option.some.inj h1
        rw [hrf] at h3
        cases h3) hent
      rw [hwv, if_pos hmay, if_neg (by rw [hrf]; decide)] at this
      exact this
    obtain ⟨e0, e1⟩ := hr
    obtain ⟨s, hs, rfl⟩ := textW_of m0 e0
    obtain ⟨t, ht, rfl⟩ := textW_of m1 e1
    exact ⟨joinV s t, nr_join s t, fun w a c hm hp => ww_join s t hs ht a c w hm hp, fun K d w a c h => rWr_ok ⟨#[119, 111, 114, 100, 115, 46, 106, 111, 105, 110]⟩ a c [textT s, textT t] w (joinV s t) h hV0 (fun w1 hx => rsorts_join a c [textT s, textT t] true w1 (h.keep (hx.kp K)) rfl (fun _ => rfl) (fun j hj _ hne => by
      match j, hj with
      | 0, _ => exact absurd rfl hne
      | 1, _ => exact absurd rfl hne
      | n + 2, h => exact absurd h (by simp))) (workT_join a c s t hs ht w h)⟩
theorem rightW_size : ∀ k0 : Int, (k0 = 1 ∨ k0 = 2 ∨ k0 = 3 ∨ k0 = 4 ∨ k0 = 5) → rightB wordsK[1].signs.data.toList [k0] = decide (k0 = 4) := by
  rintro k0 (rfl | rfl | rfl | rfl | rfl) <;> kernel_rfl
theorem waskf_size : wordsR.find? (strictR ⟨#[119, 111, 114, 100, 115, 46, 115, 105, 122, 101]⟩) = some wordsR[1] := by kernel_rfl
theorem wcnt_size (n : Nat) : cntOk wordsK[1] n = decide (n = 1) := by
  unfold cntOk
  show (decide (((1 : Int)) ≤ n) && (decide (((1 : Int)) < 0) || decide ((n : Int) ≤ 1))) = _
  rw [Bool.eq_iff_iff]
  simp only [Bool.and_eq_true, Bool.or_eq_true, decide_eq_true_eq]
  omega
theorem wask_size (ts : List T) : askI wordsR ⟨#[119, 111, 114, 100, 115, 46, 115, 105, 122, 101]⟩ ts = if ts.length = 1 then (if ∀ t ∈ ts, t.may then 0 else 1) else 11 := by
  unfold askI
  rw [waskf_size]
  show (if (ts.length : Int) < 1 ∨ (1 : Int) < (ts.length : Int) then (11 : Int) else if ∀ t ∈ ts, t.may then 0 else 1) = _
  by_cases h : ts.length = 1
  · rw [if_neg (by omega), if_pos h]
  · rw [if_pos (by omega), if_neg h]
theorem workT_size {K : Nat → Prop} {d : Nat} (a : Option Addr) (c : Nat) (s : ByteArray) (hs : s.size ≤ 65535) (w : World) (h : RdL K w d a [textT s]) : WorkT (sizeV s) ⟨#[119, 111, 114, 100, 115, 46, 115, 105, 122, 101]⟩ a 1 c w := by
  have H := fun w1 (hx : Ext w w1) => rwk10_size a c s hs w1 (h.keep (hx.kp K))
  exact WorkT.of (RefT.came _) H
set_option maxRecDepth 100000 in
theorem bothW_size (ts : List T) (hlen : ts.length ≤ 140737488351232) (hfit : ∀ t ∈ ts, t.fitN) : BothW ⟨#[119, 111, 114, 100, 115, 46, 115, 105, 122, 101]⟩ ts := by
  by_cases hl : ts.length = 1
  case neg =>
    have hc : cntOk wordsK[1] ts.length = false := by rw [wcnt_size]; exact decide_eq_false hl
    refine bothW_off _ ts 11 hlen (by decide) (by rw [wask_size, if_neg hl]) (fun k f h1 _ => by
      rw [wfind_size] at h1
      obtain rfl := Option.some.inj h1
      exact hc) ?_
    unfold workV
    rw [wfind_size]
    show (if cntOk wordsK[1] ts.length = false then refV 11 else _) = _
    rw [if_pos hc]
  have hct : cntOk wordsK[1] ts.length = true := by rw [wcnt_size]; exact decide_eq_true hl
  have hent : ∀ k f, kdFind wordsK ⟨#[119, 111, 114, 100, 115, 46, 115, 105, 122, 101]⟩ = some k → k.does = some f → Enters f := fun k f h1 h2 => by
    rw [wfind_size] at h1
    obtain rfl := Option.some.inj h1
    obtain rfl : 46 = f := Option.some.inj h2
    exact went_size
  have hwv : ∀ R, workV wordsK ⟨#[119, 111, 114, 100, 115, 46, 115, 105, 122, 101]⟩ ts R = if ∀ t ∈ ts, t.may then (if rightB wordsK[1].signs.data.toList (ts.map T.kind) = true then R else refV 20) else refV 1 := fun R => by
    unfold workV
    rw [wfind_size]
    show (if cntOk wordsK[1] ts.length = false then refV 11 else _) = _
    rw [if_neg (by rw [hct]; decide)]
  by_cases hmay : ∀ t ∈ ts, t.may
  case neg =>
    refine ⟨refV 1, NRes.ref (by decide), fun w a c hm hp => ?_, fun K d w a c h => rWr_bad _ a c ts w h 1 (by rw [wask_size, if_pos hl, if_neg hmay]) (by decide)⟩
    refine workW_of _ a ts.length c w _ ⟨_, _, _, rfl⟩ fun w1 tb hx1 ht => ?_
    have := work_any wordsK tb ⟨#[119, 111, 114, 100, 115, 46, 115, 105, 122, 101]⟩ a c ts (refV 1) w1 (by rw [wordsLen]; decide) ht (hm.1.later hx1) (hp.later hx1) (by omega) wordsJ (fun k f _ _ _ h3 _ => absurd h3 hmay) hent
    rw [hwv, if_neg hmay] at this
    exact this
  have hV0 : askI wordsR ⟨#[119, 111, 114, 100, 115, 46, 115, 105, 122, 101]⟩ ts = 0 := by rw [wask_size, if_pos hl, if_pos hmay]
  match ts, hl, hmay, hfit, hwv, hV0 with
  | [t0], hl, hmay, hfit, hwv, hV0 =>
    have m0 := hmay t0 List.mem_cons_self
    have f0 := hfit t0 List.mem_cons_self
    have hrt : rightB wordsK[1].signs.data.toList (([t0]).map T.kind) = decide (t0.kind = 4) := rightW_size _ (kindW_five m0)
    by_cases hr : t0.kind = 4
    case neg =>
      have hrf : rightB wordsK[1].signs.data.toList (([t0]).map T.kind) = false := hrt.trans (decide_eq_false hr)
      refine ⟨refV 20, NRes.ref (by decide), fun w a c hm hp => ?_, fun K d w a c h => rWr_kind _ a c [t0] w h hV0 (fun w1 hx => rsorts_size a c [t0] false w1 (h.keep (hx.kp K)) rfl (fun hh => absurd (hh 0 (Nat.le_of_ble_eq_true rfl) (Nat.le_of_ble_eq_true rfl)) hr) (fun _ _ _ _ => rfl))⟩
      refine workW_of _ a 1 c w _ ⟨_, _, _, rfl⟩ fun w1 tb hx1 ht => ?_
      have := work_any wordsK tb ⟨#[119, 111, 114, 100, 115, 46, 115, 105, 122, 101]⟩ a c [t0] (refV 20) w1 (by rw [wordsLen]; decide) ht (hm.1.later hx1) (hp.later hx1) (Nat.le_of_ble_eq_true rfl) wordsJ (fun k f h1 _ _ _ h3 => by
        rw [wfind_size] at h1
        obtain rfl := Option.some.inj h1
        rw [hrf] at h3
        cases h3) hent
      rw [hwv, if_pos hmay, if_neg (by rw [hrf]; decide)] at this
      exact this
    have e0 := hr
    obtain ⟨s, hs, rfl⟩ := textW_of m0 e0
    exact ⟨sizeV s, NRes.came _, fun w a c hm hp => ww_size s hs a c w hm hp, fun K d w a c h => rWr_ok ⟨#[119, 111, 114, 100, 115, 46, 115, 105, 122, 101]⟩ a c [textT s] w (sizeV s) h hV0 (fun w1 hx => rsorts_size a c [textT s] true w1 (h.keep (hx.kp K)) rfl (fun _ => rfl) (fun j hj _ hne => by
      match j, hj with
      | 0, _ => exact absurd rfl hne
      | n + 1, h => exact absurd h (by simp))) (workT_size a c s hs w h)⟩
theorem rightW_cut : ∀ k0 k1 k2 : Int, (k0 = 1 ∨ k0 = 2 ∨ k0 = 3 ∨ k0 = 4 ∨ k0 = 5) → (k1 = 1 ∨ k1 = 2 ∨ k1 = 3 ∨ k1 = 4 ∨ k1 = 5) → (k2 = 1 ∨ k2 = 2 ∨ k2 = 3 ∨ k2 = 4 ∨ k2 = 5) → rightB wordsK[2].signs.data.toList [k0, k1, k2] = decide (k0 = 4 ∧ k1 = 3 ∧ k2 = 3) := by
  rintro k0 k1 k2 (rfl | rfl | rfl | rfl | rfl) (rfl | rfl | rfl | rfl | rfl) (rfl | rfl | rfl | rfl | rfl) <;> kernel_rfl
theorem waskf_cut : wordsR.find? (strictR ⟨#[119, 111, 114, 100, 115, 46, 99, 117, 116]⟩) = some wordsR[2] := by kernel_rfl
theorem wcnt_cut (n : Nat) : cntOk wordsK[2] n = decide (n = 3) := by
  unfold cntOk
  show (decide (((3 : Int)) ≤ n) && (decide (((3 : Int)) < 0) || decide ((n : Int) ≤ 3))) = _
  rw [Bool.eq_iff_iff]
  simp only [Bool.and_eq_true, Bool.or_eq_true, decide_eq_true_eq]
  omega
theorem wask_cut (ts : List T) : askI wordsR ⟨#[119, 111, 114, 100, 115, 46, 99, 117, 116]⟩ ts = if ts.length = 3 then (if ∀ t ∈ ts, t.may then 0 else 1) else 11 := by
  unfold askI
  rw [waskf_cut]
  show (if (ts.length : Int) < 3 ∨ (3 : Int) < (ts.length : Int) then (11 : Int) else if ∀ t ∈ ts, t.may then 0 else 1) = _
  by_cases h : ts.length = 3
  · rw [if_neg (by omega), if_pos h]
  · rw [if_pos (by omega), if_neg h]
theorem workT_cut {K : Nat → Prop} {d : Nat} (a : Option Addr) (c : Nat) (s : ByteArray) (a0 : Int) (b0 : Int) (hs : s.size ≤ 65535) (w : World) (h : RdL K w d a [textT s, intT a0, intT b0]) : WorkT (cutV s a0 b0) ⟨#[119, 111, 114, 100, 115, 46, 99, 117, 116]⟩ a 3 c w := by
  have H := fun w1 (hx : Ext w w1) => rwk10_cut a c s a0 b0 hs w1 (h.keep (hx.kp K))
  unfold cutV
  by_cases hc : 0 ≤ a0 ∧ a0 ≤ b0 ∧ b0 ≤ (s.size : Int)
  · simp only [if_pos hc] at H ⊢
    exact WorkT.of (RefT.wrote (extract_small s _ _ hs)) H
  · simp only [if_neg hc] at H ⊢
    exact WorkT.of (RefT.ref (c := 23) rfl) H
set_option maxRecDepth 100000 in
theorem bothW_cut (ts : List T) (hlen : ts.length ≤ 140737488351232) (hfit : ∀ t ∈ ts, t.fitN) : BothW ⟨#[119, 111, 114, 100, 115, 46, 99, 117, 116]⟩ ts := by
  by_cases hl : ts.length = 3
  case neg =>
    have hc : cntOk wordsK[2] ts.length = false := by rw [wcnt_cut]; exact decide_eq_false hl
    refine bothW_off _ ts 11 hlen (by decide) (by rw [wask_cut, if_neg hl]) (fun k f h1 _ => by
      rw [wfind_cut] at h1
      obtain rfl := Option.some.inj h1
      exact hc) ?_
    unfold workV
    rw [wfind_cut]
    show (if cntOk wordsK[2] ts.length = false then refV 11 else _) = _
    rw [if_pos hc]
  have hct : cntOk wordsK[2] ts.length = true := by rw [wcnt_cut]; exact decide_eq_true hl
  have hent : ∀ k f, kdFind wordsK ⟨#[119, 111, 114, 100, 115, 46, 99, 117, 116]⟩ = some k → k.does = some f → Enters f := fun k f h1 h2 => by
    rw [wfind_cut] at h1
    obtain rfl := Option.some.inj h1
    obtain rfl : 47 = f := Option.some.inj h2
    exact went_cut
  have hwv : ∀ R, workV wordsK ⟨#[119, 111, 114, 100, 115, 46, 99, 117, 116]⟩ ts R = if ∀ t ∈ ts, t.may then (if rightB wordsK[2].signs.data.toList (ts.map T.kind) = true then R else refV 20) else refV 1 := fun R => by
    unfold workV
    rw [wfind_cut]
    show (if cntOk wordsK[2] ts.length = false then refV 11 else _) = _
    rw [if_neg (by rw [hct]; decide)]
  by_cases hmay : ∀ t ∈ ts, t.may
  case neg =>
    refine ⟨refV 1, NRes.ref (by decide), fun w a c hm hp => ?_, fun K d w a c h => rWr_bad _ a c ts w h 1 (by rw [wask_cut, if_pos hl, if_neg hmay]) (by decide)⟩
    refine workW_of _ a ts.length c w _ ⟨_, _, _, rfl⟩ fun w1 tb hx1 ht => ?_
    have := work_any wordsK tb ⟨#[119, 111, 114, 100, 115, 46, 99, 117, 116]⟩ a c ts (refV 1) w1 (by rw [wordsLen]; decide) ht (hm.1.later hx1) (hp.later hx1) (by omega) wordsJ (fun k f _ _ _ h3 _ => absurd h3 hmay) hent
    rw [hwv, if_neg hmay] at this
    exact this
  have hV0 : askI wordsR ⟨#[119, 111, 114, 100, 115, 46, 99, 117, 116]⟩ ts = 0 := by rw [wask_cut, if_pos hl, if_pos hmay]
  match ts, hl, hmay, hfit, hwv, hV0 with
  | [t0, t1, t2], hl, hmay, hfit, hwv, hV0 =>
    have m0 := hmay t0 List.mem_cons_self
    have f0 := hfit t0 List.mem_cons_self
    have m1 := hmay t1 (List.mem_cons_of_mem _ List.mem_cons_self)
    have f1 := hfit t1 (List.mem_cons_of_mem _ List.mem_cons_self)
    have m2 := hmay t2 (List.mem_cons_of_mem _ (List.mem_cons_of_mem _ List.mem_cons_self))
    have f2 := hfit t2 (List.mem_cons_of_mem _ (List.mem_cons_of_mem _ List.mem_cons_self))
    have hrt : rightB wordsK[2].signs.data.toList (([t0, t1, t2]).map T.kind) = decide (t0.kind = 4 ∧ t1.kind = 3 ∧ t2.kind = 3) := rightW_cut _ _ _ (kindW_five m0) (kindW_five m1) (kindW_five m2)
    by_cases hr : t0.kind = 4 ∧ t1.kind = 3 ∧ t2.kind = 3
    case neg =>
      have hrf : rightB wordsK[2].signs.data.toList (([t0, t1, t2]).map T.kind) = false := hrt.trans (decide_eq_false hr)
      refine ⟨refV 20, NRes.ref (by decide), fun w a c hm hp => ?_, fun K d w a c h => rWr_kind _ a c [t0, t1, t2] w h hV0 (fun w1 hx => rsorts_cut a c [t0, t1, t2] false w1 (h.keep (hx.kp K)) rfl (fun hh => absurd (⟨hh 0 (Nat.le_of_ble_eq_true rfl) (Nat.le_of_ble_eq_true rfl), hh 1 (Nat.le_of_ble_eq_true rfl) (Nat.le_of_ble_eq_true rfl), hh 2 (Nat.le_of_ble_eq_true rfl) (Nat.le_of_ble_eq_true rfl)⟩) hr) (fun _ _ _ _ => rfl))⟩
      refine workW_of _ a 3 c w _ ⟨_, _, _, rfl⟩ fun w1 tb hx1 ht => ?_
      have := work_any wordsK tb ⟨#[119, 111, 114, 100, 115, 46, 99, 117, 116]⟩ a c [t0, t1, t2] (refV 20) w1 (by rw [wordsLen]; decide) ht (hm.1.later hx1) (hp.later hx1) (Nat.le_of_ble_eq_true rfl) wordsJ (fun k f h1 _ _ _ h3 => by
        rw [wfind_cut] at h1
        obtain rfl := Option.some.inj h1
        rw [hrf] at h3
        cases h3) hent
      rw [hwv, if_pos hmay, if_neg (by rw [hrf]; decide)] at this
      exact this
    obtain ⟨e0, e1, e2⟩ := hr
    obtain ⟨s, hs, rfl⟩ := textW_of m0 e0
    obtain ⟨a0, rfl⟩ : ∃ q, t1 = intT q := ⟨_, intW_of m1 e1⟩
    have ha := fitW_int f1
    obtain ⟨b0, rfl⟩ : ∃ q, t2 = intT q := ⟨_, intW_of m2 e2⟩
    have hb := fitW_int f2
    exact ⟨cutV s a0 b0, nr_cut s a0 b0 hs, fun w a c hm hp => ww_cut s a0 b0 hs a c w hm hp, fun K d w a c h => rWr_ok ⟨#[119, 111, 114, 100, 115, 46, 99, 117, 116]⟩ a c [textT s, intT a0, intT b0] w (cutV s a0 b0) h hV0 (fun w1 hx => rsorts_cut a c [textT s, intT a0, intT b0] true w1 (h.keep (hx.kp K)) rfl (fun _ => rfl) (fun j hj _ hne => by
      match j, hj with
      | 0, _ => exact absurd rfl hne
      | 1, _ => exact absurd rfl hne
      | 2, _ => exact absurd rfl hne
      | n + 3, h => exact absurd h (by simp))) (workT_cut a c s a0 b0 hs w h)⟩
theorem rightW_find : ∀ k0 k1 : Int, (k0 = 1 ∨ k0 = 2 ∨ k0 = 3 ∨ k0 = 4 ∨ k0 = 5) → (k1 = 1 ∨ k1 = 2 ∨ k1 = 3 ∨ k1 = 4 ∨ k1 = 5) → rightB wordsK[3].signs.data.toList [k0, k1] = decide (k0 = 4 ∧ k1 = 4) := by
  rintro k0 k1 (rfl | rfl | rfl | rfl | rfl) (rfl | rfl | rfl | rfl | rfl) <;> kernel_rfl
theorem waskf_find : wordsR.find? (strictR ⟨#[119, 111, 114, 100, 115, 46, 102, 105, 110, 100]⟩) = some wordsR[3] := by kernel_rfl
theorem wcnt_find (n : Nat) : cntOk wordsK[3] n = decide (n = 2) := by
  unfold cntOk
  show (decide (((2 : Int)) ≤ n) && (decide (((2 : Int)) < 0) || decide ((n : Int) ≤ 2))) = _
  rw [Bool.eq_iff_iff]
  simp only [Bool.and_eq_true, Bool.or_eq_true, decide_eq_true_eq]
  omega
theorem wask_find (ts : List T) : askI wordsR ⟨#[119, 111, 114, 100, 115, 46, 102, 105, 110, 100]⟩ ts = if ts.length = 2 then (if ∀ t ∈ ts, t.may then 0 else 1) else 11 := by
  unfold askI
  rw [waskf_find]
  show (if (ts.length : Int) < 2 ∨ (2 : Int) < (ts.length : Int) then (11 : Int) else if ∀ t ∈ ts, t.may then 0 else 1) = _
  by_cases h : ts.length = 2
  · rw [if_neg (by omega), if_pos h]
  · rw [if_pos (by omega), if_neg h]
theorem workT_find {K : Nat → Prop} {d : Nat} (a : Option Addr) (c : Nat) (s : ByteArray) (t : ByteArray) (hs : s.size ≤ 65535) (ht : t.size ≤ 65535) (w : World) (h : RdL K w d a [textT s, textT t]) : WorkT (findV s t) ⟨#[119, 111, 114, 100, 115, 46, 102, 105, 110, 100]⟩ a 2 c w := by
  have H := fun w1 (hx : Ext w w1) => rwk10_find a c s t hs ht w1 (h.keep (hx.kp K))
  exact WorkT.of (RefT.came _) H
set_option maxRecDepth 100000 in
theorem bothW_find (ts : List T) (hlen : ts.length ≤ 140737488351232) (hfit : ∀ t ∈ ts, t.fitN) : BothW ⟨#[119, 111, 114, 100, 115, 46, 102, 105, 110, 100]⟩ ts := by
  by_cases hl : ts.length = 2
  case neg =>
    have hc : cntOk wordsK[3] ts.length = false := by rw [wcnt_find]; exact decide_eq_false hl
    refine bothW_off _ ts 11 hlen (by decide) (by rw [wask_find, if_neg hl]) (fun k f h1 _ => by
      rw [wfind_find] at h1
      obtain rfl := Option.some.inj h1
      exact hc) ?_
    unfold workV
    rw [wfind_find]
    show (if cntOk wordsK[3] ts.length = false then refV 11 else _) = _
    rw [if_pos hc]
  have hct : cntOk wordsK[3] ts.length = true := by rw [wcnt_find]; exact decide_eq_true hl
  have hent : ∀ k f, kdFind wordsK ⟨#[119, 111, 114, 100, 115, 46, 102, 105, 110, 100]⟩ = some k → k.does = some f → Enters f := fun k f h1 h2 => by
    rw [wfind_find] at h1
    obtain rfl := Option.some.inj h1
    obtain rfl : 48 = f := Option.some.inj h2
    exact went_find
  have hwv : ∀ R, workV wordsK ⟨#[119, 111, 114, 100, 115, 46, 102, 105, 110, 100]⟩ ts R = if ∀ t ∈ ts, t.may then (if rightB wordsK[3].signs.data.toList (ts.map T.kind) = true then R else refV 20) else refV 1 := fun R => by
    unfold workV
    rw [wfind_find]
    show (if cntOk wordsK[3] ts.length = false then refV 11 else _) = _
    rw [if_neg (by rw [hct]; decide)]
  by_cases hmay : ∀ t ∈ ts, t.may
  case neg =>
    refine ⟨refV 1, NRes.ref (by decide), fun w a c hm hp => ?_, fun K d w a c h => rWr_bad _ a c ts w h 1 (by rw [wask_find, if_pos hl, if_neg hmay]) (by decide)⟩
    refine workW_of _ a ts.length c w _ ⟨_, _, _, rfl⟩ fun w1 tb hx1 ht => ?_
    have := work_any wordsK tb ⟨#[119, 111, 114, 100, 115, 46, 102, 105, 110, 100]⟩ a c ts (refV 1) w1 (by rw [wordsLen]; decide) ht (hm.1.later hx1) (hp.later hx1) (by omega) wordsJ (fun k f _ _ _ h3 _ => absurd h3 hmay) hent
    rw [hwv, if_neg hmay] at this
    exact this
  have hV0 : askI wordsR ⟨#[119, 111, 114, 100, 115, 46, 102, 105, 110, 100]⟩ ts = 0 := by rw [wask_find, if_pos hl, if_pos hmay]
  match ts, hl, hmay, hfit, hwv, hV0 with
  | [t0, t1], hl, hmay, hfit, hwv, hV0 =>
    have m0 := hmay t0 List.mem_cons_self
    have f0 := hfit t0 List.mem_cons_self
    have m1 := hmay t1 (List.mem_cons_of_mem _ List.mem_cons_self)
    have f1 := hfit t1 (List.mem_cons_of_mem _ List.mem_cons_self)
    have hrt : rightB wordsK[3].signs.data.toList (([t0, t1]).map T.kind) = decide (t0.kind = 4 ∧ t1.kind = 4) := rightW_find _ _ (kindW_five m0) (kindW_five m1)
    by_cases hr : t0.kind = 4 ∧ t1.kind = 4
    case neg =>
      have hrf : rightB wordsK[3].signs.data.toList (([t0, t1]).map T.kind) = false := hrt.trans (decide_eq_false hr)
      refine ⟨refV 20, NRes.ref (by decide), fun w a c hm hp => ?_, fun K d w a c h => rWr_kind _ a c [t0, t1] w h hV0 (fun w1 hx => rsorts_find a c [t0, t1] false w1 (h.keep (hx.kp K)) rfl (fun hh => absurd (⟨hh 0 (Nat.le_of_ble_eq_true rfl) (Nat.le_of_ble_eq_true rfl), hh 1 (Nat.le_of_ble_eq_true rfl) (Nat.le_of_ble_eq_true rfl)⟩) hr) (fun _ _ _ _ => rfl))⟩
      refine workW_of _ a 2 c w _ ⟨_, _, _, rfl⟩ fun w1 tb hx1 ht => ?_
      have := work_any wordsK tb ⟨#[119, 111, 114, 100, 115, 46, 102, 105, 110, 100]⟩ a c [t0, t1] (refV 20) w1 (by rw [wordsLen]; decide) ht (hm.1.later hx1) (hp.later hx1) (Nat.le_of_ble_eq_true rfl) wordsJ (fun k f h1 _ _ _ h3 => by
        rw [wfind_find] at h1
        obtain rfl := Option.some.inj h1
        rw [hrf] at h3
        cases h3) hent
      rw [hwv, if_pos hmay, if_neg (by rw [hrf]; decide)] at this
      exact this
    obtain ⟨e0, e1⟩ := hr
    obtain ⟨s, hs, rfl⟩ := textW_of m0 e0
    obtain ⟨t, ht, rfl⟩ := textW_of m1 e1
    exact ⟨findV s t, NRes.came _, fun w a c hm hp => ww_find s t hs ht a c w hm hp, fun K d w a c h => rWr_ok ⟨#[119, 111, 114, 100, 115, 46, 102, 105, 110, 100]⟩ a c [textT s, textT t] w (findV s t) h hV0 (fun w1 hx => rsorts_find a c [textT s, textT t] true w1 (h.keep (hx.kp K)) rfl (fun _ => rfl) (fun j hj _ hne => by
      match j, hj with
      | 0, _ => exact absurd rfl hne
      | 1, _ => exact absurd rfl hne
      | n + 2, h => exact absurd h (by simp))) (workT_find a c s t hs ht w h)⟩
theorem rightW_rep : ∀ k0 k1 : Int, (k0 = 1 ∨ k0 = 2 ∨ k0 = 3 ∨ k0 = 4 ∨ k0 = 5) → (k1 = 1 ∨ k1 = 2 ∨ k1 = 3 ∨ k1 = 4 ∨ k1 = 5) → rightB wordsK[4].signs.data.toList [k0, k1] = decide (k0 = 4 ∧ k1 = 3) := by
  rintro k0 k1 (rfl | rfl | rfl | rfl | rfl) (rfl | rfl | rfl | rfl | rfl) <;> kernel_rfl
theorem waskf_rep : wordsR.find? (strictR ⟨#[119, 111, 114, 100, 115, 46, 114, 101, 112]⟩) = some wordsR[4] := by kernel_rfl
theorem wcnt_rep (n : Nat) : cntOk wordsK[4] n = decide (n = 2) := by
  unfold cntOk
  show (decide (((2 : Int)) ≤ n) && (decide (((2 : Int)) < 0) || decide ((n : Int) ≤ 2))) = _
  rw [Bool.eq_iff_iff]
  simp only [Bool.and_eq_true, Bool.or_eq_true, decide_eq_true_eq]
  omega
theorem wask_rep (ts : List T) : askI wordsR ⟨#[119, 111, 114, 100, 115, 46, 114, 101, 112]⟩ ts = if ts.length = 2 then (if ∀ t ∈ ts, t.may then 0 else 1) else 11 := by
  unfold askI
  rw [waskf_rep]
  show (if (ts.length : Int) < 2 ∨ (2 : Int) < (ts.length : Int) then (11 : Int) else if ∀ t ∈ ts, t.may then 0 else 1) = _
  by_cases h : ts.length = 2
  · rw [if_neg (by omega), if_pos h]
  · rw [if_pos (by omega), if_neg h]
theorem workT_rep {K : Nat → Prop} {d : Nat} (a : Option Addr) (c : Nat) (s : ByteArray) (a0 : Int) (hs : s.size ≤ 65535) (ha : inR a0) (w : World) (h : RdL K w d a [textT s, intT a0]) : WorkT (repV s a0) ⟨#[119, 111, 114, 100, 115, 46, 114, 101, 112]⟩ a 2 c w := by
  have H := fun w1 (hx : Ext w w1) => rwk10_rep a c s a0 hs ha w1 (h.keep (hx.kp K))
  unfold repR at H
  unfold repV
  by_cases h1 : a0 < 0
  · simp only [if_pos h1] at H ⊢
    exact WorkT.of (RefT.ref (c := 23) rfl) H
  by_cases h2 : s.size = 0
  · simp only [if_neg h1, if_pos h2] at H ⊢
    exact WorkT.of (RefT.wrote (by decide)) H
  by_cases h3 : a0 ≤ ((65535 / s.size : Nat) : Int)
  · simp only [if_neg h1, if_neg h2, if_pos h3] at H ⊢
    refine WorkT.of (RefT.wrote ?_) H
    rw [repS_size]
    have : a0.toNat ≤ 65535 / s.size := by omega
    rwa [Nat.le_div_iff_mul_le (by omega)] at this
  · simp only [if_neg h1, if_neg h2, if_neg h3] at H ⊢
    exact WorkT.of (RefT.ref (c := 2) rfl) H
set_option maxRecDepth 100000 in
theorem bothW_rep (ts : List T) (hlen : ts.length ≤ 140737488351232) (hfit : ∀ t ∈ ts, t.fitN) : BothW ⟨#[119, 111, 114, 100, 115, 46, 114, 101, 112]⟩ ts := by
  by_cases hl : ts.length = 2
  case neg =>
    have hc : cntOk wordsK[4] ts.length = false := by rw [wcnt_rep]; exact decide_eq_false hl
    refine bothW_off _ ts 11 hlen (by decide) (by rw [wask_rep, if_neg hl]) (fun k f h1 _ => by
      rw [wfind_rep] at h1
      obtain rfl := Option.some.inj h1
      exact hc) ?_
    unfold workV
    rw [wfind_rep]
    show (if cntOk wordsK[4] ts.length = false then refV 11 else _) = _
    rw [if_pos hc]
  have hct : cntOk wordsK[4] ts.length = true := by rw [wcnt_rep]; exact decide_eq_true hl
  have hent : ∀ k f, kdFind wordsK ⟨#[119, 111, 114, 100, 115, 46, 114, 101, 112]⟩ = some k → k.does = some f → Enters f := fun k f h1 h2 => by
    rw [wfind_rep] at h1
    obtain rfl := Option.some.inj h1
    obtain rfl : 49 = f := Option.some.inj h2
    exact went_rep
  have hwv : ∀ R, workV wordsK ⟨#[119, 111, 114, 100, 115, 46, 114, 101, 112]⟩ ts R = if ∀ t ∈ ts, t.may then (if rightB wordsK[4].signs.data.toList (ts.map T.kind) = true then R else refV 20) else refV 1 := fun R => by
    unfold workV
    rw [wfind_rep]
    show (if cntOk wordsK[4] ts.length = false then refV 11 else _) = _
    rw [if_neg (by rw [hct]; decide)]
  by_cases hmay : ∀ t ∈ ts, t.may
  case neg =>
    refine ⟨refV 1, NRes.ref (by decide), fun w a c hm hp => ?_, fun K d w a c h => rWr_bad _ a c ts w h 1 (by rw [wask_rep, if_pos hl, if_neg hmay]) (by decide)⟩
    refine workW_of _ a ts.length c w _ ⟨_, _, _, rfl⟩ fun w1 tb hx1 ht => ?_
    have := work_any wordsK tb ⟨#[119, 111, 114, 100, 115, 46, 114, 101, 112]⟩ a c ts (refV 1) w1 (by rw [wordsLen]; decide) ht (hm.1.later hx1) (hp.later hx1) (by omega) wordsJ (fun k f _ _ _ h3 _ => absurd h3 hmay) hent
    rw [hwv, if_neg hmay] at this
    exact this
  have hV0 : askI wordsR ⟨#[119, 111, 114, 100, 115, 46, 114, 101, 112]⟩ ts = 0 := by rw [wask_rep, if_pos hl, if_pos hmay]
  match ts, hl, hmay, hfit, hwv, hV0 with
  | [t0, t1], hl, hmay, hfit, hwv, hV0 =>
    have m0 := hmay t0 List.mem_cons_self
    have f0 := hfit t0 List.mem_cons_self
    have m1 := hmay t1 (List.mem_cons_of_mem _ List.mem_cons_self)
    have f1 := hfit t1 (List.mem_cons_of_mem _ List.mem_cons_self)
    have hrt : rightB wordsK[4].signs.data.toList (([t0, t1]).map T.kind) = decide (t0.kind = 4 ∧ t1.kind = 3) := rightW_rep _ _ (kindW_five m0) (kindW_five m1)
    by_cases hr : t0.kind = 4 ∧ t1.kind = 3
    case neg =>
      have hrf : rightB wordsK[4].signs.data.toList (([t0, t1]).map T.kind) = false := hrt.trans (decide_eq_false hr)
      refine ⟨refV 20, NRes.ref (by decide), fun w a c hm hp => ?_, fun K d w a c h => rWr_kind _ a c [t0, t1] w h hV0 (fun w1 hx => rsorts_rep a c [t0, t1] false w1 (h.keep (hx.kp K)) rfl (fun hh => absurd (⟨hh 0 (Nat.le_of_ble_eq_true rfl) (Nat.le_of_ble_eq_true rfl), hh 1 (Nat.le_of_ble_eq_true rfl) (Nat.le_of_ble_eq_true rfl)⟩) hr) (fun _ _ _ _ => rfl))⟩
      refine workW_of _ a 2 c w _ ⟨_, _, _, rfl⟩ fun w1 tb hx1 ht => ?_
      have := work_any wordsK tb ⟨#[119, 111, 114, 100, 115, 46, 114, 101, 112]⟩ a c [t0, t1] (refV 20) w1 (by rw [wordsLen]; decide) ht (hm.1.later hx1) (hp.later hx1) (Nat.le_of_ble_eq_true rfl) wordsJ (fun k f h1 _ _ _ h3 => by
        rw [wfind_rep] at h1
        obtain rfl := Option.some.inj h1
        rw [hrf] at h3
        cases h3) hent
      rw [hwv, if_pos hmay, if_neg (by rw [hrf]; decide)] at this
      exact this
    obtain ⟨e0, e1⟩ := hr
    obtain ⟨s, hs, rfl⟩ := textW_of m0 e0
    obtain ⟨a0, rfl⟩ : ∃ q, t1 = intT q := ⟨_, intW_of m1 e1⟩
    have ha := fitW_int f1
    exact ⟨repV s a0, nr_rep s a0, fun w a c hm hp => ww_rep s a0 hs a c w hm hp, fun K d w a c h => rWr_ok ⟨#[119, 111, 114, 100, 115, 46, 114, 101, 112]⟩ a c [textT s, intT a0] w (repV s a0) h hV0 (fun w1 hx => rsorts_rep a c [textT s, intT a0] true w1 (h.keep (hx.kp K)) rfl (fun _ => rfl) (fun j hj _ hne => by
      match j, hj with
      | 0, _ => exact absurd rfl hne
      | 1, _ => exact absurd rfl hne
      | n + 2, h => exact absurd h (by simp))) (workT_rep a c s a0 hs ha w h)⟩
theorem rightW_less : ∀ k0 k1 : Int, (k0 = 1 ∨ k0 = 2 ∨ k0 = 3 ∨ k0 = 4 ∨ k0 = 5) → (k1 = 1 ∨ k1 = 2 ∨ k1 = 3 ∨ k1 = 4 ∨ k1 = 5) → rightB wordsK[5].signs.data.toList [k0, k1] = decide (k0 = 4 ∧ k1 = 4) := by
  rintro k0 k1 (rfl | rfl | rfl | rfl | rfl) (rfl | rfl | rfl | rfl | rfl) <;> kernel_rfl
theorem waskf_less : wordsR.find? (strictR ⟨#[119, 111, 114, 100, 115, 46, 108, 101, 115, 115]⟩) = some wordsR[5] := by kernel_rfl
theorem wcnt_less (n : Nat) : cntOk wordsK[5] n = decide (n = 2) := by
  unfold cntOk
  show (decide (((2 : Int)) ≤ n) && (decide (((2 : Int)) < 0) || decide ((n : Int) ≤ 2))) = _
  rw [Bool.eq_iff_iff]
  simp only [Bool.and_eq_true, Bool.or_eq_true, decide_eq_true_eq]
  omega
theorem wask_less (ts : List T) : askI wordsR ⟨#[119, 111, 114, 100, 115, 46, 108, 101, 115, 115]⟩ ts = if ts.length = 2 then (if ∀ t ∈ ts, t.may then 0 else 1) else 11 := by
  unfold askI
  rw [waskf_less]
  show (if (ts.length : Int) < 2 ∨ (2 : Int) < (ts.length : Int) then (11 : Int) else if ∀ t ∈ ts, t.may then 0 else 1) = _
  by_cases h : ts.length = 2
  · rw [if_neg (by omega), if_pos h]
  · rw [if_pos (by omega), if_neg h]
theorem workT_less {K : Nat → Prop} {d : Nat} (a : Option Addr) (c : Nat) (s : ByteArray) (t : ByteArray)  (w : World) (h : RdL K w d a [textT s, textT t]) : WorkT (lessV s t) ⟨#[119, 111, 114, 100, 115, 46, 108, 101, 115, 115]⟩ a 2 c w := by
  have H := fun w1 (hx : Ext w w1) => rwk10_less a c s t w1 (h.keep (hx.kp K))
  exact WorkT.of (RefT.told _) H
set_option maxRecDepth 100000 in
theorem bothW_less (ts : List T) (hlen : ts.length ≤ 140737488351232) (hfit : ∀ t ∈ ts, t.fitN) : BothW ⟨#[119, 111, 114, 100, 115, 46, 108, 101, 115, 115]⟩ ts := by
  by_cases hl : ts.length = 2
  case neg =>
    have hc : cntOk wordsK[5] ts.length = false := by rw [wcnt_less]; exact decide_eq_false hl
    refine bothW_off _ ts 11 hlen (by decide) (by rw [wask_less, if_neg hl]) (fun k f h1 _ => by
      rw [wfind_less] at h1
      obtain rfl := Option.some.inj h1
      exact hc) ?_
    unfold workV
    rw [wfind_less]
    show (if cntOk wordsK[5] ts.length = false then refV 11 else _) = _
    rw [if_pos hc]
  have hct : cntOk wordsK[5] ts.length = true := by rw [wcnt_less]; exact decide_eq_true hl
  have hent : ∀ k f, kdFind wordsK ⟨#[119, 111, 114, 100, 115, 46, 108, 101, 115, 115]⟩ = some k → k.does = some f → Enters f := fun k f h1 h2 => by
    rw [wfind_less] at h1
    obtain rfl := Option.some.inj h1
    obtain rfl : 50 = f := Option.some.inj h2
    exact went_less
  have hwv : ∀ R, workV wordsK ⟨#[119, 111, 114, 100, 115, 46, 108, 101, 115, 115]⟩ ts R = if ∀ t ∈ ts, t.may then (if rightB wordsK[5].signs.data.toList (ts.map T.kind) = true then R else refV 20) else refV 1 := fun R => by
    unfold workV
    rw [wfind_less]
    show (if cntOk wordsK[5] ts.length = false then refV 11 else _) = _
    rw [if_neg (by rw [hct]; decide)]
  by_cases hmay : ∀ t ∈ ts, t.may
  case neg =>
    refine ⟨refV 1, NRes.ref (by decide), fun w a c hm hp => ?_, fun K d w a c h => rWr_bad _ a c ts w h 1 (by rw [wask_less, if_pos hl, if_neg hmay]) (by decide)⟩
    refine workW_of _ a ts.length c w _ ⟨_, _, _, rfl⟩ fun w1 tb hx1 ht => ?_
    have := work_any wordsK tb ⟨#[119, 111, 114, 100, 115, 46, 108, 101, 115, 115]⟩ a c ts (refV 1) w1 (by rw [wordsLen]; decide) ht (hm.1.later hx1) (hp.later hx1) (by omega) wordsJ (fun k f _ _ _ h3 _ => absurd h3 hmay) hent
    rw [hwv, if_neg hmay] at this
    exact this
  have hV0 : askI wordsR ⟨#[119, 111, 114, 100, 115, 46, 108, 101, 115, 115]⟩ ts = 0 := by rw [wask_less, if_pos hl, if_pos hmay]
  match ts, hl, hmay, hfit, hwv, hV0 with
  | [t0, t1], hl, hmay, hfit, hwv, hV0 =>
    have m0 := hmay t0 List.mem_cons_self
    have f0 := hfit t0 List.mem_cons_self
    have m1 := hmay t1 (List.mem_cons_of_mem _ List.mem_cons_self)
    have f1 := hfit t1 (List.mem_cons_of_mem _ List.mem_cons_self)
    have hrt : rightB wordsK[5].signs.data.toList (([t0, t1]).map T.kind) = decide (t0.kind = 4 ∧ t1.kind = 4) := rightW_less _ _ (kindW_five m0) (kindW_five m1)
    by_cases hr : t0.kind = 4 ∧ t1.kind = 4
    case neg =>
      have hrf : rightB wordsK[5].signs.data.toList (([t0, t1]).map T.kind) = false := hrt.trans (decide_eq_false hr)
      refine ⟨refV 20, NRes.ref (by decide), fun w a c hm hp => ?_, fun K d w a c h => rWr_kind _ a c [t0, t1] w h hV0 (fun w1 hx => rsorts_less a c [t0, t1] false w1 (h.keep (hx.kp K)) rfl (fun hh => absurd (⟨hh 0 (Nat.le_of_ble_eq_true rfl) (Nat.le_of_ble_eq_true rfl), hh 1 (Nat.le_of_ble_eq_true rfl) (Nat.le_of_ble_eq_true rfl)⟩) hr) (fun _ _ _ _ => rfl))⟩
      refine workW_of _ a 2 c w _ ⟨_, _, _, rfl⟩ fun w1 tb hx1 ht => ?_
      have := work_any wordsK tb ⟨#[119, 111, 114, 100, 115, 46, 108, 101, 115, 115]⟩ a c [t0, t1] (refV 20) w1 (by rw [wordsLen]; decide) ht (hm.1.later hx1) (hp.later hx1) (Nat.le_of_ble_eq_true rfl) wordsJ (fun k f h1 _ _ _ h3 => by
        rw [wfind_less] at h1
        obtain rfl := Option.some.inj h1
        rw [hrf] at h3
        cases h3) hent
      rw [hwv, if_pos hmay, if_neg (by rw [hrf]; decide)] at this
      exact this
    obtain ⟨e0, e1⟩ := hr
    obtain ⟨s, hs, rfl⟩ := textW_of m0 e0
    obtain ⟨t, ht, rfl⟩ := textW_of m1 e1
    exact ⟨lessV s t, NRes.told _, fun w a c hm hp => ww_less s t hs ht a c w hm hp, fun K d w a c h => rWr_ok ⟨#[119, 111, 114, 100, 115, 46, 108, 101, 115, 115]⟩ a c [textT s, textT t] w (lessV s t) h hV0 (fun w1 hx => rsorts_less a c [textT s, textT t] true w1 (h.keep (hx.kp K)) rfl (fun _ => rfl) (fun j hj _ hne => by
      match j, hj with
      | 0, _ => exact absurd rfl hne
      | 1, _ => exact absurd rfl hne
      | n + 2, h => exact absurd h (by simp))) (workT_less a c s t  w h)⟩
theorem rightW_of : ∀ k0 : Int, (k0 = 1 ∨ k0 = 2 ∨ k0 = 3 ∨ k0 = 4 ∨ k0 = 5) → rightB wordsK[6].signs.data.toList [k0] = decide (k0 = 3) := by
  rintro k0 (rfl | rfl | rfl | rfl | rfl) <;> kernel_rfl
theorem waskf_of : wordsR.find? (strictR ⟨#[119, 111, 114, 100, 115, 46, 111, 102]⟩) = some wordsR[6] := by kernel_rfl
theorem wcnt_of (n : Nat) : cntOk wordsK[6] n = decide (n = 1) := by
  unfold cntOk
  show (decide (((1 : Int)) ≤ n) && (decide (((1 : Int)) < 0) || decide ((n : Int) ≤ 1))) = _
  rw [Bool.eq_iff_iff]
  simp only [Bool.and_eq_true, Bool.or_eq_true, decide_eq_true_eq]
  omega
theorem wask_of (ts : List T) : askI wordsR ⟨#[119, 111, 114, 100, 115, 46, 111, 102]⟩ ts = if ts.length = 1 then (if ∀ t ∈ ts, t.may then 0 else 1) else 11 := by
  unfold askI
  rw [waskf_of]
  show (if (ts.length : Int) < 1 ∨ (1 : Int) < (ts.length : Int) then (11 : Int) else if ∀ t ∈ ts, t.may then 0 else 1) = _
  by_cases h : ts.length = 1
  · rw [if_neg (by omega), if_pos h]
  · rw [if_pos (by omega), if_neg h]
theorem workT_of {K : Nat → Prop} {d : Nat} (a : Option Addr) (c : Nat) (a0 : Int) (ha : inR a0) (w : World) (h : RdL K w d a [intT a0]) : WorkT (ofV a0) ⟨#[119, 111, 114, 100, 115, 46, 111, 102]⟩ a 1 c w := by
  have H := fun w1 (hx : Ext w w1) => rwk10_of a c a0 ha w1 (h.keep (hx.kp K))
  exact WorkT.of (RefT.wrote (itoaS_small a0 ha)) H
set_option maxRecDepth 100000 in
theorem bothW_of (ts : List T) (hlen : ts.length ≤ 140737488351232) (hfit : ∀ t ∈ ts, t.fitN) : BothW ⟨#[119, 111, 114, 100, 115, 46, 111, 102]⟩ ts := by
  by_cases hl : ts.length = 1
  case neg =>
    have hc : cntOk wordsK[6] ts.length = false := by rw [wcnt_of]; exact decide_eq_false hl
    refine bothW_off _ ts 11 hlen (by decide) (by rw [wask_of, if_neg hl]) (fun k f h1 _ => by
      rw [wfind_of] at h1
      obtain rfl := Option.some.inj h1
      exact hc) ?_
    unfold workV
    rw [wfind_of]
    show (if cntOk wordsK[6] ts.length = false then refV 11 else _) = _
    rw [if_pos hc]
  have hct : cntOk wordsK[6] ts.length = true := by rw [wcnt_of]; exact decide_eq_true hl
  have hent : ∀ k f, kdFind wordsK ⟨#[119, 111, 114, 100, 115, 46, 111, 102]⟩ = some k → k.does = some f → Enters f := fun k f h1 h2 => by
    rw [wfind_of] at h1
    obtain rfl := Option.some.inj h1
    obtain rfl : 51 = f := Option.some.inj h2
    exact went_of
  have hwv : ∀ R, workV wordsK ⟨#[119, 111, 114, 100, 115, 46, 111, 102]⟩ ts R = if ∀ t ∈ ts, t.may then (if rightB wordsK[6].signs.data.toList (ts.map T.kind) = true then R else refV 20) else refV 1 := fun R => by
    unfold workV
    rw [wfind_of]
    show (if cntOk wordsK[6] ts.length = false then refV 11 else _) = _
    rw [if_neg (by rw [hct]; decide)]
  by_cases hmay : ∀ t ∈ ts, t.may
  case neg =>
    refine ⟨refV 1, NRes.ref (by decide), fun w a c hm hp => ?_, fun K d w a c h => rWr_bad _ a c ts w h 1 (by rw [wask_of, if_pos hl, if_neg hmay]) (by decide)⟩
    refine workW_of _ a ts.length c w _ ⟨_, _, _, rfl⟩ fun w1 tb hx1 ht => ?_
    have := work_any wordsK tb ⟨#[119, 111, 114, 100, 115, 46, 111, 102]⟩ a c ts (refV 1) w1 (by rw [wordsLen]; decide) ht (hm.1.later hx1) (hp.later hx1) (by omega) wordsJ (fun k f _ _ _ h3 _ => absurd h3 hmay) hent
    rw [hwv, if_neg hmay] at this
    exact this
  have hV0 : askI wordsR ⟨#[119, 111, 114, 100, 115, 46, 111, 102]⟩ ts = 0 := by rw [wask_of, if_pos hl, if_pos hmay]
  match ts, hl, hmay, hfit, hwv, hV0 with
  | [t0], hl, hmay, hfit, hwv, hV0 =>
    have m0 := hmay t0 List.mem_cons_self
    have f0 := hfit t0 List.mem_cons_self
    have hrt : rightB wordsK[6].signs.data.toList (([t0]).map T.kind) = decide (t0.kind = 3) := rightW_of _ (kindW_five m0)
    by_cases hr : t0.kind = 3
    case neg =>
      have hrf : rightB wordsK[6].signs.data.toList (([t0]).map T.kind) = false := hrt.trans (decide_eq_false hr)
      refine ⟨refV 20, NRes.ref (by decide), fun w a c hm hp => ?_, fun K d w a c h => rWr_kind _ a c [t0] w h hV0 (fun w1 hx => rsorts_of a c [t0] false w1 (h.keep (hx.kp K)) rfl (fun hh => absurd (hh 0 (Nat.le_of_ble_eq_true rfl) (Nat.le_of_ble_eq_true rfl)) hr) (fun _ _ _ _ => rfl))⟩
      refine workW_of _ a 1 c w _ ⟨_, _, _, rfl⟩ fun w1 tb hx1 ht => ?_
      have := work_any wordsK tb ⟨#[119, 111, 114, 100, 115, 46, 111, 102]⟩ a c [t0] (refV 20) w1 (by rw [wordsLen]; decide) ht (hm.1.later hx1) (hp.later hx1) (Nat.le_of_ble_eq_true rfl) wordsJ (fun k f h1 _ _ _ h3 => by
        rw [wfind_of] at h1
        obtain rfl := Option.some.inj h1
        rw [hrf] at h3
        cases h3) hent
      rw [hwv, if_pos hmay, if_neg (by rw [hrf]; decide)] at this
      exact this
    have e0 := hr
    obtain ⟨a0, rfl⟩ : ∃ q, t0 = intT q := ⟨_, intW_of m0 e0⟩
    have ha := fitW_int f0
    exact ⟨ofV a0, NRes.wrote (itoaS_small a0 ha), fun w a c hm hp => ww_of a0 ha a c w hm hp, fun K d w a c h => rWr_ok ⟨#[119, 111, 114, 100, 115, 46, 111, 102]⟩ a c [intT a0] w (ofV a0) h hV0 (fun w1 hx => rsorts_of a c [intT a0] true w1 (h.keep (hx.kp K)) rfl (fun _ => rfl) (fun j hj _ hne => by
      match j, hj with
      | 0, _ => exact absurd rfl hne
      | n + 1, h => exact absurd h (by simp))) (workT_of a c a0 ha w h)⟩
theorem rightW_num : ∀ k0 : Int, (k0 = 1 ∨ k0 = 2 ∨ k0 = 3 ∨ k0 = 4 ∨ k0 = 5) → rightB wordsK[7].signs.data.toList [k0] = decide (k0 = 4) := by
  rintro k0 (rfl | rfl | rfl | rfl | rfl) <;> kernel_rfl
theorem waskf_num : wordsR.find? (strictR ⟨#[119, 111, 114, 100, 115, 46, 110, 117, 109]⟩) = some wordsR[7] := by kernel_rfl
theorem wcnt_num (n : Nat) : cntOk wordsK[7] n = decide (n = 1) := by
  unfold cntOk
  show (decide (((1 : Int)) ≤ n) && (decide (((1 : Int)) < 0) || decide ((n : Int) ≤ 1))) = _
  rw [Bool.eq_iff_iff]
  simp only [Bool.and_eq_true, Bool.or_eq_true, decide_eq_true_eq]
  omega
theorem wask_num (ts : List T) : askI wordsR ⟨#[119, 111, 114, 100, 115, 46, 110, 117, 109]⟩ ts = if ts.length = 1 then (if ∀ t ∈ ts, t.may then 0 else 1) else 11 := by
  unfold askI
  rw [waskf_num]
  show (if (ts.length : Int) < 1 ∨ (1 : Int) < (ts.length : Int) then (11 : Int) else if ∀ t ∈ ts, t.may then 0 else 1) = _
  by_cases h : ts.length = 1
  · rw [if_neg (by omega), if_pos h]
  · rw [if_pos (by omega), if_neg h]
theorem workT_num {K : Nat → Prop} {d : Nat} (a : Option Addr) (c : Nat) (s : ByteArray) (hs : s.size ≤ 65535) (w : World) (h : RdL K w d a [textT s]) : WorkT (numV s) ⟨#[119, 111, 114, 100, 115, 46, 110, 117, 109]⟩ a 1 c w := by
  have H := fun w1 (hx : Ext w w1) => rwk10_num a c s hs w1 (h.keep (hx.kp K))
  intro w1 hx
  refine (H w1 hx).mono fun e w' hh => ?_
  obtain ⟨hr, hy⟩ := hh
  rcases hr with ⟨v, q, c, hv, rfl⟩ | ⟨hv, rfl⟩
  · refine ⟨3, v, ⟨#[]⟩, q, 0, c, 0, ⟨rfl, ?_⟩, rfl, hy⟩
    unfold numV
    rw [hv]
    exact RefT.came v
  · refine ⟨0, 0, ⟨#[]⟩, none, 0, 0, 24, ⟨rfl, ?_⟩, rfl, hy⟩
    unfold numV
    rw [hv]
    exact RefT.ref (c := 24) rfl
set_option maxRecDepth 100000 in
theorem bothW_num (ts : List T) (hlen : ts.length ≤ 140737488351232) (hfit : ∀ t ∈ ts, t.fitN) : BothW ⟨#[119, 111, 114, 100, 115, 46, 110, 117, 109]⟩ ts := by
  by_cases hl : ts.length = 1
  case neg =>
    have hc : cntOk wordsK[7] ts.length = false := by rw [wcnt_num]; exact decide_eq_false hl
    refine bothW_off _ ts 11 hlen (by decide) (by rw [wask_num, if_neg hl]) (fun k f h1 _ => by
      rw [wfind_num] at h1
      obtain rfl := Option.some.inj h1
      exact hc) ?_
    unfold workV
    rw [wfind_num]
    show (if cntOk wordsK[7] ts.length = false then refV 11 else _) = _
    rw [if_pos hc]
  have hct : cntOk wordsK[7] ts.length = true := by rw [wcnt_num]; exact decide_eq_true hl
  have hent : ∀ k f, kdFind wordsK ⟨#[119, 111, 114, 100, 115, 46, 110, 117, 109]⟩ = some k → k.does = some f → Enters f := fun k f h1 h2 => by
    rw [wfind_num] at h1
    obtain rfl := Option.some.inj h1
    obtain rfl : 52 = f := Option.some.inj h2
    exact went_num
  have hwv : ∀ R, workV wordsK ⟨#[119, 111, 114, 100, 115, 46, 110, 117, 109]⟩ ts R = if ∀ t ∈ ts, t.may then (if rightB wordsK[7].signs.data.toList (ts.map T.kind) = true then R else refV 20) else refV 1 := fun R => by
    unfold workV
    rw [wfind_num]
    show (if cntOk wordsK[7] ts.length = false then refV 11 else _) = _
    rw [if_neg (by rw [hct]; decide)]
  by_cases hmay : ∀ t ∈ ts, t.may
  case neg =>
    refine ⟨refV 1, NRes.ref (by decide), fun w a c hm hp => ?_, fun K d w a c h => rWr_bad _ a c ts w h 1 (by rw [wask_num, if_pos hl, if_neg hmay]) (by decide)⟩
    refine workW_of _ a ts.length c w _ ⟨_, _, _, rfl⟩ fun w1 tb hx1 ht => ?_
    have := work_any wordsK tb ⟨#[119, 111, 114, 100, 115, 46, 110, 117, 109]⟩ a c ts (refV 1) w1 (by rw [wordsLen]; decide) ht (hm.1.later hx1) (hp.later hx1) (by omega) wordsJ (fun k f _ _ _ h3 _ => absurd h3 hmay) hent
    rw [hwv, if_neg hmay] at this
    exact this
  have hV0 : askI wordsR ⟨#[119, 111, 114, 100, 115, 46, 110, 117, 109]⟩ ts = 0 := by rw [wask_num, if_pos hl, if_pos hmay]
  match ts, hl, hmay, hfit, hwv, hV0 with
  | [t0], hl, hmay, hfit, hwv, hV0 =>
    have m0 := hmay t0 List.mem_cons_self
    have f0 := hfit t0 List.mem_cons_self
    have hrt : rightB wordsK[7].signs.data.toList (([t0]).map T.kind) = decide (t0.kind = 4) := rightW_num _ (kindW_five m0)
    by_cases hr : t0.kind = 4
    case neg =>
      have hrf : rightB wordsK[7].signs.data.toList (([t0]).map T.kind) = false := hrt.trans (decide_eq_false hr)
      refine ⟨refV 20, NRes.ref (by decide), fun w a c hm hp => ?_, fun K d w a c h => rWr_kind _ a c [t0] w h hV0 (fun w1 hx => rsorts_num a c [t0] false w1 (h.keep (hx.kp K)) rfl (fun hh => absurd (hh 0 (Nat.le_of_ble_eq_true rfl) (Nat.le_of_ble_eq_true rfl)) hr) (fun _ _ _ _ => rfl))⟩
      refine workW_of _ a 1 c w _ ⟨_, _, _, rfl⟩ fun w1 tb hx1 ht => ?_
      have := work_any wordsK tb ⟨#[119, 111, 114, 100, 115, 46, 110, 117, 109]⟩ a c [t0] (refV 20) w1 (by rw [wordsLen]; decide) ht (hm.1.later hx1) (hp.later hx1) (Nat.le_of_ble_eq_true rfl) wordsJ (fun k f h1 _ _ _ h3 => by
        rw [wfind_num] at h1
        obtain rfl := Option.some.inj h1
        rw [hrf] at h3
        cases h3) hent
      rw [hwv, if_pos hmay, if_neg (by rw [hrf]; decide)] at this
      exact this
    have e0 := hr
    obtain ⟨s, hs, rfl⟩ := textW_of m0 e0
    exact ⟨numV s, nr_num s, fun w a c hm hp => ww_num s hs a c w hm hp, fun K d w a c h => rWr_ok ⟨#[119, 111, 114, 100, 115, 46, 110, 117, 109]⟩ a c [textT s] w (numV s) h hV0 (fun w1 hx => rsorts_num a c [textT s] true w1 (h.keep (hx.kp K)) rfl (fun _ => rfl) (fun j hj _ hne => by
      match j, hj with
      | 0, _ => exact absurd rfl hne
      | n + 1, h => exact absurd h (by simp))) (workT_num a c s hs w h)⟩
theorem wordsK_at (op : ByteArray) (k : Kd) (h : kdFind wordsK op = some k) : ∃ i, ∃ (hi : i < 9), k = wordsK[i] ∧ op = wordsK[i].name := by
  have h1 := List.mem_of_find?_eq_some h
  have h2 := List.find?_some h
  obtain ⟨i, hi, rfl⟩ := List.getElem_of_mem h1
  exact ⟨i, by rw [wordsLen] at hi; exact hi, rfl, (of_decide_eq_true h2).symm⟩
theorem wordsR_at (op : ByteArray) (r : Rw) (h : wordsR.find? (strictR op) = some r) : ∃ i, ∃ (hi : i < 9), r = wordsR[i] ∧ op = wordsR[i].kind ∧ hasS ⟨#[83, 116, 114, 105, 99, 116]⟩ wordsR[i].abs = true := by
  have h1 := List.mem_of_find?_eq_some h
  have h2 := List.find?_some h
  obtain ⟨i, hi, rfl⟩ := List.getElem_of_mem h1
  unfold strictR at h2
  rw [Bool.and_eq_true, decide_eq_true_eq] at h2
  exact ⟨i, hi, rfl, h2.1.symm, h2.2⟩
set_option maxRecDepth 100000 in
theorem bothW_all (op : ByteArray) (ts : List T) (hlen : ts.length ≤ 140737488351232) (hfit : ∀ t ∈ ts, t.fitN) : BothW op ts := by
  by_cases c0 : op = ⟨#[119, 111, 114, 100, 115, 46, 106, 111, 105, 110]⟩
  · rw [c0]; exact bothW_join ts hlen hfit
  by_cases c1 : op = ⟨#[119, 111, 114, 100, 115, 46, 115, 105, 122, 101]⟩
  · rw [c1]; exact bothW_size ts hlen hfit
  by_cases c2 : op = ⟨#[119, 111, 114, 100, 115, 46, 99, 117, 116]⟩
  · rw [c2]; exact bothW_cut ts hlen hfit
  by_cases c3 : op = ⟨#[119, 111, 114, 100, 115, 46, 102, 105, 110, 100]⟩
  · rw [c3]; exact bothW_find ts hlen hfit
  by_cases c4 : op = ⟨#[119, 111, 114, 100, 115, 46, 114, 101, 112]⟩
  · rw [c4]; exact bothW_rep ts hlen hfit
  by_cases c5 : op = ⟨#[119, 111, 114, 100, 115, 46, 108, 101, 115, 115]⟩
  · rw [c5]; exact bothW_less ts hlen hfit
  by_cases c6 : op = ⟨#[119, 111, 114, 100, 115, 46, 111, 102]⟩
  · rw [c6]; exact bothW_of ts hlen hfit
  by_cases c7 : op = ⟨#[119, 111, 114, 100, 115, 46, 110, 117, 109]⟩
  · rw [c7]; exact bothW_num ts hlen hfit
  have hk : ∀ k f, kdFind wordsK op = some k → k.does = some f → False := fun k f h1 h2 => by
    obtain ⟨i, hi, rfl, hop⟩ := wordsK_at op k h1
    match i, hi with
    | 0, _ => exact c0 hop
    | 1, _ => exact c1 hop
    | 2, _ => exact c2 hop
    | 3, _ => exact c3 hop
    | 4, _ => exact c4 hop
    | 5, _ => exact c5 hop
    | 6, _ => exact c6 hop
    | 7, _ => exact c7 hop
    | 8, _ => exact absurd h2 (by intro h; cases h)
    | n + 9, h => exact absurd h (by omega)
  have hask : askI wordsR op ts = 1 := by
    unfold askI
    cases hf : wordsR.find? (strictR op) with
    | none => rfl
    | some r =>
      obtain ⟨i, hi, _, hop, hs⟩ := wordsR_at op r hf
      match i, hi with
      | 0, _ => exact absurd hop c0
      | 1, _ => exact absurd hop c1
      | 2, _ => exact absurd hop c2
      | 3, _ => exact absurd hop c3
      | 4, _ => exact absurd hop c4
      | 5, _ => exact absurd hop c5
      | 6, _ => exact absurd hop c6
      | 7, _ => exact absurd hop c7
      | 8, _ => exact absurd hs (by rw [Bool.not_eq_true]; kernel_rfl)
      | n + 9, h => exact absurd h (by omega)
  refine bothW_off op ts 1 hlen (by decide) hask (fun k f h1 h2 => (hk k f h1 h2).elim) ?_
  unfold workV
  cases hf : kdFind wordsK op with
  | none => rfl
  | some k =>
    show (match k.does with | none => refV 1 | some _ => _) = _
    cases hd : k.does with
    | none => rfl
    | some f => exact (hk k f hf hd).elim

end Go.Proofs.YtecabbifkcnbeaaGreatDoor
