/-
  num.Work and the document's Work on any operation and any plain values: the same answer.
-/
import Derived.Test.YtgpggkepgoelfaaGreatDoorNRefF
import Derived.Test.YtgpggkepgoelfaaGreatDoorCFar
import Derived.Test.YtgpggkepgoelfaaGreatDoorNLaw
import Derived.Test.YtgpggkepgoelfaaGreatDoorTFit
namespace Go.Proofs.YtgpggkepgoelfaaGreatDoor
open Go.RowKit
/-- One answer of both. -/
def BothN (op : ByteArray) (ts : List T) : Prop := ∃ V, NRes V ∧ (∀ w a c, MaxAt w → PRow w a ts → Calls Tryz.prog 11 #[.string op, .slice a ts.length c] w fun e w' => e = .returned V ∧ Ext w w') ∧
  ∀ K d w a c, RdL K w d a ts → Calls Tryz.prog 12 #[.string op, .slice a ts.length c] w (RefR w V)
theorem IRes.nres {V : Value} (h : IRes V) : NRes V := by
  rcases h with ⟨n, rfl⟩ | ⟨c, hc, rfl⟩
  · exact NRes.came n
  · exact NRes.ref hc
theorem kind_five {t : T} (h : t.may) : t.kind = 1 ∨ t.kind = 2 ∨ t.kind = 3 ∨ t.kind = 4 ∨ t.kind = 5 := by
  have := T.wf_of t h.1
  obtain ⟨k, n, x, ks⟩ := t
  have : T.wfP k n x.size ks.length := this
  unfold T.wfP at this
  show k = 1 ∨ k = 2 ∨ k = 3 ∨ k = 4 ∨ k = 5
  omega
theorem int_of {t : T} (h : t.may) (h3 : t.kind = 3) : t = intT t.num := by
  have := T.wf_of t h.1
  obtain ⟨k, n, x, ks⟩ := t
  obtain rfl : k = 3 := h3
  have : T.wfP 3 n x.size ks.length := this
  unfold T.wfP at this
  have hx : x.size = 0 ∧ ks.length = 0 := by omega
  obtain rfl := List.eq_nil_of_length_eq_zero hx.2
  obtain ⟨d⟩ := x
  have hd : d.size = 0 := hx.1
  rw [Array.eq_empty_of_size_eq_zero hd]
  rfl
theorem fit_int {n : Int} (h : (intT n).fitN) : inR n := by
  have : (T.node 3 n ⟨#[]⟩ []).fitN := h
  simp only [T.fitN] at this
  exact this.1 trivial
set_option maxRecDepth 100000 in
theorem both_off (op : ByteArray) (ts : List T) (V : Int) (hlen : ts.length ≤ 140737488351232) (hz : (V == 0) = false) (hask : askI numR op ts = V) (hc : ∀ k f, kdFind numK op = some k → k.does = some f → cntOk k ts.length = false) (hv : workV numK op ts (refV 1) = refV V) : BothN op ts := by
  refine ⟨refV V, NRes.ref hz, fun w a c hm hp => ?_, fun K d w a c h => rW_bad op a c ts w h V hask hz⟩
  refine workN_of _ a ts.length c w _ ⟨_, _, _, rfl⟩ fun w1 tb hx1 ht => ?_
  have := work_far numK tb op a c ts (refV 1) w1 (by rw [numLen]; decide) ht hlen hc
  rw [hv] at this
  exact this
theorem rightN_add : ∀ k1 k2 : Int, (k1 = 1 ∨ k1 = 2 ∨ k1 = 3 ∨ k1 = 4 ∨ k1 = 5) → (k2 = 1 ∨ k2 = 2 ∨ k2 = 3 ∨ k2 = 4 ∨ k2 = 5) → rightB numK[0].signs.data.toList [k1, k2] = (decide (k1 = 3) && decide (k2 = 3)) := by
  rintro k1 k2 (rfl | rfl | rfl | rfl | rfl) (rfl | rfl | rfl | rfl | rfl) <;> kernel_rfl
theorem askf_add : numR.find? (strictR ⟨#[110, 117, 109, 46, 97, 100, 100]⟩) = some numR[0] := by kernel_rfl
theorem cnt_add (n : Nat) : cntOk numK[0] n = decide (n = 2) := by
  unfold cntOk
  show (decide (((2 : Int)) ≤ n) && (decide (((2 : Int)) < 0) || decide ((n : Int) ≤ 2))) = _
  rw [Bool.eq_iff_iff]
  simp only [Bool.and_eq_true, Bool.or_eq_true, decide_eq_true_eq]
  omega
theorem ask_add (ts : List T) : askI numR ⟨#[110, 117, 109, 46, 97, 100, 100]⟩ ts = if ts.length = 2 then (if ∀ t ∈ ts, t.may then 0 else 1) else 11 := by
  unfold askI
  rw [askf_add]
  show (if (ts.length : Int) < 2 ∨ (2 : Int) < (ts.length : Int) then (11 : Int) else if ∀ t ∈ ts, t.may then 0 else 1) = _
  by_cases h : ts.length = 2
  · rw [if_neg (by omega), if_pos h]
  · rw [if_pos (by omega), if_neg h]
set_option maxRecDepth 100000 in
theorem both_add (ts : List T) (hlen : ts.length ≤ 140737488351232) (hfit : ∀ t ∈ ts, t.fitN) : BothN ⟨#[110, 117, 109, 46, 97, 100, 100]⟩ ts := by
  by_cases hl : ts.length = 2
  case neg =>
    have hc : cntOk numK[0] ts.length = false := by rw [cnt_add]; exact decide_eq_false hl
    refine both_off _ ts 11 hlen (by decide) (by rw [ask_add, if_neg hl]) (fun k f h1 _ => by
      rw [find_add] at h1
      obtain rfl := Option.some.inj h1
      exact hc) ?_
    unfold workV
    rw [find_add]
    show (if cntOk numK[0] ts.length = false then refV 11 else _) = _
    rw [if_pos hc]
  have hct : cntOk numK[0] ts.length = true := by rw [cnt_add]; exact decide_eq_true hl
  have hent : ∀ k f, kdFind numK ⟨#[110, 117, 109, 46, 97, 100, 100]⟩ = some k → k.does = some f → Enters f := fun k f h1 h2 => by
    rw [find_add] at h1
    obtain rfl := Option.some.inj h1
    obtain rfl : 50 = f := Option.some.inj h2
    exact ent_add
  have hwv : ∀ R, workV numK ⟨#[110, 117, 109, 46, 97, 100, 100]⟩ ts R = if ∀ t ∈ ts, t.may then (if rightB numK[0].signs.data.toList (ts.map T.kind) = true then R else refV 20) else refV 1 := fun R => by
    unfold workV
    rw [find_add]
    show (if cntOk numK[0] ts.length = false then refV 11 else _) = _
    rw [if_neg (by rw [hct]; decide)]
  by_cases hmay : ∀ t ∈ ts, t.may
  case neg =>
    refine ⟨refV 1, NRes.ref (by decide), fun w a c hm hp => ?_, fun K d w a c h => rW_bad _ a c ts w h 1 (by rw [ask_add, if_pos hl, if_neg hmay]) (by decide)⟩
    refine workN_of _ a ts.length c w _ ⟨_, _, _, rfl⟩ fun w1 tb hx1 ht => ?_
    have := work_any numK tb ⟨#[110, 117, 109, 46, 97, 100, 100]⟩ a c ts (refV 1) w1 (by rw [numLen]; decide) ht (hm.later hx1) (hp.later hx1) (by omega) numJ (fun k f _ _ _ h3 _ => absurd h3 hmay) hent
    rw [hwv, if_neg hmay] at this
    exact this
  by_cases hr : rightB numK[0].signs.data.toList (ts.map T.kind) = true
  case neg =>
    refine ⟨refV 20, NRes.ref (by decide), fun w a c hm hp => ?_, fun K d w a c h => rW_kind _ a c ts w h (by rw [ask_add, if_pos hl, if_pos hmay]) (fun h3 => hr ?_)⟩
    · refine workN_of _ a ts.length c w _ ⟨_, _, _, rfl⟩ fun w1 tb hx1 ht => ?_
      have := work_any numK tb ⟨#[110, 117, 109, 46, 97, 100, 100]⟩ a c ts (refV 20) w1 (by rw [numLen]; decide) ht (hm.later hx1) (hp.later hx1) (by omega) numJ (fun k f h1 _ _ _ h3 => by
        rw [find_add] at h1
        obtain rfl := Option.some.inj h1
        exact absurd h3 hr) hent
      rw [hwv, if_pos hmay, if_neg hr] at this
      exact this
    · match ts, hl, hmay, h3 with
      | [t1, t2], _, hmay, h3 =>
        have a1 := h3 t1 (List.mem_cons_self)
        have a2 := h3 t2 (List.mem_cons_of_mem _ List.mem_cons_self)
        show rightB numK[0].signs.data.toList [t1.kind, t2.kind] = true
        rw [a1, a2]
        kernel_rfl
  match ts, hl, hmay, hr, hfit with
  | [t1, t2], _, hmay, hr, hfit =>
    have m1 := hmay t1 List.mem_cons_self
    have m2 := hmay t2 (List.mem_cons_of_mem _ List.mem_cons_self)
    have f1 := hfit t1 List.mem_cons_self
    have f2 := hfit t2 (List.mem_cons_of_mem _ List.mem_cons_self)
    have hr' : rightB numK[0].signs.data.toList [t1.kind, t2.kind] = true := hr
    rw [rightN_add _ _ (kind_five m1) (kind_five m2), Bool.and_eq_true, decide_eq_true_eq, decide_eq_true_eq] at hr'
    obtain ⟨q1, q2⟩ := hr'
    obtain ⟨x, rfl⟩ : ∃ x, t1 = intT x := ⟨_, int_of m1 q1⟩
    obtain ⟨y, rfl⟩ : ∃ y, t2 = intT y := ⟨_, int_of m2 q2⟩
    have hx := fit_int f1
    have hy := fit_int f2
    have hask : askI numR ⟨#[110, 117, 109, 46, 97, 100, 100]⟩ [intT x, intT y] = 0 := by rw [ask_add, if_pos (show ([intT x, intT y] : List T).length = 2 from rfl), if_pos hmay]
    have hI : IRes (addV x y) := IRes.add x y
    exact ⟨addV x y, hI.nres, fun w a c hm hp => wk_add x y hx hy a c w hm hp, fun K d w a c h => rW_num2 ⟨#[110, 117, 109, 46, 97, 100, 100]⟩ a c x y w h hask (by decide) (by decide) _ hI (fun w1 => rwk_add x y w1 hx hy)⟩
theorem rightN_sub : ∀ k1 k2 : Int, (k1 = 1 ∨ k1 = 2 ∨ k1 = 3 ∨ k1 = 4 ∨ k1 = 5) → (k2 = 1 ∨ k2 = 2 ∨ k2 = 3 ∨ k2 = 4 ∨ k2 = 5) → rightB numK[1].signs.data.toList [k1, k2] = (decide (k1 = 3) && decide (k2 = 3)) := by
  rintro k1 k2 (rfl | rfl | rfl | rfl | rfl) (rfl | rfl | rfl | rfl | rfl) <;> kernel_rfl
theorem askf_sub : numR.find? (strictR ⟨#[110, 117, 109, 46, 115, 117, 98]⟩) = some numR[1] := by kernel_rfl
theorem cnt_sub (n : Nat) : cntOk numK[1] n = decide (n = 2) := by
  unfold cntOk
  show (decide (((2 : Int)) ≤ n) && (decide (((2 : Int)) < 0) || decide ((n : Int) ≤ 2))) = _
  rw [Bool.eq_iff_iff]
  simp only [Bool.and_eq_true, Bool.or_eq_true, decide_eq_true_eq]
  omega
theorem ask_sub (ts : List T) : askI numR ⟨#[110, 117, 109, 46, 115, 117, 98]⟩ ts = if ts.length = 2 then (if ∀ t ∈ ts, t.may then 0 else 1) else 11 := by
  unfold askI
  rw [askf_sub]
  show (if (ts.length : Int) < 2 ∨ (2 : Int) < (ts.length : Int) then (11 : Int) else if ∀ t ∈ ts, t.may then 0 else 1) = _
  by_cases h : ts.length = 2
  · rw [if_neg (by omega), if_pos h]
  · rw [if_pos (by omega), if_neg h]
set_option maxRecDepth 100000 in
theorem both_sub (ts : List T) (hlen : ts.length ≤ 140737488351232) (hfit : ∀ t ∈ ts, t.fitN) : BothN ⟨#[110, 117, 109, 46, 115, 117, 98]⟩ ts := by
  by_cases hl : ts.length = 2
  case neg =>
    have hc : cntOk numK[1] ts.length = false := by rw [cnt_sub]; exact decide_eq_false hl
    refine both_off _ ts 11 hlen (by decide) (by rw [ask_sub, if_neg hl]) (fun k f h1 _ => by
      rw [find_sub] at h1
      obtain rfl := Option.some.inj h1
      exact hc) ?_
    unfold workV
    rw [find_sub]
    show (if cntOk numK[1] ts.length = false then refV 11 else _) = _
    rw [if_pos hc]
  have hct : cntOk numK[1] ts.length = true := by rw [cnt_sub]; exact decide_eq_true hl
  have hent : ∀ k f, kdFind numK ⟨#[110, 117, 109, 46, 115, 117, 98]⟩ = some k → k.does = some f → Enters f := fun k f h1 h2 => by
    rw [find_sub] at h1
    obtain rfl := Option.some.inj h1
    obtain rfl : 51 = f := Option.some.inj h2
    exact ent_sub
  have hwv : ∀ R, workV numK ⟨#[110, 117, 109, 46, 115, 117, 98]⟩ ts R = if ∀ t ∈ ts, t.may then (if rightB numK[1].signs.data.toList (ts.map T.kind) = true then R else refV 20) else refV 1 := fun R => by
    unfold workV
    rw [find_sub]
    show (if cntOk numK[1] ts.length = false then refV 11 else _) = _
    rw [if_neg (by rw [hct]; decide)]
  by_cases hmay : ∀ t ∈ ts, t.may
  case neg =>
    refine ⟨refV 1, NRes.ref (by decide), fun w a c hm hp => ?_, fun K d w a c h => rW_bad _ a c ts w h 1 (by rw [ask_sub, if_pos hl, if_neg hmay]) (by decide)⟩
    refine workN_of _ a ts.length c w _ ⟨_, _, _, rfl⟩ fun w1 tb hx1 ht => ?_
    have := work_any numK tb ⟨#[110, 117, 109, 46, 115, 117, 98]⟩ a c ts (refV 1) w1 (by rw [numLen]; decide) ht (hm.later hx1) (hp.later hx1) (by omega) numJ (fun k f _ _ _ h3 _ => absurd h3 hmay) hent
    rw [hwv, if_neg hmay] at this
    exact this
  by_cases hr : rightB numK[1].signs.data.toList (ts.map T.kind) = true
  case neg =>
    refine ⟨refV 20, NRes.ref (by decide), fun w a c hm hp => ?_, fun K d w a c h => rW_kind _ a c ts w h (by rw [ask_sub, if_pos hl, if_pos hmay]) (fun h3 => hr ?_)⟩
    · refine workN_of _ a ts.length c w _ ⟨_, _, _, rfl⟩ fun w1 tb hx1 ht => ?_
      have := work_any numK tb ⟨#[110, 117, 109, 46, 115, 117, 98]⟩ a c ts (refV 20) w1 (by rw [numLen]; decide) ht (hm.later hx1) (hp.later hx1) (by omega) numJ (fun k f h1 _ _ _ h3 => by
        rw [find_sub] at h1
        obtain rfl := Option.some.inj h1
        exact absurd h3 hr) hent
      rw [hwv, if_pos hmay, if_neg hr] at this
      exact this
    · match ts, hl, hmay, h3 with
      | [t1, t2], _, hmay, h3 =>
        have a1 := h3 t1 (List.mem_cons_self)
        have a2 := h3 t2 (List.mem_cons_of_mem _ List.mem_cons_self)
        show rightB numK[1].signs.data.toList [t1.kind, t2.kind] = true
        rw [a1, a2]
        kernel_rfl
  match ts, hl, hmay, hr, hfit with
  | [t1, t2], _, hmay, hr, hfit =>
    have m1 := hmay t1 List.mem_cons_self
    have m2 := hmay t2 (List.mem_cons_of_mem _ List.mem_cons_self)
    have f1 := hfit t1 List.mem_cons_self
    have f2 := hfit t2 (List.mem_cons_of_mem _ List.mem_cons_self)
    have hr' : rightB numK[1].signs.data.toList [t1.kind, t2.kind] = true := hr
    rw [rightN_sub _ _ (kind_five m1) (kind_five m2), Bool.and_eq_true, decide_eq_true_eq, decide_eq_true_eq] at hr'
    obtain ⟨q1, q2⟩ := hr'
    obtain ⟨x, rfl⟩ : ∃ x, t1 = intT x := ⟨_, int_of m1 q1⟩
    obtain ⟨y, rfl⟩ : ∃ y, t2 = intT y := ⟨_, int_of m2 q2⟩
    have hx := fit_int f1
    have hy := fit_int f2
    have hask : askI numR ⟨#[110, 117, 109, 46, 115, 117, 98]⟩ [intT x, intT y] = 0 := by rw [ask_sub, if_pos (show ([intT x, intT y] : List T).length = 2 from rfl), if_pos hmay]
    have hI : IRes (subV x y) := IRes.sub x y
    exact ⟨subV x y, hI.nres, fun w a c hm hp => wk_sub x y hx hy a c w hm hp, fun K d w a c h => rW_num2 ⟨#[110, 117, 109, 46, 115, 117, 98]⟩ a c x y w h hask (by decide) (by decide) _ hI (fun w1 => rwk_sub x y w1 hx hy)⟩
theorem rightN_mul : ∀ k1 k2 : Int, (k1 = 1 ∨ k1 = 2 ∨ k1 = 3 ∨ k1 = 4 ∨ k1 = 5) → (k2 = 1 ∨ k2 = 2 ∨ k2 = 3 ∨ k2 = 4 ∨ k2 = 5) → rightB numK[2].signs.data.toList [k1, k2] = (decide (k1 = 3) && decide (k2 = 3)) := by
  rintro k1 k2 (rfl | rfl | rfl | rfl | rfl) (rfl | rfl | rfl | rfl | rfl) <;> kernel_rfl
theorem askf_mul : numR.find? (strictR ⟨#[110, 117, 109, 46, 109, 117, 108]⟩) = some numR[2] := by kernel_rfl
theorem cnt_mul (n : Nat) : cntOk numK[2] n = decide (n = 2) := by
  unfold cntOk
  show (decide (((2 : Int)) ≤ n) && (decide (((2 : Int)) < 0) || decide ((n : Int) ≤ 2))) = _
  rw [Bool.eq_iff_iff]
  simp only [Bool.and_eq_true, Bool.or_eq_true, decide_eq_true_eq]
  omega
theorem ask_mul (ts : List T) : askI numR ⟨#[110, 117, 109, 46, 109, 117, 108]⟩ ts = if ts.length = 2 then (if ∀ t ∈ ts, t.may then 0 else 1) else 11 := by
  unfold askI
  rw [askf_mul]
  show (if (ts.length : Int) < 2 ∨ (2 : Int) < (ts.length : Int) then (11 : Int) else if ∀ t ∈ ts, t.may then 0 else 1) = _
  by_cases h : ts.length = 2
  · rw [if_neg (by omega), if_pos h]
  · rw [if_pos (by omega), if_neg h]
set_option maxRecDepth 100000 in
theorem both_mul (ts : List T) (hlen : ts.length ≤ 140737488351232) (hfit : ∀ t ∈ ts, t.fitN) : BothN ⟨#[110, 117, 109, 46, 109, 117, 108]⟩ ts := by
  by_cases hl : ts.length = 2
  case neg =>
    have hc : cntOk numK[2] ts.length = false := by rw [cnt_mul]; exact decide_eq_false hl
    refine both_off _ ts 11 hlen (by decide) (by rw [ask_mul, if_neg hl]) (fun k f h1 _ => by
      rw [find_mul] at h1
      obtain rfl := Option.some.inj h1
      exact hc) ?_
    unfold workV
    rw [find_mul]
    show (if cntOk numK[2] ts.length = false then refV 11 else _) = _
    rw [if_pos hc]
  have hct : cntOk numK[2] ts.length = true := by rw [cnt_mul]; exact decide_eq_true hl
  have hent : ∀ k f, kdFind numK ⟨#[110, 117, 109, 46, 109, 117, 108]⟩ = some k → k.does = some f → Enters f := fun k f h1 h2 => by
    rw [find_mul] at h1
    obtain rfl := Option.some.inj h1
    obtain rfl : 52 = f := Option.some.inj h2
    exact ent_mul
  have hwv : ∀ R, workV numK ⟨#[110, 117, 109, 46, 109, 117, 108]⟩ ts R = if ∀ t ∈ ts, t.may then (if rightB numK[2].signs.data.toList (ts.map T.kind) = true then R else refV 20) else refV 1 := fun R => by
    unfold workV
    rw [find_mul]
    show (if cntOk numK[2] ts.length = false then refV 11 else _) = _
    rw [if_neg (by rw [hct]; decide)]
  by_cases hmay : ∀ t ∈ ts, t.may
  case neg =>
    refine ⟨refV 1, NRes.ref (by decide), fun w a c hm hp => ?_, fun K d w a c h => rW_bad _ a c ts w h 1 (by rw [ask_mul, if_pos hl, if_neg hmay]) (by decide)⟩
    refine workN_of _ a ts.length c w _ ⟨_, _, _, rfl⟩ fun w1 tb hx1 ht => ?_
    have := work_any numK tb ⟨#[110, 117, 109, 46, 109, 117, 108]⟩ a c ts (refV 1) w1 (by rw [numLen]; decide) ht (hm.later hx1) (hp.later hx1) (by omega) numJ (fun k f _ _ _ h3 _ => absurd h3 hmay) hent
    rw [hwv, if_neg hmay] at this
    exact this
  by_cases hr : rightB numK[2].signs.data.toList (ts.map T.kind) = true
  case neg =>
    refine ⟨refV 20, NRes.ref (by decide), fun w a c hm hp => ?_, fun K d w a c h => rW_kind _ a c ts w h (by rw [ask_mul, if_pos hl, if_pos hmay]) (fun h3 => hr ?_)⟩
    · refine workN_of _ a ts.length c w _ ⟨_, _, _, rfl⟩ fun w1 tb hx1 ht => ?_
      have := work_any numK tb ⟨#[110, 117, 109, 46, 109, 117, 108]⟩ a c ts (refV 20) w1 (by rw [numLen]; decide) ht (hm.later hx1) (hp.later hx1) (by omega) numJ (fun k f h1 _ _ _ h3 => by
        rw [find_mul] at h1
        obtain rfl := Option.some.inj h1
        exact absurd h3 hr) hent
      rw [hwv, if_pos hmay, if_neg hr] at this
      exact this
    · match ts, hl, hmay, h3 with
      | [t1, t2], _, hmay, h3 =>
        have a1 := h3 t1 (List.mem_cons_self)
        have a2 := h3 t2 (List.mem_cons_of_mem _ List.mem_cons_self)
        show rightB numK[2].signs.data.toList [t1.kind, t2.kind] = true
        rw [a1, a2]
        kernel_rfl
  match ts, hl, hmay, hr, hfit with
  | [t1, t2], _, hmay, hr, hfit =>
    have m1 := hmay t1 List.mem_cons_self
    have m2 := hmay t2 (List.mem_cons_of_mem _ List.mem_cons_self)
    have f1 := hfit t1 List.mem_cons_self
    have f2 := hfit t2 (List.mem_cons_of_mem _ List.mem_cons_self)
    have hr' : rightB numK[2].signs.data.toList [t1.kind, t2.kind] = true := hr
    rw [rightN_mul _ _ (kind_five m1) (kind_five m2), Bool.and_eq_true, decide_eq_true_eq, decide_eq_true_eq] at hr'
    obtain ⟨q1, q2⟩ := hr'
    obtain ⟨x, rfl⟩ : ∃ x, t1 = intT x := ⟨_, int_of m1 q1⟩
    obtain ⟨y, rfl⟩ : ∃ y, t2 = intT y := ⟨_, int_of m2 q2⟩
    have hx := fit_int f1
    have hy := fit_int f2
    have hask : askI numR ⟨#[110, 117, 109, 46, 109, 117, 108]⟩ [intT x, intT y] = 0 := by rw [ask_mul, if_pos (show ([intT x, intT y] : List T).length = 2 from rfl), if_pos hmay]
    have hI : IRes (mulV x y) := IRes.mul x y
    exact ⟨mulV x y, hI.nres, fun w a c hm hp => wk_mul x y hx hy a c w hm hp, fun K d w a c h => rW_num2 ⟨#[110, 117, 109, 46, 109, 117, 108]⟩ a c x y w h hask (by decide) (by decide) _ hI (fun w1 => rwk_mul x y w1 hx hy)⟩
theorem rightN_quo : ∀ k1 k2 : Int, (k1 = 1 ∨ k1 = 2 ∨ k1 = 3 ∨ k1 = 4 ∨ k1 = 5) → (k2 = 1 ∨ k2 = 2 ∨ k2 = 3 ∨ k2 = 4 ∨ k2 = 5) → rightB numK[3].signs.data.toList [k1, k2] = (decide (k1 = 3) && decide (k2 = 3)) := by
  rintro k1 k2 (rfl | rfl | rfl | rfl | rfl) (rfl | rfl | rfl | rfl | rfl) <;> kernel_rfl
theorem askf_quo : numR.find? (strictR ⟨#[110, 117, 109, 46, 113, 117, 111]⟩) = some numR[3] := by kernel_rfl
theorem cnt_quo (n : Nat) : cntOk numK[3] n = decide (n = 2) := by
  unfold cntOk
  show (decide (((2 : Int)) ≤ n) && (decide (((2 : Int)) < 0) || decide ((n : Int) ≤ 2))) = _
  rw [Bool.eq_iff_iff]
  simp only [Bool.and_eq_true, Bool.or_eq_true, decide_eq_true_eq]
  omega
theorem ask_quo (ts : List T) : askI numR ⟨#[110, 117, 109, 46, 113, 117, 111]⟩ ts = if ts.length = 2 then (if ∀ t ∈ ts, t.may then 0 else 1) else 11 := by
  unfold askI
  rw [askf_quo]
  show (if (ts.length : Int) < 2 ∨ (2 : Int) < (ts.length : Int) then (11 : Int) else if ∀ t ∈ ts, t.may then 0 else 1) = _
  by_cases h : ts.length = 2
  · rw [if_neg (by omega), if_pos h]
  · rw [if_pos (by omega), if_neg h]
set_option maxRecDepth 100000 in
theorem both_quo (ts : List T) (hlen : ts.length ≤ 140737488351232) (hfit : ∀ t ∈ ts, t.fitN) : BothN ⟨#[110, 117, 109, 46, 113, 117, 111]⟩ ts := by
  by_cases hl : ts.length = 2
  case neg =>
    have hc : cntOk numK[3] ts.length = false := by rw [cnt_quo]; exact decide_eq_false hl
    refine both_off _ ts 11 hlen (by decide) (by rw [ask_quo, if_neg hl]) (fun k f h1 _ => by
      rw [find_quo] at h1
      obtain rfl := Option.some.inj h1
      exact hc) ?_
    unfold workV
    rw [find_quo]
    show (if cntOk numK[3] ts.length = false then refV 11 else _) = _
    rw [if_pos hc]
  have hct : cntOk numK[3] ts.length = true := by rw [cnt_quo]; exact decide_eq_true hl
  have hent : ∀ k f, kdFind numK ⟨#[110, 117, 109, 46, 113, 117, 111]⟩ = some k → k.does = some f → Enters f := fun k f h1 h2 => by
    rw [find_quo] at h1
    obtain rfl := Option.some.inj h1
    obtain rfl : 53 = f := Option.some.inj h2
    exact ent_quo
  have hwv : ∀ R, workV numK ⟨#[110, 117, 109, 46, 113, 117, 111]⟩ ts R = if ∀ t ∈ ts, t.may then (if rightB numK[3].signs.data.toList (ts.map T.kind) = true then R else refV 20) else refV 1 := fun R => by
    unfold workV
    rw [find_quo]
    show (if cntOk numK[3] ts.length = false then refV 11 else _) = _
    rw [if_neg (by rw [hct]; decide)]
  by_cases hmay : ∀ t ∈ ts, t.may
  case neg =>
    refine ⟨refV 1, NRes.ref (by decide), fun w a c hm hp => ?_, fun K d w a c h => rW_bad _ a c ts w h 1 (by rw [ask_quo, if_pos hl, if_neg hmay]) (by decide)⟩
    refine workN_of _ a ts.length c w _ ⟨_, _, _, rfl⟩ fun w1 tb hx1 ht => ?_
    have := work_any numK tb ⟨#[110, 117, 109, 46, 113, 117, 111]⟩ a c ts (refV 1) w1 (by rw [numLen]; decide) ht (hm.later hx1) (hp.later hx1) (by omega) numJ (fun k f _ _ _ h3 _ => absurd h3 hmay) hent
    rw [hwv, if_neg hmay] at this
    exact this
  by_cases hr : rightB numK[3].signs.data.toList (ts.map T.kind) = true
  case neg =>
    refine ⟨refV 20, NRes.ref (by decide), fun w a c hm hp => ?_, fun K d w a c h => rW_kind _ a c ts w h (by rw [ask_quo, if_pos hl, if_pos hmay]) (fun h3 => hr ?_)⟩
    · refine workN_of _ a ts.length c w _ ⟨_, _, _, rfl⟩ fun w1 tb hx1 ht => ?_
      have := work_any numK tb ⟨#[110, 117, 109, 46, 113, 117, 111]⟩ a c ts (refV 20) w1 (by rw [numLen]; decide) ht (hm.later hx1) (hp.later hx1) (by omega) numJ (fun k f h1 _ _ _ h3 => by
        rw [find_quo] at h1
        obtain rfl := Option.some.inj h1
        exact absurd h3 hr) hent
      rw [hwv, if_pos hmay, if_neg hr] at this
      exact this
    · match ts, hl, hmay, h3 with
      | [t1, t2], _, hmay, h3 =>
        have a1 := h3 t1 (List.mem_cons_self)
        have a2 := h3 t2 (List.mem_cons_of_mem _ List.mem_cons_self)
        show rightB numK[3].signs.data.toList [t1.kind, t2.kind] = true
        rw [a1, a2]
        kernel_rfl
  match ts, hl, hmay, hr, hfit with
  | [t1, t2], _, hmay, hr, hfit =>
    have m1 := hmay t1 List.mem_cons_self
    have m2 := hmay t2 (List.mem_cons_of_mem _ List.mem_cons_self)
    have f1 := hfit t1 List.mem_cons_self
    have f2 := hfit t2 (List.mem_cons_of_mem _ List.mem_cons_self)
    have hr' : rightB numK[3].signs.data.toList [t1.kind, t2.kind] = true := hr
    rw [rightN_quo _ _ (kind_five m1) (kind_five m2), Bool.and_eq_true, decide_eq_true_eq, decide_eq_true_eq] at hr'
    obtain ⟨q1, q2⟩ := hr'
    obtain ⟨x, rfl⟩ : ∃ x, t1 = intT x := ⟨_, int_of m1 q1⟩
    obtain ⟨y, rfl⟩ : ∃ y, t2 = intT y := ⟨_, int_of m2 q2⟩
    have hx := fit_int f1
    have hy := fit_int f2
    have hask : askI numR ⟨#[110, 117, 109, 46, 113, 117, 111]⟩ [intT x, intT y] = 0 := by rw [ask_quo, if_pos (show ([intT x, intT y] : List T).length = 2 from rfl), if_pos hmay]
    have hI : IRes (quoV x y) := IRes.quo x y
    exact ⟨quoV x y, hI.nres, fun w a c hm hp => wk_quo x y hx hy a c w hm hp, fun K d w a c h => rW_num2 ⟨#[110, 117, 109, 46, 113, 117, 111]⟩ a c x y w h hask (by decide) (by decide) _ hI (fun w1 => rwk_quo x y w1 hx hy)⟩
theorem rightN_mod : ∀ k1 k2 : Int, (k1 = 1 ∨ k1 = 2 ∨ k1 = 3 ∨ k1 = 4 ∨ k1 = 5) → (k2 = 1 ∨ k2 = 2 ∨ k2 = 3 ∨ k2 = 4 ∨ k2 = 5) → rightB numK[4].signs.data.toList [k1, k2] = (decide (k1 = 3) && decide (k2 = 3)) := by
  rintro k1 k2 (rfl | rfl | rfl | rfl | rfl) (rfl | rfl | rfl | rfl | rfl) <;> kernel_rfl
theorem askf_mod : numR.find? (strictR ⟨#[110, 117, 109, 46, 109, 111, 100]⟩) = some numR[4] := by kernel_rfl
theorem cnt_mod (n : Nat) : cntOk numK[4] n = decide (n = 2) := by
  unfold cntOk
  show (decide (((2 : Int)) ≤ n) && (decide (((2 : Int)) < 0) || decide ((n : Int) ≤ 2))) = _
  rw [Bool.eq_iff_iff]
  simp only [Bool.and_eq_true, Bool.or_eq_true, decide_eq_true_eq]
  omega
theorem ask_mod (ts : List T) : askI numR ⟨#[110, 117, 109, 46, 109, 111, 100]⟩ ts = if ts.length = 2 then (if ∀ t ∈ ts, t.may then 0 else 1) else 11 := by
  unfold askI
  rw [askf_mod]
  show (if (ts.length : Int) < 2 ∨ (2 : Int) < (ts.length : Int) then (11 : Int) else if ∀ t ∈ ts, t.may then 0 else 1) = _
  by_cases h : ts.length = 2
  · rw [if_neg (by omega), if_pos h]
  · rw [if_pos (by omega), if_neg h]
set_option maxRecDepth 100000 in
theorem both_mod (ts : List T) (hlen : ts.length ≤ 140737488351232) (hfit : ∀ t ∈ ts, t.fitN) : BothN ⟨#[110, 117, 109, 46, 109, 111, 100]⟩ ts := by
  by_cases hl : ts.length = 2
  case neg =>
    have hc : cntOk numK[4] ts.length = false := by rw [cnt_mod]; exact decide_eq_false hl
    refine both_off _ ts 11 hlen (by decide) (by rw [ask_mod, if_neg hl]) (fun k f h1 _ => by
      rw [find_mod] at h1
      obtain rfl := Option.some.inj h1
      exact hc) ?_
    unfold workV
    rw [find_mod]
    show (if cntOk numK[4] ts.length = false then refV 11 else _) = _
    rw [if_pos hc]
  have hct : cntOk numK[4] ts.length = true := by rw [cnt_mod]; exact decide_eq_true hl
  have hent : ∀ k f, kdFind numK ⟨#[110, 117, 109, 46, 109, 111, 100]⟩ = some k → k.does = some f → Enters f := fun k f h1 h2 => by
    rw [find_mod] at h1
    obtain rfl := Option.some.inj h1
    obtain rfl : 54 = f := Option.some.inj h2
    exact ent_mod
  have hwv : ∀ R, workV numK ⟨#[110, 117, 109, 46, 109, 111, 100]⟩ ts R = if ∀ t ∈ ts, t.may then (if rightB numK[4].signs.data.toList (ts.map T.kind) = true then R else refV 20) else refV 1 := fun R => by
    unfold workV
    rw [find_mod]
    show (if cntOk numK[4] ts.length = false then refV 11 else _) = _
    rw [if_neg (by rw [hct]; decide)]
  by_cases hmay : ∀ t ∈ ts, t.may
  case neg =>
    refine ⟨refV 1, NRes.ref (by decide), fun w a c hm hp => ?_, fun K d w a c h => rW_bad _ a c ts w h 1 (by rw [ask_mod, if_pos hl, if_neg hmay]) (by decide)⟩
    refine workN_of _ a ts.length c w _ ⟨_, _, _, rfl⟩ fun w1 tb hx1 ht => ?_
    have := work_any numK tb ⟨#[110, 117, 109, 46, 109, 111, 100]⟩ a c ts (refV 1) w1 (by rw [numLen]; decide) ht (hm.later hx1) (hp.later hx1) (by omega) numJ (fun k f _ _ _ h3 _ => absurd h3 hmay) hent
    rw [hwv, if_neg hmay] at this
    exact this
  by_cases hr : rightB numK[4].signs.data.toList (ts.map T.kind) = true
  case neg =>
    refine ⟨refV 20, NRes.ref (by decide), fun w a c hm hp => ?_, fun K d w a c h => rW_kind _ a c ts w h (by rw [ask_mod, if_pos hl, if_pos hmay]) (fun h3 => hr ?_)⟩
    · refine workN_of _ a ts.length c w _ ⟨_, _, _, rfl⟩ fun w1 tb hx1 ht => ?_
      have := work_any numK tb ⟨#[110, 117, 109, 46, 109, 111, 100]⟩ a c ts (refV 20) w1 (by rw [numLen]; decide) ht (hm.later hx1) (hp.later hx1) (by omega) numJ (fun k f h1 _ _ _ h3 => by
        rw [find_mod] at h1
        obtain rfl := Option.some.inj h1
        exact absurd h3 hr) hent
      rw [hwv, if_pos hmay, if_neg hr] at this
      exact this
    · match ts, hl, hmay, h3 with
      | [t1, t2], _, hmay, h3 =>
        have a1 := h3 t1 (List.mem_cons_self)
        have a2 := h3 t2 (List.mem_cons_of_mem _ List.mem_cons_self)
        show rightB numK[4].signs.data.toList [t1.kind, t2.kind] = true
        rw [a1, a2]
        kernel_rfl
  match ts, hl, hmay, hr, hfit with
  | [t1, t2], _, hmay, hr, hfit =>
    have m1 := hmay t1 List.mem_cons_self
    have m2 := hmay t2 (List.mem_cons_of_mem _ List.mem_cons_self)
    have f1 := hfit t1 List.mem_cons_self
    have f2 := hfit t2 (List.mem_cons_of_mem _ List.mem_cons_self)
    have hr' : rightB numK[4].signs.data.toList [t1.kind, t2.kind] = true := hr
    rw [rightN_mod _ _ (kind_five m1) (kind_five m2), Bool.and_eq_true, decide_eq_true_eq, decide_eq_true_eq] at hr'
    obtain ⟨q1, q2⟩ := hr'
    obtain ⟨x, rfl⟩ : ∃ x, t1 = intT x := ⟨_, int_of m1 q1⟩
    obtain ⟨y, rfl⟩ : ∃ y, t2 = intT y := ⟨_, int_of m2 q2⟩
    have hx := fit_int f1
    have hy := fit_int f2
    have hask : askI numR ⟨#[110, 117, 109, 46, 109, 111, 100]⟩ [intT x, intT y] = 0 := by rw [ask_mod, if_pos (show ([intT x, intT y] : List T).length = 2 from rfl), if_pos hmay]
    have hI : IRes (modW x y) := IRes.mod x y
    exact ⟨modW x y, hI.nres, fun w a c hm hp => wk_mod x y hx hy a c w hm hp, fun K d w a c h => rW_num2 ⟨#[110, 117, 109, 46, 109, 111, 100]⟩ a c x y w h hask (by decide) (by decide) _ hI (fun w1 => rwk_mod x y w1 hx hy)⟩
theorem rightN_pow : ∀ k1 k2 : Int, (k1 = 1 ∨ k1 = 2 ∨ k1 = 3 ∨ k1 = 4 ∨ k1 = 5) → (k2 = 1 ∨ k2 = 2 ∨ k2 = 3 ∨ k2 = 4 ∨ k2 = 5) → rightB numK[5].signs.data.toList [k1, k2] = (decide (k1 = 3) && decide (k2 = 3)) := by
  rintro k1 k2 (rfl | rfl | rfl | rfl | rfl) (rfl | rfl | rfl | rfl | rfl) <;> kernel_rfl
theorem askf_pow : numR.find? (strictR ⟨#[110, 117, 109, 46, 112, 111, 119]⟩) = some numR[5] := by kernel_rfl
theorem cnt_pow (n : Nat) : cntOk numK[5] n = decide (n = 2) := by
  unfold cntOk
  show (decide (((2 : Int)) ≤ n) && (decide (((2 : Int)) < 0) || decide ((n : Int) ≤ 2))) = _
  rw [Bool.eq_iff_iff]
  simp only [Bool.and_eq_true, Bool.or_eq_true, decide_eq_true_eq]
  omega
theorem ask_pow (ts : List T) : askI numR ⟨#[110, 117, 109, 46, 112, 111, 119]⟩ ts = if ts.length = 2 then (if ∀ t ∈ ts, t.may then 0 else 1) else 11 := by
  unfold askI
  rw [askf_pow]
  show (if (ts.length : Int) < 2 ∨ (2 : Int) < (ts.length : Int) then (11 : Int) else if ∀ t ∈ ts, t.may then 0 else 1) = _
  by_cases h : ts.length = 2
  · rw [if_neg (by omega), if_pos h]
  · rw [if_pos (by omega), if_neg h]
set_option maxRecDepth 100000 in
theorem both_pow (ts : List T) (hlen : ts.length ≤ 140737488351232) (hfit : ∀ t ∈ ts, t.fitN) : BothN ⟨#[110, 117, 109, 46, 112, 111, 119]⟩ ts := by
  by_cases hl : ts.length = 2
  case neg =>
    have hc : cntOk numK[5] ts.length = false := by rw [cnt_pow]; exact decide_eq_false hl
    refine both_off _ ts 11 hlen (by decide) (by rw [ask_pow, if_neg hl]) (fun k f h1 _ => by
      rw [find_pow] at h1
      obtain rfl := Option.some.inj h1
      exact hc) ?_
    unfold workV
    rw [find_pow]
    show (if cntOk numK[5] ts.length = false then refV 11 else _) = _
    rw [if_pos hc]
  have hct : cntOk numK[5] ts.length = true := by rw [cnt_pow]; exact decide_eq_true hl
  have hent : ∀ k f, kdFind numK ⟨#[110, 117, 109, 46, 112, 111, 119]⟩ = some k → k.does = some f → Enters f := fun k f h1 h2 => by
    rw [find_pow] at h1
    obtain rfl := Option.some.inj h1
    obtain rfl : 55 = f := Option.some.inj h2
    exact ent_pow
  have hwv : ∀ R, workV numK ⟨#[110, 117, 109, 46, 112, 111, 119]⟩ ts R = if ∀ t ∈ ts, t.may then (if rightB numK[5].signs.data.toList (ts.map T.kind) = true then R else refV 20) else refV 1 := fun R => by
    unfold workV
    rw [find_pow]
    show (if cntOk numK[5] ts.length = false then refV 11 else _) = _
    rw [if_neg (by rw [hct]; decide)]
  by_cases hmay : ∀ t ∈ ts, t.may
  case neg =>
    refine ⟨refV 1, NRes.ref (by decide), fun w a c hm hp => ?_, fun K d w a c h => rW_bad _ a c ts w h 1 (by rw [ask_pow, if_pos hl, if_neg hmay]) (by decide)⟩
    refine workN_of _ a ts.length c w _ ⟨_, _, _, rfl⟩ fun w1 tb hx1 ht => ?_
    have := work_any numK tb ⟨#[110, 117, 109, 46, 112, 111, 119]⟩ a c ts (refV 1) w1 (by rw [numLen]; decide) ht (hm.later hx1) (hp.later hx1) (by omega) numJ (fun k f _ _ _ h3 _ => absurd h3 hmay) hent
    rw [hwv, if_neg hmay] at this
    exact this
  by_cases hr : rightB numK[5].signs.data.toList (ts.map T.kind) = true
  case neg =>
    refine ⟨refV 20, NRes.ref (by decide), fun w a c hm hp => ?_, fun K d w a c h => rW_kind _ a c ts w h (by rw [ask_pow, if_pos hl, if_pos hmay]) (fun h3 => hr ?_)⟩
    · refine workN_of _ a ts.length c w _ ⟨_, _, _, rfl⟩ fun w1 tb hx1 ht => ?_
      have := work_any numK tb ⟨#[110, 117, 109, 46, 112, 111, 119]⟩ a c ts (refV 20) w1 (by rw [numLen]; decide) ht (hm.later hx1) (hp.later hx1) (by omega) numJ (fun k f h1 _ _ _ h3 => by
        rw [find_pow] at h1
        obtain rfl := Option.some.inj h1
        exact absurd h3 hr) hent
      rw [hwv, if_pos hmay, if_neg hr] at this
      exact this
    · match ts, hl, hmay, h3 with
      | [t1, t2], _, hmay, h3 =>
        have a1 := h3 t1 (List.mem_cons_self)
        have a2 := h3 t2 (List.mem_cons_of_mem _ List.mem_cons_self)
        show rightB numK[5].signs.data.toList [t1.kind, t2.kind] = true
        rw [a1, a2]
        kernel_rfl
  match ts, hl, hmay, hr, hfit with
  | [t1, t2], _, hmay, hr, hfit =>
    have m1 := hmay t1 List.mem_cons_self
    have m2 := hmay t2 (List.mem_cons_of_mem _ List.mem_cons_self)
    have f1 := hfit t1 List.mem_cons_self
    have f2 := hfit t2 (List.mem_cons_of_mem _ List.mem_cons_self)
    have hr' : rightB numK[5].signs.data.toList [t1.kind, t2.kind] = true := hr
    rw [rightN_pow _ _ (kind_five m1) (kind_five m2), Bool.and_eq_true, decide_eq_true_eq, decide_eq_true_eq] at hr'
    obtain ⟨q1, q2⟩ := hr'
    obtain ⟨x, rfl⟩ : ∃ x, t1 = intT x := ⟨_, int_of m1 q1⟩
    obtain ⟨y, rfl⟩ : ∃ y, t2 = intT y := ⟨_, int_of m2 q2⟩
    have hx := fit_int f1
    have hy := fit_int f2
    have hask : askI numR ⟨#[110, 117, 109, 46, 112, 111, 119]⟩ [intT x, intT y] = 0 := by rw [ask_pow, if_pos (show ([intT x, intT y] : List T).length = 2 from rfl), if_pos hmay]
    have hI : IRes (powV x y) := IRes.pow x y
    exact ⟨powV x y, hI.nres, fun w a c hm hp => wk_pow x y hx hy a c w hm hp, fun K d w a c h => rW_num2 ⟨#[110, 117, 109, 46, 112, 111, 119]⟩ a c x y w h hask (by decide) (by decide) _ hI (fun w1 => rwk_pow x y w1 hx hy)⟩
theorem rightN_neg : ∀ k1 : Int, (k1 = 1 ∨ k1 = 2 ∨ k1 = 3 ∨ k1 = 4 ∨ k1 = 5) → rightB numK[6].signs.data.toList [k1] = decide (k1 = 3) := by
  rintro k1 (rfl | rfl | rfl | rfl | rfl) <;> kernel_rfl
theorem askf_neg : numR.find? (strictR ⟨#[110, 117, 109, 46, 110, 101, 103]⟩) = some numR[6] := by kernel_rfl
theorem cnt_neg (n : Nat) : cntOk numK[6] n = decide (n = 1) := by
  unfold cntOk
  show (decide (((1 : Int)) ≤ n) && (decide (((1 : Int)) < 0) || decide ((n : Int) ≤ 1))) = _
  rw [Bool.eq_iff_iff]
  simp only [Bool.and_eq_true, Bool.or_eq_true, decide_eq_true_eq]
  omega
theorem ask_neg (ts : List T) : askI numR ⟨#[110, 117, 109, 46, 110, 101, 103]⟩ ts = if ts.length = 1 then (if ∀ t ∈ ts, t.may then 0 else 1) else 11 := by
  unfold askI
  rw [askf_neg]
  show (if (ts.length : Int) < 1 ∨ (1 : Int) < (ts.length : Int) then (11 : Int) else if ∀ t ∈ ts, t.may then 0 else 1) = _
  by_cases h : ts.length = 1
  · rw [if_neg (by omega), if_pos h]
  · rw [if_pos (by omega), if_neg h]
set_option maxRecDepth 100000 in
theorem both_neg (ts : List T) (hlen : ts.length ≤ 140737488351232) (hfit : ∀ t ∈ ts, t.fitN) : BothN ⟨#[110, 117, 109, 46, 110, 101, 103]⟩ ts := by
  by_cases hl : ts.length = 1
  case neg =>
    have hc : cntOk numK[6] ts.length = false := by rw [cnt_neg]; exact decide_eq_false hl
    refine both_off _ ts 11 hlen (by decide) (by rw [ask_neg, if_neg hl]) (fun k f h1 _ => by
      rw [find_neg] at h1
      obtain rfl := Option.some.inj h1
      exact hc) ?_
    unfold workV
    rw [find_neg]
    show (if cntOk numK[6] ts.length = false then refV 11 else _) = _
    rw [if_pos hc]
  have hct : cntOk numK[6] ts.length = true := by rw [cnt_neg]; exact decide_eq_true hl
  have hent : ∀ k f, kdFind numK ⟨#[110, 117, 109, 46, 110, 101, 103]⟩ = some k → k.does = some f → Enters f := fun k f h1 h2 => by
    rw [find_neg] at h1
    obtain rfl := Option.some.inj h1
    obtain rfl : 56 = f := Option.some.inj h2
    exact ent_neg
  have hwv : ∀ R, workV numK ⟨#[110, 117, 109, 46, 110, 101, 103]⟩ ts R = if ∀ t ∈ ts, t.may then (if rightB numK[6].signs.data.toList (ts.map T.kind) = true then R else refV 20) else refV 1 := fun R => by
    unfold workV
    rw [find_neg]
    show (if cntOk numK[6] ts.length = false then refV 11 else _) = _
    rw [if_neg (by rw [hct]; decide)]
  by_cases hmay : ∀ t ∈ ts, t.may
  case neg =>
    refine ⟨refV 1, NRes.ref (by decide), fun w a c hm hp => ?_, fun K d w a c h => rW_bad _ a c ts w h 1 (by rw [ask_neg, if_pos hl, if_neg hmay]) (by decide)⟩
    refine workN_of _ a ts.length c w _ ⟨_, _, _, rfl⟩ fun w1 tb hx1 ht => ?_
    have := work_any numK tb ⟨#[110, 117, 109, 46, 110, 101, 103]⟩ a c ts (refV 1) w1 (by rw [numLen]; decide) ht (hm.later hx1) (hp.later hx1) (by omega) numJ (fun k f _ _ _ h3 _ => absurd h3 hmay) hent
    rw [hwv, if_neg hmay] at this
    exact this
  by_cases hr : rightB numK[6].signs.data.toList (ts.map T.kind) = true
  case neg =>
    refine ⟨refV 20, NRes.ref (by decide), fun w a c hm hp => ?_, fun K d w a c h => rW_kind _ a c ts w h (by rw [ask_neg, if_pos hl, if_pos hmay]) (fun h3 => hr ?_)⟩
    · refine workN_of _ a ts.length c w _ ⟨_, _, _, rfl⟩ fun w1 tb hx1 ht => ?_
      have := work_any numK tb ⟨#[110, 117, 109, 46, 110, 101, 103]⟩ a c ts (refV 20) w1 (by rw [numLen]; decide) ht (hm.later hx1) (hp.later hx1) (by omega) numJ (fun k f h1 _ _ _ h3 => by
        rw [find_neg] at h1
        obtain rfl := Option.some.inj h1
        exact absurd h3 hr) hent
      rw [hwv, if_pos hmay, if_neg hr] at this
      exact this
    · match ts, hl, hmay, h3 with
      | [t1], _, hmay, h3 =>
        have a1 := h3 t1 (List.mem_cons_self)
        show rightB numK[6].signs.data.toList [t1.kind] = true
        rw [a1]
        kernel_rfl
  match ts, hl, hmay, hr, hfit with
  | [t1], _, hmay, hr, hfit =>
    have m1 := hmay t1 List.mem_cons_self
    have f1 := hfit t1 List.mem_cons_self
    have hr' : rightB numK[6].signs.data.toList [t1.kind] = true := hr
    rw [rightN_neg _ (kind_five m1), decide_eq_true_eq] at hr'
    obtain ⟨x, rfl⟩ : ∃ x, t1 = intT x := ⟨_, int_of m1 hr'⟩
    have hx := fit_int f1
    have hask : askI numR ⟨#[110, 117, 109, 46, 110, 101, 103]⟩ [intT x] = 0 := by rw [ask_neg, if_pos (show ([intT x] : List T).length = 1 from rfl), if_pos hmay]
    have hI : IRes (negV x) := IRes.neg x
    exact ⟨negV x, hI.nres, fun w a c hm hp => wk_neg x hx a c w hm hp, fun K d w a c h => rW_num1 ⟨#[110, 117, 109, 46, 110, 101, 103]⟩ a c x w h hask (by decide) (by decide) _ hI (fun w1 => rwk_neg x 0 w1 hx)⟩
theorem rightN_abs : ∀ k1 : Int, (k1 = 1 ∨ k1 = 2 ∨ k1 = 3 ∨ k1 = 4 ∨ k1 = 5) → rightB numK[7].signs.data.toList [k1] = decide (k1 = 3) := by
  rintro k1 (rfl | rfl | rfl | rfl | rfl) <;> kernel_rfl
theorem askf_abs : numR.find? (strictR ⟨#[110, 117, 109, 46, 97, 98, 115]⟩) = some numR[7] := by kernel_rfl
theorem cnt_abs (n : Nat) : cntOk numK[7] n = decide (n = 1) := by
  unfold cntOk
  show (decide (((1 : Int)) ≤ n) && (decide (((1 : Int)) < 0) || decide ((n : Int) ≤ 1))) = _
  rw [Bool.eq_iff_iff]
  simp only [Bool.and_eq_true, Bool.or_eq_true, decide_eq_true_eq]
  omega
theorem ask_abs (ts : List T) : askI numR ⟨#[110, 117, 109, 46, 97, 98, 115]⟩ ts = if ts.length = 1 then (if ∀ t ∈ ts, t.may then 0 else 1) else 11 := by
  unfold askI
  rw [askf_abs]
  show (if (ts.length : Int) < 1 ∨ (1 : Int) < (ts.length : Int) then (11 : Int) else if ∀ t ∈ ts, t.may then 0 else 1) = _
  by_cases h : ts.length = 1
  · rw [if_neg (by omega), if_pos h]
  · rw [if_pos (by omega), if_neg h]
set_option maxRecDepth 100000 in
theorem both_abs (ts : List T) (hlen : ts.length ≤ 140737488351232) (hfit : ∀ t ∈ ts, t.fitN) : BothN ⟨#[110, 117, 109, 46, 97, 98, 115]⟩ ts := by
  by_cases hl : ts.length = 1
  case neg =>
    have hc : cntOk numK[7] ts.length = false := by rw [cnt_abs]; exact decide_eq_false hl
    refine both_off _ ts 11 hlen (by decide) (by rw [ask_abs, if_neg hl]) (fun k f h1 _ => by
      rw [find_abs] at h1
      obtain rfl := Option.some.inj h1
      exact hc) ?_
    unfold workV
    rw [find_abs]
    show (if cntOk numK[7] ts.length = false then refV 11 else _) = _
    rw [if_pos hc]
  have hct : cntOk numK[7] ts.length = true := by rw [cnt_abs]; exact decide_eq_true hl
  have hent : ∀ k f, kdFind numK ⟨#[110, 117, 109, 46, 97, 98, 115]⟩ = some k → k.does = some f → Enters f := fun k f h1 h2 => by
    rw [find_abs] at h1
    obtain rfl := Option.some.inj h1
    obtain rfl : 57 = f := Option.some.inj h2
    exact ent_abs
  have hwv : ∀ R, workV numK ⟨#[110, 117, 109, 46, 97, 98, 115]⟩ ts R = if ∀ t ∈ ts, t.may then (if rightB numK[7].signs.data.toList (ts.map T.kind) = true then R else refV 20) else refV 1 := fun R => by
    unfold workV
    rw [find_abs]
    show (if cntOk numK[7] ts.length = false then refV 11 else _) = _
    rw [if_neg (by rw [hct]; decide)]
  by_cases hmay : ∀ t ∈ ts, t.may
  case neg =>
    refine ⟨refV 1, NRes.ref (by decide), fun w a c hm hp => ?_, fun K d w a c h => rW_bad _ a c ts w h 1 (by rw [ask_abs, if_pos hl, if_neg hmay]) (by decide)⟩
    refine workN_of _ a ts.length c w _ ⟨_, _, _, rfl⟩ fun w1 tb hx1 ht => ?_
    have := work_any numK tb ⟨#[110, 117, 109, 46, 97, 98, 115]⟩ a c ts (refV 1) w1 (by rw [numLen]; decide) ht (hm.later hx1) (hp.later hx1) (by omega) numJ (fun k f _ _ _ h3 _ => absurd h3 hmay) hent
    rw [hwv, if_neg hmay] at this
    exact this
  by_cases hr : rightB numK[7].signs.data.toList (ts.map T.kind) = true
  case neg =>
    refine ⟨refV 20, NRes.ref (by decide), fun w a c hm hp => ?_, fun K d w a c h => rW_kind _ a c ts w h (by rw [ask_abs, if_pos hl, if_pos hmay]) (fun h3 => hr ?_)⟩
    · refine workN_of _ a ts.length c w _ ⟨_, _, _, rfl⟩ fun w1 tb hx1 ht => ?_
      have := work_any numK tb ⟨#[110, 117, 109, 46, 97, 98, 115]⟩ a c ts (refV 20) w1 (by rw [numLen]; decide) ht (hm.later hx1) (hp.later hx1) (by omega) numJ (fun k f h1 _ _ _ h3 => by
        rw [find_abs] at h1
        obtain rfl := Option.some.inj h1
        exact absurd h3 hr) hent
      rw [hwv, if_pos hmay, if_neg hr] at this
      exact this
    · match ts, hl, hmay, h3 with
      | [t1], _, hmay, h3 =>
        have a1 := h3 t1 (List.mem_cons_self)
        show rightB numK[7].signs.data.toList [t1.kind] = true
        rw [a1]
        kernel_rfl
  match ts, hl, hmay, hr, hfit with
  | [t1], _, hmay, hr, hfit =>
    have m1 := hmay t1 List.mem_cons_self
    have f1 := hfit t1 List.mem_cons_self
    have hr' : rightB numK[7].signs.data.toList [t1.kind] = true := hr
    rw [rightN_abs _ (kind_five m1), decide_eq_true_eq] at hr'
    obtain ⟨x, rfl⟩ : ∃ x, t1 = intT x := ⟨_, int_of m1 hr'⟩
    have hx := fit_int f1
    have hask : askI numR ⟨#[110, 117, 109, 46, 97, 98, 115]⟩ [intT x] = 0 := by rw [ask_abs, if_pos (show ([intT x] : List T).length = 1 from rfl), if_pos hmay]
    have hI : IRes (absV x) := IRes.abs x
    exact ⟨absV x, hI.nres, fun w a c hm hp => wk_abs x hx a c w hm hp, fun K d w a c h => rW_num1 ⟨#[110, 117, 109, 46, 97, 98, 115]⟩ a c x w h hask (by decide) (by decide) _ hI (fun w1 => rwk_abs x 0 w1 hx)⟩
theorem rightN_min : ∀ k1 k2 : Int, (k1 = 1 ∨ k1 = 2 ∨ k1 = 3 ∨ k1 = 4 ∨ k1 = 5) → (k2 = 1 ∨ k2 = 2 ∨ k2 = 3 ∨ k2 = 4 ∨ k2 = 5) → rightB numK[8].signs.data.toList [k1, k2] = (decide (k1 = 3) && decide (k2 = 3)) := by
  rintro k1 k2 (rfl | rfl | rfl | rfl | rfl) (rfl | rfl | rfl | rfl | rfl) <;> kernel_rfl
theorem askf_min : numR.find? (strictR ⟨#[110, 117, 109, 46, 109, 105, 110]⟩) = some numR[8] := by kernel_rfl
theorem cnt_min (n : Nat) : cntOk numK[8] n = decide (n = 2) := by
  unfold cntOk
  show (decide (((2 : Int)) ≤ n) && (decide (((2 : Int)) < 0) || decide ((n : Int) ≤ 2))) = _
  rw [Bool.eq_iff_iff]
  simp only [Bool.and_eq_true, Bool.or_eq_true, decide_eq_true_eq]
  omega
theorem ask_min (ts : List T) : askI numR ⟨#[110, 117, 109, 46, 109, 105, 110]⟩ ts = if ts.length = 2 then (if ∀ t ∈ ts, t.may then 0 else 1) else 11 := by
  unfold askI
  rw [askf_min]
  show (if (ts.length : Int) < 2 ∨ (2 : Int) < (ts.length : Int) then (11 : Int) else if ∀ t ∈ ts, t.may then 0 else 1) = _
  by_cases h : ts.length = 2
  · rw [if_neg (by omega), if_pos h]
  · rw [if_pos (by omega), if_neg h]
set_option maxRecDepth 100000 in
theorem both_min (ts : List T) (hlen : ts.length ≤ 140737488351232) (hfit : ∀ t ∈ ts, t.fitN) : BothN ⟨#[110, 117, 109, 46, 109, 105, 110]⟩ ts := by
  by_cases hl : ts.length = 2
  case neg =>
    have hc : cntOk numK[8] ts.length = false := by rw [cnt_min]; exact decide_eq_false hl
    refine both_off _ ts 11 hlen (by decide) (by rw [ask_min, if_neg hl]) (fun k f h1 _ => by
      rw [find_min] at h1
      obtain rfl := Option.some.inj h1
      exact hc) ?_
    unfold workV
    rw [find_min]
    show (if cntOk numK[8] ts.length = false then refV 11 else _) = _
    rw [if_pos hc]
  have hct : cntOk numK[8] ts.length = true := by rw [cnt_min]; exact decide_eq_true hl
  have hent : ∀ k f, kdFind numK ⟨#[110, 117, 109, 46, 109, 105, 110]⟩ = some k → k.does = some f → Enters f := fun k f h1 h2 => by
    rw [find_min] at h1
    obtain rfl := Option.some.inj h1
    obtain rfl : 59 = f := Option.some.inj h2
    exact ent_min
  have hwv : ∀ R, workV numK ⟨#[110, 117, 109, 46, 109, 105, 110]⟩ ts R = if ∀ t ∈ ts, t.may then (if rightB numK[8].signs.data.toList (ts.map T.kind) = true then R else refV 20) else refV 1 := fun R => by
    unfold workV
    rw [find_min]
    show (if cntOk numK[8] ts.length = false then refV 11 else _) = _
    rw [if_neg (by rw [hct]; decide)]
  by_cases hmay : ∀ t ∈ ts, t.may
  case neg =>
    refine ⟨refV 1, NRes.ref (by decide), fun w a c hm hp => ?_, fun K d w a c h => rW_bad _ a c ts w h 1 (by rw [ask_min, if_pos hl, if_neg hmay]) (by decide)⟩
    refine workN_of _ a ts.length c w _ ⟨_, _, _, rfl⟩ fun w1 tb hx1 ht => ?_
    have := work_any numK tb ⟨#[110, 117, 109, 46, 109, 105, 110]⟩ a c ts (refV 1) w1 (by rw [numLen]; decide) ht (hm.later hx1) (hp.later hx1) (by omega) numJ (fun k f _ _ _ h3 _ => absurd h3 hmay) hent
    rw [hwv, if_neg hmay] at this
    exact this
  by_cases hr : rightB numK[8].signs.data.toList (ts.map T.kind) = true
  case neg =>
    refine ⟨refV 20, NRes.ref (by decide), fun w a c hm hp => ?_, fun K d w a c h => rW_kind _ a c ts w h (by rw [ask_min, if_pos hl, if_pos hmay]) (fun h3 => hr ?_)⟩
    · refine workN_of _ a ts.length c w _ ⟨_, _, _, rfl⟩ fun w1 tb hx1 ht => ?_
      have := work_any numK tb ⟨#[110, 117, 109, 46, 109, 105, 110]⟩ a c ts (refV 20) w1 (by rw [numLen]; decide) ht (hm.later hx1) (hp.later hx1) (by omega) numJ (fun k f h1 _ _ _ h3 => by
        rw [find_min] at h1
        obtain rfl := Option.some.inj h1
        exact absurd h3 hr) hent
      rw [hwv, if_pos hmay, if_neg hr] at this
      exact this
    · match ts, hl, hmay, h3 with
      | [t1, t2], _, hmay, h3 =>
        have a1 := h3 t1 (List.mem_cons_self)
        have a2 := h3 t2 (List.mem_cons_of_mem _ List.mem_cons_self)
        show rightB numK[8].signs.data.toList [t1.kind, t2.kind] = true
        rw [a1, a2]
        kernel_rfl
  match ts, hl, hmay, hr, hfit with
  | [t1, t2], _, hmay, hr, hfit =>
    have m1 := hmay t1 List.mem_cons_self
    have m2 := hmay t2 (List.mem_cons_of_mem _ List.mem_cons_self)
    have f1 := hfit t1 List.mem_cons_self
    have f2 := hfit t2 (List.mem_cons_of_mem _ List.mem_cons_self)
    have hr' : rightB numK[8].signs.data.toList [t1.kind, t2.kind] = true := hr
    rw [rightN_min _ _ (kind_five m1) (kind_five m2), Bool.and_eq_true, decide_eq_true_eq, decide_eq_true_eq] at hr'
    obtain ⟨q1, q2⟩ := hr'
    obtain ⟨x, rfl⟩ : ∃ x, t1 = intT x := ⟨_, int_of m1 q1⟩
    obtain ⟨y, rfl⟩ : ∃ y, t2 = intT y := ⟨_, int_of m2 q2⟩
    have hx := fit_int f1
    have hy := fit_int f2
    have hask : askI numR ⟨#[110, 117, 109, 46, 109, 105, 110]⟩ [intT x, intT y] = 0 := by rw [ask_min, if_pos (show ([intT x, intT y] : List T).length = 2 from rfl), if_pos hmay]
    have hI : IRes (cameV (min x y)) := .inl ⟨_, rfl⟩
    exact ⟨cameV (min x y), hI.nres, fun w a c hm hp => wk_min x y hx hy a c w hm hp, fun K d w a c h => rW_num2 ⟨#[110, 117, 109, 46, 109, 105, 110]⟩ a c x y w h hask (by decide) (by decide) _ hI (fun w1 => rwk_min x y w1)⟩
theorem rightN_max : ∀ k1 k2 : Int, (k1 = 1 ∨ k1 = 2 ∨ k1 = 3 ∨ k1 = 4 ∨ k1 = 5) → (k2 = 1 ∨ k2 = 2 ∨ k2 = 3 ∨ k2 = 4 ∨ k2 = 5) → rightB numK[9].signs.data.toList [k1, k2] = (decide (k1 = 3) && decide (k2 = 3)) := by
  rintro k1 k2 (rfl | rfl | rfl | rfl | rfl) (rfl | rfl | rfl | rfl | rfl) <;> kernel_rfl
theorem askf_max : numR.find? (strictR ⟨#[110, 117, 109, 46, 109, 97, 120]⟩) = some numR[9] := by kernel_rfl
theorem cnt_max (n : Nat) : cntOk numK[9] n = decide (n = 2) := by
  unfold cntOk
  show (decide (((2 : Int)) ≤ n) && (decide (((2 : Int)) < 0) || decide ((n : Int) ≤ 2))) = _
  rw [Bool.eq_iff_iff]
  simp only [Bool.and_eq_true, Bool.or_eq_true, decide_eq_true_eq]
  omega
theorem ask_max (ts : List T) : askI numR ⟨#[110, 117, 109, 46, 109, 97, 120]⟩ ts = if ts.length = 2 then (if ∀ t ∈ ts, t.may then 0 else 1) else 11 := by
  unfold askI
  rw [askf_max]
  show (if (ts.length : Int) < 2 ∨ (2 : Int) < (ts.length : Int) then (11 : Int) else if ∀ t ∈ ts, t.may then 0 else 1) = _
  by_cases h : ts.length = 2
  · rw [if_neg (by omega), if_pos h]
  · rw [if_pos (by omega), if_neg h]
set_option maxRecDepth 100000 in
theorem both_max (ts : List T) (hlen : ts.length ≤ 140737488351232) (hfit : ∀ t ∈ ts, t.fitN) : BothN ⟨#[110, 117, 109, 46, 109, 97, 120]⟩ ts := by
  by_cases hl : ts.length = 2
  case neg =>
    have hc : cntOk numK[9] ts.length = false := by rw [cnt_max]; exact decide_eq_false hl
    refine both_off _ ts 11 hlen (by decide) (by rw [ask_max, if_neg hl]) (fun k f h1 _ => by
      rw [find_max] at h1
      obtain rfl := Option.some.inj h1
      exact hc) ?_
    unfold workV
    rw [find_max]
    show (if cntOk numK[9] ts.length = false then refV 11 else _) = _
    rw [if_pos hc]
  have hct : cntOk numK[9] ts.length = true := by rw [cnt_max]; exact decide_eq_true hl
  have hent : ∀ k f, kdFind numK ⟨#[110, 117, 109, 46, 109, 97, 120]⟩ = some k → k.does = some f → Enters f := fun k f h1 h2 => by
    rw [find_max] at h1
    obtain rfl := Option.some.inj h1
    obtain rfl : 60 = f := Option.some.inj h2
    exact ent_max
  have hwv : ∀ R, workV numK ⟨#[110, 117, 109, 46, 109, 97, 120]⟩ ts R = if ∀ t ∈ ts, t.may then (if rightB numK[9].signs.data.toList (ts.map T.kind) = true then R else refV 20) else refV 1 := fun R => by
    unfold workV
    rw [find_max]
    show (if cntOk numK[9] ts.length = false then refV 11 else _) = _
    rw [if_neg (by rw [hct]; decide)]
  by_cases hmay : ∀ t ∈ ts, t.may
  case neg =>
    refine ⟨refV 1, NRes.ref (by decide), fun w a c hm hp => ?_, fun K d w a c h => rW_bad _ a c ts w h 1 (by rw [ask_max, if_pos hl, if_neg hmay]) (by decide)⟩
    refine workN_of _ a ts.length c w _ ⟨_, _, _, rfl⟩ fun w1 tb hx1 ht => ?_
    have := work_any numK tb ⟨#[110, 117, 109, 46, 109, 97, 120]⟩ a c ts (refV 1) w1 (by rw [numLen]; decide) ht (hm.later hx1) (hp.later hx1) (by omega) numJ (fun k f _ _ _ h3 _ => absurd h3 hmay) hent
    rw [hwv, if_neg hmay] at this
    exact this
  by_cases hr : rightB numK[9].signs.data.toList (ts.map T.kind) = true
  case neg =>
    refine ⟨refV 20, NRes.ref (by decide), fun w a c hm hp => ?_, fun K d w a c h => rW_kind _ a c ts w h (by rw [ask_max, if_pos hl, if_pos hmay]) (fun h3 => hr ?_)⟩
    · refine workN_of _ a ts.length c w _ ⟨_, _, _, rfl⟩ fun w1 tb hx1 ht => ?_
      have := work_any numK tb ⟨#[110, 117, 109, 46, 109, 97, 120]⟩ a c ts (refV 20) w1 (by rw [numLen]; decide) ht (hm.later hx1) (hp.later hx1) (by omega) numJ (fun k f h1 _ _ _ h3 => by
        rw [find_max] at h1
        obtain rfl := Option.some.inj h1
        exact absurd h3 hr) hent
      rw [hwv, if_pos hmay, if_neg hr] at this
      exact this
    · match ts, hl, hmay, h3 with
      | [t1, t2], _, hmay, h3 =>
        have a1 := h3 t1 (List.mem_cons_self)
        have a2 := h3 t2 (List.mem_cons_of_mem _ List.mem_cons_self)
        show rightB numK[9].signs.data.toList [t1.kind, t2.kind] = true
        rw [a1, a2]
        kernel_rfl
  match ts, hl, hmay, hr, hfit with
  | [t1, t2], _, hmay, hr, hfit =>
    have m1 := hmay t1 List.mem_cons_self
    have m2 := hmay t2 (List.mem_cons_of_mem _ List.mem_cons_self)
    have f1 := hfit t1 List.mem_cons_self
    have f2 := hfit t2 (List.mem_cons_of_mem _ List.mem_cons_self)
    have hr' : rightB numK[9].signs.data.toList [t1.kind, t2.kind] = true := hr
    rw [rightN_max _ _ (kind_five m1) (kind_five m2), Bool.and_eq_true, decide_eq_true_eq, decide_eq_true_eq] at hr'
    obtain ⟨q1, q2⟩ := hr'
    obtain ⟨x, rfl⟩ : ∃ x, t1 = intT x := ⟨_, int_of m1 q1⟩
    obtain ⟨y, rfl⟩ : ∃ y, t2 = intT y := ⟨_, int_of m2 q2⟩
    have hx := fit_int f1
    have hy := fit_int f2
    have hask : askI numR ⟨#[110, 117, 109, 46, 109, 97, 120]⟩ [intT x, intT y] = 0 := by rw [ask_max, if_pos (show ([intT x, intT y] : List T).length = 2 from rfl), if_pos hmay]
    have hI : IRes (cameV (max x y)) := .inl ⟨_, rfl⟩
    exact ⟨cameV (max x y), hI.nres, fun w a c hm hp => wk_max x y hx hy a c w hm hp, fun K d w a c h => rW_num2 ⟨#[110, 117, 109, 46, 109, 97, 120]⟩ a c x y w h hask (by decide) (by decide) _ hI (fun w1 => rwk_max x y w1)⟩
theorem rightN_less : ∀ k1 k2 : Int, (k1 = 1 ∨ k1 = 2 ∨ k1 = 3 ∨ k1 = 4 ∨ k1 = 5) → (k2 = 1 ∨ k2 = 2 ∨ k2 = 3 ∨ k2 = 4 ∨ k2 = 5) → rightB numK[10].signs.data.toList [k1, k2] = (decide (k1 = 3) && decide (k2 = 3)) := by
  rintro k1 k2 (rfl | rfl | rfl | rfl | rfl) (rfl | rfl | rfl | rfl | rfl) <;> kernel_rfl
theorem askf_less : numR.find? (strictR ⟨#[110, 117, 109, 46, 108, 101, 115, 115]⟩) = some numR[10] := by kernel_rfl
theorem cnt_less (n : Nat) : cntOk numK[10] n = decide (n = 2) := by
  unfold cntOk
  show (decide (((2 : Int)) ≤ n) && (decide (((2 : Int)) < 0) || decide ((n : Int) ≤ 2))) = _
  rw [Bool.eq_iff_iff]
  simp only [Bool.and_eq_true, Bool.or_eq_true, decide_eq_true_eq]
  omega
theorem ask_less (ts : List T) : askI numR ⟨#[110, 117, 109, 46, 108, 101, 115, 115]⟩ ts = if ts.length = 2 then (if ∀ t ∈ ts, t.may then 0 else 1) else 11 := by
  unfold askI
  rw [askf_less]
  show (if (ts.length : Int) < 2 ∨ (2 : Int) < (ts.length : Int) then (11 : Int) else if ∀ t ∈ ts, t.may then 0 else 1) = _
  by_cases h : ts.length = 2
  · rw [if_neg (by omega), if_pos h]
  · rw [if_pos (by omega), if_neg h]
set_option maxRecDepth 100000 in
theorem both_less (ts : List T) (hlen : ts.length ≤ 140737488351232) (hfit : ∀ t ∈ ts, t.fitN) : BothN ⟨#[110, 117, 109, 46, 108, 101, 115, 115]⟩ ts := by
  by_cases hl : ts.length = 2
  case neg =>
    have hc : cntOk numK[10] ts.length = false := by rw [cnt_less]; exact decide_eq_false hl
    refine both_off _ ts 11 hlen (by decide) (by rw [ask_less, if_neg hl]) (fun k f h1 _ => by
      rw [find_less] at h1
      obtain rfl := Option.some.inj h1
      exact hc) ?_
    unfold workV
    rw [find_less]
    show (if cntOk numK[10] ts.length = false then refV 11 else _) = _
    rw [if_pos hc]
  have hct : cntOk numK[10] ts.length = true := by rw [cnt_less]; exact decide_eq_true hl
  have hent : ∀ k f, kdFind numK ⟨#[110, 117, 109, 46, 108, 101, 115, 115]⟩ = some k → k.does = some f → Enters f := fun k f h1 h2 => by
    rw [find_less] at h1
    obtain rfl := Option.some.inj h1
    obtain rfl : 61 = f := Option.some.inj h2
    exact ent_less
  have hwv : ∀ R, workV numK ⟨#[110, 117, 109, 46, 108, 101, 115, 115]⟩ ts R = if ∀ t ∈ ts, t.may then (if rightB numK[10].signs.data.toList (ts.map T.kind) = true then R else refV 20) else refV 1 := fun R => by
    unfold workV
    rw [find_less]
    show (if cntOk numK[10] ts.length = false then refV 11 else _) = _
    rw [if_neg (by rw [hct]; decide)]
  by_cases hmay : ∀ t ∈ ts, t.may
  case neg =>
    refine ⟨refV 1, NRes.ref (by decide), fun w a c hm hp => ?_, fun K d w a c h => rW_bad _ a c ts w h 1 (by rw [ask_less, if_pos hl, if_neg hmay]) (by decide)⟩
    refine workN_of _ a ts.length c w _ ⟨_, _, _, rfl⟩ fun w1 tb hx1 ht => ?_
    have := work_any numK tb ⟨#[110, 117, 109, 46, 108, 101, 115, 115]⟩ a c ts (refV 1) w1 (by rw [numLen]; decide) ht (hm.later hx1) (hp.later hx1) (by omega) numJ (fun k f _ _ _ h3 _ => absurd h3 hmay) hent
    rw [hwv, if_neg hmay] at this
    exact this
  by_cases hr : rightB numK[10].signs.data.toList (ts.map T.kind) = true
  case neg =>
    refine ⟨refV 20, NRes.ref (by decide), fun w a c hm hp => ?_, fun K d w a c h => rW_kind _ a c ts w h (by rw [ask_less, if_pos hl, if_pos hmay]) (fun h3 => hr ?_)⟩
    · refine workN_of _ a ts.length c w _ ⟨_, _, _, rfl⟩ fun w1 tb hx1 ht => ?_
      have := work_any numK tb ⟨#[110, 117, 109, 46, 108, 101, 115, 115]⟩ a c ts (refV 20) w1 (by rw [numLen]; decide) ht (hm.later hx1) (hp.later hx1) (by omega) numJ (fun k f h1 _ _ _ h3 => by
        rw [find_less] at h1
        obtain rfl := Option.some.inj h1
        exact absurd h3 hr) hent
      rw [hwv, if_pos hmay, if_neg hr] at this
      exact this
    · match ts, hl, hmay, h3 with
      | [t1, t2], _, hmay, h3 =>
        have a1 := h3 t1 (List.mem_cons_self)
        have a2 := h3 t2 (List.mem_cons_of_mem _ List.mem_cons_self)
        show rightB numK[10].signs.data.toList [t1.kind, t2.kind] = true
        rw [a1, a2]
        kernel_rfl
  match ts, hl, hmay, hr, hfit with
  | [t1, t2], _, hmay, hr, hfit =>
    have m1 := hmay t1 List.mem_cons_self
    have m2 := hmay t2 (List.mem_cons_of_mem _ List.mem_cons_self)
    have f1 := hfit t1 List.mem_cons_self
    have f2 := hfit t2 (List.mem_cons_of_mem _ List.mem_cons_self)
    have hr' : rightB numK[10].signs.data.toList [t1.kind, t2.kind] = true := hr
    rw [rightN_less _ _ (kind_five m1) (kind_five m2), Bool.and_eq_true, decide_eq_true_eq, decide_eq_true_eq] at hr'
    obtain ⟨q1, q2⟩ := hr'
    obtain ⟨x, rfl⟩ : ∃ x, t1 = intT x := ⟨_, int_of m1 q1⟩
    obtain ⟨y, rfl⟩ : ∃ y, t2 = intT y := ⟨_, int_of m2 q2⟩
    have hx := fit_int f1
    have hy := fit_int f2
    have hask : askI numR ⟨#[110, 117, 109, 46, 108, 101, 115, 115]⟩ [intT x, intT y] = 0 := by rw [ask_less, if_pos (show ([intT x, intT y] : List T).length = 2 from rfl), if_pos hmay]
    exact ⟨toldV (decide (x < y)), NRes.told _, fun w a c hm hp => wk_less x y hx hy a c w hm hp, fun K d w a c h => rW_less2 a c x y w h hask⟩
theorem rightN_most : ∀ k1 k2 : Int, (k1 = 1 ∨ k1 = 2 ∨ k1 = 3 ∨ k1 = 4 ∨ k1 = 5) → (k2 = 1 ∨ k2 = 2 ∨ k2 = 3 ∨ k2 = 4 ∨ k2 = 5) → rightB numK[11].signs.data.toList [k1, k2] = (decide (k1 = 3) && decide (k2 = 3)) := by
  rintro k1 k2 (rfl | rfl | rfl | rfl | rfl) (rfl | rfl | rfl | rfl | rfl) <;> kernel_rfl
theorem askf_most : numR.find? (strictR ⟨#[110, 117, 109, 46, 109, 111, 115, 116]⟩) = some numR[11] := by kernel_rfl
theorem cnt_most (n : Nat) : cntOk numK[11] n = decide (n = 2) := by
  unfold cntOk
  show (decide (((2 : Int)) ≤ n) && (decide (((2 : Int)) < 0) || decide ((n : Int) ≤ 2))) = _
  rw [Bool.eq_iff_iff]
  simp only [Bool.and_eq_true, Bool.or_eq_true, decide_eq_true_eq]
  omega
theorem ask_most (ts : List T) : askI numR ⟨#[110, 117, 109, 46, 109, 111, 115, 116]⟩ ts = if ts.length = 2 then (if ∀ t ∈ ts, t.may then 0 else 1) else 11 := by
  unfold askI
  rw [askf_most]
  show (if (ts.length : Int) < 2 ∨ (2 : Int) < (ts.length : Int) then (11 : Int) else if ∀ t ∈ ts, t.may then 0 else 1) = _
  by_cases h : ts.length = 2
  · rw [if_neg (by omega), if_pos h]
  · rw [if_pos (by omega), if_neg h]
set_option maxRecDepth 100000 in
theorem both_most (ts : List T) (hlen : ts.length ≤ 140737488351232) (hfit : ∀ t ∈ ts, t.fitN) : BothN ⟨#[110, 117, 109, 46, 109, 111, 115, 116]⟩ ts := by
  by_cases hl : ts.length = 2
  case neg =>
    have hc : cntOk numK[11] ts.length = false := by rw [cnt_most]; exact decide_eq_false hl
    refine both_off _ ts 11 hlen (by decide) (by rw [ask_most, if_neg hl]) (fun k f h1 _ => by
      rw [find_most] at h1
      obtain rfl := Option.some.inj h1
      exact hc) ?_
    unfold workV
    rw [find_most]
    show (if cntOk numK[11] ts.length = false then refV 11 else _) = _
    rw [if_pos hc]
  have hct : cntOk numK[11] ts.length = true := by rw [cnt_most]; exact decide_eq_true hl
  have hent : ∀ k f, kdFind numK ⟨#[110, 117, 109, 46, 109, 111, 115, 116]⟩ = some k → k.does = some f → Enters f := fun k f h1 h2 => by
    rw [find_most] at h1
    obtain rfl := Option.some.inj h1
    obtain rfl : 62 = f := Option.some.inj h2
    exact ent_most
  have hwv : ∀ R, workV numK ⟨#[110, 117, 109, 46, 109, 111, 115, 116]⟩ ts R = if ∀ t ∈ ts, t.may then (if rightB numK[11].signs.data.toList (ts.map T.kind) = true then R else refV 20) else refV 1 := fun R => by
    unfold workV
    rw [find_most]
    show (if cntOk numK[11] ts.length = false then refV 11 else _) = _
    rw [if_neg (by rw [hct]; decide)]
  by_cases hmay : ∀ t ∈ ts, t.may
  case neg =>
    refine ⟨refV 1, NRes.ref (by decide), fun w a c hm hp => ?_, fun K d w a c h => rW_bad _ a c ts w h 1 (by rw [ask_most, if_pos hl, if_neg hmay]) (by decide)⟩
    refine workN_of _ a ts.length c w _ ⟨_, _, _, rfl⟩ fun w1 tb hx1 ht => ?_
    have := work_any numK tb ⟨#[110, 117, 109, 46, 109, 111, 115, 116]⟩ a c ts (refV 1) w1 (by rw [numLen]; decide) ht (hm.later hx1) (hp.later hx1) (by omega) numJ (fun k f _ _ _ h3 _ => absurd h3 hmay) hent
    rw [hwv, if_neg hmay] at this
    exact this
  by_cases hr : rightB numK[11].signs.data.toList (ts.map T.kind) = true
  case neg =>
    refine ⟨refV 20, NRes.ref (by decide), fun w a c hm hp => ?_, fun K d w a c h => rW_kind _ a c ts w h (by rw [ask_most, if_pos hl, if_pos hmay]) (fun h3 => hr ?_)⟩
    · refine workN_of _ a ts.length c w _ ⟨_, _, _, rfl⟩ fun w1 tb hx1 ht => ?_
      have := work_any numK tb ⟨#[110, 117, 109, 46, 109, 111, 115, 116]⟩ a c ts (refV 20) w1 (by rw [numLen]; decide) ht (hm.later hx1) (hp.later hx1) (by omega) numJ (fun k f h1 _ _ _ h3 => by
        rw [find_most] at h1
        obtain rfl := Option.some.inj h1
        exact absurd h3 hr) hent
      rw [hwv, if_pos hmay, if_neg hr] at this
      exact this
    · match ts, hl, hmay, h3 with
      | [t1, t2], _, hmay, h3 =>
        have a1 := h3 t1 (List.mem_cons_self)
        have a2 := h3 t2 (List.mem_cons_of_mem _ List.mem_cons_self)
        show rightB numK[11].signs.data.toList [t1.kind, t2.kind] = true
        rw [a1, a2]
        kernel_rfl
  match ts, hl, hmay, hr, hfit with
  | [t1, t2], _, hmay, hr, hfit =>
    have m1 := hmay t1 List.mem_cons_self
    have m2 := hmay t2 (List.mem_cons_of_mem _ List.mem_cons_self)
    have f1 := hfit t1 List.mem_cons_self
    have f2 := hfit t2 (List.mem_cons_of_mem _ List.mem_cons_self)
    have hr' : rightB numK[11].signs.data.toList [t1.kind, t2.kind] = true := hr
    rw [rightN_most _ _ (kind_five m1) (kind_five m2), Bool.and_eq_true, decide_eq_true_eq, decide_eq_true_eq] at hr'
    obtain ⟨q1, q2⟩ := hr'
    obtain ⟨x, rfl⟩ : ∃ x, t1 = intT x := ⟨_, int_of m1 q1⟩
    obtain ⟨y, rfl⟩ : ∃ y, t2 = intT y := ⟨_, int_of m2 q2⟩
    have hx := fit_int f1
    have hy := fit_int f2
    have hask : askI numR ⟨#[110, 117, 109, 46, 109, 111, 115, 116]⟩ [intT x, intT y] = 0 := by rw [ask_most, if_pos (show ([intT x, intT y] : List T).length = 2 from rfl), if_pos hmay]
    exact ⟨toldV (decide (x ≤ y)), NRes.told _, fun w a c hm hp => wk_most x y hx hy a c w hm hp, fun K d w a c h => rW_most2 a c x y w h hask⟩
theorem numK_at (op : ByteArray) (k : Kd) (h : kdFind numK op = some k) : ∃ i, ∃ (hi : i < 15), k = numK[i] ∧ op = numK[i].name := by
  have h1 := List.mem_of_find?_eq_some h
  have h2 := List.find?_some h
  obtain ⟨i, hi, rfl⟩ := List.getElem_of_mem h1
  exact ⟨i, by rw [numLen] at hi; exact hi, rfl, (of_decide_eq_true h2).symm⟩
theorem numR_at (op : ByteArray) (r : Rw) (h : numR.find? (strictR op) = some r) : ∃ i, ∃ (hi : i < 15), r = numR[i] ∧ op = numR[i].kind ∧ hasS ⟨#[83, 116, 114, 105, 99, 116]⟩ numR[i].abs = true := by
  have h1 := List.mem_of_find?_eq_some h
  have h2 := List.find?_some h
  obtain ⟨i, hi, rfl⟩ := List.getElem_of_mem h1
  unfold strictR at h2
  rw [Bool.and_eq_true, decide_eq_true_eq] at h2
  exact ⟨i, hi, rfl, h2.1.symm, h2.2⟩
set_option maxRecDepth 100000 in
theorem both_all (op : ByteArray) (ts : List T) (hlen : ts.length ≤ 140737488351232) (hfit : ∀ t ∈ ts, t.fitN) : BothN op ts := by
  by_cases c0 : op = ⟨#[110, 117, 109, 46, 97, 100, 100]⟩
  · rw [c0]; exact both_add ts hlen hfit
  by_cases c1 : op = ⟨#[110, 117, 109, 46, 115, 117, 98]⟩
  · rw [c1]; exact both_sub ts hlen hfit
  by_cases c2 : op = ⟨#[110, 117, 109, 46, 109, 117, 108]⟩
  · rw [c2]; exact both_mul ts hlen hfit
  by_cases c3 : op = ⟨#[110, 117, 109, 46, 113, 117, 111]⟩
  · rw [c3]; exact both_quo ts hlen hfit
  by_cases c4 : op = ⟨#[110, 117, 109, 46, 109, 111, 100]⟩
  · rw [c4]; exact both_mod ts hlen hfit
  by_cases c5 : op = ⟨#[110, 117, 109, 46, 112, 111, 119]⟩
  · rw [c5]; exact both_pow ts hlen hfit
  by_cases c6 : op = ⟨#[110, 117, 109, 46, 110, 101, 103]⟩
  · rw [c6]; exact both_neg ts hlen hfit
  by_cases c7 : op = ⟨#[110, 117, 109, 46, 97, 98, 115]⟩
  · rw [c7]; exact both_abs ts hlen hfit
  by_cases c8 : op = ⟨#[110, 117, 109, 46, 109, 105, 110]⟩
  · rw [c8]; exact both_min ts hlen hfit
  by_cases c9 : op = ⟨#[110, 117, 109, 46, 109, 97, 120]⟩
  · rw [c9]; exact both_max ts hlen hfit
  by_cases c10 : op = ⟨#[110, 117, 109, 46, 108, 101, 115, 115]⟩
  · rw [c10]; exact both_less ts hlen hfit
  by_cases c11 : op = ⟨#[110, 117, 109, 46, 109, 111, 115, 116]⟩
  · rw [c11]; exact both_most ts hlen hfit
  have hk : ∀ k f, kdFind numK op = some k → k.does = some f → False := fun k f h1 h2 => by
    obtain ⟨i, hi, rfl, hop⟩ := numK_at op k h1
    match i, hi with
    | 0, _ => exact c0 hop
    | 1, _ => exact c1 hop
    | 2, _ => exact c2 hop
    | 3, _ => exact c3 hop
    | 4, _ => exact c4 hop
    | 5, _ => exact c5 hop
    | 6, _ => exact c6 hop
    | 7, _ => exact c7 hop
    | 8, _ => exact c8 hop
    | 9, _ => exact c9 hop
    | 10, _ => exact c10 hop
    | 11, _ => exact c11 hop
    | 12, _ => exact absurd h2 (by intro h; cases h)
    | 13, _ => exact absurd h2 (by intro h; cases h)
    | 14, _ => exact absurd h2 (by intro h; cases h)
    | n + 15, h => exact absurd h (by omega)
  have hask : askI numR op ts = 1 := by
    unfold askI
    cases hf : numR.find? (strictR op) with
    | none => rfl
    | some r =>
      obtain ⟨i, hi, _, hop, hs⟩ := numR_at op r hf
      match i, hi with
      | 0, _ => exact absurd hop c0
      | 1, _ => exact absurd hop c1
      | 2, _ => exact absurd hop c2
      | 3, _ => exact absurd hop c3
      | 4, _ => exact absurd hop c4
      | 5, _ => exact absurd hop c5
      | 6, _ => exact absurd hop c6
      | 7, _ => exact absurd hop c7
      | 8, _ => exact absurd hop c8
      | 9, _ => exact absurd hop c9
      | 10, _ => exact absurd hop c10
      | 11, _ => exact absurd hop c11
      | 12, _ => exact absurd hs (by rw [Bool.not_eq_true]; kernel_rfl)
      | 13, _ => exact absurd hs (by rw [Bool.not_eq_true]; kernel_rfl)
      | 14, _ => exact absurd hs (by rw [Bool.not_eq_true]; kernel_rfl)
      | n + 15, h => exact absurd h (by omega)
  refine both_off op ts 1 hlen (by decide) hask (fun k f h1 h2 => (hk k f h1 h2).elim) ?_
  unfold workV
  cases hf : kdFind numK op with
  | none => rfl
  | some k =>
    show (match k.does with | none => refV 1 | some _ => _) = _
    cases hd : k.does with
    | none => rfl
    | some f => exact (hk k f hf hd).elim

end Go.Proofs.YtgpggkepgoelfaaGreatDoor
