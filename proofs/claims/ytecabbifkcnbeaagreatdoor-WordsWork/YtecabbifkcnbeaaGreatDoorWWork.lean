/-
  words.Work on texts and numbers, operation by operation; on a text that is too long; on a value of another sort.
-/
import Derived.Test.YtecabbifkcnbeaaGreatDoorWKinds
import Derived.Test.YtecabbifkcnbeaaGreatDoorCVals
import Derived.Lib.ItoaLen
namespace Go.Proofs.YtecabbifkcnbeaaGreatDoor
open Go.RowKit
theorem VCells.tx {w : World} {g : Nat} {ts : List T} (h : VCells w g ts) (j : Nat) (hj : j < ts.length) (s : ByteArray) (e : ts[j] = textT s) : TxA w g j s := by
  obtain ⟨_, _, v, h0, r0⟩ := h j hj
  rw [e] at r0
  have e0 : v = _ := VRd.text r0
  show w.cell? _ = _
  rw [h0, e0]
theorem VCells.in {w : World} {g : Nat} {ts : List T} (h : VCells w g ts) (j : Nat) (hj : j < ts.length) (n : Int) (e : ts[j] = intT n) : InA w g j n := by
  obtain ⟨_, _, v, h0, r0⟩ := h j hj
  rw [e] at r0
  have e0 : v = _ := VRd.int r0
  show w.cell? _ = _
  rw [h0, e0]
theorem wordsLen : wordsK.length = 9 := rfl
theorem wordsJ : ∀ k ∈ wordsK, k.joins = false ∧ k.signs.size ≤ 4000 := by
  intro k hk
  obtain ⟨i, hi, rfl⟩ := List.getElem_of_mem hk
  rw [wordsLen] at hi
  match i, hi with
  | 0, _ => exact ⟨rfl, Nat.le_of_ble_eq_true rfl⟩
  | 1, _ => exact ⟨rfl, Nat.le_of_ble_eq_true rfl⟩
  | 2, _ => exact ⟨rfl, Nat.le_of_ble_eq_true rfl⟩
  | 3, _ => exact ⟨rfl, Nat.le_of_ble_eq_true rfl⟩
  | 4, _ => exact ⟨rfl, Nat.le_of_ble_eq_true rfl⟩
  | 5, _ => exact ⟨rfl, Nat.le_of_ble_eq_true rfl⟩
  | 6, _ => exact ⟨rfl, Nat.le_of_ble_eq_true rfl⟩
  | 7, _ => exact ⟨rfl, Nat.le_of_ble_eq_true rfl⟩
  | 8, _ => exact ⟨rfl, Nat.le_of_ble_eq_true rfl⟩

  | n + 9, h => exact absurd h (by omega)
theorem extract_small (s : ByteArray) (a b : Nat) (h : s.size ≤ 65535) : (s.extract a b).size ≤ 65535 := by
  rw [ByteArray.size_extract]; omega
theorem itoaS_small (n : Int) (h : inR n) : (itoaS n).size ≤ 65535 := by
  have := Lib.itoa_length_le n h.1 h.2
  show (Lib.itoa n).toArray.size ≤ 65535
  rw [List.size_toArray]; omega
theorem repS_size (s : ByteArray) (c : Nat) : (repS s c).size = c * s.size := by
  show (Lib.repeatL s.data.toList c).toArray.size = _
  rw [List.size_toArray, Lib.repeatL_length]
  rfl
theorem nr_join (s t : ByteArray) : NRes (joinV s t) := by
  unfold joinV
  split
  · exact NRes.wrote (by rw [ByteArray.size_append]; omega)
  · exact NRes.ref (by decide)
theorem nr_cut (s : ByteArray) (a b : Int) (h : s.size ≤ 65535) : NRes (cutV s a b) := by
  unfold cutV
  split
  · exact NRes.wrote (extract_small s _ _ h)
  · exact NRes.ref (by decide)
theorem nr_rep (s : ByteArray) (n : Int) : NRes (repV s n) := by
  unfold repV
  split
  · exact NRes.ref (by decide)
  split
  · exact NRes.wrote (by decide)
  split
  · rename_i h0 h1 h2
    refine NRes.wrote ?_
    rw [repS_size]
    have : n.toNat ≤ 65535 / s.size := by omega
    rwa [Nat.le_div_iff_mul_le (by omega)] at this
  · exact NRes.ref (by decide)
theorem nr_num (s : ByteArray) : NRes (numV s) := by
  unfold numV
  split
  · exact NRes.came _
  · exact NRes.ref (by decide)
theorem wfind_join : kdFind wordsK ⟨#[119, 111, 114, 100, 115, 46, 106, 111, 105, 110]⟩ = some wordsK[0] := by kernel_rfl
theorem went_join : Enters 44 := fun a w => by simp [callFunc, go_sem, Tryz.func44]; rfl
theorem ww_join (s : ByteArray) (t : ByteArray) (hs : s.size ≤ 65535) (ht : t.size ≤ 65535) (a : Option Addr) (c : Nat) (w : World) (hm : WAt w) (hp : PRow w a [textT s, textT t]) : Calls Tryz.prog 8 #[.string ⟨#[119, 111, 114, 100, 115, 46, 106, 111, 105, 110]⟩, .slice a 2 c] w fun e w' => e = .returned (joinV s t) ∧ Ext w w' := by
  have hN : NRes (joinV s t) := nr_join s t
  refine workW_of _ a 2 c w _ hN.three fun w1 tb hx1 ht0 => ?_
  have hwk := work_any wordsK tb ⟨#[119, 111, 114, 100, 115, 46, 106, 111, 105, 110]⟩ a c [textT s, textT t] (joinV s t) w1 (by rw [wordsLen]; decide) ht0 (hm.1.later hx1) (hp.later hx1) (Nat.le_of_ble_eq_true rfl) wordsJ
    (fun k f h1 h2 _ _ _ => by
      rw [wfind_join] at h1
      obtain rfl := Option.some.inj h1
      obtain rfl : 44 = f := Option.some.inj h2
      exact ⟨hN, fun w1 g hxx hv => wjoin_any g s t w1 (hv.tx 0 (Nat.le_of_ble_eq_true rfl) s rfl) (hv.tx 1 (Nat.le_of_ble_eq_true rfl) t rfl) hs ht⟩)
    (fun k f h1 h2 => by
      rw [wfind_join] at h1
      obtain rfl := Option.some.inj h1
      obtain rfl : 44 = f := Option.some.inj h2
      exact went_join)
  have hV : workV wordsK ⟨#[119, 111, 114, 100, 115, 46, 106, 111, 105, 110]⟩ [textT s, textT t] (joinV s t) = joinV s t := by
    unfold workV
    rw [wfind_join]
    show (if cntOk wordsK[0] 2 = false then refV 11 else if ∀ q ∈ [textT s, textT t], q.may then (if rightB wordsK[0].signs.data.toList (([textT s, textT t]).map T.kind) = true then joinV s t else refV 20) else refV 1) = _
    rw [if_neg (show ¬ cntOk wordsK[0] 2 = false by rw [show cntOk wordsK[0] 2 = true from by kernel_rfl]; decide), if_pos (by intro q hq; simp only [List.mem_cons, List.not_mem_nil, or_false] at hq; rcases hq with rfl | rfl; exact textT_may hs; exact textT_may ht), if_pos (show rightB wordsK[0].signs.data.toList (([textT s, textT t]).map T.kind) = true from by kernel_rfl)]
  rw [hV] at hwk
  exact hwk
theorem wfind_size : kdFind wordsK ⟨#[119, 111, 114, 100, 115, 46, 115, 105, 122, 101]⟩ = some wordsK[1] := by kernel_rfl
theorem went_size : Enters 46 := fun a w => by simp [callFunc, go_sem, Tryz.func46]; rfl
theorem ww_size (s : ByteArray) (hs : s.size ≤ 65535) (a : Option Addr) (c : Nat) (w : World) (hm : WAt w) (hp : PRow w a [textT s]) : Calls Tryz.prog 8 #[.string ⟨#[119, 111, 114, 100, 115, 46, 115, 105, 122, 101]⟩, .slice a 1 c] w fun e w' => e = .returned (sizeV s) ∧ Ext w w' := by
  have hN : NRes (sizeV s) := NRes.came _
  refine workW_of _ a 1 c w _ hN.three fun w1 tb hx1 ht0 => ?_
  have hwk := work_any wordsK tb ⟨#[119, 111, 114, 100, 115, 46, 115, 105, 122, 101]⟩ a c [textT s] (sizeV s) w1 (by rw [wordsLen]; decide) ht0 (hm.1.later hx1) (hp.later hx1) (Nat.le_of_ble_eq_true rfl) wordsJ
    (fun k f h1 h2 _ _ _ => by
      rw [wfind_size] at h1
      obtain rfl := Option.some.inj h1
      obtain rfl : 46 = f := Option.some.inj h2
      exact ⟨hN, fun w1 g hxx hv => wsize_any g s w1 (hv.tx 0 (Nat.le_of_ble_eq_true rfl) s rfl)⟩)
    (fun k f h1 h2 => by
      rw [wfind_size] at h1
      obtain rfl := Option.some.inj h1
      obtain rfl : 46 = f := Option.some.inj h2
      exact went_size)
  have hV : workV wordsK ⟨#[119, 111, 114, 100, 115, 46, 115, 105, 122, 101]⟩ [textT s] (sizeV s) = sizeV s := by
    unfold workV
    rw [wfind_size]
    show (if cntOk wordsK[1] 1 = false then refV 11 else if ∀ q ∈ [textT s], q.may then (if rightB wordsK[1].signs.data.toList (([textT s]).map T.kind) = true then sizeV s else refV 20) else refV 1) = _
    rw [if_neg (show ¬ cntOk wordsK[1] 1 = false by rw [show cntOk wordsK[1] 1 = true from by kernel_rfl]; decide), if_pos (by intro q hq; simp only [List.mem_cons, List.not_mem_nil, or_false] at hq; subst hq; exact textT_may hs), if_pos (show rightB wordsK[1].signs.data.toList (([textT s]).map T.kind) = true from by kernel_rfl)]
  rw [hV] at hwk
  exact hwk
theorem wfind_cut : kdFind wordsK ⟨#[119, 111, 114, 100, 115, 46, 99, 117, 116]⟩ = some wordsK[2] := by kernel_rfl
theorem went_cut : Enters 47 := fun a w => by simp [callFunc, go_sem, Tryz.func47]; rfl
theorem ww_cut (s : ByteArray) (a0 : Int) (b0 : Int) (hs : s.size ≤ 65535) (a : Option Addr) (c : Nat) (w : World) (hm : WAt w) (hp : PRow w a [textT s, intT a0, intT b0]) : Calls Tryz.prog 8 #[.string ⟨#[119, 111, 114, 100, 115, 46, 99, 117, 116]⟩, .slice a 3 c] w fun e w' => e = .returned (cutV s a0 b0) ∧ Ext w w' := by
  have hN : NRes (cutV s a0 b0) := nr_cut s a0 b0 hs
  refine workW_of _ a 3 c w _ hN.three fun w1 tb hx1 ht0 => ?_
  have hwk := work_any wordsK tb ⟨#[119, 111, 114, 100, 115, 46, 99, 117, 116]⟩ a c [textT s, intT a0, intT b0] (cutV s a0 b0) w1 (by rw [wordsLen]; decide) ht0 (hm.1.later hx1) (hp.later hx1) (Nat.le_of_ble_eq_true rfl) wordsJ
    (fun k f h1 h2 _ _ _ => by
      rw [wfind_cut] at h1
      obtain rfl := Option.some.inj h1
      obtain rfl : 47 = f := Option.some.inj h2
      exact ⟨hN, fun w1 g hxx hv => wcut_any g s a0 b0 w1 (hv.tx 0 (Nat.le_of_ble_eq_true rfl) s rfl) (hv.in 1 (Nat.le_of_ble_eq_true rfl) a0 rfl) (hv.in 2 (Nat.le_of_ble_eq_true rfl) b0 rfl) hs⟩)
    (fun k f h1 h2 => by
      rw [wfind_cut] at h1
      obtain rfl := Option.some.inj h1
      obtain rfl : 47 = f := Option.some.inj h2
      exact went_cut)
  have hV : workV wordsK ⟨#[119, 111, 114, 100, 115, 46, 99, 117, 116]⟩ [textT s, intT a0, intT b0] (cutV s a0 b0) = cutV s a0 b0 := by
    unfold workV
    rw [wfind_cut]
    show (if cntOk wordsK[2] 3 = false then refV 11 else if ∀ q ∈ [textT s, intT a0, intT b0], q.may then (if rightB wordsK[2].signs.data.toList (([textT s, intT a0, intT b0]).map T.kind) = true then cutV s a0 b0 else refV 20) else refV 1) = _
    rw [if_neg (show ¬ cntOk wordsK[2] 3 = false by rw [show cntOk wordsK[2] 3 = true from by kernel_rfl]; decide), if_pos (by intro q hq; simp only [List.mem_cons, List.not_mem_nil, or_false] at hq; rcases hq with rfl | rfl | rfl; exact textT_may hs; exact intT_may _; exact intT_may _), if_pos (show rightB wordsK[2].signs.data.toList (([textT s, intT a0, intT b0]).map T.kind) = true from by kernel_rfl)]
  rw [hV] at hwk
  exact hwk
theorem wfind_find : kdFind wordsK ⟨#[119, 111, 114, 100, 115, 46, 102, 105, 110, 100]⟩ = some wordsK[3] := by kernel_rfl
theorem went_find : Enters 48 := fun a w => by simp [callFunc, go_sem, Tryz.func48]; rfl
theorem ww_find (s : ByteArray) (t : ByteArray) (hs : s.size ≤ 65535) (ht : t.size ≤ 65535) (a : Option Addr) (c : Nat) (w : World) (hm : WAt w) (hp : PRow w a [textT s, textT t]) : Calls Tryz.prog 8 #[.string ⟨#[119, 111, 114, 100, 115, 46, 102, 105, 110, 100]⟩, .slice a 2 c] w fun e w' => e = .returned (findV s t) ∧ Ext w w' := by
  have hN : NRes (findV s t) := NRes.came _
  refine workW_of _ a 2 c w _ hN.three fun w1 tb hx1 ht0 => ?_
  have hwk := work_any wordsK tb ⟨#[119, 111, 114, 100, 115, 46, 102, 105, 110, 100]⟩ a c [textT s, textT t] (findV s t) w1 (by rw [wordsLen]; decide) ht0 (hm.1.later hx1) (hp.later hx1) (Nat.le_of_ble_eq_true rfl) wordsJ
    (fun k f h1 h2 _ _ _ => by
      rw [wfind_find] at h1
      obtain rfl := Option.some.inj h1
      obtain rfl : 48 = f := Option.some.inj h2
      exact ⟨hN, fun w1 g hxx hv => wfind_any g s t w1 (hv.tx 0 (Nat.le_of_ble_eq_true rfl) s rfl) (hv.tx 1 (Nat.le_of_ble_eq_true rfl) t rfl) hs (hm.later (hx1.trans hxx)).1⟩)
    (fun k f h1 h2 => by
      rw [wfind_find] at h1
      obtain rfl := Option.some.inj h1
      obtain rfl : 48 = f := Option.some.inj h2
      exact went_find)
  have hV : workV wordsK ⟨#[119, 111, 114, 100, 115, 46, 102, 105, 110, 100]⟩ [textT s, textT t] (findV s t) = findV s t := by
    unfold workV
    rw [wfind_find]
    show (if cntOk wordsK[3] 2 = false then refV 11 else if ∀ q ∈ [textT s, textT t], q.may then (if rightB wordsK[3].signs.data.toList (([textT s, textT t]).map T.kind) = true then findV s t else refV 20) else refV 1) = _
    rw [if_neg (show ¬ cntOk wordsK[3] 2 = false by rw [show cntOk wordsK[3] 2 = true from by kernel_rfl]; decide), if_pos (by intro q hq; simp only [List.mem_cons, List.not_mem_nil, or_false] at hq; rcases hq with rfl | rfl; exact textT_may hs; exact textT_may ht), if_pos (show rightB wordsK[3].signs.data.toList (([textT s, textT t]).map T.kind) = true from by kernel_rfl)]
  rw [hV] at hwk
  exact hwk
theorem wfind_rep : kdFind wordsK ⟨#[119, 111, 114, 100, 115, 46, 114, 101, 112]⟩ = some wordsK[4] := by kernel_rfl
theorem went_rep : Enters 49 := fun a w => by simp [callFunc, go_sem, Tryz.func49]; rfl
theorem ww_rep (s : ByteArray) (a0 : Int) (hs : s.size ≤ 65535) (a : Option Addr) (c : Nat) (w : World) (hm : WAt w) (hp : PRow w a [textT s, intT a0]) : Calls Tryz.prog 8 #[.string ⟨#[119, 111, 114, 100, 115, 46, 114, 101, 112]⟩, .slice a 2 c] w fun e w' => e = .returned (repV s a0) ∧ Ext w w' := by
  have hN : NRes (repV s a0) := nr_rep s a0
  refine workW_of _ a 2 c w _ hN.three fun w1 tb hx1 ht0 => ?_
  have hwk := work_any wordsK tb ⟨#[119, 111, 114, 100, 115, 46, 114, 101, 112]⟩ a c [textT s, intT a0] (repV s a0) w1 (by rw [wordsLen]; decide) ht0 (hm.1.later hx1) (hp.later hx1) (Nat.le_of_ble_eq_true rfl) wordsJ
    (fun k f h1 h2 _ _ _ => by
      rw [wfind_rep] at h1
      obtain rfl := Option.some.inj h1
      obtain rfl : 49 = f := Option.some.inj h2
      exact ⟨hN, fun w1 g hxx hv => wrep_any g s a0 w1 (hv.tx 0 (Nat.le_of_ble_eq_true rfl) s rfl) (hv.in 1 (Nat.le_of_ble_eq_true rfl) a0 rfl) hs⟩)
    (fun k f h1 h2 => by
      rw [wfind_rep] at h1
      obtain rfl := Option.some.inj h1
      obtain rfl : 49 = f := Option.some.inj h2
      exact went_rep)
  have hV : workV wordsK ⟨#[119, 111, 114, 100, 115, 46, 114, 101, 112]⟩ [textT s, intT a0] (repV s a0) = repV s a0 := by
    unfold workV
    rw [wfind_rep]
    show (if cntOk wordsK[4] 2 = false then refV 11 else if ∀ q ∈ [textT s, intT a0], q.may then (if rightB wordsK[4].signs.data.toList (([textT s, intT a0]).map T.kind) = true then repV s a0 else refV 20) else refV 1) = _
    rw [if_neg (show ¬ cntOk wordsK[4] 2 = false by rw [show cntOk wordsK[4] 2 = true from by kernel_rfl]; decide), if_pos (by intro q hq; simp only [List.mem_cons, List.not_mem_nil, or_false] at hq; rcases hq with rfl | rfl; exact textT_may hs; exact intT_may _), if_pos (show rightB wordsK[4].signs.data.toList (([textT s, intT a0]).map T.kind) = true from by kernel_rfl)]
  rw [hV] at hwk
  exact hwk
theorem wfind_less : kdFind wordsK ⟨#[119, 111, 114, 100, 115, 46, 108, 101, 115, 115]⟩ = some wordsK[5] := by kernel_rfl
theorem went_less : Enters 50 := fun a w => by simp [callFunc, go_sem, Tryz.func50]; rfl
theorem ww_less (s : ByteArray) (t : ByteArray) (hs : s.size ≤ 65535) (ht : t.size ≤ 65535) (a : Option Addr) (c : Nat) (w : World) (hm : WAt w) (hp : PRow w a [textT s, textT t]) : Calls Tryz.prog 8 #[.string ⟨#[119, 111, 114, 100, 115, 46, 108, 101, 115, 115]⟩, .slice a 2 c] w fun e w' => e = .returned (lessV s t) ∧ Ext w w' := by
  have hN : NRes (lessV s t) := NRes.told _
  refine workW_of _ a 2 c w _ hN.three fun w1 tb hx1 ht0 => ?_
  have hwk := work_any wordsK tb ⟨#[119, 111, 114, 100, 115, 46, 108, 101, 115, 115]⟩ a c [textT s, textT t] (lessV s t) w1 (by rw [wordsLen]; decide) ht0 (hm.1.later hx1) (hp.later hx1) (Nat.le_of_ble_eq_true rfl) wordsJ
    (fun k f h1 h2 _ _ _ => by
      rw [wfind_less] at h1
      obtain rfl := Option.some.inj h1
      obtain rfl : 50 = f := Option.some.inj h2
      exact ⟨hN, fun w1 g hxx hv => wless_any g s t w1 (hv.tx 0 (Nat.le_of_ble_eq_true rfl) s rfl) (hv.tx 1 (Nat.le_of_ble_eq_true rfl) t rfl)⟩)
    (fun k f h1 h2 => by
      rw [wfind_less] at h1
      obtain rfl := Option.some.inj h1
      obtain rfl : 50 = f := Option.some.inj h2
      exact went_less)
  have hV : workV wordsK ⟨#[119, 111, 114, 100, 115, 46, 108, 101, 115, 115]⟩ [textT s, textT t] (lessV s t) = lessV s t := by
    unfold workV
    rw [wfind_less]
    show (if cntOk wordsK[5] 2 = false then refV 11 else if ∀ q ∈ [textT s, textT t], q.may then (if rightB wordsK[5].signs.data.toList (([textT s, textT t]).map T.kind) = true then lessV s t else refV 20) else refV 1) = _
    rw [if_neg (show ¬ cntOk wordsK[5] 2 = false by rw [show cntOk wordsK[5] 2 = true from by kernel_rfl]; decide), if_pos (by intro q hq; simp only [List.mem_cons, List.not_mem_nil, or_false] at hq; rcases hq with rfl | rfl; exact textT_may hs; exact textT_may ht), if_pos (show rightB wordsK[5].signs.data.toList (([textT s, textT t]).map T.kind) = true from by kernel_rfl)]
  rw [hV] at hwk
  exact hwk
theorem wfind_of : kdFind wordsK ⟨#[119, 111, 114, 100, 115, 46, 111, 102]⟩ = some wordsK[6] := by kernel_rfl
theorem went_of : Enters 51 := fun a w => by simp [callFunc, go_sem, Tryz.func51]; rfl
theorem ww_of (a0 : Int) (ha : inR a0) (a : Option Addr) (c : Nat) (w : World) (hm : WAt w) (hp : PRow w a [intT a0]) : Calls Tryz.prog 8 #[.string ⟨#[119, 111, 114, 100, 115, 46, 111, 102]⟩, .slice a 1 c] w fun e w' => e = .returned (ofV a0) ∧ Ext w w' := by
  have hN : NRes (ofV a0) := NRes.wrote (itoaS_small a0 ha)
  refine workW_of _ a 1 c w _ hN.three fun w1 tb hx1 ht0 => ?_
  have hwk := work_any wordsK tb ⟨#[119, 111, 114, 100, 115, 46, 111, 102]⟩ a c [intT a0] (ofV a0) w1 (by rw [wordsLen]; decide) ht0 (hm.1.later hx1) (hp.later hx1) (Nat.le_of_ble_eq_true rfl) wordsJ
    (fun k f h1 h2 _ _ _ => by
      rw [wfind_of] at h1
      obtain rfl := Option.some.inj h1
      obtain rfl : 51 = f := Option.some.inj h2
      exact ⟨hN, fun w1 g hxx hv => wof_any g a0 w1 (hv.in 0 (Nat.le_of_ble_eq_true rfl) a0 rfl) ha (hm.later (hx1.trans hxx)).2.1⟩)
    (fun k f h1 h2 => by
      rw [wfind_of] at h1
      obtain rfl := Option.some.inj h1
      obtain rfl : 51 = f := Option.some.inj h2
      exact went_of)
  have hV : workV wordsK ⟨#[119, 111, 114, 100, 115, 46, 111, 102]⟩ [intT a0] (ofV a0) = ofV a0 := by
    unfold workV
    rw [wfind_of]
    show (if cntOk wordsK[6] 1 = false then refV 11 else if ∀ q ∈ [intT a0], q.may then (if rightB wordsK[6].signs.data.toList (([intT a0]).map T.kind) = true then ofV a0 else refV 20) else refV 1) = _
    rw [if_neg (show ¬ cntOk wordsK[6] 1 = false by rw [show cntOk wordsK[6] 1 = true from by kernel_rfl]; decide), if_pos (by intro q hq; simp only [List.mem_cons, List.not_mem_nil, or_false] at hq; subst hq; exact intT_may _), if_pos (show rightB wordsK[6].signs.data.toList (([intT a0]).map T.kind) = true from by kernel_rfl)]
  rw [hV] at hwk
  exact hwk
theorem wfind_num : kdFind wordsK ⟨#[119, 111, 114, 100, 115, 46, 110, 117, 109]⟩ = some wordsK[7] := by kernel_rfl
theorem went_num : Enters 52 := fun a w => by simp [callFunc, go_sem, Tryz.func52]; rfl
theorem ww_num (s : ByteArray) (hs : s.size ≤ 65535) (a : Option Addr) (c : Nat) (w : World) (hm : WAt w) (hp : PRow w a [textT s]) : Calls Tryz.prog 8 #[.string ⟨#[119, 111, 114, 100, 115, 46, 110, 117, 109]⟩, .slice a 1 c] w fun e w' => e = .returned (numV s) ∧ Ext w w' := by
  have hN : NRes (numV s) := nr_num s
  refine workW_of _ a 1 c w _ hN.three fun w1 tb hx1 ht0 => ?_
  have hwk := work_any wordsK tb ⟨#[119, 111, 114, 100, 115, 46, 110, 117, 109]⟩ a c [textT s] (numV s) w1 (by rw [wordsLen]; decide) ht0 (hm.1.later hx1) (hp.later hx1) (Nat.le_of_ble_eq_true rfl) wordsJ
    (fun k f h1 h2 _ _ _ => by
      rw [wfind_num] at h1
      obtain rfl := Option.some.inj h1
      obtain rfl : 52 = f := Option.some.inj h2
      exact ⟨hN, fun w1 g hxx hv => wnumb_any g s w1 (hv.tx 0 (Nat.le_of_ble_eq_true rfl) s rfl) hs (hm.later (hx1.trans hxx))⟩)
    (fun k f h1 h2 => by
      rw [wfind_num] at h1
      obtain rfl := Option.some.inj h1
      obtain rfl : 52 = f := Option.some.inj h2
      exact went_num)
  have hV : workV wordsK ⟨#[119, 111, 114, 100, 115, 46, 110, 117, 109]⟩ [textT s] (numV s) = numV s := by
    unfold workV
    rw [wfind_num]
    show (if cntOk wordsK[7] 1 = false then refV 11 else if ∀ q ∈ [textT s], q.may then (if rightB wordsK[7].signs.data.toList (([textT s]).map T.kind) = true then numV s else refV 20) else refV 1) = _
    rw [if_neg (show ¬ cntOk wordsK[7] 1 = false by rw [show cntOk wordsK[7] 1 = true from by kernel_rfl]; decide), if_pos (by intro q hq; simp only [List.mem_cons, List.not_mem_nil, or_false] at hq; subst hq; exact textT_may hs), if_pos (show rightB wordsK[7].signs.data.toList (([textT s]).map T.kind) = true from by kernel_rfl)]
  rw [hV] at hwk
  exact hwk
theorem ww_size_long (s : ByteArray) (hs : 65535 < s.size) (a : Option Addr) (c : Nat) (w : World) (hm : WAt w) (hp : PRow w a [textT s]) : Calls Tryz.prog 8 #[.string ⟨#[119, 111, 114, 100, 115, 46, 115, 105, 122, 101]⟩, .slice a 1 c] w fun e w' => e = .returned (refV 1) ∧ Ext w w' := by
  refine workW_of _ a 1 c w _ ⟨_, _, _, rfl⟩ fun w1 tb hx1 ht0 => ?_
  have hwk := work_any wordsK tb ⟨#[119, 111, 114, 100, 115, 46, 115, 105, 122, 101]⟩ a c [textT s] (refV 1) w1 (by rw [wordsLen]; decide) ht0 (hm.1.later hx1) (hp.later hx1) (Nat.le_of_ble_eq_true rfl) wordsJ
    (fun k f h1 h2 _ h3 _ => absurd (h3 _ (List.mem_singleton.2 rfl)) (textT_not hs))
    (fun k f h1 h2 => by
      rw [wfind_size] at h1
      obtain rfl := Option.some.inj h1
      obtain rfl : 46 = f := Option.some.inj h2
      exact went_size)
  have hV : workV wordsK ⟨#[119, 111, 114, 100, 115, 46, 115, 105, 122, 101]⟩ [textT s] (refV 1) = refV 1 := by
    unfold workV
    rw [wfind_size]
    show (if cntOk wordsK[1] 1 = false then refV 11 else if ∀ t ∈ [textT s], t.may then (if rightB wordsK[1].signs.data.toList ([textT s].map T.kind) = true then refV 1 else refV 20) else refV 1) = _
    rw [if_neg (show ¬ cntOk wordsK[1] 1 = false by rw [show cntOk wordsK[1] 1 = true from by kernel_rfl]; decide), if_neg (fun h => textT_not hs (h _ (List.mem_singleton.2 rfl)))]
  rw [hV] at hwk
  exact hwk
theorem ww_bad (s : ByteArray) (n : Int) (hs : s.size ≤ 65535) (a : Option Addr) (c : Nat) (w : World) (hm : WAt w) (hp : PRow w a [textT s, intT n]) : Calls Tryz.prog 8 #[.string ⟨#[119, 111, 114, 100, 115, 46, 106, 111, 105, 110]⟩, .slice a 2 c] w fun e w' => e = .returned (refV 20) ∧ Ext w w' := by
  refine workW_of _ a 2 c w _ ⟨_, _, _, rfl⟩ fun w1 tb hx1 ht0 => ?_
  have hno : rightB wordsK[0].signs.data.toList ([textT s, intT n].map T.kind) = false := by kernel_rfl
  have hwk := work_any wordsK tb ⟨#[119, 111, 114, 100, 115, 46, 106, 111, 105, 110]⟩ a c [textT s, intT n] (refV 20) w1 (by rw [wordsLen]; decide) ht0 (hm.1.later hx1) (hp.later hx1) (Nat.le_of_ble_eq_true rfl) wordsJ
    (fun k f h1 h2 _ _ h3 => by
      rw [wfind_join] at h1
      obtain rfl := Option.some.inj h1
      rw [hno] at h3
      cases h3)
    (fun k f h1 h2 => by
      rw [wfind_join] at h1
      obtain rfl := Option.some.inj h1
      obtain rfl : 44 = f := Option.some.inj h2
      exact went_join)
  have hV : workV wordsK ⟨#[119, 111, 114, 100, 115, 46, 106, 111, 105, 110]⟩ [textT s, intT n] (refV 20) = refV 20 := by
    unfold workV
    rw [wfind_join]
    show (if cntOk wordsK[0] 2 = false then refV 11 else if ∀ t ∈ [textT s, intT n], t.may then (if rightB wordsK[0].signs.data.toList ([textT s, intT n].map T.kind) = true then refV 20 else refV 20) else refV 1) = _
    rw [if_neg (show ¬ cntOk wordsK[0] 2 = false by rw [show cntOk wordsK[0] 2 = true from by kernel_rfl]; decide), if_pos (by intro q hq; simp only [List.mem_cons, List.not_mem_nil, or_false] at hq; rcases hq with rfl | rfl; exact textT_may hs; exact intT_may _), if_neg (by rw [hno]; decide)]
  rw [hV] at hwk
  exact hwk

end Go.Proofs.YtecabbifkcnbeaaGreatDoor
