/-
  Pieces of a text; where a text is found.
-/
import Derived.Test.YtgpggkepgoelfaaGreatDoorWWork
namespace Go.Proofs.YtgpggkepgoelfaaGreatDoor
open Go.RowKit
theorem bin_inj {a b : ByteArray} (h : a.data.toList = b.data.toList) : a = b := by
  obtain ⟨⟨a⟩⟩ := a
  obtain ⟨⟨b⟩⟩ := b
  have : a = b := h
  rw [this]
theorem bin_len (s : ByteArray) : s.data.toList.length = s.size := by rw [Array.length_toList]; rfl
theorem bin_app (s u : ByteArray) : (s ++ u).data.toList = s.data.toList ++ u.data.toList := by
  rw [ByteArray.data_append, Array.toList_append]
theorem least_of {P : Nat → Prop} : ∀ n, P n → ∃ k, k ≤ n ∧ P k ∧ ∀ j, j < k → ¬ P j := by
  intro n
  induction n using Nat.strongRecOn with
  | _ n ih =>
    intro h
    by_cases hh : ∃ j, j < n ∧ P j
    · obtain ⟨j, hj, hp⟩ := hh
      obtain ⟨k, h1, h2, h3⟩ := ih j hj hp
      exact ⟨k, by omega, h2, h3⟩
    · exact ⟨n, Nat.le_refl _, h, fun j hj hp => hh ⟨j, hj, hp⟩⟩
theorem ix_found (s u : ByteArray) : ∃ k : Nat, Lib.index (s ++ u).data.toList u.data.toList = k ∧ k ≤ s.size ∧ (s ++ u).extract k (k + u.size) = u := by
  have h0 : Lib.occAt (s.data.toList ++ u.data.toList) u.data.toList s.size = true := by
    unfold Lib.occAt
    rw [← bin_len, List.drop_left]
    exact List.isPrefixOf_iff_prefix.2 (List.prefix_refl _)
  obtain ⟨k, h1, h2, h3⟩ := least_of (P := fun i => Lib.occAt (s.data.toList ++ u.data.toList) u.data.toList i = true) s.size h0
  have hb := bin_app s u
  have hl : (s.data.toList ++ u.data.toList).length = s.size + u.size := by rw [List.length_append, bin_len, bin_len]
  refine ⟨k, ?_, h1, ?_⟩
  · rw [hb]
    exact Lib.index_first (by rw [hl]; omega) h2 (fun j hj => Bool.eq_false_iff.2 (h3 j hj))
  · rw [Lib.occAt_iff_take _ _ _ (by rw [hl, bin_len]; omega)] at h2
    refine bin_inj ?_
    rw [Lib.extract_data, hb, show k + u.size - k = u.data.toList.length by rw [bin_len]; omega]
    exact eq_of_beq h2
theorem ix_none (s : ByteArray) : Lib.index s.data.toList (s ++ ⟨#[120]⟩).data.toList = -1 := by
  refine Lib.index_none fun j hj => Bool.eq_false_iff.2 fun h => ?_
  have hb := bin_app s ⟨#[120]⟩
  have hl : (s ++ ⟨#[120]⟩ : ByteArray).data.toList.length = s.data.toList.length + 1 := by rw [hb, List.length_append]; rfl
  rcases Lib.occAt_room h with h1 | h1
  · rw [hl] at h1; omega
  · rw [h1] at hl; simp at hl
theorem cut_app (s : ByteArray) (m : Nat) (_ : m ≤ s.size) : s.extract 0 m ++ s.extract m s.size = s := by
  refine bin_inj ?_
  rw [bin_app, Lib.extract_data, Lib.extract_data, List.drop_zero, Nat.sub_zero, ← bin_len s, ← List.length_drop, List.take_length, List.take_append_drop]
theorem cut_len (s : ByteArray) (m : Nat) (h : m ≤ s.size) : (s.extract 0 m).size = m := by rw [ByteArray.size_extract]; omega
theorem ww_find_long (s t : ByteArray) (ht : 65535 < t.size) (a : Option Addr) (c : Nat) (w : World) (hm : WAt w) (hp : PRow w a [textT s, textT t]) : Calls Tryz.prog 19 #[.string ⟨#[119, 111, 114, 100, 115, 46, 102, 105, 110, 100]⟩, .slice a 2 c] w fun e w' => e = .returned (refV 1) ∧ Ext w w' := by
  have hno : ¬ ∀ q ∈ [textT s, textT t], q.may := fun h => textT_not ht (h _ (List.mem_cons_of_mem _ (List.mem_singleton.2 rfl)))
  refine workW_of _ a 2 c w _ ⟨_, _, _, rfl⟩ fun w1 tb hx1 ht0 => ?_
  have hwk := work_any wordsK tb ⟨#[119, 111, 114, 100, 115, 46, 102, 105, 110, 100]⟩ a c [textT s, textT t] (refV 1) w1 (by rw [wordsLen]; decide) ht0 (hm.1.later hx1) (hp.later hx1) (Nat.le_of_ble_eq_true rfl) wordsJ
    (fun k f h1 h2 _ h3 _ => absurd h3 hno)
    (fun k f h1 h2 => by
      rw [wfind_find] at h1
      obtain rfl := Option.some.inj h1
      obtain rfl : 88 = f := Option.some.inj h2
      exact went_find)
  have hV : workV wordsK ⟨#[119, 111, 114, 100, 115, 46, 102, 105, 110, 100]⟩ [textT s, textT t] (refV 1) = refV 1 := by
    unfold workV
    rw [wfind_find]
    show (if cntOk wordsK[3] 2 = false then refV 11 else if ∀ q ∈ [textT s, textT t], q.may then (if rightB wordsK[3].signs.data.toList ([textT s, textT t].map T.kind) = true then refV 1 else refV 20) else refV 1) = _
    rw [if_neg (show ¬ cntOk wordsK[3] 2 = false by rw [show cntOk wordsK[3] 2 = true from by kernel_rfl]; decide), if_neg hno]
  rw [hV] at hwk
  exact hwk

end Go.Proofs.YtgpggkepgoelfaaGreatDoor
