/-
  sign.path, sign.ReadPath, sign.Use, sign.ReadPlace, each by a contract.
-/
import Derived.Test.YtfafnmfgiclanaaDoorPathMath
namespace Go.Proofs.YtfafnmfgiclanaaDoor
open Go.RowKit

theorem pathB_long {xs : List Int} (h : 63 < xs.length) : pathB xs = false := by
  have : decide (xs.length ≤ 63) = false := by simp; omega
  simp [pathB, this]
theorem pathB_bad {xs : List Int} {k : Nat} (h : k < xs.length) (hb : ¬ (0 ≤ xs[k] ∧ xs[k] ≤ 1022)) : pathB xs = false := by
  rw [Bool.eq_false_iff]
  intro hp
  exact hb (((pathB_iff xs).1 hp).2 _ (List.getElem_mem h))
set_option maxRecDepth 100000 in
set_option maxHeartbeats 2000000 in
theorem path_any (a : Option Addr) (c : Nat) (xs : List Int) (w : World) (hb : xs.length * 8 ≤ 140737488355328) (h : Ints w (.slice a xs.length c) xs) :
    Calls Tryd.prog 30 #[.slice a xs.length c] w fun e w' => e = .returned (.bool (pathB xs)) ∧ w' = w := by
  have H := hid h.cell.2
  clear h
  by_cases hl : 63 < xs.length
  · have hl' : (63 : Int) < xs.length := by omega
    have HR := hid (pathB_long hl)
    go_enter Tryd.func30, Tryd.ntmps30
    go_wp2
    go_ret
    exact ⟨ret_bool (by rw [HR.out]), rfl⟩
  · have hl' : (xs.length : Int) ≤ 63 := by omega
    go_enter Tryd.func30, Tryd.ntmps30
    go_wp2
    go_loop [10] (fun i => ∃ k : Nat, k ≤ xs.length ∧ i = .int .i64 k ∧ ∀ j, (h : j < xs.length) → j < k → 0 ≤ xs[j] ∧ xs[j] ≤ 1022) (fun i => xs.length - (intOf i).toNat)
    case atStart => exact ⟨0, Nat.zero_le _, rfl, fun j _ h => absurd h (Nat.not_lt_zero _)⟩
    case round =>
      obtain ⟨k, hk, rfl, hinv⟩ := hrel
      have HI := hid hinv
      clear hinv
      by_cases hlt : k < xs.length
      · obtain ⟨g, o, rfl, e⟩ := H.out k hlt
        have hlt' : (k : Int) < xs.length := by omega
        have HB := hid (fun hb => pathB_bad hlt hb)
        have HV := hid (show ∀ j, (h : j < xs.length) → j < k + 1 → (0 ≤ xs[k] ∧ xs[k] ≤ 1022) → 0 ≤ xs[j] ∧ xs[j] ≤ 1022 from fun j hj hjk hx => by
          rcases Nat.lt_or_eq_of_le (Nat.le_of_lt_succ hjk) with h | h
          · exact HI.out j hj h
          · subst h; exact hx)
        generalize xs[k] = x at e HB HV
        by_cases hx : 0 ≤ x ∧ x ≤ 1022
        · obtain ⟨h1, h2⟩ := hx
          go_wp2
          go_round
          case rel => exact ⟨k + 1, hlt, by go_num, fun j hj hjk => HV.out j hj hjk ⟨h1, h2⟩⟩
          case measure => simp [intOf]; omega
        · have HF := hid (HB.out hx)
          by_cases h1 : x < 0
          · go_wp2
            go_ret
            exact ⟨ret_bool (by rw [HF.out]), rfl⟩
          · have h2 : 1022 < x := by omega
            have h1' : 0 ≤ x := by omega
            clear hx
            go_wp2
            go_ret
            exact ⟨ret_bool (by rw [HF.out]), rfl⟩
      · have HF := hid ((pathB_iff xs).2 ⟨by omega, fun n hn => by
          obtain ⟨j, hj, rfl⟩ := List.getElem_of_mem hn
          exact HI.out j hj (by omega)⟩)
        go_wp2
        go_ret
        exact ⟨ret_bool (by rw [HF.out]), rfl⟩

/-- What sign.ReadPath tells of a text. -/
def PathTold (l : List UInt8) (base : Nat) (e : Ending) (w' : World) : Prop :=
  (∃ p v, e = .returned (.tuple #[v, .int .i64 0]) ∧ PathOf l p ∧ w'.ownsRow base 3 1 v p.length (numCells p)) ∨ (e = .returned (.tuple #[.slice none 0 0, .int .i64 5]) ∧ ∀ p, ¬ PathOf l p)
theorem minus_iff (s : ByteArray) : s.toList = [45] ↔ s.data.toList = [45] := by rw [ByteArray.toList_eq]
set_option maxRecDepth 100000 in
theorem readPath_any (s : ByteArray) (w : World) (hb : s.size ≤ 140737488355328) :
    Calls Tryd.prog 20 #[.string s] w fun e w' => PathTold s.data.toList w.heap.size e w' ∧ Ext w w' := by
  by_cases hm : s.data.toList = [45]
  · obtain rfl : s = ⟨#[45]⟩ := bytes_of s [45] hm
    go_enter Tryd.func20, Tryd.ntmps20
    go_wp2
    go_ret2
    exact ⟨.inl ⟨[], _, rfl, pathOf_none, World.ownsRow_nil _ _ _ _⟩, Ext.refl _⟩
  · have hm' : (s.toList == [45]) = false := by rw [beq_eq_false_iff_ne]; exact fun e => hm ((minus_iff s).1 e)
    have HM := hid hm
    clear hm
    go_enter Tryd.func20, Tryd.ntmps20
    go_wp2_with fail
    refine (numbers_any s 63 1022 _ (by decide) (by decide) hb).mono ?_
    rintro e w1 ⟨he, hx⟩
    have HX := hid hx
    clear hx
    rcases he with ⟨p, v, rfl, hp, ho⟩ | ⟨rfl, hp⟩
    · have HP := hid hp
      have HO := hid ho
      clear hp ho
      go_wp2
      go_ret2
      exact ⟨.inl ⟨p, v, rfl, pathOf_nums HP.out, HO.out⟩, HX.out⟩
    · have HP := hid hp
      clear hp
      go_wp2
      go_ret2
      exact ⟨.inr ⟨rfl, fun p hp => HP.out p (nums_pathOf hp HM.out)⟩, HX.out⟩

theorem name_list (l : List UInt8) (w : World) : Calls Tryd.prog 16 #[.string ⟨l.toArray⟩] w fun e w' => e = .returned (.bool (nameB l)) ∧ Ext w w' := by
  have := name_any ⟨l.toArray⟩ w
  unfold nameB
  simpa using this
/-- Whether a variable may be used by a text. -/
def useB (l : List UInt8) : Prop := nameB l = true ∨ ∃ n, 1 ≤ n ∧ n ≤ 64 ∧ l = Lib.decDigits n
theorem one_of {l : List UInt8} {m : Nat} {p : List Nat} (h : NumsOf l 1 m p) : ∃ n, p = [n] ∧ n ≤ m ∧ l = Lib.decDigits n := by
  obtain ⟨h1, h2, h3, h4⟩ := h
  match p, h1 with
  | [n], _ => exact ⟨n, rfl, h4 n (by simp), h2.symm⟩
  | _ :: _ :: _, _ => simp at h3
theorem row_one {w : World} {base : Nat} {e : TypeId} {v x : Value} (h : w.ownsRow base e 1 v 1 [x]) : ∃ g cap, v = .slice (some ⟨g, 0, none⟩) 1 cap ∧ w.cell? ⟨g, 0, none⟩ = some x := by
  rcases h.2 with ⟨_, h0⟩ | ⟨g, cap, cur, rfl, _, hb, h1, h2, h3, h4⟩
  · cases h0
  · refine ⟨g, cap, rfl, cell_of hb ?_⟩
    have e0 : (cur.toList.take (1 * 1))[0]? = some x := by rw [h4]; rfl
    rw [List.getElem?_take_of_lt (by omega)] at e0
    simpa using e0
set_option maxRecDepth 100000 in
theorem use_any (s : ByteArray) (w : World) (hb : s.size ≤ 140737488355328) :
    Calls Tryd.prog 17 #[.string s] w fun e w' => ((e = .returned (.bool true) ∧ useB s.data.toList) ∨ (e = .returned (.bool false) ∧ ¬ useB s.data.toList)) ∧ Ext w w' := by
  have hna : ∀ w, Calls Tryd.prog 16 #[.string s] w fun e w' => e = .returned (.bool (nameB s.data.toList)) ∧ Ext w w' := fun w => name_any s w
  have HNA := hid hna
  clear hna
  by_cases hn : nameB s.data.toList = true
  · have HN := hid hn
    go_enter Tryd.func17, Tryd.ntmps17
    go_wp2_with fail
    refine (HNA.out _).mono ?_
    rintro e w1 ⟨rfl, hx⟩
    go_wp2
    go_ret
    exact ⟨.inl ⟨rfl, .inl HN.out⟩, hx⟩
  · have hn' : nameB s.data.toList = false := by simpa using hn
    have HN := hid hn
    clear hn
    go_enter Tryd.func17, Tryd.ntmps17
    go_wp2_with fail
    refine (HNA.out _).mono ?_
    rintro e w1 ⟨rfl, hx⟩
    have HX := hid hx
    clear hx
    go_wp2_with fail
    refine (numbers_any s 1 64 _ (by decide) (by decide) hb).mono ?_
    rintro e w2 ⟨he, hx⟩
    have HX2 := hid (HX.out.trans hx)
    clear hx
    rcases he with ⟨p, v, rfl, hp, ho⟩ | ⟨rfl, hp⟩
    · obtain ⟨n, rfl, hle, hl⟩ := one_of hp
      obtain ⟨g, cap, rfl, hc⟩ := row_one ho
      have HL := hid hl
      clear ho hp hl
      by_cases h0 : n = 0
      · subst h0
        go_wp2
        go_ret
        refine ⟨.inr ⟨rfl, ?_⟩, HX2.out⟩
        rintro (h | ⟨m, h1, h2, h3⟩)
        · exact HN.out h
        · have := dd_inj (HL.out.symm.trans h3)
          omega
      · have h1 : (0 : Int) < n := by omega
        go_wp2
        go_ret
        exact ⟨.inl ⟨ret_bool (by simp only [decide_eq_true_eq]; omega), .inr ⟨n, by omega, hle, HL.out⟩⟩, HX2.out⟩
    · have HP := hid hp
      clear hp
      go_wp2
      go_ret
      refine ⟨.inr ⟨rfl, ?_⟩, HX2.out⟩
      rintro (h | ⟨m, h1, h2, h3⟩)
      · exact HN.out h
      · exact HP.out [m] ⟨by simp, h3.symm, by simp, by simpa using h2⟩
end Go.Proofs.YtfafnmfgiclanaaDoor
