/-
  sign.path, sign.ReadPath, sign.Use, sign.ReadPlace, each by a contract.
-/
import Derived.Test.YtaodkfchmaendaaGreatDoorPathMath
namespace Go.Proofs.YtaodkfchmaendaaGreatDoor
open Go.RowKit

theorem pathB_long {xs : List Int} (h : 63 < xs.length) : pathB xs = false := by
  have : decide (xs.length ≤ 63) = false := by simp; omega
  simp [pathB, this]
theorem pathB_bad {xs : List Int} {k : Nat} (h : k < xs.length) (hb : ¬ (0 ≤ xs[k] ∧ xs[k] ≤ 1022)) : pathB xs = false := by
  rw [Bool.eq_false_iff]
  intro hp
  exact hb (((pathB_iff xs).1 hp).2 _ (List.getElem_mem h))
/-- What sign.ReadPath tells of a text. -/
def PathTold (l : List UInt8) (base : Nat) (e : Ending) (w' : World) : Prop :=
  (∃ p v, e = .returned (.tuple #[v, .int .i64 0]) ∧ PathOf l p ∧ w'.ownsRow base 3 1 v p.length (numCells p)) ∨ (e = .returned (.tuple #[.slice none 0 0, .int .i64 5]) ∧ ∀ p, ¬ PathOf l p)
theorem minus_iff (s : ByteArray) : s.toList = [45] ↔ s.data.toList = [45] := by rw [ByteArray.toList_eq]
theorem name_list (l : List UInt8) (w : World) : Calls Tryz.prog 100 #[.string ⟨l.toArray⟩] w fun e w' => e = .returned (.bool (nameB l)) ∧ Ext w w' := by
  have := name_any ⟨l.toArray⟩ w
  unfold nameB
  simpa using this
/-- Whether a variable may be used by a text. -/
def useB (l : List UInt8) : Prop := nameB l = true ∨ ∃ n, 1 ≤ n ∧ n ≤ 64 ∧ l = Lib.decDigits n
theorem one_of {l : List UInt8} {m : Nat} {p : List Nat} (h : NumsOf l 1 m p) : ∃ n, p = [n] ∧ n ≤ m ∧ l = Lib.decDigits n := by
  obtain ⟨h1, h2, h3, h4⟩ := h
  match p, h1 with
  | [n], _ => exact ⟨n, rfl, h4 n (by simp), h2.symm⟩
  | _ :: _ :: _, _ => simp at h3
theorem row_one {w : World} {base : Nat} {e : TypeId} {v x : Value} (h : w.ownsRow base e 1 v 1 [x]) : ∃ g cap, v = .slice (some ⟨g, 0, none⟩) 1 cap ∧ w.cell? ⟨g, 0, none⟩ = some x := by
  rcases h.2 with ⟨_, h0⟩ | ⟨g, cap, cur, rfl, _, hb, h1, h2, h3, h4⟩
  · cases h0
  · refine ⟨g, cap, rfl, cell_of hb ?_⟩
    have e0 : (cur.toList.take (1 * 1))[0]? = some x := by rw [h4]; rfl
    rw [List.getElem?_take_of_lt (by omega)] at e0
    simpa using e0
set_option maxRecDepth 100000 in
theorem use_any (s : ByteArray) (w : World) (hb : s.size ≤ 140737488355328) :
    Calls Tryz.prog 102 #[.string s] w fun e w' => ((e = .returned (.bool true) ∧ useB s.data.toList) ∨ (e = .returned (.bool false) ∧ ¬ useB s.data.toList)) ∧ Ext w w' := by
  have hna : ∀ w, Calls Tryz.prog 100 #[.string s] w fun e w' => e = .returned (.bool (nameB s.data.toList)) ∧ Ext w w' := fun w => name_any s w
  have HNA := hid hna
  clear hna
  by_cases hn : nameB s.data.toList = true
  · have HN := hid hn
    go_enter Tryz.func102, Tryz.ntmps102
    go_wp2_with fail
    refine (HNA.out _).mono ?_
    rintro e w1 ⟨rfl, hx⟩
    go_wp2
    go_ret
    exact ⟨.inl ⟨rfl, .inl HN.out⟩, hx⟩
  · have hn' : nameB s.data.toList = false := by simpa using hn
    have HN := hid hn
    clear hn
    go_enter Tryz.func102, Tryz.ntmps102
    go_wp2_with fail
    refine (HNA.out _).mono ?_
    rintro e w1 ⟨rfl, hx⟩
    have HX := hid hx
    clear hx
    go_wp2_with fail
    refine (numbers_any s 1 64 _ (by decide) (by decide) hb).mono ?_
    rintro e w2 ⟨he, hx⟩
    have HX2 := hid (HX.out.trans hx)
    clear hx
    rcases he with ⟨p, v, rfl, hp, ho⟩ | ⟨rfl, hp⟩
    · obtain ⟨n, rfl, hle, hl⟩ := one_of hp
      obtain ⟨g, cap, rfl, hc⟩ := row_one ho
      have HL := hid hl
      clear ho hp hl
      by_cases h0 : n = 0
      · subst h0
        go_wp2
        go_ret
        refine ⟨.inr ⟨rfl, ?_⟩, HX2.out⟩
        rintro (h | ⟨m, h1, h2, h3⟩)
        · exact HN.out h
        · have := dd_inj (HL.out.symm.trans h3)
          omega
      · have h1 : (0 : Int) < n := by omega
        go_wp2
        go_ret
        exact ⟨.inl ⟨ret_bool (by simp only [decide_eq_true_eq]; omega), .inr ⟨n, by omega, hle, HL.out⟩⟩, HX2.out⟩
    · have HP := hid hp
      clear hp
      go_wp2
      go_ret
      refine ⟨.inr ⟨rfl, ?_⟩, HX2.out⟩
      rintro (h | ⟨m, h1, h2, h3⟩)
      · exact HN.out h
      · exact HP.out [m] ⟨by simp, h3.symm, by simp, by simpa using h2⟩
end Go.Proofs.YtaodkfchmaendaaGreatDoor
