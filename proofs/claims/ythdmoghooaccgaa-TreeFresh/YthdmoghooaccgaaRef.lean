/-
  espalierref4.Eq, EqPath and leaf of the statements, each by a contract.
-/
import Derived.Test.YthdmoghooaccgaaFace
namespace Go.Proofs.Ythdmoghooaccgaa
open Go.RowKit
abbrev leafV (k : ByteArray) : Value := .agg #[.string k, .int .i64 0, .string ⟨#[]⟩, .slice none 0 0]
theorem leaf_any (k : ByteArray) (w : World) : Calls Try.prog 32 #[.string k] w fun e w' => e = .returned (leafV k) ∧ Ext w w' := by
  go_enter Try.func32, Try.ntmps32
  go_wp2_with fail
  refine bodyPost_ret (v := leafV k) (by simp [results, Try.results32, go_sem]) rfl ?_
  exact ⟨rfl, Ext.alloc _ _⟩
theorem leaf_rd (K : Nat → Prop) (w : World) (k : ByteArray) (h : k.size ≤ 140737488351232) : Rd K w 1 (leafV k) (.node k 0 ⟨#[]⟩ []) := ⟨none, 0, rfl, h, by decide, by simp, .inl rfl⟩
set_option maxRecDepth 100000 in
set_option maxHeartbeats 1000000 in
theorem eqPath_any (a a' : Option Addr) (c c' : Nat) (xs ys : List Int) (w : World) (hb : xs.length * 8 ≤ 140737488355328) (hb' : ys.length * 8 ≤ 140737488355328) (h : Ints w (.slice a xs.length c) xs) (h' : Ints w (.slice a' ys.length c') ys) :
    Calls Try.prog 12 #[.slice a xs.length c, .slice a' ys.length c'] w fun e w' => e = .returned (.bool (decide (xs = ys))) ∧ Ext w w' := by
  have HA := hid h
  have HB := hid h'
  have hl : (xs.length : Int) ≤ 140737488355328 := by omega
  have hl' : (ys.length : Int) ≤ 140737488355328 := by omega
  clear h h'
  by_cases hle : xs.length = ys.length
  · have hq2 : (((xs.length : Int)) != ((ys.length : Int))) = false := by rw [hle]; simp
    have HLE := hid hle
    clear hle
    go_enter Try.func12, Try.ntmps12
    go_wp2_with fail
    go_loopw [5] (fun i wr => ∃ j : Nat, j ≤ xs.length ∧ i = .int .i64 j ∧ Ext w wr ∧ (∀ i, i < j → xs[i]? = ys[i]?)) (fun i _ => xs.length - (intOf i).toNat)
    case atStart => exact ⟨0, Nat.zero_le _, rfl, Ext.refl _, fun i h => absurd h (Nat.not_lt_zero _)⟩
    case round =>
      obtain ⟨j, hj, rfl, hx, hall⟩ := hrel
      have HX := hid hx
      have HALL := hid hall
      clear hx hall
      by_cases hlt : j < xs.length
      · have hlt' : (j : Int) < xs.length := by omega
        have hlt2 : j < ys.length := by rw [← HLE.out]; exact hlt
        have hlt3 : (j : Int) < ys.length := by omega
        obtain ⟨g, off, rfl, hc⟩ := (HA.out.later HX.out).cell.2 j hlt
        obtain ⟨g', off', rfl, hc'⟩ := (HB.out.later HX.out).cell.2 j hlt2
        generalize hv : xs[j] = v at hc
        generalize hv' : ys[j] = v' at hc'
        have HV := hid (And.intro hv hv')
        clear hv hv'
        by_cases hq : v = v'
        · have hq' : (v != v') = false := by rw [hq]; simp
          have HQ := hid hq
          clear hq
          go_wp2_with fail
          go_quiet (fail)
          go_wp2_with fail
          go_roundw
          case rel =>
            have REL : ∀ W, Ext w W → ∃ j' : Nat, j' ≤ xs.length ∧ Value.int .i64 ((j : Int) + 1) = .int .i64 j' ∧ Ext w W ∧ (∀ i, i < j' → xs[i]? = ys[i]?) := fun W hW =>
              ⟨j + 1, hlt, by go_num, hW, fun i hi => by
                rcases Nat.lt_or_eq_of_le (Nat.le_of_lt_succ hi) with e | rfl
                · exact HALL.out i e
                · rw [List.getElem?_eq_getElem hlt, List.getElem?_eq_getElem hlt2, HV.out.1, HV.out.2, HQ.out]⟩
            first | exact REL _ (HX.out.drewN _) | ((repeat apply Exists.intro); exact ⟨REL _ (HX.out.drewN _), rfl⟩)
          case measure => simp [intOf]; omega
        · have hq' : (v != v') = true := by simpa using hq
          have HN := hid (show ¬ xs = ys from fun e => by subst e; exact hq (HV.out.1.symm.trans HV.out.2))
          clear hq
          go_wp2_with fail
          go_quiet (fail)
          go_wp2_with fail
          go_ret
          exact ⟨ret_bool (decide_eq_false HN.out).symm, HX.out.drewN _⟩
      · go_wp2_with fail
        go_ret
        exact ⟨ret_bool (decide_eq_true (List.ext_getElem? (fun i => by
          by_cases hi : i < xs.length
          · exact HALL.out i (by omega)
          · rw [List.getElem?_eq_none (by omega), List.getElem?_eq_none (by have := HLE.out; omega)]))).symm, HX.out⟩
  · have q' : ¬ ((xs.length : Int)) = ((ys.length : Int)) := by omega
    have hq2 : (((xs.length : Int)) != ((ys.length : Int))) = true := by simpa using q'
    have HN := hid (show ¬ xs = ys from fun e => hle (by rw [e]))
    clear hle
    go_enter Try.func12, Try.ntmps12
    go_wp2_with fail
    go_ret
    exact ⟨ret_bool (decide_eq_false HN.out).symm, Ext.refl _⟩
end Go.Proofs.Ythdmoghooaccgaa
