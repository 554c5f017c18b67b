/-
  espalierlaw4.EqNames of two blocks of the same words: true; by a contract.
-/
import Derived.Test.YthablchefckclaaDoorNBegun
namespace Go.Proofs.YthablchefckclaaDoor
open Go.RowKit
set_option maxRecDepth 100000 in
set_option maxHeartbeats 4000000 in
theorem eqNames_same (g h n : Nat) (xs : Array Value) (hn : n ≤ 100) (hs : ∀ k, k < n → ∃ s, xs[k]? = some (.string s)) (w : World) (hg : w.heap[g]? = some (.cells xs 9)) (hh : w.heap[h]? = some (.cells xs 9)) : Calls Tryd.prog 7 #[.slice (some ⟨g, 0, none⟩) n n, .slice (some ⟨h, 0, none⟩) n n] w fun e w' => e = .returned (.bool true) ∧ Ext w w' := by
  have HG := hid hg
  have HH := hid hh
  have HS := hid hs
  clear hg hh hs
  go_enter Tryd.func7, Tryd.ntmps7
  go_wp2_with fail
  go_loopw [5] (fun q5 wr => ∃ j : Nat, j ≤ n ∧ q5 = .int .i64 j ∧ Ext w wr) (fun q5 _ => n - (intOf q5).toNat)
  case atStart => exact ⟨0, Nat.zero_le _, rfl, Ext.refl _⟩
  case round =>
    obtain ⟨j, hj, rfl, hx⟩ := hrel
    have XR := hid hx
    clear hx
    by_cases hlt : j < n
    · have hlt' : (j : Int) < n := by omega
      obtain ⟨s, hs⟩ := HS.out j hlt
      have HP := hid (show ∀ W', Ext wr W' → (W'.cell? ⟨g, j, none⟩ = some (.string s) ∧ W'.cell? ⟨h, j, none⟩ = some (.string s)) from fun W' X => ⟨cell_of ((XR.out.trans X).block HG.out) hs, cell_of ((XR.out.trans X).block HH.out) hs⟩)
      have heq := str_eqb s s
      rw [decide_eq_true rfl] at heq
      clear hs
      go_upto_region 6 with fail
      go_region_held3 (fun W' => W'.cell? ⟨g, j, none⟩ = some (.string s) ∧ W'.cell? ⟨h, j, none⟩ = some (.string s))
        (first | with_reducible exact HP.out _ (Ext.refl _) | with_reducible exact HP.out _ (Ext.refl _).drew | go_keep)
        (fail)
      all_goals
        go_wp2_with fail
        go_roundw
        case rel => exact ⟨j + 1, by omega, by go_num, by repeat (first | with_reducible exact XR.out | with_reducible refine Ext.drew ?_)⟩
        case measure => simp [intOf]; omega
    · have hje : j = n := by omega
      subst hje
      go_wp2_with fail
      go_ret
      exact ⟨rfl, XR.out⟩
end Go.Proofs.YthablchefckclaaDoor
