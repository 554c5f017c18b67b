/-
  list.add to a list in memory, by a contract.
-/
import Derived.Test.YtaafcmmmkalgjaaGreatDoorLJoin
import Derived.Deep.RegionHeld3
namespace Go.Proofs.YtaafcmmmkalgjaaGreatDoor
open Go.RowKit
set_option maxRecDepth 100000 in
set_option maxHeartbeats 4000000 in
theorem add_ok (g b1 o1 c1 n1 : Nat) (xs1 : List Value) (u : Value) (w : World) (h0 : w.cell? ⟨g, 0, none⟩ = some (.iface 81 (.slice (some ⟨b1, o1, none⟩) n1 c1))) (h1 : w.cell? ⟨g, 1, none⟩ = some u) (hl1 : xs1.length = n1) (hb : (n1 + 1) * 16 ≤ 140737488355328)
    (h11 : ∀ u ∈ xs1, u.oneCell' = true) (h12 : u.oneCell' = true) (hc1 : ∀ (j : Nat) (u : Value), xs1[j]? = some u → w.cell? ⟨b1, o1 + j, none⟩ = some u) :
    Calls Tryz.prog 43 #[.slice (some ⟨g, 0, none⟩) 2 2] w (ListR w (xs1 ++ [u])) := by
  have HI := hid (fun W (hW : Ext w W) => items0_any g 2 (by decide) (some ⟨b1, o1, none⟩) n1 c1 W ((hW.kp (fun _ => True)).cell h0 trivial))
  have HC := hid (show ∀ (W : World) (q : Nat), Ext w W → W.cell? ⟨q, 0, none⟩ = some (.slice (some ⟨b1, o1, none⟩) n1 c1) → W.cell? ⟨q, 1, none⟩ = some (.slice (some ⟨g, 1, none⟩) 1 1) → Calls Tryz.prog 78 #[.slice (some ⟨q, 0, none⟩) 2 2] W (fun e w' => ∃ v, e = .returned v ∧ w'.ownsRow w.heap.size 35 1 v (n1 + 1) (xs1 ++ [u]) ∧ Ext w w') from fun W q hW e0 e1 => (concat2 q b1 o1 c1 g 1 1 n1 1 xs1 [u] W e0 e1 hl1 rfl hb h11 (fun x hx => by rw [List.mem_singleton.1 hx]; exact h12)
    (fun j x hu => (hW.kp (fun _ => True)).cell (hc1 j x hu) trivial) (fun j x hu => by
      rcases j with _ | j
      · obtain rfl : u = x := by simpa using hu
        exact (hW.kp (fun _ => True)).cell h1 trivial
      · simp at hu)).mono fun e w' ⟨v, he, ho, hx⟩ => ⟨v, he, own_base ho hW.size, hW.trans hx⟩)
  have HL := hid (show (xs1 ++ [u]).length = n1 + 1 by rw [List.length_append, hl1]; rfl)
  clear h0 h1 hl1 hb h11 h12 hc1
  go_enter Tryz.func43, Tryz.ntmps43
  go_upto_region 1 with fail
  go_region_held3 (fun W' => Ext w W') (repeat (first | with_reducible exact Ext.refl _ | with_reducible exact Z1 | with_reducible refine Ext.drew ?_ | with_reducible refine Ext.more ?_ _))
    (first
      | (go_at_call 75; refine (HI.out _ (by repeat (first | with_reducible exact Ext.refl _ | with_reducible refine Ext.drew ?_))).mono ?_; rintro r u1 ⟨rfl, hw1⟩; rw [hw1]; clear hw1 u1)
      | (go_at_call 78; refine (HC.out _ _ (by repeat (first | with_reducible exact Ext.refl _ | with_reducible refine Ext.drew ?_ | with_reducible refine Ext.more ?_ _)) (by first | exact cell_of (blk0 _ _) rfl | (simp only [World.cell?_drew]; exact cell_of (blk0 _ _) rfl)) (by first | exact cell_of (blk0 _ _) rfl | (simp only [World.cell?_drew]; exact cell_of (blk0 _ _) rfl))).mono ?_; rintro r u2 ⟨v, rfl, ho, Z1⟩; have HO := hid ho; clear ho)
      | (go_at_call 73; refine (lcame_any _ _).mono ?_; rintro r u3 ⟨rfl, hw3⟩; rw [hw3]; clear hw3 u3))
  all_goals
    go_wp2_with fail
    go_ret3
    exact ⟨v, rfl, by rw [HL.out]; exact HO.out, Z1⟩
end Go.Proofs.YtaafcmmmkalgjaaGreatDoor
