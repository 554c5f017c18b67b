/-
  Proved: espalierlaw11.ListCount returns true for any number, and what came in reads as it did. Condition: the library's table of blanks is laid as the program's text lays it; the card ties it to that text.
-/
import Derived.Test.YtnmcmjgfnncdmaaGreatDoorBLaid
import Derived.Test.YtnmcmjgfnncdmaaGreatDoorLClosed
import Derived.Test.YtnmcmjgfnncdmaaGreatDoorLCountW
namespace Go.Proofs.YtnmcmjgfnncdmaaGreatDoor.listCount
open Go.ChangeShapes Go.WideShapes Go.ChangeAt Go.RowKit
theorem max_of_shaped {W : World} (h : W.ShapedOpen Tryz.prog) : MaxAt W :=
  cell_of_shapedOpen_int (P := Tryz.prog) (g := 3) (t := 3) (zero := #[.int .i64 0]) (k := .i64) h (of_decide_eq_true (by kernel_rfl)) (by kernel_rfl) rfl (by kernel_rfl) (by kernel_rfl) Tryz.underlying3
theorem laidOut : laidOutB Tryz.prog = true := by kernel_rfl
set_option maxRecDepth 100000 in
theorem lifted (os : Os) (started : os.Started) (H : Type) (enc : TypeId × Value → H) :
    ReturnsInHanded {} Tryz.checked os 7 .any (fun w args => (Rows.listCountSpec.pre enc Tryz.prog Tryz.f7 [] false w args ∧ laidMetH Tryz.prog listed w) ∧ sizedMet enc Tryz.prog Tryz.f7 (OpenSpec.ofChange Rows.listCountSpec) false w args)
      (Rows.listCountSpec.post enc Tryz.prog Tryz.f7 false true false false) := by
  refine handed_laid (X := fun w _ => laidMetH Tryz.prog listed w) (Y := fun W => MaxAt W ∧ Laid W) (fun _ _ _ hh h => h.of_heap hh) (fun _ _ h hs => ⟨max_of_shaped hs, table_of_laid h⟩) ownK started (by kernel_rfl) Tryz.func7
    (ChangeSpec.witness_shaped (enc := enc) (C := Tryz.checked) (os := os) (X := fun w _ => laidMetH Tryz.prog listed w) false (laidWorld os) #[.int .i64 0] 8 rfl (World.shaped_of_RefB (by kernel_rfl) (by kernel_rfl)) (by kernel_rfl) (by kernel_rfl) (by kernel_rfl) (laidWorld_met os _)) ?_
  intro W base args ds gs before hval0 hW hsz0 hY
  obtain ⟨hMX, hLL⟩ := hY
  have hval : ∀ (j : Nat) t v, Tryz.f7.params[j]? = some t → args[j]? = some v → Value.okWide Tryz.prog W .any base t v := hval0
  have hsz : (DataW.weightsEach Tryz.prog (Tryz.f7.params.toList ++ Rows.listCountSpec.plain.varTypes Tryz.prog) (ds ++ gs)).all (· ≤ reachBytes) = true := hsz0
  have hW' := hW
  obtain ⟨p, q, hA0, hV, rfl, hfz, hnd⟩ := hW
  have hA : DataW.TrodAll enc Tryz.prog W 0 (fun _ => true) true Tryz.f7.params.toList args.toList ds p := hA0
  rw [Tryz.params7] at hA hval hsz
  obtain ⟨v0, vs0, d0, ds0, p0, q0, hargs, rfl, rfl, h0, r0⟩ := trodAll_cons hA
  obtain ⟨rfl, rfl, rfl⟩ := trodAll_nil r0
  obtain rfl : args = #[v0] := by cases args; simp_all
  obtain ⟨rfl, rfl⟩ := trodVars_none hV
  obtain ⟨n0, rfl⟩ := Go.WideShapes.okWide_int Tryz.underlying2 (hval 0 2 v0 rfl rfl)
  have e1 : Rows.listCountSpec.fn H ([d0] ++ []) = { results := [.lit (.bool true)], args := [d0] } := by simp [Rows.listCountSpec]
  have hlt0 : ∀ x ∈ p0, x.block < W.heap.size := fun x hx => hW'.lt x (by simp [hx])
  clear hA0 hval0 hsz0 hsz
  refine (Nd.countL_true n0 W hLL hMX).mono fun e W' ⟨he, hx⟩ => ?_
  subst he
  refine ⟨_, rfl, _, _, _, [], p0 ++ [], [], hW', ?_, ?_, ?_, Below.frame hx _, fun h => by cases h⟩
  · rw [e1]; exact trodAll_cons_mk (shut_bool Tryz.underlying4 true) trodAll_mk0
  · rw [e1]; exact trodAll_cons_mk (Below.trod laidOut (by kernel_rfl) (of_decide_eq_true (by kernel_rfl)) h0 hx hlt0) trodAll_mk0
  · rw [e1]; rfl
theorem over : Rows.listCountRow.holds Tryz.pinned (OpenSpec.ofChange Rows.listCountSpec) :=
  OpenClaim.holds_of_wide 7 Tryz.f7 rfl rfl rfl rfl rfl rfl rfl ⟨rfl, rfl, rfl, rfl, rfl⟩ rfl rfl rfl rfl rfl hfn0 Tryz.func7 closed0 hinst0 hwrap0
    (fun os started H enc _ => lifted os started H enc)
end Go.Proofs.YtnmcmjgfnncdmaaGreatDoor.listCount
namespace Go.Proofs.YtnmcmjgfnncdmaaGreatDoor
open Go
/-- THE STATEMENT. -/
theorem listCount_holds : Rows.ListCountCardSaid :=
  Claim7.holds_tied_plain_at .later [] [.listed, .data] true (true, "27111192a1d547bd11d555cdf7827f3ee8cc52acc625798689fc138a5533c6eb") true
    listCount.over (fun _ h => by cases h) (by kernel_rfl) (fun _ h => by cases h) listCount_row_tie rfl ⟨rfl, rfl⟩ (by kernel_rfl) rfl
    (fun f fn hf hfn => by
      obtain rfl : f = 7 := Option.some.inj ((show Tryz.prog.funcNamed Rows.listCountRow.func = some 7 by kernel_rfl).symm.trans hf) |>.symm
      obtain rfl : fn = Tryz.f7 := (Option.some.inj (Tryz.func7.symm.trans hfn)).symm
      exact ⟨by kernel_rfl, fun j t ht => by
        rw [Tryz.params7] at ht
        rcases j with _ | j
        · obtain rfl : 2 = t := by simpa using ht
          exact (show Tryz.prog.wantsStandIn 2 = false by kernel_rfl)
        · simp at ht⟩)
    (by kernel_rfl)
#print axioms listCount_holds
end Go.Proofs.YtnmcmjgfnncdmaaGreatDoor
