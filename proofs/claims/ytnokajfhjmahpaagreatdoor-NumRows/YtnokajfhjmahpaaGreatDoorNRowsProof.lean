/-
  Proved: espalierlaw8.NumRows, called in whatever memory, returns true. Condition: the library's table of blanks is laid as the program's text lays it; the card ties it to that text.
-/
import Derived.Test.YtnokajfhjmahpaaGreatDoorNLaid
import Derived.Test.YtnokajfhjmahpaaGreatDoorNRowsW
namespace Go.Proofs.YtnokajfhjmahpaaGreatDoor.numRows
open Go.ChangeShapes Go.WideShapes Go.ChangeAt Go.RowKit
set_option maxRecDepth 100000 in
theorem lifted (os : Os) (started : os.Started) (H : Type) (enc : TypeId × Value → H) :
    ReturnsInHanded {} Tryz.checked os 3 .any (fun w args => (Rows.numRowsSpec.pre enc Tryz.prog Tryz.f3 [] false w args ∧ laidMetH Tryz.prog listed w) ∧ sizedMet enc Tryz.prog Tryz.f3 (OpenSpec.ofChange Rows.numRowsSpec) false w args)
      (Rows.numRowsSpec.post enc Tryz.prog Tryz.f3 false true false false) := by
  refine handed_laid (X := fun w _ => laidMetH Tryz.prog listed w) (Y := fun W => MaxAt W ∧ Laid W) (fun _ _ _ hh h => h.of_heap hh) (fun _ _ h hs => ⟨max_of_shaped hs, table_of_laid h⟩) ownK started (by kernel_rfl) Tryz.func3
    (ChangeSpec.witness_shaped (enc := enc) (C := Tryz.checked) (os := os) (X := fun w _ => laidMetH Tryz.prog listed w) false (laidWorld os) #[] 8 rfl (World.shaped_of_RefB (by kernel_rfl) (by kernel_rfl)) (by kernel_rfl) (by kernel_rfl) (by kernel_rfl) (laidWorld_met os _)) ?_
  intro W base args ds gs before _ hW _ hY
  obtain ⟨hMX, hLL⟩ := hY
  have hW' := hW
  obtain ⟨p, q, hA0, hV, rfl, hfz, hnd⟩ := hW
  have hA : DataW.TrodAll enc Tryz.prog W 0 (fun _ => true) true Tryz.f3.params.toList args.toList ds p := hA0
  rw [Tryz.params3] at hA
  obtain ⟨rfl, rfl, rfl⟩ := trodAll_none hA
  obtain ⟨rfl, rfl⟩ := trodVars_none hV
  have e1 : Rows.numRowsSpec.fn H ([] ++ []) = { results := [.lit (.bool true)], args := [] } := by simp [Rows.numRowsSpec]
  refine (numRows_true W hMX hLL).mono fun e W' ⟨he, hx⟩ => ?_
  subst he
  refine ⟨_, rfl, _, _, _, [], [], [], hW', ?_, ?_, ?_, Below.frame hx _, fun h => by cases h⟩
  · rw [e1]; exact trodAll_cons_mk (shut_bool Tryz.underlying4 true) trodAll_mk0
  · rw [e1]; exact trodAll_mk0
  · rw [e1]; rfl
theorem over : Rows.numRowsRow.holds Tryz.pinned (OpenSpec.ofChange Rows.numRowsSpec) :=
  OpenClaim.holds_of_wide 3 Tryz.f3 rfl rfl rfl rfl rfl rfl rfl ⟨rfl, rfl, rfl, rfl, rfl⟩ rfl rfl rfl rfl rfl (by kernel_rfl) Tryz.func3 (by kernel_rfl)
    (of_decide_eq_true (by kernel_rfl)) (by unfold Func.isWrapper; rw [if_neg (of_decide_eq_false (by kernel_rfl))]; exact ⟨rfl, rfl⟩)
    (fun os started H enc _ => lifted os started H enc)
end Go.Proofs.YtnokajfhjmahpaaGreatDoor.numRows
namespace Go.Proofs.YtnokajfhjmahpaaGreatDoor
open Go
/-- THE STATEMENT. -/
theorem numRows_holds : Rows.NumRowsCardSaid :=
  Claim7.holds_tied_plain_at .later [] [.listed, .data] true (true, "25c50c647f0253844b70bab7c52f2129bf584a212c64a878ceb662ff0750e548") true
    numRows.over (fun _ h => by cases h) (by kernel_rfl) (fun _ h => by cases h) numRows_row_tie rfl ⟨rfl, rfl⟩ (by kernel_rfl) rfl
    (fun f fn hf hfn => by
      obtain rfl : f = 3 := Option.some.inj ((show Tryz.prog.funcNamed Rows.numRowsRow.func = some 3 by kernel_rfl).symm.trans hf) |>.symm
      obtain rfl : fn = Tryz.f3 := (Option.some.inj (Tryz.func3.symm.trans hfn)).symm
      exact ⟨by kernel_rfl, fun j t ht => by
        rw [Tryz.params3] at ht
        simp at ht⟩)
    (by kernel_rfl)
#print axioms numRows_holds
end Go.Proofs.YtnokajfhjmahpaaGreatDoor
