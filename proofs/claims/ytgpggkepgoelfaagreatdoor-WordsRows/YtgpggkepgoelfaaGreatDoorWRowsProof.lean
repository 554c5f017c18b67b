/-
  Proved: espalierlaw10.WordsRows, called in whatever memory, returns true. Condition: the library's tables and its two errors are laid as the program's text lays them; the card ties them to that text.
-/
import Derived.Test.YtgpggkepgoelfaaGreatDoorWLaid
import Derived.Test.YtgpggkepgoelfaaGreatDoorWRowsW
namespace Go.Proofs.YtgpggkepgoelfaaGreatDoor.wordsRows
open Go.ChangeShapes Go.WideShapes Go.ChangeAt Go.RowKit
set_option maxRecDepth 100000 in
theorem lifted (os : Os) (started : os.Started) (H : Type) (enc : TypeId × Value → H) :
    ReturnsInHanded {} Tryz.checked os 4 .any (fun w args => (Rows.wordsRowsSpec.pre enc Tryz.prog Tryz.f4 [] false w args ∧ laidMetH Tryz.prog listed w) ∧ sizedMet enc Tryz.prog Tryz.f4 (OpenSpec.ofChange Rows.wordsRowsSpec) false w args)
      (Rows.wordsRowsSpec.post enc Tryz.prog Tryz.f4 false true false false) := by
  refine handed_laid (X := fun w _ => laidMetH Tryz.prog listed w) (Y := fun W => WAt W ∧ Laid W) (fun _ _ _ hh h => h.of_heap hh) (fun _ _ h hs => ⟨⟨max_of_shaped hs, rest_of_laid h⟩, table_of_laid h⟩) ownK started (by kernel_rfl) Tryz.func4
    (ChangeSpec.witness_shaped (enc := enc) (C := Tryz.checked) (os := os) (X := fun w _ => laidMetH Tryz.prog listed w) false (laidWorld os) #[] 8 rfl (World.shaped_of_RefB (by kernel_rfl) (by kernel_rfl)) (by kernel_rfl) (by kernel_rfl) (by kernel_rfl) (laidWorld_met os _)) ?_
  intro W base args ds gs before _ hW _ hY
  obtain ⟨hMX, hLL⟩ := hY
  have hW' := hW
  obtain ⟨p, q, hA0, hV, rfl, hfz, hnd⟩ := hW
  have hA : DataW.TrodAll enc Tryz.prog W 0 (fun _ => true) true Tryz.f4.params.toList args.toList ds p := hA0
  rw [Tryz.params4] at hA
  obtain ⟨rfl, rfl, rfl⟩ := trodAll_none hA
  obtain ⟨rfl, rfl⟩ := trodVars_none hV
  refine (wordsRows_true   W hMX hLL).mono fun e W' ⟨he, hx⟩ => ?_
  have e1 : Rows.wordsRowsSpec.fn H ([] ++ []) = { results := [.lit (.bool true)], args := [] } := by simp [Rows.wordsRowsSpec]
  subst he
  refine ⟨_, rfl, _, _, _, [], [], [], hW', ?_, ?_, ?_, Below.frame hx _, fun h => by cases h⟩
  · rw [e1]; exact trodAll_cons_mk (shut_bool Tryz.underlying4 true) trodAll_mk0
  · rw [e1]; exact trodAll_mk0
  · rw [e1]; rfl
theorem over : Rows.wordsRowsRow.holds Tryz.pinned (OpenSpec.ofChange Rows.wordsRowsSpec) :=
  OpenClaim.holds_of_wide 4 Tryz.f4 rfl rfl rfl rfl rfl rfl rfl ⟨rfl, rfl, rfl, rfl, rfl⟩ rfl rfl rfl rfl rfl (by kernel_rfl) Tryz.func4 (by kernel_rfl)
    (of_decide_eq_true (by kernel_rfl)) (by unfold Func.isWrapper; rw [if_neg (of_decide_eq_false (by kernel_rfl))]; exact ⟨rfl, rfl⟩)
    (fun os started H enc _ => lifted os started H enc)
end Go.Proofs.YtgpggkepgoelfaaGreatDoor.wordsRows
namespace Go.Proofs.YtgpggkepgoelfaaGreatDoor
open Go
/-- THE STATEMENT. -/
theorem wordsRows_holds : Rows.WordsRowsCardSaid :=
  Claim7.holds_tied_plain_at .later [] [.data, .data, .data, .sentinel, .sentinel, .listed, .data] true (true, "5fce7b7ca680f09840d9a1ed36d37a53bc34958ff2a59cdddc2cff2efe8f86d7") true
    wordsRows.over (fun _ h => by cases h) (by kernel_rfl) (fun _ h => by cases h) wordsRows_row_tie rfl ⟨rfl, rfl⟩ (by kernel_rfl) rfl
    (fun f fn hf hfn => by
      obtain rfl : f = 4 := Option.some.inj ((show Tryz.prog.funcNamed Rows.wordsRowsRow.func = some 4 by kernel_rfl).symm.trans hf) |>.symm
      obtain rfl : fn = Tryz.f4 := (Option.some.inj (Tryz.func4.symm.trans hfn)).symm
      exact ⟨by kernel_rfl, fun j t ht => by
        rw [Tryz.params4] at ht
        simp at ht⟩)
    (by kernel_rfl)
#print axioms wordsRows_holds
end Go.Proofs.YtgpggkepgoelfaaGreatDoor
