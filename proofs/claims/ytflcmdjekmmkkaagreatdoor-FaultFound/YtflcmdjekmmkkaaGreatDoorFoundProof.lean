/-
  Proved: espalierlaw1.FaultFound returns true for every Op and every list of notes, and what came in reads as it did (through up to 64 notes errors.As finds an error that has what was said just where the document says that it is raised, and it says that). Condition: errors.errorType is laid as the program's text lays it; the card ties it to that text (of this seat's pruned copy of the project).
-/
import Derived.Test.YtflcmdjekmmkkaaGreatDoorFound
import Derived.Test.YtflcmdjekmmkkaaGreatDoorOpIn
import Derived.Test.YtflcmdjekmmkkaaGreatDoorStrsIn
import Derived.Test.YtflcmdjekmmkkaaGreatDoorLaidIn
import Derived.Test.YtflcmdjekmmkkaaGreatDoorTie
import Derived.Test.YtflcmdjekmmkkaaGreatDoorCards
import Derived.Carry
import Derived.SevenTiedAt
namespace Go.Proofs.YtflcmdjekmmkkaaGreatDoor.faultFound
open Go.ChangeShapes Go.WideShapes Go.ChangeAt Go.RowKit

set_option maxRecDepth 100000 in
theorem lifted (os : Os) (started : os.Started) (H : Type) (enc : TypeId × Value → H) :
    ReturnsInHanded {} Tryz.checked os 6 .any (fun w args => (Rows.faultFoundSpec.pre enc Tryz.prog Tryz.f6 [] false w args ∧ laidMetH Tryz.prog listed w) ∧ sizedMet enc Tryz.prog Tryz.f6 (OpenSpec.ofChange Rows.faultFoundSpec) false w args)
      (Rows.faultFoundSpec.post enc Tryz.prog Tryz.f6 false true false false) := by
  refine returnsInHanded_of_change_and (C := Tryz.checked) (X := fun w _ => laidMetH Tryz.prog listed w) (fun _ _ _ hh h => h.of_heap hh) own started (by kernel_rfl) Tryz.func6
    (ChangeSpec.witness_at (enc := enc) (C := Tryz.checked) (os := os) (X := fun w _ => laidMetH Tryz.prog listed w) false ({ World.holding Tryz.prog os ⟨#[], #[], []⟩ with heap := (World.holding Tryz.prog os ⟨#[], #[], []⟩).heap.setIfInBounds 0 (.cells #[.iface 145 (.agg #[.pointer (some ⟨4, 25, none⟩)])] 116) } : World) #[.agg #[.int .i64 0, .int .i64 0, .string ⟨#[]⟩, .slice none 0 0, .string ⟨#[]⟩, .string ⟨#[]⟩, .string ⟨#[]⟩, .slice none 0 0], .slice none 0 0] 8 rfl (by kernel_rfl) (by kernel_rfl) (by kernel_rfl) (by kernel_rfl) (by kernel_rfl) (laidWorld_met os _)) ?_
  intro W base args ds gs before hval0 hW _ hsz0 hL _
  have hval : ∀ (j : Nat) t v, Tryz.f6.params[j]? = some t → args[j]? = some v → Value.okWide Tryz.prog W .any base t v := hval0
  have hsz : (DataW.weightsEach Tryz.prog (Tryz.f6.params.toList ++ Rows.faultFoundSpec.plain.varTypes Tryz.prog) (ds ++ gs)).all (· ≤ reachBytes) = true := hsz0
  have hW' := hW
  obtain ⟨p, q, hA0, hV0, rfl, hfz, hnd⟩ := hW
  have hA : DataW.TrodAll enc Tryz.prog W 0 (fun _ => true) true Tryz.f6.params.toList args.toList ds p := hA0
  have hV : DataW.TrodVars enc Tryz.prog W (fun _ => true) [] gs q := hV0
  rw [Tryz.params6] at hA hval hsz
  obtain ⟨v0, v1, d0, d1, p0, p1, rfl, rfl, rfl, h0, h1⟩ := trodAll_two hA
  obtain ⟨rfl, rfl⟩ : gs = [] ∧ q = [] := by
    cases gs with
    | nil => exact ⟨rfl, hV⟩
    | cons g r => exact absurd hV (by intro h; cases h)
  have hz0 : (DataW.weights Tryz.prog 36 d0).all (· ≤ reachBytes) = true := List.all_eq_true.2 (fun n hn => List.all_eq_true.1 hsz n (DataW.weights_mem_each (j := 0) (t := 36) (d := d0) rfl rfl n hn))
  obtain ⟨kd, co, fu, a, n, c, sa, ki, ab, na, nn, nc, xs, rfl, hI, hb, _, _, _⟩ := op_open (hval 0 36 v0 rfl rfl) h0 hz0
  have hz1 : (DataW.weights Tryz.prog 34 d1).all (· ≤ reachBytes) = true := List.all_eq_true.2 (fun n hn => List.all_eq_true.1 hsz n (DataW.weights_mem_each (j := 1) (t := 34) (d := d1) rfl rfl n hn))
  obtain ⟨oa, on, oc, l, rfl, hS, hl⟩ := strs_open (hval 1 34 v1 rfl rfl) h1 hz1
  have e1 : Rows.faultFoundSpec.fn H ([d0, d1] ++ []) = { results := [.lit (.bool true)], args := [d0, d1] } := by simp [Rows.faultFoundSpec]
  have hlt0 : ∀ x ∈ p0, x.block < W.heap.size := fun x hx => hW'.lt x (by simp [hx])
  have hlt1 : ∀ x ∈ p1, x.block < W.heap.size := fun x hx => hW'.lt x (by simp [hx])
  refine (found_true kd co fu a n c sa ki ab na nn nc oa on oc l xs W (handle_of_laid hL) hb hl hI hS).mono fun e W' ⟨he, hx⟩ => ?_
  subst he
  refine ⟨_, rfl, _, _, _, [], p0 ++ p1, [], hW', ?_, ?_, ?_, Below.frame hx _, fun h => by cases h⟩
  · rw [e1]; exact trodAll_mk1 (shut_bool Tryz.underlying4 true)
  · rw [e1]; exact trodAll_mk2 (Below.trod laidOut (by kernel_rfl) (of_decide_eq_true (by kernel_rfl)) h0 hx hlt0) (Below.trod laidOut (by kernel_rfl) (of_decide_eq_true (by kernel_rfl)) h1 hx hlt1)
  · rw [e1]; rfl
theorem over : Rows.faultFoundRow.holds Tryz.pinned (OpenSpec.ofChange Rows.faultFoundSpec) :=
  OpenClaim.holds_of_wide 6 Tryz.f6 rfl rfl rfl rfl rfl rfl rfl ⟨rfl, rfl, rfl, rfl, rfl⟩ rfl rfl rfl rfl rfl (by kernel_rfl) Tryz.func6 (by kernel_rfl)
    (of_decide_eq_true (by kernel_rfl)) (by unfold Func.isWrapper; rw [if_neg (of_decide_eq_false (by kernel_rfl))]; exact ⟨rfl, rfl⟩)
    (fun os started H enc _ => lifted os started H enc)
end Go.Proofs.YtflcmdjekmmkkaaGreatDoor.faultFound
namespace Go.Proofs.YtflcmdjekmmkkaaGreatDoor
open Go
/-- THE STATEMENT. -/
theorem faultFound_holds : Rows.FaultFoundCardSaid :=
  Claim7.holds_tied_plain_at .later [] [.handle] true (true, "bdf89215bc364dc2fe522f70bd1645d5a0de2dd7c725b80ed69c8643a8ed3a8d") true
    faultFound.over (fun _ h => by cases h) (by kernel_rfl) (fun _ h => by cases h) faultFound_row_tie rfl ⟨rfl, rfl⟩ (by kernel_rfl) rfl
    (fun f fn hf hfn => by
      obtain rfl : f = 6 := Option.some.inj ((show Tryz.prog.funcNamed Rows.faultFoundRow.func = some 6 by kernel_rfl).symm.trans hf) |>.symm
      obtain rfl : fn = Tryz.f6 := (Option.some.inj (Tryz.func6.symm.trans hfn)).symm
      exact ⟨by kernel_rfl, fun j t ht => by
        rw [Tryz.params6] at ht
        rcases j with _ | _ | j
        · obtain rfl : 36 = t := by simpa using ht
          exact (show Tryz.prog.wantsStandIn 36 = false by kernel_rfl)
        · obtain rfl : 34 = t := by simpa using ht
          exact (show Tryz.prog.wantsStandIn 34 = false by kernel_rfl)
        · simp at ht⟩)
    (by kernel_rfl)
#print axioms faultFound_holds


end Go.Proofs.YtflcmdjekmmkkaaGreatDoor
