/-
  Proved: espalierlaw1.FaultSwitch returns true for every Op and every note, and what came in reads as it did (an error comes to the case of its greatest ability where the greater ones stand ahead, to Coded where the lesser ones do; with a note to none of them; what Unwrap gives tells what the document says). Condition: errors.errorType is laid as the program's text lays it; the card ties it to that text (of this seat's pruned copy of the project).
-/
import Derived.Test.YtflcmdjekmmkkaaGreatDoorSwitch
import Derived.Test.YtflcmdjekmmkkaaGreatDoorOpIn
import Derived.Test.YtflcmdjekmmkkaaGreatDoorLaidIn
import Derived.Test.YtflcmdjekmmkkaaGreatDoorTie
import Derived.Test.YtflcmdjekmmkkaaGreatDoorCards
import Derived.Carry
import Derived.SevenTiedAt
namespace Go.Proofs.YtflcmdjekmmkkaaGreatDoor.faultSwitch
open Go.ChangeShapes Go.WideShapes Go.ChangeAt Go.RowKit

set_option maxRecDepth 100000 in
theorem lifted (os : Os) (started : os.Started) (H : Type) (enc : TypeId × Value → H) :
    ReturnsInHanded {} Tryz.checked os 7 .any (fun w args => (Rows.faultSwitchSpec.pre enc Tryz.prog Tryz.f7 [] false w args ∧ laidMetH Tryz.prog listed w) ∧ sizedMet enc Tryz.prog Tryz.f7 (OpenSpec.ofChange Rows.faultSwitchSpec) false w args)
      (Rows.faultSwitchSpec.post enc Tryz.prog Tryz.f7 false true false false) := by
  refine returnsInHanded_of_change_and (C := Tryz.checked) (X := fun w _ => laidMetH Tryz.prog listed w) (fun _ _ _ hh h => h.of_heap hh) own started (by kernel_rfl) Tryz.func7
    (ChangeSpec.witness_at (enc := enc) (C := Tryz.checked) (os := os) (X := fun w _ => laidMetH Tryz.prog listed w) false ({ World.holding Tryz.prog os ⟨#[], #[], []⟩ with heap := (World.holding Tryz.prog os ⟨#[], #[], []⟩).heap.setIfInBounds 0 (.cells #[.iface 145 (.agg #[.pointer (some ⟨4, 25, none⟩)])] 116) } : World) #[.agg #[.int .i64 0, .int .i64 0, .string ⟨#[]⟩, .slice none 0 0, .string ⟨#[]⟩, .string ⟨#[]⟩, .string ⟨#[]⟩, .slice none 0 0], .string ⟨#[]⟩] 8 rfl (by kernel_rfl) (by kernel_rfl) (by kernel_rfl) (by kernel_rfl) (by kernel_rfl) (laidWorld_met os _)) ?_
  intro W base args ds gs before hval0 hW _ hsz0 hL _
  have hval : ∀ (j : Nat) t v, Tryz.f7.params[j]? = some t → args[j]? = some v → Value.okWide Tryz.prog W .any base t v := hval0
  have hsz : (DataW.weightsEach Tryz.prog (Tryz.f7.params.toList ++ Rows.faultSwitchSpec.plain.varTypes Tryz.prog) (ds ++ gs)).all (· ≤ reachBytes) = true := hsz0
  have hW' := hW
  obtain ⟨p, q, hA0, hV0, rfl, hfz, hnd⟩ := hW
  have hA : DataW.TrodAll enc Tryz.prog W 0 (fun _ => true) true Tryz.f7.params.toList args.toList ds p := hA0
  have hV : DataW.TrodVars enc Tryz.prog W (fun _ => true) [] gs q := hV0
  rw [Tryz.params7] at hA hval hsz
  obtain ⟨v0, v1, d0, d1, p0, p1, rfl, rfl, rfl, h0, h1⟩ := trodAll_two hA
  obtain ⟨rfl, rfl⟩ : gs = [] ∧ q = [] := by
    cases gs with
    | nil => exact ⟨rfl, hV⟩
    | cons g r => exact absurd hV (by intro h; cases h)
  have hz0 : (DataW.weights Tryz.prog 36 d0).all (· ≤ reachBytes) = true := List.all_eq_true.2 (fun n hn => List.all_eq_true.1 hsz n (DataW.weights_mem_each (j := 0) (t := 36) (d := d0) rfl rfl n hn))
  obtain ⟨kd, co, fu, a, n, c, sa, ki, ab, na, nn, nc, xs, rfl, hI, hb, z1, z2, z3⟩ := op_open (hval 0 36 v0 rfl rfl) h0 hz0
  obtain ⟨nt, rfl⟩ := okWide_string Tryz.underlying9 (hval 1 9 v1 rfl rfl)
  have e1 : Rows.faultSwitchSpec.fn H ([d0, d1] ++ []) = { results := [.lit (.bool true)], args := [d0, d1] } := by simp [Rows.faultSwitchSpec]
  have hlt0 : ∀ x ∈ p0, x.block < W.heap.size := fun x hx => hW'.lt x (by simp [hx])
  have hlt1 : ∀ x ∈ p1, x.block < W.heap.size := fun x hx => hW'.lt x (by simp [hx])
  refine (switch_true kd co fu a n c sa ki ab na nn nc nt xs W (handle_of_laid hL) hb z1 z2 z3 hI).mono fun e W' ⟨he, hx⟩ => ?_
  subst he
  refine ⟨_, rfl, _, _, _, [], p0 ++ p1, [], hW', ?_, ?_, ?_, Below.frame hx _, fun h => by cases h⟩
  · rw [e1]; exact trodAll_mk1 (shut_bool Tryz.underlying4 true)
  · rw [e1]; exact trodAll_mk2 (Below.trod laidOut (by kernel_rfl) (of_decide_eq_true (by kernel_rfl)) h0 hx hlt0) (Below.trod laidOut (by kernel_rfl) (of_decide_eq_true (by kernel_rfl)) h1 hx hlt1)
  · rw [e1]; rfl
theorem over : Rows.faultSwitchRow.holds Tryz.pinned (OpenSpec.ofChange Rows.faultSwitchSpec) :=
  OpenClaim.holds_of_wide 7 Tryz.f7 rfl rfl rfl rfl rfl rfl rfl ⟨rfl, rfl, rfl, rfl, rfl⟩ rfl rfl rfl rfl rfl (by kernel_rfl) Tryz.func7 (by kernel_rfl)
    (of_decide_eq_true (by kernel_rfl)) (by unfold Func.isWrapper; rw [if_neg (of_decide_eq_false (by kernel_rfl))]; exact ⟨rfl, rfl⟩)
    (fun os started H enc _ => lifted os started H enc)
end Go.Proofs.YtflcmdjekmmkkaaGreatDoor.faultSwitch
namespace Go.Proofs.YtflcmdjekmmkkaaGreatDoor
open Go
/-- THE STATEMENT. -/
theorem faultSwitch_holds : Rows.FaultSwitchCardSaid :=
  Claim7.holds_tied_plain_at .later [] [.handle] true (true, "bdf89215bc364dc2fe522f70bd1645d5a0de2dd7c725b80ed69c8643a8ed3a8d") true
    faultSwitch.over (fun _ h => by cases h) (by kernel_rfl) (fun _ h => by cases h) faultSwitch_row_tie rfl ⟨rfl, rfl⟩ (by kernel_rfl) rfl
    (fun f fn hf hfn => by
      obtain rfl : f = 7 := Option.some.inj ((show Tryz.prog.funcNamed Rows.faultSwitchRow.func = some 7 by kernel_rfl).symm.trans hf) |>.symm
      obtain rfl : fn = Tryz.f7 := (Option.some.inj (Tryz.func7.symm.trans hfn)).symm
      exact ⟨by kernel_rfl, fun j t ht => by
        rw [Tryz.params7] at ht
        rcases j with _ | _ | j
        · obtain rfl : 36 = t := by simpa using ht
          exact (show Tryz.prog.wantsStandIn 36 = false by kernel_rfl)
        · obtain rfl : 9 = t := by simpa using ht
          exact (show Tryz.prog.wantsStandIn 9 = false by kernel_rfl)
        · simp at ht⟩)
    (by kernel_rfl)
#print axioms faultSwitch_holds


end Go.Proofs.YtflcmdjekmmkkaaGreatDoor
