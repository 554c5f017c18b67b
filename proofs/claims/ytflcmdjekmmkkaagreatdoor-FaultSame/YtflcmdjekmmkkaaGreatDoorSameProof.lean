/-
  Proved: espalierlaw1.FaultSame returns true for every two Ops and every two lists of notes, and what came in reads as it did (fault.Same holds of two errors just where, notes aside, they have the same abilities and tell the same; an error of another package around one is the same as it; two of another package that tell nothing are not the same). Condition: errors.errorType is laid as the program's text lays it; the card ties it to that text (of this seat's pruned copy of the project).
-/
import Derived.Test.YtflcmdjekmmkkaaGreatDoorSameAll
import Derived.Test.YtflcmdjekmmkkaaGreatDoorOpIn
import Derived.Test.YtflcmdjekmmkkaaGreatDoorStrsIn
import Derived.Test.YtflcmdjekmmkkaaGreatDoorLaidIn
import Derived.Test.YtflcmdjekmmkkaaGreatDoorTie
import Derived.Test.YtflcmdjekmmkkaaGreatDoorCards
import Derived.Carry
import Derived.SevenTiedAt
namespace Go.Proofs.YtflcmdjekmmkkaaGreatDoor.faultSame
open Go.ChangeShapes Go.WideShapes Go.ChangeAt Go.RowKit

set_option maxRecDepth 100000 in
theorem lifted (os : Os) (started : os.Started) (H : Type) (enc : TypeId × Value → H) :
    ReturnsInHanded {} Tryz.checked os 5 .any (fun w args => (Rows.faultSameSpec.pre enc Tryz.prog Tryz.f5 [] false w args ∧ laidMetH Tryz.prog listed w) ∧ sizedMet enc Tryz.prog Tryz.f5 (OpenSpec.ofChange Rows.faultSameSpec) false w args)
      (Rows.faultSameSpec.post enc Tryz.prog Tryz.f5 false true false false) := by
  refine returnsInHanded_of_change_and (C := Tryz.checked) (X := fun w _ => laidMetH Tryz.prog listed w) (fun _ _ _ hh h => h.of_heap hh) own started (by kernel_rfl) Tryz.func5
    (ChangeSpec.witness_at (enc := enc) (C := Tryz.checked) (os := os) (X := fun w _ => laidMetH Tryz.prog listed w) false ({ World.holding Tryz.prog os ⟨#[], #[], []⟩ with heap := (World.holding Tryz.prog os ⟨#[], #[], []⟩).heap.setIfInBounds 0 (.cells #[.iface 145 (.agg #[.pointer (some ⟨4, 25, none⟩)])] 116) } : World) #[.agg #[.int .i64 0, .int .i64 0, .string ⟨#[]⟩, .slice none 0 0, .string ⟨#[]⟩, .string ⟨#[]⟩, .string ⟨#[]⟩, .slice none 0 0], .agg #[.int .i64 0, .int .i64 0, .string ⟨#[]⟩, .slice none 0 0, .string ⟨#[]⟩, .string ⟨#[]⟩, .string ⟨#[]⟩, .slice none 0 0], .slice none 0 0, .slice none 0 0] 8 rfl (by kernel_rfl) (by kernel_rfl) (by kernel_rfl) (by kernel_rfl) (by kernel_rfl) (laidWorld_met os _)) ?_
  intro W base args ds gs before hval0 hW _ hsz0 hL _
  have hval : ∀ (j : Nat) t v, Tryz.f5.params[j]? = some t → args[j]? = some v → Value.okWide Tryz.prog W .any base t v := hval0
  have hsz : (DataW.weightsEach Tryz.prog (Tryz.f5.params.toList ++ Rows.faultSameSpec.plain.varTypes Tryz.prog) (ds ++ gs)).all (· ≤ reachBytes) = true := hsz0
  have hW' := hW
  obtain ⟨p, q, hA0, hV0, rfl, hfz, hnd⟩ := hW
  have hA : DataW.TrodAll enc Tryz.prog W 0 (fun _ => true) true Tryz.f5.params.toList args.toList ds p := hA0
  have hV : DataW.TrodVars enc Tryz.prog W (fun _ => true) [] gs q := hV0
  rw [Tryz.params5] at hA hval hsz
  obtain ⟨v0, v1, v2, v3, d0, d1, d2, d3, p0, p1, p2, p3, rfl, rfl, rfl, h0, h1, h2, h3⟩ := trodAll_four hA
  obtain ⟨rfl, rfl⟩ : gs = [] ∧ q = [] := by
    cases gs with
    | nil => exact ⟨rfl, hV⟩
    | cons g r => exact absurd hV (by intro h; cases h)
  have hz : ∀ (j : Nat) (t : TypeId) (d : DataW H), ([36, 36, 34, 34] : List TypeId)[j]? = some t → [d0, d1, d2, d3][j]? = some d → (DataW.weights Tryz.prog t d).all (· ≤ reachBytes) = true := fun j t d ht hd => List.all_eq_true.2 (fun n hn => List.all_eq_true.1 hsz n (DataW.weights_mem_each (ts := [36, 36, 34, 34]) (ds := [d0, d1, d2, d3]) (j := j) (t := t) (d := d) ht hd n hn))
  obtain ⟨kd1, co1, fu1, a1, n1, c1, sa1, ki1, ab1, na1, nn1, nc1, xs1, rfl, hI1, hb1, _, _, _⟩ := op_open (hval 0 36 v0 rfl rfl) h0 (hz 0 _ _ rfl rfl)
  obtain ⟨kd2, co2, fu2, a2, n2, c2, sa2, ki2, ab2, na2, nn2, nc2, xs2, rfl, hI2, hb2, _, _, _⟩ := op_open (hval 1 36 v1 rfl rfl) h1 (hz 1 _ _ rfl rfl)
  obtain ⟨oa1, on1, oc1, l1, rfl, hS1, hl1⟩ := strs_open (hval 2 34 v2 rfl rfl) h2 (hz 2 _ _ rfl rfl)
  obtain ⟨oa2, on2, oc2, l2, rfl, hS2, hl2⟩ := strs_open (hval 3 34 v3 rfl rfl) h3 (hz 3 _ _ rfl rfl)
  have e1 : Rows.faultSameSpec.fn H ([d0, d1, d2, d3] ++ []) = { results := [.lit (.bool true)], args := [d0, d1, d2, d3] } := by simp [Rows.faultSameSpec]
  have hlt0 : ∀ x ∈ p0, x.block < W.heap.size := fun x hx => hW'.lt x (by simp [hx])
  have hlt1 : ∀ x ∈ p1, x.block < W.heap.size := fun x hx => hW'.lt x (by simp [hx])
  have hlt2 : ∀ x ∈ p2, x.block < W.heap.size := fun x hx => hW'.lt x (by simp [hx])
  have hlt3 : ∀ x ∈ p3, x.block < W.heap.size := fun x hx => hW'.lt x (by simp [hx])
  refine (same_true kd1 co1 fu1 a1 n1 c1 sa1 ki1 ab1 na1 nn1 nc1 xs1 kd2 co2 fu2 a2 n2 c2 sa2 ki2 ab2 na2 nn2 nc2 xs2 oa1 on1 oc1 l1 oa2 on2 oc2 l2 W (handle_of_laid hL) hb1 hb2 hl1 hl2 hI1 hI2 hS1 hS2).mono fun e W' ⟨he, hx⟩ => ?_
  subst he
  refine ⟨_, rfl, _, _, _, [], p0 ++ (p1 ++ (p2 ++ p3)), [], hW', ?_, ?_, ?_, Below.frame hx _, fun h => by cases h⟩
  · rw [e1]; exact trodAll_mk1 (shut_bool Tryz.underlying4 true)
  · rw [e1]; exact trodAll_mk4 (Below.trod laidOut (by kernel_rfl) (of_decide_eq_true (by kernel_rfl)) h0 hx hlt0) (Below.trod laidOut (by kernel_rfl) (of_decide_eq_true (by kernel_rfl)) h1 hx hlt1) (Below.trod laidOut (by kernel_rfl) (of_decide_eq_true (by kernel_rfl)) h2 hx hlt2) (Below.trod laidOut (by kernel_rfl) (of_decide_eq_true (by kernel_rfl)) h3 hx hlt3)
  · rw [e1]; rfl
theorem over : Rows.faultSameRow.holds Tryz.pinned (OpenSpec.ofChange Rows.faultSameSpec) :=
  OpenClaim.holds_of_wide 5 Tryz.f5 rfl rfl rfl rfl rfl rfl rfl ⟨rfl, rfl, rfl, rfl, rfl⟩ rfl rfl rfl rfl rfl (by kernel_rfl) Tryz.func5 (by kernel_rfl)
    (of_decide_eq_true (by kernel_rfl)) (by unfold Func.isWrapper; rw [if_neg (of_decide_eq_false (by kernel_rfl))]; exact ⟨rfl, rfl⟩)
    (fun os started H enc _ => lifted os started H enc)
end Go.Proofs.YtflcmdjekmmkkaaGreatDoor.faultSame
namespace Go.Proofs.YtflcmdjekmmkkaaGreatDoor
open Go
/-- THE STATEMENT. -/
theorem faultSame_holds : Rows.FaultSameCardSaid :=
  Claim7.holds_tied_plain_at .later [] [.handle] true (true, "bdf89215bc364dc2fe522f70bd1645d5a0de2dd7c725b80ed69c8643a8ed3a8d") true
    faultSame.over (fun _ h => by cases h) (by kernel_rfl) (fun _ h => by cases h) faultSame_row_tie rfl ⟨rfl, rfl⟩ (by kernel_rfl) rfl
    (fun f fn hf hfn => by
      obtain rfl : f = 5 := Option.some.inj ((show Tryz.prog.funcNamed Rows.faultSameRow.func = some 5 by kernel_rfl).symm.trans hf) |>.symm
      obtain rfl : fn = Tryz.f5 := (Option.some.inj (Tryz.func5.symm.trans hfn)).symm
      exact ⟨by kernel_rfl, fun j t ht => by
        rw [Tryz.params5] at ht
        rcases j with _ | _ | _ | _ | j
        · obtain rfl : 36 = t := by simpa using ht
          exact (show Tryz.prog.wantsStandIn 36 = false by kernel_rfl)
        · obtain rfl : 36 = t := by simpa using ht
          exact (show Tryz.prog.wantsStandIn 36 = false by kernel_rfl)
        · obtain rfl : 34 = t := by simpa using ht
          exact (show Tryz.prog.wantsStandIn 34 = false by kernel_rfl)
        · obtain rfl : 34 = t := by simpa using ht
          exact (show Tryz.prog.wantsStandIn 34 = false by kernel_rfl)
        · simp at ht⟩)
    (by kernel_rfl)
#print axioms faultSame_holds


end Go.Proofs.YtflcmdjekmmkkaaGreatDoor
