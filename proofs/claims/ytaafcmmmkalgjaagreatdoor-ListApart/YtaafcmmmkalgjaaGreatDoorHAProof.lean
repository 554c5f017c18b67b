/-
  Proved: espalierlaw11.ListApart returns true for any list of calls, and what came in reads as it did. Condition: the library's table of blanks is laid as the program's text lays it; the card ties it to that text.
-/
import Derived.Test.YtaafcmmmkalgjaaGreatDoorBLaid
import Derived.Test.YtaafcmmmkalgjaaGreatDoorHAClosed
import Derived.Test.YtaafcmmmkalgjaaGreatDoorHApart
import Derived.Test.YtaafcmmmkalgjaaGreatDoorLBeg
namespace Go.Proofs.YtaafcmmmkalgjaaGreatDoor.listApart
open Go.ChangeShapes Go.WideShapes Go.ChangeAt Go.RowKit
theorem max_of_shaped {W : World} (h : W.ShapedOpen Tryz.prog) : MaxAt W :=
  cell_of_shapedOpen_int (P := Tryz.prog) (g := 2) (t := 3) (zero := #[.int .i64 0]) (k := .i64) h (of_decide_eq_true (by kernel_rfl)) (by kernel_rfl) rfl (by kernel_rfl) (by kernel_rfl) Tryz.underlying3
theorem laidOut : laidOutB Tryz.prog = true := by kernel_rfl
set_option maxRecDepth 100000 in
theorem lifted (os : Os) (started : os.Started) (H : Type) (enc : TypeId × Value → H) :
    ReturnsInHanded {} Tryz.checked os 4 .any (fun w args => (Rows.listApartSpec.pre enc Tryz.prog Tryz.f4 [] false w args ∧ laidMetH Tryz.prog listed w) ∧ sizedMet enc Tryz.prog Tryz.f4 (OpenSpec.ofChange Rows.listApartSpec) false w args)
      (Rows.listApartSpec.post enc Tryz.prog Tryz.f4 false true false false) := by
  refine handed_laid (X := fun w _ => laidMetH Tryz.prog listed w) (Y := fun W => MaxAt W ∧ Laid W) (fun _ _ _ hh h => h.of_heap hh) (fun _ _ h hs => ⟨max_of_shaped hs, table_of_laid h⟩) ownK started (by kernel_rfl) Tryz.func4
    (ChangeSpec.witness_shaped (enc := enc) (C := Tryz.checked) (os := os) (X := fun w _ => laidMetH Tryz.prog listed w) false (laidWorld os) #[.slice none 0 0] 8 rfl (World.shaped_of_RefB (by kernel_rfl) (by kernel_rfl)) (by kernel_rfl) (by kernel_rfl) (by kernel_rfl) (laidWorld_met os _)) ?_
  intro W base args ds gs before hval0 hW hsz0 hY
  obtain ⟨hMX, hLL⟩ := hY
  have hval : ∀ (j : Nat) t v, Tryz.f4.params[j]? = some t → args[j]? = some v → Value.okWide Tryz.prog W .any base t v := hval0
  have hsz : (DataW.weightsEach Tryz.prog (Tryz.f4.params.toList ++ Rows.listApartSpec.plain.varTypes Tryz.prog) (ds ++ gs)).all (· ≤ reachBytes) = true := hsz0
  have hW' := hW
  obtain ⟨p, q, hA0, hV, rfl, hfz, hnd⟩ := hW
  have hA : DataW.TrodAll enc Tryz.prog W 0 (fun _ => true) true Tryz.f4.params.toList args.toList ds p := hA0
  rw [Tryz.params4] at hA hval hsz
  obtain ⟨v0, vs0, d0, ds0, p0, q0, hargs, rfl, rfl, h0, r0⟩ := trodAll_cons hA
  obtain ⟨rfl, rfl, rfl⟩ := trodAll_nil r0
  obtain rfl : args = #[v0] := by cases args; simp_all
  obtain ⟨rfl, rfl⟩ := trodVars_none hV
  obtain ⟨a0, n0, c0, rfl, hS, hn⟩ := calls_open (hval 0 22 v0 rfl rfl) h0 (List.all_eq_true.2 (fun n hn => List.all_eq_true.1 hsz n (DataW.weights_mem_each (j := 0) (t := 22) (d := d0) rfl rfl n hn)))
  have e1 : Rows.listApartSpec.fn H ([d0] ++ []) = { results := [.lit (.bool true)], args := [d0] } := by simp [Rows.listApartSpec]
  have hlt0 : ∀ x ∈ p0, x.block < W.heap.size := fun x hx => hW'.lt x (by simp [hx])
  clear hA0 hval0 hsz0 hsz
  refine (Nd.listApart_true a0 n0 c0 W hS hn hMX (Nd.begunL_any W hLL hMX)).mono fun e W' ⟨he, hx⟩ => ?_
  subst he
  refine ⟨_, rfl, _, _, _, [], p0 ++ [], [], hW', ?_, ?_, ?_, Below.frame hx _, fun h => by cases h⟩
  · rw [e1]; exact trodAll_cons_mk (shut_bool Tryz.underlying4 true) trodAll_mk0
  · rw [e1]; exact trodAll_cons_mk (Below.trod laidOut (by kernel_rfl) (of_decide_eq_true (by kernel_rfl)) h0 hx hlt0) trodAll_mk0
  · rw [e1]; rfl
theorem over : Rows.listApartRow.holds Tryz.pinned (OpenSpec.ofChange Rows.listApartSpec) :=
  OpenClaim.holds_of_wide 4 Tryz.f4 rfl rfl rfl rfl rfl rfl rfl ⟨rfl, rfl, rfl, rfl, rfl⟩ rfl rfl rfl rfl rfl hfn0 Tryz.func4 closed0 hinst0 hwrap0
    (fun os started H enc _ => lifted os started H enc)
end Go.Proofs.YtaafcmmmkalgjaaGreatDoor.listApart
namespace Go.Proofs.YtaafcmmmkalgjaaGreatDoor
open Go
/-- THE STATEMENT. -/
theorem listApart_holds : Rows.ListApartCardSaid :=
  Claim7.holds_tied_plain_at .later [] [.listed, .data] true (true, "82c502729d3ee80e19221c1c8389988b4bcabc8646b96f22eecbfba1ec196387") true
    listApart.over (fun _ h => by cases h) (by kernel_rfl) (fun _ h => by cases h) listApart_row_tie rfl ⟨rfl, rfl⟩ (by kernel_rfl) rfl
    (fun f fn hf hfn => by
      obtain rfl : f = 4 := Option.some.inj ((show Tryz.prog.funcNamed Rows.listApartRow.func = some 4 by kernel_rfl).symm.trans hf) |>.symm
      obtain rfl : fn = Tryz.f4 := (Option.some.inj (Tryz.func4.symm.trans hfn)).symm
      exact ⟨by kernel_rfl, fun j t ht => by
        rw [Tryz.params4] at ht
        rcases j with _ | j
        · obtain rfl : 22 = t := by simpa using ht
          exact (show Tryz.prog.wantsStandIn 22 = false by kernel_rfl)
        · simp at ht⟩)
    (by kernel_rfl)
#print axioms listApart_holds
end Go.Proofs.YtaafcmmmkalgjaaGreatDoor
