/-
  Proved: espalierlaw7.KitMade returns true for any name, rows and kind, and what came in reads as it did. Condition: the library's tables and errors.errorType are laid as the program's text lays them; the card ties them to that text.
-/
import Derived.Test.YtaodkfchmaendaaGreatDoorCFLaid
import Derived.Test.YtaodkfchmaendaaGreatDoorJ7MdClosed
import Derived.Test.YtaodkfchmaendaaGreatDoorJ7MdIn
namespace Go.Proofs.YtaodkfchmaendaaGreatDoor.kitMade
open Go.ChangeShapes Go.WideShapes Go.ChangeAt Go.RowKit
theorem laidOut : laidOutB Tryz.prog = true := by kernel_rfl
set_option maxRecDepth 100000 in
theorem lifted (os : Os) (started : os.Started) (H : Type) (enc : TypeId × Value → H) :
    ReturnsInHanded {} Tryz.checked os 5 .any (fun w args => (Rows.kitMadeSpec.pre enc Tryz.prog Tryz.f5 [] false w args ∧ laidMetH Tryz.prog listed3 w) ∧ sizedMet enc Tryz.prog Tryz.f5 (OpenSpec.ofChange Rows.kitMadeSpec) false w args)
      (Rows.kitMadeSpec.post enc Tryz.prog Tryz.f5 false true false false) := by
  refine handed_laid (X := fun w _ => laidMetH Tryz.prog listed3 w) (Y := fun W => Laid W) (fun _ _ _ hh h => h.of_heap hh) (fun _ _ h _ => table_of_laid3 h) ownK started (by kernel_rfl) Tryz.func5
    (ChangeSpec.witness_shaped (enc := enc) (C := Tryz.checked) (os := os) (X := fun w _ => laidMetH Tryz.prog listed3 w) false (laidWorld3 os) #[.string ⟨#[]⟩, .slice none 0 0, .string ⟨#[]⟩] 8 rfl (World.shaped_of_RefB (by kernel_rfl) (by kernel_rfl)) (by kernel_rfl) (by kernel_rfl) (by kernel_rfl) (laidWorld3_met os _)) ?_
  intro W base args ds gs before hval0 hW hsz0 hY
  have hLL := hY
  have hval : ∀ (j : Nat) t v, Tryz.f5.params[j]? = some t → args[j]? = some v → Value.okWide Tryz.prog W .any base t v := hval0
  have hsz : (DataW.weightsEach Tryz.prog (Tryz.f5.params.toList ++ Rows.kitMadeSpec.plain.varTypes Tryz.prog) (ds ++ gs)).all (· ≤ reachBytes) = true := hsz0
  have hW' := hW
  obtain ⟨p, q, hA0, hV, rfl, hfz, hnd⟩ := hW
  have hA : DataW.TrodAll enc Tryz.prog W 0 (fun _ => true) true Tryz.f5.params.toList args.toList ds p := hA0
  rw [Tryz.params5] at hA hval hsz
  obtain ⟨v0, vs0, d0, ds0, p0, q0, hargs, rfl, rfl, h0, r0⟩ := trodAll_cons hA
  obtain ⟨v1, vs1, d1, ds1, p1, q1, rfl, rfl, rfl, h1, r1⟩ := trodAll_cons r0
  obtain ⟨v2, vs2, d2, ds2, p2, q2, rfl, rfl, rfl, h2, r2⟩ := trodAll_cons r1
  obtain ⟨rfl, rfl, rfl⟩ := trodAll_nil r2
  obtain rfl : args = #[v0, v1, v2] := by cases args; simp_all
  obtain ⟨rfl, rfl⟩ := trodVars_none hV
  have hz0 : (DataW.weights Tryz.prog 9 d0).all (· ≤ reachBytes) = true := List.all_eq_true.2 (fun n hn => List.all_eq_true.1 hsz n (DataW.weights_mem_each (j := 0) (t := 9) (d := d0) rfl rfl n hn))
  have hz1 : (DataW.weights Tryz.prog 55 d1).all (· ≤ reachBytes) = true := List.all_eq_true.2 (fun n hn => List.all_eq_true.1 hsz n (DataW.weights_mem_each (j := 1) (t := 55) (d := d1) rfl rfl n hn))
  have hz2 : (DataW.weights Tryz.prog 9 d2).all (· ≤ reachBytes) = true := List.all_eq_true.2 (fun n hn => List.all_eq_true.1 hsz n (DataW.weights_mem_each (j := 2) (t := 9) (d := d2) rfl rfl n hn))
  obtain ⟨x0, rfl, _⟩ := jstr_open (hval 0 9 v0 rfl rfl) h0 hz0
  obtain ⟨a1, w1, c1, rfl, hS1, hn1, hb1, ha1⟩ := jrows_wide (hval 1 55 v1 rfl rfl) h1 hz1
  obtain ⟨x2, rfl, hx2⟩ := jstr_open (hval 2 9 v2 rfl rfl) h2 hz2
  have e1 : Rows.kitMadeSpec.fn H ([d0, d1, d2] ++ []) = { results := [.lit (.bool true)], args := [d0, d1, d2] } := by simp [Rows.kitMadeSpec]
  have hlt0 : ∀ x ∈ p0, x.block < W.heap.size := fun x hx => hW'.lt x (by simp [hx])
  have hlt1 : ∀ x ∈ p1, x.block < W.heap.size := fun x hx => hW'.lt x (by simp [hx])
  have hlt2 : ∀ x ∈ p2, x.block < W.heap.size := fun x hx => hW'.lt x (by simp [hx])
  clear hA0 hval0 hsz0 hsz
  refine (Nd.kitMade_true x0 x2 a1 c1 w1 W hx2 hS1 ha1 hn1 hb1 hLL).mono fun e W' ⟨he, hx⟩ => ?_
  subst he
  refine ⟨_, rfl, _, _, _, [], p0 ++ (p1 ++ (p2 ++ [])), [], hW', ?_, ?_, ?_, Below.frame hx _, fun h => by cases h⟩
  · rw [e1]; exact trodAll_cons_mk (shut_bool Tryz.underlying4 true) trodAll_mk0
  · rw [e1]; exact trodAll_cons_mk (Below.trod laidOut (by kernel_rfl) (of_decide_eq_true (by kernel_rfl)) h0 hx hlt0) (trodAll_cons_mk (Below.trod laidOut (by kernel_rfl) (of_decide_eq_true (by kernel_rfl)) h1 hx hlt1) (trodAll_cons_mk (Below.trod laidOut (by kernel_rfl) (of_decide_eq_true (by kernel_rfl)) h2 hx hlt2) trodAll_mk0))
  · rw [e1]; rfl
theorem over : Rows.kitMadeRow.holds Tryz.pinned (OpenSpec.ofChange Rows.kitMadeSpec) :=
  OpenClaim.holds_of_wide 5 Tryz.f5 rfl rfl rfl rfl rfl rfl rfl ⟨rfl, rfl, rfl, rfl, rfl⟩ rfl rfl rfl rfl rfl hfn0 Tryz.func5 closed0 hinst0 hwrap0
    (fun os started H enc _ => lifted os started H enc)
end Go.Proofs.YtaodkfchmaendaaGreatDoor.kitMade
namespace Go.Proofs.YtaodkfchmaendaaGreatDoor
open Go
/-- THE STATEMENT. -/
theorem kitMade_holds : Rows.KitMadeCardSaid :=
  Claim7.holds_tied_plain_at .later [] [.handle, .listed, .data] true (true, "65acb0c178bf0ad71a865f14bc93fe2d0cbe8b339095a55da57436e114c973f4") true
    kitMade.over (fun _ h => by cases h) (by kernel_rfl) (fun _ h => by cases h) kitMade_row_tie rfl ⟨rfl, rfl⟩ (by kernel_rfl) rfl
    (fun f fn hf hfn => by
      obtain rfl : f = 5 := Option.some.inj ((show Tryz.prog.funcNamed Rows.kitMadeRow.func = some 5 by kernel_rfl).symm.trans hf) |>.symm
      obtain rfl : fn = Tryz.f5 := (Option.some.inj (Tryz.func5.symm.trans hfn)).symm
      exact ⟨by kernel_rfl, fun j t ht => by
        rw [Tryz.params5] at ht
        rcases j with _ | _ | _ | j
        · obtain rfl : 9 = t := by simpa using ht
          exact (show Tryz.prog.wantsStandIn 9 = false by kernel_rfl)
        · obtain rfl : 55 = t := by simpa using ht
          exact (show Tryz.prog.wantsStandIn 55 = false by kernel_rfl)
        · obtain rfl : 9 = t := by simpa using ht
          exact (show Tryz.prog.wantsStandIn 9 = false by kernel_rfl)
        · simp at ht⟩)
    (by kernel_rfl)
#print axioms kitMade_holds
end Go.Proofs.YtaodkfchmaendaaGreatDoor
