/-
  Proved: espalierlaw11.ListParts returns true for any plain values and any place, and what came in reads as it did. Condition: the library's table of blanks is laid as the program's text lays it; the card ties it to that text.
-/
import Derived.Test.YtecabbifkcnbeaaGreatDoorBLaid
import Derived.Test.YtecabbifkcnbeaaGreatDoorLPClosed
import Derived.Test.YtecabbifkcnbeaaGreatDoorLPartsW
import Derived.Test.YtecabbifkcnbeaaGreatDoorLPlsIn
namespace Go.Proofs.YtecabbifkcnbeaaGreatDoor.listParts
open Go.ChangeShapes Go.WideShapes Go.ChangeAt Go.RowKit
theorem max_of_shaped {W : World} (h : W.ShapedOpen Tryz.prog) : MaxAt W :=
  cell_of_shapedOpen_int (P := Tryz.prog) (g := 2) (t := 3) (zero := #[.int .i64 0]) (k := .i64) h (of_decide_eq_true (by kernel_rfl)) (by kernel_rfl) rfl (by kernel_rfl) (by kernel_rfl) Tryz.underlying3
theorem laidOut : laidOutB Tryz.prog = true := by kernel_rfl
set_option maxRecDepth 100000 in
theorem lifted (os : Os) (started : os.Started) (H : Type) (enc : TypeId × Value → H) :
    ReturnsInHanded {} Tryz.checked os 5 .any (fun w args => (Rows.listPartsSpec.pre enc Tryz.prog Tryz.f5 [] false w args ∧ laidMetH Tryz.prog listed w) ∧ sizedMet enc Tryz.prog Tryz.f5 (OpenSpec.ofChange Rows.listPartsSpec) false w args)
      (Rows.listPartsSpec.post enc Tryz.prog Tryz.f5 false true false false) := by
  refine handed_laid (X := fun w _ => laidMetH Tryz.prog listed w) (Y := fun W => MaxAt W ∧ Laid W) (fun _ _ _ hh h => h.of_heap hh) (fun _ _ h hs => ⟨max_of_shaped hs, table_of_laid h⟩) ownK started (by kernel_rfl) Tryz.func5
    (ChangeSpec.witness_shaped (enc := enc) (C := Tryz.checked) (os := os) (X := fun w _ => laidMetH Tryz.prog listed w) false (laidWorld os) #[.slice none 0 0, .int .u16 0] 8 rfl (World.shaped_of_RefB (by kernel_rfl) (by kernel_rfl)) (by kernel_rfl) (by kernel_rfl) (by kernel_rfl) (laidWorld_met os _)) ?_
  intro W base args ds gs before hval0 hW hsz0 hY
  obtain ⟨hMX, hLL⟩ := hY
  have hval : ∀ (j : Nat) t v, Tryz.f5.params[j]? = some t → args[j]? = some v → Value.okWide Tryz.prog W .any base t v := hval0
  have hsz : (DataW.weightsEach Tryz.prog (Tryz.f5.params.toList ++ Rows.listPartsSpec.plain.varTypes Tryz.prog) (ds ++ gs)).all (· ≤ reachBytes) = true := hsz0
  have hW' := hW
  obtain ⟨p, q, hA0, hV, rfl, hfz, hnd⟩ := hW
  have hA : DataW.TrodAll enc Tryz.prog W 0 (fun _ => true) true Tryz.f5.params.toList args.toList ds p := hA0
  rw [Tryz.params5] at hA hval hsz
  obtain ⟨v0, vs0, d0, ds0, p0, q0, hargs, rfl, rfl, h0, r0⟩ := trodAll_cons hA
  obtain ⟨v1, vs1, d1, ds1, p1, q1, rfl, rfl, rfl, h1, r1⟩ := trodAll_cons r0
  obtain ⟨rfl, rfl, rfl⟩ := trodAll_nil r1
  obtain rfl : args = #[v0, v1] := by cases args; simp_all
  obtain ⟨rfl, rfl⟩ := trodVars_none hV
  have hz0 : (DataW.weights Tryz.prog 24 d0).all (· ≤ reachBytes) = true := List.all_eq_true.2 (fun n hn => List.all_eq_true.1 hsz n (DataW.weights_mem_each (j := 0) (t := 24) (d := d0) rfl rfl n hn))
  obtain ⟨m0, a0, c0, ks, rfl, hr0, hc0⟩ := plains_wide (hval 0 24 v0 rfl rfl) h0 hz0
  have hu := hval 1 44 v1 rfl rfl
  obtain ⟨n1, rfl⟩ := Go.WideShapes.okWide_int Tryz.underlying44 hu
  obtain ⟨av, rfl, hav⟩ : ∃ av : Nat, n1 = (av : Int) ∧ av ≤ 65535 := by
    simp only [Value.okWide, Tryz.underlying44, Cell.okWide, Cell.ok, IntKind.has] at hu
    have e1 : IntKind.u16.min = 0 := by decide
    have e2 : IntKind.u16.max = 65535 := by decide
    exact ⟨n1.toNat, by omega, by omega⟩
  have e1 : Rows.listPartsSpec.fn H ([d0, d1] ++ []) = { results := [.lit (.bool true)], args := [d0, d1] } := by simp [Rows.listPartsSpec]
  have hlt0 : ∀ x ∈ p0, x.block < W.heap.size := fun x hx => hW'.lt x (by simp [hx])
  have hlt1 : ∀ x ∈ p1, x.block < W.heap.size := fun x hx => hW'.lt x (by simp [hx])
  clear hA0 hval0 hsz0 hsz
  refine (Nd.partsL_true a0 c0 ks av W hLL hMX hr0 hc0 hav).mono fun e W' ⟨he, hx⟩ => ?_
  subst he
  refine ⟨_, rfl, _, _, _, [], p0 ++ (p1 ++ []), [], hW', ?_, ?_, ?_, Below.frame hx _, fun h => by cases h⟩
  · rw [e1]; exact trodAll_cons_mk (shut_bool Tryz.underlying4 true) trodAll_mk0
  · rw [e1]; exact trodAll_cons_mk (Below.trod laidOut (by kernel_rfl) (of_decide_eq_true (by kernel_rfl)) h0 hx hlt0) (trodAll_cons_mk (Below.trod laidOut (by kernel_rfl) (of_decide_eq_true (by kernel_rfl)) h1 hx hlt1) trodAll_mk0)
  · rw [e1]; rfl
theorem over : Rows.listPartsRow.holds Tryz.pinned (OpenSpec.ofChange Rows.listPartsSpec) :=
  OpenClaim.holds_of_wide 5 Tryz.f5 rfl rfl rfl rfl rfl rfl rfl ⟨rfl, rfl, rfl, rfl, rfl⟩ rfl rfl rfl rfl rfl hfn0 Tryz.func5 closed0 hinst0 hwrap0
    (fun os started H enc _ => lifted os started H enc)
end Go.Proofs.YtecabbifkcnbeaaGreatDoor.listParts
namespace Go.Proofs.YtecabbifkcnbeaaGreatDoor
open Go
/-- THE STATEMENT. -/
theorem listParts_holds : Rows.ListPartsCardSaid :=
  Claim7.holds_tied_plain_at .later [] [.listed, .data] true (true, "52a1546cba209d61c2bacfdf0d8bdb4224e5f1da33ff4b48af56541f9999999d") true
    listParts.over (fun _ h => by cases h) (by kernel_rfl) (fun _ h => by cases h) listParts_row_tie rfl ⟨rfl, rfl⟩ (by kernel_rfl) rfl
    (fun f fn hf hfn => by
      obtain rfl : f = 5 := Option.some.inj ((show Tryz.prog.funcNamed Rows.listPartsRow.func = some 5 by kernel_rfl).symm.trans hf) |>.symm
      obtain rfl : fn = Tryz.f5 := (Option.some.inj (Tryz.func5.symm.trans hfn)).symm
      exact ⟨by kernel_rfl, fun j t ht => by
        rw [Tryz.params5] at ht
        rcases j with _ | _ | j
        · obtain rfl : 24 = t := by simpa using ht
          exact (show Tryz.prog.wantsStandIn 24 = false by kernel_rfl)
        · obtain rfl : 44 = t := by simpa using ht
          exact (show Tryz.prog.wantsStandIn 44 = false by kernel_rfl)
        · simp at ht⟩)
    (by kernel_rfl)
#print axioms listParts_holds
end Go.Proofs.YtecabbifkcnbeaaGreatDoor
