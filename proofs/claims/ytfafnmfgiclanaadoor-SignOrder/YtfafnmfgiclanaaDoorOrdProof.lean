/-
  Proved: espalierlaw3.SignOrder returns true for all three places and every number, and what came in reads as it did. Condition: the library's three tables are laid as the program's text lays them; the card ties them to that text (of this seat's pruned copy of the project).
-/
import Derived.Test.YtfafnmfgiclanaaDoorOrdW
import Derived.Test.YtfafnmfgiclanaaDoorPlaceIn
import Derived.Test.YtfafnmfgiclanaaDoorLaidIn
import Derived.Test.YtfafnmfgiclanaaDoorTie
import Derived.Test.YtfafnmfgiclanaaDoorCards
import Derived.Carry
import Derived.SevenTiedAt
namespace Go.Proofs.YtfafnmfgiclanaaDoor.signOrder
open Go.ChangeShapes Go.WideShapes Go.ChangeAt Go.RowKit
set_option maxRecDepth 100000 in
theorem lifted (os : Os) (started : os.Started) (H : Type) (enc : TypeId × Value → H) :
    ReturnsInHanded {} Tryd.checked os 5 .any (fun w args => (Rows.signOrderSpec.pre enc Tryd.prog Tryd.f5 [] false w args ∧ laidMetH Tryd.prog listed w) ∧ sizedMet enc Tryd.prog Tryd.f5 (OpenSpec.ofChange Rows.signOrderSpec) false w args)
      (Rows.signOrderSpec.post enc Tryd.prog Tryd.f5 false true false false) := by
  refine returnsInHanded_of_change_and (C := Tryd.checked) (X := fun w _ => laidMetH Tryd.prog listed w) (fun _ _ _ hh h => h.of_heap hh) own started (by kernel_rfl) Tryd.func5
    (ChangeSpec.witness_at (enc := enc) (C := Tryd.checked) (os := os) (X := fun w _ => laidMetH Tryd.prog listed w) false (laidWorld os) #[.agg #[.string ⟨#[]⟩, .slice none 0 0], .agg #[.string ⟨#[]⟩, .slice none 0 0], .agg #[.string ⟨#[]⟩, .slice none 0 0], .int .i64 0] 8 rfl (by kernel_rfl) (by kernel_rfl) (by kernel_rfl) (by kernel_rfl) (by kernel_rfl) (laidWorld_met os _)) ?_
  intro W base args ds gs before hval0 hW _ hsz0 hL _
  have hval : ∀ (j : Nat) t v, Tryd.f5.params[j]? = some t → args[j]? = some v → Value.okWide Tryd.prog W .any base t v := hval0
  have hsz : (DataW.weightsEach Tryd.prog (Tryd.f5.params.toList ++ Rows.signOrderSpec.plain.varTypes Tryd.prog) (ds ++ gs)).all (· ≤ reachBytes) = true := hsz0
  have hW' := hW
  obtain ⟨p, q, hA0, hV0, rfl, hfz, hnd⟩ := hW
  have hA : DataW.TrodAll enc Tryd.prog W 0 (fun _ => true) true Tryd.f5.params.toList args.toList ds p := hA0
  have hV : DataW.TrodVars enc Tryd.prog W (fun _ => true) [] gs q := hV0
  rw [Tryd.params5] at hA hval hsz
  obtain ⟨v0, v1, v2, v3, d0, d1, d2, d3, p0, p1, p2, p3, rfl, rfl, rfl, h0, h1, h2, h3⟩ := trodAll_four hA
  obtain ⟨rfl, rfl⟩ : gs = [] ∧ q = [] := by
    cases gs with
    | nil => exact ⟨rfl, hV⟩
    | cons g r => exact absurd hV (by intro h; cases h)
  have hz : ∀ (j : Nat) (d : DataW H), [27, 27, 27, 3][j]? = some 27 → [d0, d1, d2, d3][j]? = some d → (DataW.weights Tryd.prog 27 d).all (· ≤ reachBytes) = true := fun j d ht hd =>
    List.all_eq_true.2 (fun n hn => List.all_eq_true.1 hsz n (DataW.weights_mem_each (j := j) (t := 27) (d := d) ht hd n hn))
  obtain ⟨f1, a1, c1, xs, rfl, hI1, hb1, _⟩ := place_open (hval 0 27 v0 rfl rfl) h0 (hz 0 d0 rfl rfl)
  obtain ⟨f2, a2, c2, ys, rfl, hI2, hb2, _⟩ := place_open (hval 1 27 v1 rfl rfl) h1 (hz 1 d1 rfl rfl)
  obtain ⟨f3, a3, c3, zs, rfl, hI3, hb3, _⟩ := place_open (hval 2 27 v2 rfl rfl) h2 (hz 2 d2 rfl rfl)
  obtain ⟨k, rfl, rfl, rfl, wk⟩ := open_int Tryd.underlying3 (hval 3 3 v3 rfl rfl) h3
  have e1 : Rows.signOrderSpec.fn H ([d0, d1, d2, .lit (.int .i64 k)] ++ []) = { results := [.lit (.bool true)], args := [d0, d1, d2, .lit (.int .i64 k)] } := by simp [Rows.signOrderSpec]
  have hlt0 : ∀ x ∈ p0, x.block < W.heap.size := fun x hx => hW'.lt x (by simp [hx])
  have hlt1 : ∀ x ∈ p1, x.block < W.heap.size := fun x hx => hW'.lt x (by simp [hx])
  have hlt2 : ∀ x ∈ p2, x.block < W.heap.size := fun x hx => hW'.lt x (by simp [hx])
  refine (order_true f1 f2 f3 a1 a2 a3 c1 c2 c3 xs ys zs k W (table_of_laid hL) (by omega) (by omega) (by omega) hI1 hI2 hI3).mono fun e W' ⟨he, hx⟩ => ?_
  subst he
  refine ⟨_, rfl, _, _, _, [], p0 ++ (p1 ++ (p2 ++ [])), [], hW', ?_, ?_, ?_, Below.frame hx _, fun h => by cases h⟩
  · rw [e1]; exact trodAll_mk1 (shut_bool Tryd.underlying4 true)
  · rw [e1]; exact trodAll_mk4 (Below.trod laidOut (by kernel_rfl) (of_decide_eq_true (by kernel_rfl)) h0 hx hlt0) (Below.trod laidOut (by kernel_rfl) (of_decide_eq_true (by kernel_rfl)) h1 hx hlt1) (Below.trod laidOut (by kernel_rfl) (of_decide_eq_true (by kernel_rfl)) h2 hx hlt2) (shut_int Tryd.underlying3 wk)
  · rw [e1]; rfl
theorem over : Rows.signOrderRow.holds Tryd.pinned (OpenSpec.ofChange Rows.signOrderSpec) :=
  OpenClaim.holds_of_wide 5 Tryd.f5 rfl rfl rfl rfl rfl rfl rfl ⟨rfl, rfl, rfl, rfl, rfl⟩ rfl rfl rfl rfl rfl (by kernel_rfl) Tryd.func5 (by kernel_rfl)
    (of_decide_eq_true (by kernel_rfl)) (by unfold Func.isWrapper; rw [if_neg (of_decide_eq_false (by kernel_rfl))]; exact ⟨rfl, rfl⟩)
    (fun os started H enc _ => lifted os started H enc)
end Go.Proofs.YtfafnmfgiclanaaDoor.signOrder
namespace Go.Proofs.YtfafnmfgiclanaaDoor
open Go
/-- THE STATEMENT. -/
theorem signOrder_holds : Rows.SignOrderCardSaid :=
  Claim7.holds_tied_plain_at .later [] [.data, .data, .data] true (true, "0db7968ac52a1db34755e18333a759af05b349c445cd92ce9091bce93f8cadb2") false
    signOrder.over (fun _ h => by cases h) (by kernel_rfl) (fun _ h => by cases h) signOrder_row_tie rfl ⟨rfl, rfl⟩ (by kernel_rfl) rfl
    (fun f fn hf hfn => by
      obtain rfl : f = 5 := Option.some.inj ((show Tryd.prog.funcNamed Rows.signOrderRow.func = some 5 by kernel_rfl).symm.trans hf) |>.symm
      obtain rfl : fn = Tryd.f5 := (Option.some.inj (Tryd.func5.symm.trans hfn)).symm
      exact ⟨by kernel_rfl, fun j t ht => by
        rw [Tryd.params5] at ht
        rcases j with _ | _ | _ | _ | j
        · obtain rfl : 27 = t := by simpa using ht
          exact (show Tryd.prog.wantsStandIn 27 = false by kernel_rfl)
        · obtain rfl : 27 = t := by simpa using ht
          exact (show Tryd.prog.wantsStandIn 27 = false by kernel_rfl)
        · obtain rfl : 27 = t := by simpa using ht
          exact (show Tryd.prog.wantsStandIn 27 = false by kernel_rfl)
        · obtain rfl : 3 = t := by simpa using ht
          exact (show Tryd.prog.wantsStandIn 3 = false by kernel_rfl)
        · simp at ht⟩)
    (by kernel_rfl)
#print axioms signOrder_holds
end Go.Proofs.YtfafnmfgiclanaaDoor
