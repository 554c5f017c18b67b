/-
  Proved: espalierlaw4.TreeNest returns true for every tree and every number, and what came in reads as it did. Condition: none beyond the row's own cells.
-/
import Derived.Test.YthdmoghooaccgaaNest
import Derived.Test.YthdmoghooaccgaaTreeIn
import Derived.Test.YthdmoghooaccgaaRows
import Derived.Carry
namespace Go.Proofs.Ythdmoghooaccgaa.treeNest
open Go.ChangeShapes Go.WideShapes Go.ChangeAt Go.RowKit
theorem laidOut : laidOutB Try.prog = true := by kernel_rfl
theorem own : ownKnob Try.prog.godebug = none := by kernel_rfl
set_option maxRecDepth 100000 in
theorem lifted (os : Os) (started : os.Started) (H : Type) (enc : TypeId × Value → H) :
    ReturnsInHanded {} Try.checked os 6 .any (fun w args => (Rows.treeNestSpec.pre enc Try.prog Try.f6 [] false w args) ∧ sizedMet enc Try.prog Try.f6 (OpenSpec.ofChange Rows.treeNestSpec) false w args)
      (Rows.treeNestSpec.post enc Try.prog Try.f6 false true false false) := by
  refine returnsInHanded_of_change_sized (C := Try.checked) own started (by kernel_rfl) Try.func6
    (ChangeSpec.witness6 (enc := enc) (C := Try.checked) false ⟨#[], #[.agg #[.string ⟨#[]⟩, .int .i64 0, .string ⟨#[]⟩, .slice none 0 0], .int .i64 0], []⟩ 8 (by kernel_rfl) (by kernel_rfl) (by kernel_rfl) (by kernel_rfl)) ?_
  intro W base args ds gs before hval0 hW _ hsz0 _
  have hval : ∀ (j : Nat) t v, Try.f6.params[j]? = some t → args[j]? = some v → Value.okWide Try.prog W .any base t v := hval0
  have hsz : (DataW.weightsEach Try.prog (Try.f6.params.toList ++ Rows.treeNestSpec.plain.varTypes Try.prog) (ds ++ gs)).all (· ≤ reachBytes) = true := hsz0
  have hW' := hW
  obtain ⟨p, q, hA0, hV, rfl, hfz, hnd⟩ := hW
  have hA : DataW.TrodAll enc Try.prog W 0 (fun _ => true) true Try.f6.params.toList args.toList ds p := hA0
  rw [Try.params6] at hA hval hsz
  obtain ⟨v0, vs0, d0, ds0, p0, q0, hargs, rfl, rfl, h0, r0⟩ := trodAll_cons hA
  obtain ⟨v1, vs1, d1, ds1, p1, q1, rfl, rfl, rfl, h1, r1⟩ := trodAll_cons r0
  obtain ⟨rfl, rfl, rfl⟩ := trodAll_nil r1
  obtain rfl : args = #[v0, v1] := by cases args; simp_all
  obtain ⟨rfl, rfl⟩ := trodVars_none hV
  have hz : ∀ (j : Nat) (d : DataW H), [26, 3][j]? = some 26 → [d0, d1][j]? = some d → (DataW.weights Try.prog 26 d).all (· ≤ reachBytes) = true := fun j d ht hd =>
    List.all_eq_true.2 (fun n hn => List.all_eq_true.1 hsz n (DataW.weights_mem_each (j := j) (t := 26) (d := d) ht hd n hn))
  obtain ⟨m0, t, hr⟩ := tree_open (hval 0 26 v0 rfl rfl) h0 (hz 0 d0 rfl rfl)
  obtain ⟨k, rfl, rfl, rfl, wk⟩ := open_int Try.underlying3 (hval 1 3 v1 rfl rfl) h1
  have e1 : Rows.treeNestSpec.fn H ([d0, .lit (.int .i64 k)] ++ []) = { results := [.lit (.bool true)], args := [d0, .lit (.int .i64 k)] } := by simp [Rows.treeNestSpec]
  have hlt0 : ∀ x ∈ p0, x.block < W.heap.size := fun x hx => hW'.lt x (by simp [hx])
  refine (callsIn_wide.1 (nest_true W k hr)).mono fun e W' ⟨he, hx⟩ => ?_
  subst he
  refine ⟨_, rfl, _, _, _, [], p0 ++ ([] ++ []), [], hW', ?_, ?_, ?_, Below.frame hx _, fun h => by cases h⟩
  · rw [e1]; exact trodAll_cons_mk (shut_bool Try.underlying4 true) trodAll_mk0
  · rw [e1]; exact trodAll_cons_mk (Below.trod laidOut (by kernel_rfl) (of_decide_eq_true (by kernel_rfl)) h0 hx hlt0) (trodAll_cons_mk (shut_int Try.underlying3 wk) trodAll_mk0)
  · rw [e1]; rfl
/-- THE STATEMENT. -/
theorem over : Rows.TreeNestSaid :=
  OpenClaim.holds_of_wide 6 Try.f6 rfl rfl rfl rfl rfl rfl rfl ⟨rfl, rfl, rfl, rfl, rfl⟩ rfl rfl rfl rfl rfl (by kernel_rfl) Try.func6 (by kernel_rfl)
    (of_decide_eq_true (by kernel_rfl)) (by unfold Func.isWrapper; rw [if_neg (of_decide_eq_false (by kernel_rfl))]; exact ⟨rfl, rfl⟩)
    (fun os started H enc _ => lifted os started H enc)
end Go.Proofs.Ythdmoghooaccgaa.treeNest
namespace Go.Proofs.Ythdmoghooaccgaa
/-- THE STATEMENT. -/
theorem treeNest_holds : Rows.TreeNestSaid := treeNest.over
#print axioms treeNest_holds
end Go.Proofs.Ythdmoghooaccgaa
