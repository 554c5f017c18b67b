/-
  What the rows' condition gives: the library's tables as laid, and that its one variable holds a number.
-/
import Derived.Test.YtaafcmmmkalgjaaGreatDoorKKit
import Derived.Test.YtaafcmmmkalgjaaGreatDoorRows
import Derived.Test.YtaafcmmmkalgjaaGreatDoorTie
import Derived.Test.YtaafcmmmkalgjaaGreatDoorCards
import Derived.ChangeSame
import Derived.ChangeVars
import Derived.JoinedOf
import Derived.RowKit
import Derived.RowKitTokens
import Derived.LaidLaws
import Derived.LaidHandle
import Derived.Stop.Joined
import Derived.Stop.LaidErr
import Derived.Lib.LaidTab
import Derived.ProofKit
import Derived.OpenShut
import Derived.SizedLaws
import Derived.Carry
import Derived.Handed
import Derived.HandedShaped
import Derived.Shelf.Vars
import Derived.SevenTiedAt
namespace Go.Proofs.YtaafcmmmkalgjaaGreatDoor
open Go.ChangeShapes Go.WideShapes Go.ChangeAt Go.RowKit
theorem ownK : ownKnob Tryz.prog.godebug = none := by kernel_rfl
/-- The rows' list. -/
abbrev listed : List (String × DataW Unit) := [("unicode.White_Space", Rows.laid_unicode_White_Space), ("strings.asciiSpace", Rows.laid_strings_asciiSpace)]
theorem blanksNamed : Tryz.prog.globalNamed "strings.asciiSpace" = some 0 := by kernel_rfl
theorem blanksType : (Tryz.prog.globals[0]?).map (·.type) = some 175 := by kernel_rfl
theorem blanks_laid : (Rows.laid_strings_asciiSpace : DataW Unit) = Lib.tabData .u8 Lib.asciiSpaceTab := by kernel_rfl
theorem table_of_laid {W : World} (h : laidMetH Tryz.prog listed W) : Laid W := by
  have h' : laidMet Tryz.prog listed W := h
  have h3 := h'.tail
  rw [blanks_laid] at h3
  exact Lib.tabIs_of_head blanksNamed blanksType Tryz.underlying175 Tryz.underlying5 (by kernel_rfl) (by kernel_rfl) h3
/-- A call in whatever well-typed memory in which the listed variables are laid: what is to be shown of it. -/
theorem handed_laid {C : Checked} {Y : World → Prop} {H : Type} {enc : TypeId × Value → H} {os : Os} {f : FuncId} {fn : Func} {s : ChangeSpec} {apart fresh handsOn again : Bool} {X : World → Array Value → Prop} (hX : ∀ (w w' : World) (args : Array Value), w.heap = w'.heap → X w args → X w' args) (hY : ∀ (W : World) (args : Array Value), X W args → W.ShapedOpen C.prog → Y W) (own : ownKnob C.prog.godebug = none) (started : os.Started) (noInit : C.prog.inits.idxOf? f = none) (hfn : C.prog.funcs[f]? = some fn)
    (witness : ∃ (w : World) (tape : Tape) (i : Input), w.os = os ∧ (w.forCall tape i).Shaped C.prog ∧ i.vars = [] ∧ Input.okWide C.prog (w.forCall tape i) .any w.heap.size f i ∧
      ((s.pre enc C.prog fn [] apart (w.forCall tape i).memory i.args ∧ X (w.forCall tape i).memory i.args) ∧ sizedMet enc C.prog fn (OpenSpec.ofChange s) apart (w.forCall tape i).memory i.args) ∧ ({} : Assume).holds C.prog (lone (Frame.enter C.prog f i.args .normal) [] (w.forCall tape i)))
    (contract : ∀ (W : World) (base : Nat) (args : Array Value) (ds gs : List (DataW H)) (before : List MemPlace),
      (∀ (j : Nat) t v, fn.params[j]? = some t → args[j]? = some v → Value.okWide C.prog W .any base t v) →
      DataW.Whole enc C.prog fn.params.toList s.vars apart W args.toList ds gs before →
      (DataW.weightsEach C.prog (fn.params.toList ++ s.plain.varTypes C.prog) (ds ++ gs)).all (· ≤ reachBytes) = true →
      Y W →
      Calls C.prog f args W fun e W' => ∃ v, e = .returned v ∧ s.post enc C.prog fn apart fresh handsOn again W args v W') :
    ReturnsInHanded {} C os f .any (fun w args => (s.pre enc C.prog fn [] apart w args ∧ X w args) ∧ sizedMet enc C.prog fn (OpenSpec.ofChange s) apart w args) (s.post enc C.prog fn apart fresh handsOn again) := by
  refine returnsInHanded_of_calls own started noInit witness ?_
  intro w tape i _ hsh _ hok hpre _
  obtain ⟨_, _, _, fn', hfn', _, _, _, _, hval⟩ := hok
  have e : fn' = fn := Option.some.inj (hfn'.symm.trans hfn)
  subst e
  obtain ⟨⟨⟨ds, gs, before, hw, _⟩, hx⟩, hz⟩ := hpre
  refine (contract (w.forCall tape i) w.heap.size i.args ds gs before hval (DataW.Whole.of_heap (w' := w.forCall tape i) (by rfl) hw) (hz.weights hw) (hY _ _ (hX _ _ _ (by rfl) hx) hsh)).mono fun e W' ⟨v, he, hp⟩ => ?_
  subst he
  exact ChangeSpec.post_blind hp
def litsOf (d : DataW Unit) : Array Value := match d with
  | .agg l => (l.map fun | .lit (.int k z) => Value.int k z | _ => .nilIface).toArray
  | _ => #[]
/-- A world in which they are laid. -/
noncomputable def laidWorld (os : Os) : World :=
  let w0 := World.holding Tryz.prog os ⟨#[], #[], []⟩
  let put (h : Array Obj) (g : Nat) (cs : Array Value) : Array Obj := h.modify g fun
    | .cells _ t frozen => .cells cs t frozen
    | o => o
  { w0 with heap := ((put (put w0.heap 0 (litsOf Rows.laid_strings_asciiSpace)) 1 #[.pointer (some ⟨w0.heap.size, 0, none⟩)]).push (.cells #[.slice (some ⟨w0.heap.size + 1, 0, none⟩) 7 7, .slice none 0 0, .int .i64 2] 279)).push (.cells #[.int .u16 9, .int .u16 13, .int .u16 1, .int .u16 32, .int .u16 133, .int .u16 101, .int .u16 160, .int .u16 5760, .int .u16 5600, .int .u16 8192, .int .u16 8202, .int .u16 1, .int .u16 8232, .int .u16 8233, .int .u16 1, .int .u16 8239, .int .u16 8287, .int .u16 48, .int .u16 12288, .int .u16 12288, .int .u16 1] 282) }
theorem laidWorld_met (os : Os) (args : Array Value) : laidMetH Tryz.prog listed ((laidWorld os).forCall (fun _ _ => 0) ⟨#[], args, []⟩).memory :=
  laidMetH_of_parts (laidMet_of_run' 8 (by kernel_rfl) (by kernel_rfl)) (by kernel_rfl)
end Go.Proofs.YtaafcmmmkalgjaaGreatDoor
/-
  The closed facts of the row of ListFresh, one by one (all in one theorem run out of memory).
-/
namespace Go.Proofs.YtaafcmmmkalgjaaGreatDoor.listFresh
open Go.ChangeShapes Go.WideShapes Go.ChangeAt Go.RowKit
theorem cl0 : (Rows.listFreshRow.wf (OpenSpec.ofChange Rows.listFreshSpec)) = true := by kernel_rfl
theorem cl1 : (laidOutB Tryz.pinned.checked.prog) = true := by kernel_rfl
theorem cl2 : (mapsRowed Tryz.pinned.checked.prog) = true := by kernel_rfl
theorem cl3 : (Tryz.f3.params.all (Tryz.pinned.checked.prog.readableRec ·)) = true := by kernel_rfl
theorem cl4 : (namedTie Tryz.pinned.checked.prog Rows.listFreshRow.named Rows.listFreshSpec.vars) = true := by kernel_rfl
theorem cl5 : ((Rows.listFreshRow.stops == [])) = true := by kernel_rfl
theorem cl6 : ((Tryz.pinned.checked.prog.stops == [])) = true := by kernel_rfl
theorem cl7 : ((Rows.listFreshRow.knobs == [])) = true := by kernel_rfl
theorem cl8 : ((Tryz.pinned.checked.prog.stopKnobs == [])) = true := by kernel_rfl
theorem cl9 : ((Rows.listFreshRow.inPlace == Tryz.pinned.checked.prog.inPlace 3)) = true := by kernel_rfl
theorem cl10 : ((Rows.listFreshRow.unfollowed == Tryz.pinned.checked.prog.unfollowed 3)) = true := by kernel_rfl
theorem cl11 : ((Rows.listFreshRow.recurses == Tryz.pinned.checked.prog.recurses 3)) = true := by kernel_rfl
theorem cl12 : ((Rows.listFreshRow.named == Tryz.pinned.checked.prog.varsNamed 3)) = true := by kernel_rfl
theorem cl13 : ((Rows.listFreshRow.maps == (Tryz.f3.params.toList ++ Rows.listFreshSpec.plain.varTypes Tryz.pinned.checked.prog).any (Tryz.pinned.checked.prog.mapsRec ·))) = true := by kernel_rfl
theorem cl14 : ((Rows.listFreshRow.ifaces == (Tryz.f3.params.toList ++ Rows.listFreshSpec.plain.varTypes Tryz.pinned.checked.prog).any (Tryz.pinned.checked.prog.ifacesRec ·))) = true := by kernel_rfl
theorem cl15 : ((Rows.listFreshRow.mapsOut == Tryz.pinned.checked.prog.mapsAmong Tryz.f3.resultTypes.toList)) = true := by kernel_rfl
theorem cl16 : ((Rows.listFreshRow.loops == (Tryz.f3.params.toList ++ Rows.listFreshSpec.plain.varTypes Tryz.pinned.checked.prog).any (Tryz.pinned.checked.prog.loopsFrom ·))) = true := by kernel_rfl
theorem cl17 : ((Rows.listFreshRow.wideKeys == (Tryz.f3.params.toList ++ Rows.listFreshSpec.plain.varTypes Tryz.pinned.checked.prog ++ Tryz.f3.resultTypes.toList).any (Tryz.pinned.checked.prog.wideKeysFrom ·))) = true := by kernel_rfl
theorem cl18 : (Rows.listFreshSpec.vars.all (Tryz.pinned.checked.prog.varReadable ·)) = true := by kernel_rfl
theorem cl19 : (Tryz.f3.resultTypes.all (fun t => Tryz.pinned.checked.prog.readableRec t && decide (t < Tryz.pinned.checked.prog.types.size))) = true := by kernel_rfl
theorem cl20 : ((Rows.listFreshRow.ifacesOut == Tryz.f3.resultTypes.toList.any (Tryz.pinned.checked.prog.ifacesRec ·))) = true := by kernel_rfl
theorem cl21 : ((Rows.listFreshRow.loopsOut == Tryz.f3.resultTypes.toList.any (Tryz.pinned.checked.prog.loopsFrom ·))) = true := by kernel_rfl
theorem cl22 : ((Rows.listFreshRow.plainKeys == Tryz.pinned.checked.prog.plainKeys)) = true := by kernel_rfl
theorem cl23 : (Rows.listFreshRow.shortTexts.isNone) = true := by kernel_rfl
theorem cl24 : (Tryz.pinned.checked.prog.stopsHeard) = true := by kernel_rfl
theorem cl25 : (Tryz.pinned.checked.prog.mayEnter) = true := by kernel_rfl
theorem cl26 : ((Rows.listFreshRow.lifted == Tryz.pinned.checked.prog.liftsFinal)) = true := by kernel_rfl
theorem cl27 : ((Tryz.pinned.checked.prog.make == some Rows.listFreshRow.make)) = true := by kernel_rfl
theorem cl28 : ((Rows.listFreshRow.kinds == (if Rows.listFreshRow.domain.isEmpty then [] else Tryz.f3.params.toList.map fun t => match Tryz.pinned.checked.prog.underlying t with | some (.int k) => some k | _ => none))) = true := by kernel_rfl
theorem cl29 : ((Rows.listFreshRow.pinned == Rows.listFreshRow.pinnedBy)) = true := by kernel_rfl
theorem cl30 : ((Rows.listFreshRow.veiled == (Tryz.f3.params.toList ++ Rows.listFreshSpec.plain.varTypes Tryz.pinned.checked.prog ++ Tryz.f3.resultTypes.toList).any (Tryz.pinned.checked.prog.veiledRec ·))) = true := by kernel_rfl
theorem cl31 : (Rows.listFreshRow.veiledFits Tryz.pinned.checked.prog Tryz.f3.params.toList (Tryz.f3.params.toList ++ Rows.listFreshSpec.plain.varTypes Tryz.pinned.checked.prog ++ Tryz.f3.resultTypes.toList)) = true := by kernel_rfl
set_option maxRecDepth 100000 in
theorem closed0 : joinedFacts Tryz.pinned.checked.prog 3 Tryz.f3 Rows.listFreshSpec Rows.listFreshRow = true := by
  have a1 := Bool.and_eq_true_iff.2 ⟨cl0, cl1⟩
  have a2 := Bool.and_eq_true_iff.2 ⟨a1, cl2⟩
  have a3 := Bool.and_eq_true_iff.2 ⟨a2, cl3⟩
  have a4 := Bool.and_eq_true_iff.2 ⟨a3, cl4⟩
  have a5 := Bool.and_eq_true_iff.2 ⟨a4, cl5⟩
  have a6 := Bool.and_eq_true_iff.2 ⟨a5, cl6⟩
  have a7 := Bool.and_eq_true_iff.2 ⟨a6, cl7⟩
  have a8 := Bool.and_eq_true_iff.2 ⟨a7, cl8⟩
  have a9 := Bool.and_eq_true_iff.2 ⟨a8, cl9⟩
  have a10 := Bool.and_eq_true_iff.2 ⟨a9, cl10⟩
  have a11 := Bool.and_eq_true_iff.2 ⟨a10, cl11⟩
  have a12 := Bool.and_eq_true_iff.2 ⟨a11, cl12⟩
  have a13 := Bool.and_eq_true_iff.2 ⟨a12, cl13⟩
  have a14 := Bool.and_eq_true_iff.2 ⟨a13, cl14⟩
  have a15 := Bool.and_eq_true_iff.2 ⟨a14, cl15⟩
  have a16 := Bool.and_eq_true_iff.2 ⟨a15, cl16⟩
  have a17 := Bool.and_eq_true_iff.2 ⟨a16, cl17⟩
  have a18 := Bool.and_eq_true_iff.2 ⟨a17, cl18⟩
  have a19 := Bool.and_eq_true_iff.2 ⟨a18, cl19⟩
  have a20 := Bool.and_eq_true_iff.2 ⟨a19, cl20⟩
  have a21 := Bool.and_eq_true_iff.2 ⟨a20, cl21⟩
  have a22 := Bool.and_eq_true_iff.2 ⟨a21, cl22⟩
  have a23 := Bool.and_eq_true_iff.2 ⟨a22, cl23⟩
  have a24 := Bool.and_eq_true_iff.2 ⟨a23, cl24⟩
  have a25 := Bool.and_eq_true_iff.2 ⟨a24, cl25⟩
  have a26 := Bool.and_eq_true_iff.2 ⟨a25, cl26⟩
  have a27 := Bool.and_eq_true_iff.2 ⟨a26, cl27⟩
  have a28 := Bool.and_eq_true_iff.2 ⟨a27, cl28⟩
  have a29 := Bool.and_eq_true_iff.2 ⟨a28, cl29⟩
  have a30 := Bool.and_eq_true_iff.2 ⟨a29, cl30⟩
  have a31 := Bool.and_eq_true_iff.2 ⟨a30, cl31⟩
  exact a31
theorem hfn0 : Tryz.pinned.checked.prog.funcNamed Rows.listFreshRow.func = some 3 := by kernel_rfl
theorem hinst0 : Tryz.f3.isInstance Tryz.pinned.checked.prog Rows.listFreshRow.origin Rows.listFreshRow.targs := of_decide_eq_true (by kernel_rfl)
theorem hwrap0 : Tryz.f3.isWrapper Tryz.pinned.checked.prog Rows.listFreshRow.wrapper Rows.listFreshRow.mainSum := by unfold Func.isWrapper; rw [if_neg (of_decide_eq_false (by kernel_rfl))]; exact ⟨rfl, rfl⟩

end Go.Proofs.YtaafcmmmkalgjaaGreatDoor.listFresh
