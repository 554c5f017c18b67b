/-
  The closed facts of the row of ListApart, one by one (all in one theorem run out of memory).
-/
import Derived.Test.YtaafcmmmkalgjaaGreatDoorBLaid
namespace Go.Proofs.YtaafcmmmkalgjaaGreatDoor.listApart
open Go.ChangeShapes Go.WideShapes Go.ChangeAt Go.RowKit
theorem cl0 : (Rows.listApartRow.wf (OpenSpec.ofChange Rows.listApartSpec)) = true := by kernel_rfl
theorem cl1 : (laidOutB Tryz.pinned.checked.prog) = true := by kernel_rfl
theorem cl2 : (mapsRowed Tryz.pinned.checked.prog) = true := by kernel_rfl
theorem cl3 : (Tryz.f4.params.all (Tryz.pinned.checked.prog.readableRec ·)) = true := by kernel_rfl
theorem cl4 : (namedTie Tryz.pinned.checked.prog Rows.listApartRow.named Rows.listApartSpec.vars) = true := by kernel_rfl
theorem cl5 : ((Rows.listApartRow.stops == [])) = true := by kernel_rfl
theorem cl6 : ((Tryz.pinned.checked.prog.stops == [])) = true := by kernel_rfl
theorem cl7 : ((Rows.listApartRow.knobs == [])) = true := by kernel_rfl
theorem cl8 : ((Tryz.pinned.checked.prog.stopKnobs == [])) = true := by kernel_rfl
theorem cl9 : ((Rows.listApartRow.inPlace == Tryz.pinned.checked.prog.inPlace 4)) = true := by kernel_rfl
theorem cl10 : ((Rows.listApartRow.unfollowed == Tryz.pinned.checked.prog.unfollowed 4)) = true := by kernel_rfl
theorem cl11 : ((Rows.listApartRow.recurses == Tryz.pinned.checked.prog.recurses 4)) = true := by kernel_rfl
theorem cl12 : ((Rows.listApartRow.named == Tryz.pinned.checked.prog.varsNamed 4)) = true := by kernel_rfl
theorem cl13 : ((Rows.listApartRow.maps == (Tryz.f4.params.toList ++ Rows.listApartSpec.plain.varTypes Tryz.pinned.checked.prog).any (Tryz.pinned.checked.prog.mapsRec ·))) = true := by kernel_rfl
theorem cl14 : ((Rows.listApartRow.ifaces == (Tryz.f4.params.toList ++ Rows.listApartSpec.plain.varTypes Tryz.pinned.checked.prog).any (Tryz.pinned.checked.prog.ifacesRec ·))) = true := by kernel_rfl
theorem cl15 : ((Rows.listApartRow.mapsOut == Tryz.pinned.checked.prog.mapsAmong Tryz.f4.resultTypes.toList)) = true := by kernel_rfl
theorem cl16 : ((Rows.listApartRow.loops == (Tryz.f4.params.toList ++ Rows.listApartSpec.plain.varTypes Tryz.pinned.checked.prog).any (Tryz.pinned.checked.prog.loopsFrom ·))) = true := by kernel_rfl
theorem cl17 : ((Rows.listApartRow.wideKeys == (Tryz.f4.params.toList ++ Rows.listApartSpec.plain.varTypes Tryz.pinned.checked.prog ++ Tryz.f4.resultTypes.toList).any (Tryz.pinned.checked.prog.wideKeysFrom ·))) = true := by kernel_rfl
theorem cl18 : (Rows.listApartSpec.vars.all (Tryz.pinned.checked.prog.varReadable ·)) = true := by kernel_rfl
theorem cl19 : (Tryz.f4.resultTypes.all (fun t => Tryz.pinned.checked.prog.readableRec t && decide (t < Tryz.pinned.checked.prog.types.size))) = true := by kernel_rfl
theorem cl20 : ((Rows.listApartRow.ifacesOut == Tryz.f4.resultTypes.toList.any (Tryz.pinned.checked.prog.ifacesRec ·))) = true := by kernel_rfl
theorem cl21 : ((Rows.listApartRow.loopsOut == Tryz.f4.resultTypes.toList.any (Tryz.pinned.checked.prog.loopsFrom ·))) = true := by kernel_rfl
theorem cl22 : ((Rows.listApartRow.plainKeys == Tryz.pinned.checked.prog.plainKeys)) = true := by kernel_rfl
theorem cl23 : (Rows.listApartRow.shortTexts.isNone) = true := by kernel_rfl
theorem cl24 : (Tryz.pinned.checked.prog.stopsHeard) = true := by kernel_rfl
theorem cl25 : (Tryz.pinned.checked.prog.mayEnter) = true := by kernel_rfl
theorem cl26 : ((Rows.listApartRow.lifted == Tryz.pinned.checked.prog.liftsFinal)) = true := by kernel_rfl
theorem cl27 : ((Tryz.pinned.checked.prog.make == some Rows.listApartRow.make)) = true := by kernel_rfl
theorem cl28 : ((Rows.listApartRow.kinds == (if Rows.listApartRow.domain.isEmpty then [] else Tryz.f4.params.toList.map fun t => match Tryz.pinned.checked.prog.underlying t with | some (.int k) => some k | _ => none))) = true := by kernel_rfl
theorem cl29 : ((Rows.listApartRow.pinned == Rows.listApartRow.pinnedBy)) = true := by kernel_rfl
theorem cl30 : ((Rows.listApartRow.veiled == (Tryz.f4.params.toList ++ Rows.listApartSpec.plain.varTypes Tryz.pinned.checked.prog ++ Tryz.f4.resultTypes.toList).any (Tryz.pinned.checked.prog.veiledRec ·))) = true := by kernel_rfl
theorem cl31 : (Rows.listApartRow.veiledFits Tryz.pinned.checked.prog Tryz.f4.params.toList (Tryz.f4.params.toList ++ Rows.listApartSpec.plain.varTypes Tryz.pinned.checked.prog ++ Tryz.f4.resultTypes.toList)) = true := by kernel_rfl
set_option maxRecDepth 100000 in
theorem closed0 : joinedFacts Tryz.pinned.checked.prog 4 Tryz.f4 Rows.listApartSpec Rows.listApartRow = true := by
  have a1 := Bool.and_eq_true_iff.2 ⟨cl0, cl1⟩
  have a2 := Bool.and_eq_true_iff.2 ⟨a1, cl2⟩
  have a3 := Bool.and_eq_true_iff.2 ⟨a2, cl3⟩
  have a4 := Bool.and_eq_true_iff.2 ⟨a3, cl4⟩
  have a5 := Bool.and_eq_true_iff.2 ⟨a4, cl5⟩
  have a6 := Bool.and_eq_true_iff.2 ⟨a5, cl6⟩
  have a7 := Bool.and_eq_true_iff.2 ⟨a6, cl7⟩
  have a8 := Bool.and_eq_true_iff.2 ⟨a7, cl8⟩
  have a9 := Bool.and_eq_true_iff.2 ⟨a8, cl9⟩
  have a10 := Bool.and_eq_true_iff.2 ⟨a9, cl10⟩
  have a11 := Bool.and_eq_true_iff.2 ⟨a10, cl11⟩
  have a12 := Bool.and_eq_true_iff.2 ⟨a11, cl12⟩
  have a13 := Bool.and_eq_true_iff.2 ⟨a12, cl13⟩
  have a14 := Bool.and_eq_true_iff.2 ⟨a13, cl14⟩
  have a15 := Bool.and_eq_true_iff.2 ⟨a14, cl15⟩
  have a16 := Bool.and_eq_true_iff.2 ⟨a15, cl16⟩
  have a17 := Bool.and_eq_true_iff.2 ⟨a16, cl17⟩
  have a18 := Bool.and_eq_true_iff.2 ⟨a17, cl18⟩
  have a19 := Bool.and_eq_true_iff.2 ⟨a18, cl19⟩
  have a20 := Bool.and_eq_true_iff.2 ⟨a19, cl20⟩
  have a21 := Bool.and_eq_true_iff.2 ⟨a20, cl21⟩
  have a22 := Bool.and_eq_true_iff.2 ⟨a21, cl22⟩
  have a23 := Bool.and_eq_true_iff.2 ⟨a22, cl23⟩
  have a24 := Bool.and_eq_true_iff.2 ⟨a23, cl24⟩
  have a25 := Bool.and_eq_true_iff.2 ⟨a24, cl25⟩
  have a26 := Bool.and_eq_true_iff.2 ⟨a25, cl26⟩
  have a27 := Bool.and_eq_true_iff.2 ⟨a26, cl27⟩
  have a28 := Bool.and_eq_true_iff.2 ⟨a27, cl28⟩
  have a29 := Bool.and_eq_true_iff.2 ⟨a28, cl29⟩
  have a30 := Bool.and_eq_true_iff.2 ⟨a29, cl30⟩
  have a31 := Bool.and_eq_true_iff.2 ⟨a30, cl31⟩
  exact a31
theorem hfn0 : Tryz.pinned.checked.prog.funcNamed Rows.listApartRow.func = some 4 := by kernel_rfl
theorem hinst0 : Tryz.f4.isInstance Tryz.pinned.checked.prog Rows.listApartRow.origin Rows.listApartRow.targs := of_decide_eq_true (by kernel_rfl)
theorem hwrap0 : Tryz.f4.isWrapper Tryz.pinned.checked.prog Rows.listApartRow.wrapper Rows.listApartRow.mainSum := by unfold Func.isWrapper; rw [if_neg (of_decide_eq_false (by kernel_rfl))]; exact ⟨rfl, rfl⟩

end Go.Proofs.YtaafcmmmkalgjaaGreatDoor.listApart
