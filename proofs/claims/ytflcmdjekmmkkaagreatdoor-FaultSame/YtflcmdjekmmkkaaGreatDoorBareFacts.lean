/-
  errors.As of a bare error at the target api.Raised: closed facts on the model's entries for internal/reflectlite.
-/
import Derived.Test.YtflcmdjekmmkkaaGreatDoorAsAid
namespace Go.Proofs.YtflcmdjekmmkkaaGreatDoor
open Go.RowKit Go.Extern.Stop Go.Stop Go.Extern
theorem typeOfN (v : Value) (w : World) : (ReflectliteType.typeOf #[.iface 87 v]).run Tryz.prog w = .ok (.iface 145 (.agg #[.pointer (some ⟨4, 87, none⟩)])) w := by kernel_rfl
theorem fitN : ∃ want, Tryz.prog.underlying 54 = some (.interface want) ∧ (Tryz.prog.info? 87).map (fun i => (lacking want i.methods).isEmpty) = some false := ⟨_, Tryz.underlying54, by kernel_rfl⟩
theorem asgN' (w : World) : (ReflectliteType.relation "AssignableTo" ReflectliteType.assignableTo #[.agg #[.pointer (some ⟨4, 87, none⟩)], .iface 145 (.agg #[.pointer (some ⟨4, 54, none⟩)])]).run Tryz.prog w
    = .ok (.bool (Instr.missingMethod (match Tryz.prog.underlying 54 with | some (.interface want) => want | _ => #[]) (match Tryz.prog.info? 87 with | some i => i.methods | none => #[])).isNone) w := by kernel_rfl
theorem asgN (w : World) : (ReflectliteType.relation "AssignableTo" ReflectliteType.assignableTo #[.agg #[.pointer (some ⟨4, 87, none⟩)], .iface 145 (.agg #[.pointer (some ⟨4, 54, none⟩)])]).run Tryz.prog w = .ok (.bool false) w := by
  obtain ⟨want, hw, hl⟩ := fitN
  obtain ⟨i, hi, hl⟩ := Option.map_eq_some_iff.1 hl
  rw [asgN', hw, hi]
  obtain ⟨m, hm⟩ := missingMethod_some (want := want) (got := i.methods) (fun e => by rw [e] at hl; cases hl)
  simp only [hm]
  rfl
theorem typeOfC (v : Value) (w : World) : (ReflectliteType.typeOf #[.iface 128 v]).run Tryz.prog w = .ok (.iface 145 (.agg #[.pointer (some ⟨4, 128, none⟩)])) w := by kernel_rfl
theorem fitC : ∃ want, Tryz.prog.underlying 54 = some (.interface want) ∧ (Tryz.prog.info? 128).map (fun i => (lacking want i.methods).isEmpty) = some false := ⟨_, Tryz.underlying54, by kernel_rfl⟩
theorem asgC' (w : World) : (ReflectliteType.relation "AssignableTo" ReflectliteType.assignableTo #[.agg #[.pointer (some ⟨4, 128, none⟩)], .iface 145 (.agg #[.pointer (some ⟨4, 54, none⟩)])]).run Tryz.prog w
    = .ok (.bool (Instr.missingMethod (match Tryz.prog.underlying 54 with | some (.interface want) => want | _ => #[]) (match Tryz.prog.info? 128 with | some i => i.methods | none => #[])).isNone) w := by kernel_rfl
theorem asgC (w : World) : (ReflectliteType.relation "AssignableTo" ReflectliteType.assignableTo #[.agg #[.pointer (some ⟨4, 128, none⟩)], .iface 145 (.agg #[.pointer (some ⟨4, 54, none⟩)])]).run Tryz.prog w = .ok (.bool false) w := by
  obtain ⟨want, hw, hl⟩ := fitC
  obtain ⟨i, hi, hl⟩ := Option.map_eq_some_iff.1 hl
  rw [asgC', hw, hi]
  obtain ⟨m, hm⟩ := missingMethod_some (want := want) (got := i.methods) (fun e => by rw [e] at hl; cases hl)
  simp only [hm]
  rfl
theorem typeOfL (v : Value) (w : World) : (ReflectliteType.typeOf #[.iface 127 v]).run Tryz.prog w = .ok (.iface 145 (.agg #[.pointer (some ⟨4, 127, none⟩)])) w := by kernel_rfl
theorem fitL : ∃ want, Tryz.prog.underlying 54 = some (.interface want) ∧ (Tryz.prog.info? 127).map (fun i => (lacking want i.methods).isEmpty) = some false := ⟨_, Tryz.underlying54, by kernel_rfl⟩
theorem asgL' (w : World) : (ReflectliteType.relation "AssignableTo" ReflectliteType.assignableTo #[.agg #[.pointer (some ⟨4, 127, none⟩)], .iface 145 (.agg #[.pointer (some ⟨4, 54, none⟩)])]).run Tryz.prog w
    = .ok (.bool (Instr.missingMethod (match Tryz.prog.underlying 54 with | some (.interface want) => want | _ => #[]) (match Tryz.prog.info? 127 with | some i => i.methods | none => #[])).isNone) w := by kernel_rfl
theorem asgL (w : World) : (ReflectliteType.relation "AssignableTo" ReflectliteType.assignableTo #[.agg #[.pointer (some ⟨4, 127, none⟩)], .iface 145 (.agg #[.pointer (some ⟨4, 54, none⟩)])]).run Tryz.prog w = .ok (.bool false) w := by
  obtain ⟨want, hw, hl⟩ := fitL
  obtain ⟨i, hi, hl⟩ := Option.map_eq_some_iff.1 hl
  rw [asgL', hw, hi]
  obtain ⟨m, hm⟩ := missingMethod_some (want := want) (got := i.methods) (fun e => by rw [e] at hl; cases hl)
  simp only [hm]
  rfl
theorem typeOfR (v : Value) (w : World) : (ReflectliteType.typeOf #[.iface 129 v]).run Tryz.prog w = .ok (.iface 145 (.agg #[.pointer (some ⟨4, 129, none⟩)])) w := by kernel_rfl
theorem fitR : ∃ want, Tryz.prog.underlying 54 = some (.interface want) ∧ (Tryz.prog.info? 129).map (fun i => (lacking want i.methods).isEmpty) = some true := ⟨_, Tryz.underlying54, by kernel_rfl⟩
theorem asgR' (w : World) : (ReflectliteType.relation "AssignableTo" ReflectliteType.assignableTo #[.agg #[.pointer (some ⟨4, 129, none⟩)], .iface 145 (.agg #[.pointer (some ⟨4, 54, none⟩)])]).run Tryz.prog w
    = .ok (.bool (Instr.missingMethod (match Tryz.prog.underlying 54 with | some (.interface want) => want | _ => #[]) (match Tryz.prog.info? 129 with | some i => i.methods | none => #[])).isNone) w := by kernel_rfl
theorem asgR (w : World) : (ReflectliteType.relation "AssignableTo" ReflectliteType.assignableTo #[.agg #[.pointer (some ⟨4, 129, none⟩)], .iface 145 (.agg #[.pointer (some ⟨4, 54, none⟩)])]).run Tryz.prog w = .ok (.bool true) w := by
  obtain ⟨want, hw, hl⟩ := fitR
  obtain ⟨i, hi, hl⟩ := Option.map_eq_some_iff.1 hl
  rw [asgR', hw, hi]
  have hm := missingMethod_none (want := want) (got := i.methods) (List.isEmpty_iff.1 hl)
  simp only [hm]
  rfl
theorem typeOfK (v : Value) (w : World) : (ReflectliteType.typeOf #[.iface 132 v]).run Tryz.prog w = .ok (.iface 145 (.agg #[.pointer (some ⟨4, 132, none⟩)])) w := by kernel_rfl
theorem fitK : ∃ want, Tryz.prog.underlying 54 = some (.interface want) ∧ (Tryz.prog.info? 132).map (fun i => (lacking want i.methods).isEmpty) = some false := ⟨_, Tryz.underlying54, by kernel_rfl⟩
theorem asgK' (w : World) : (ReflectliteType.relation "AssignableTo" ReflectliteType.assignableTo #[.agg #[.pointer (some ⟨4, 132, none⟩)], .iface 145 (.agg #[.pointer (some ⟨4, 54, none⟩)])]).run Tryz.prog w
    = .ok (.bool (Instr.missingMethod (match Tryz.prog.underlying 54 with | some (.interface want) => want | _ => #[]) (match Tryz.prog.info? 132 with | some i => i.methods | none => #[])).isNone) w := by kernel_rfl
theorem asgK (w : World) : (ReflectliteType.relation "AssignableTo" ReflectliteType.assignableTo #[.agg #[.pointer (some ⟨4, 132, none⟩)], .iface 145 (.agg #[.pointer (some ⟨4, 54, none⟩)])]).run Tryz.prog w = .ok (.bool false) w := by
  obtain ⟨want, hw, hl⟩ := fitK
  obtain ⟨i, hi, hl⟩ := Option.map_eq_some_iff.1 hl
  rw [asgK', hw, hi]
  obtain ⟨m, hm⟩ := missingMethod_some (want := want) (got := i.methods) (fun e => by rw [e] at hl; cases hl)
  simp only [hm]
  rfl
theorem valueOfR (e : Addr) (w : World) : (ReflectliteValue.unpack (.iface 129 (.pointer (some e)))).run Tryz.prog w
    = .ok (.agg #[.pointer (some ⟨4, 129, none⟩), .pointer (some ⟨w.heap.size, 0, none⟩), .int .u64 150]) (w.alloc (.cells #[.pointer (some e)] 129)) := by kernel_rfl
theorem elemOfP (w : World) : (Rtype.elem? 56).run Tryz.prog w = .ok (some 54) w := by kernel_rfl
theorem mkX (q : Addr) (w : World) : (ReflectliteValue.mk 54 q ReflectliteValue.flagAddr).run Tryz.prog w = .ok (.agg #[.pointer (some ⟨4, 54, none⟩), .pointer (some q), .int .u64 404]) w := by kernel_rfl
theorem elemVP (a q : Addr) (W : World) (ha : W.cell? a = some (.pointer (some q))) :
    (ReflectliteValue.method (ReflectliteValue.valueError "reflectlite.Value.Elem" 0) ReflectliteValue.elem #[.agg #[.pointer (some ⟨4, 56, none⟩), .pointer (some a), .int .u64 150]]).run Tryz.prog W
      = .ok (.agg #[.pointer (some ⟨4, 54, none⟩), .pointer (some q), .int .u64 404]) W := by
  rw [rlm]
  simp only [Sem.run_bind, paRaised, Result.andThen]
  simp [ReflectliteValue.elem, loadVar, isAgg, underlying, Tryz.underlying56, ha, Result.andThen, elemOfP, mkX]
theorem partsX (a : Addr) (w : World) : (ReflectliteValue.parts (.agg #[.pointer (some ⟨4, 54, none⟩), .pointer (some a), .int .u64 404])).run Tryz.prog w = .ok (some (54, a, 404)) w := by kernel_rfl
theorem partsR (a : Addr) (w : World) : (ReflectliteValue.parts (.agg #[.pointer (some ⟨4, 129, none⟩), .pointer (some a), .int .u64 150])).run Tryz.prog w = .ok (some (129, a, 150)) w := by kernel_rfl
theorem directXR (w : World) : (Rtype.directlyAssignable 54 129).run Tryz.prog w = .ok false w := by kernel_rfl
theorem implXR' (w : World) : (Rtype.implements 54 129).run Tryz.prog w = .ok (Instr.missingMethod (match Tryz.prog.underlying 54 with | some (.interface want) => want | _ => #[]) (match Tryz.prog.info? 129 with | some i => i.methods | none => #[])).isNone w := by kernel_rfl
theorem implXR (w : World) : (Rtype.implements 54 129).run Tryz.prog w = .ok true w := by
  obtain ⟨want, hw, hl⟩ := fitR
  obtain ⟨i, hi, hl⟩ := Option.map_eq_some_iff.1 hl
  rw [implXR', hw, hi]
  have hm := missingMethod_none (want := want) (got := i.methods) (List.isEmpty_iff.1 hl)
  simp only [hm]
  rfl
theorem kindR (w : World) : (Rtype.kind 129).run Tryz.prog w = .ok 22 w := by kernel_rfl
theorem pick2 (v z : Value) (h1 : Value → Value → Sem Value) (h2 : Array Value → Sem Value) : ReflectliteValue.set.match_3 (fun _ => Sem Value) #[v, z] h1 h2 = h1 v z := rfl
theorem setXR (ta b e : Addr) (old : Value) (W : World) (hb : W.cell? b = some (.pointer (some e))) (ht : W.cell? ta = some old) (hf : W.frozen? ta = false) :
    (ReflectliteValue.set #[.agg #[.pointer (some ⟨4, 54, none⟩), .pointer (some ta), .int .u64 404], .agg #[.pointer (some ⟨4, 129, none⟩), .pointer (some b), .int .u64 150]]).run Tryz.prog W
      = .ok (.tuple #[]) (W.setCell ta (.iface 129 (.pointer (some e)))) := by
  delta ReflectliteValue.set
  rw [pick2]
  simp only [Sem.run_bind, partsX, partsR, Result.andThen]
  simp [ReflectliteValue.flagAddr, loadVar, isAgg, underlying, Tryz.underlying129, hb, Result.andThen, directXR, implXR, kindR, storeVar, Value.cells, storeCells, Addr.add]
  rw [run_store Tryz.prog W ta _ _ (by rfl)]
  simp [ht, hf]

theorem xVElem (args : Array Value) (w : World) : (callFunc 56 args).run Tryz.prog w = (((ReflectliteValue.method (ReflectliteValue.valueError "reflectlite.Value.Elem" 0) ReflectliteValue.elem) args).run Tryz.prog w).andThen fun v w => .ok (.value v) w := @run_callFunc_extern Tryz.prog 56 _ (ReflectliteValue.method (ReflectliteValue.valueError "reflectlite.Value.Elem" 0) ReflectliteValue.elem) Tryz.func56 (by kernel_rfl) (by kernel_rfl) (by kernel_rfl) (by kernel_rfl) args w
theorem xVSet (args : Array Value) (w : World) : (callFunc 57 args).run Tryz.prog w = ((ReflectliteValue.set args).run Tryz.prog w).andThen fun v w => .ok (.value v) w := @run_callFunc_extern Tryz.prog 57 _ ReflectliteValue.set Tryz.func57 (by kernel_rfl) (by kernel_rfl) (by kernel_rfl) (by kernel_rfl) args w

end Go.Proofs.YtflcmdjekmmkkaaGreatDoor
