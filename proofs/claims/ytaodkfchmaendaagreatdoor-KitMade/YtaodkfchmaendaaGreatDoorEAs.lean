/-
  errors.As at the five targets of a chain: closed facts on the model's entries for internal/reflectlite, and the three entries that read or write memory.
-/
import Derived.Test.YtaodkfchmaendaaGreatDoorETake
import Derived.LoopTactic
namespace Go.Proofs.YtaodkfchmaendaaGreatDoor.Er
open Go.RowKit Go.Extern.Stop Go.Stop Go.Extern

theorem rlm (z : Sem Value) (f : TypeId → Addr → Nat → Nat → Sem Value) (v : Value) :
    ReflectliteValue.method z f #[v] = (do match ← ReflectliteValue.parts v with | none => z | some (t, a, fl) => f t a fl (fl % 32)) := rfl
theorem rmKind (h : Value) (w : World) : (Go.method 450 256 (.agg #[h]) "Kind").run Tryz.prog w = .ok (159, h) w := by kernel_rfl
theorem rmElem (h : Value) (w : World) : (Go.method 450 256 (.agg #[h]) "Elem").run Tryz.prog w = .ok (197, .agg #[h]) w := by kernel_rfl
theorem rmImplements (h : Value) (w : World) : (Go.method 450 256 (.agg #[h]) "Implements").run Tryz.prog w = .ok (198, .agg #[h]) w := by kernel_rfl
theorem rmAssignableTo (h : Value) (w : World) : (Go.method 450 256 (.agg #[h]) "AssignableTo").run Tryz.prog w = .ok (195, .agg #[h]) w := by kernel_rfl
theorem xValueOf (args : Array Value) (w : World) : (callFunc 95 args).run Tryz.prog w = (((fun args => ReflectliteValue.unpack (args.getD 0 (.tuple #[]))) args).run Tryz.prog w).andThen fun v w => .ok (.value v) w := @run_callFunc_extern Tryz.prog 95 _ (fun args => ReflectliteValue.unpack (args.getD 0 (.tuple #[]))) Tryz.func95 (by kernel_rfl) (by kernel_rfl) (by kernel_rfl) (by kernel_rfl) args w
theorem xVType (args : Array Value) (w : World) : (callFunc 96 args).run Tryz.prog w = (((ReflectliteValue.methodAny (ReflectliteValue.valueError "reflectlite.Value.Type" 0) (fun t _ _ _ => ReflectliteType.toType t)) args).run Tryz.prog w).andThen fun v w => .ok (.value v) w := @run_callFunc_extern Tryz.prog 96 _ (ReflectliteValue.methodAny (ReflectliteValue.valueError "reflectlite.Value.Type" 0) (fun t _ _ _ => ReflectliteType.toType t)) Tryz.func96 (by kernel_rfl) (by kernel_rfl) (by kernel_rfl) (by kernel_rfl) args w
theorem xIsNil (args : Array Value) (w : World) : (callFunc 97 args).run Tryz.prog w = (((ReflectliteValue.method (ReflectliteValue.valueError "reflectlite.Value.IsNil" 0) ReflectliteValue.isNil) args).run Tryz.prog w).andThen fun v w => .ok (.value v) w := @run_callFunc_extern Tryz.prog 97 _ (ReflectliteValue.method (ReflectliteValue.valueError "reflectlite.Value.IsNil" 0) ReflectliteValue.isNil) Tryz.func97 (by kernel_rfl) (by kernel_rfl) (by kernel_rfl) (by kernel_rfl) args w
theorem xKind (args : Array Value) (w : World) : (callFunc 159 args).run Tryz.prog w = (((ReflectliteType.abiMethod fun t => do pure (.int .u8 (← Rtype.kind t))) args).run Tryz.prog w).andThen fun v w => .ok (.value v) w := @run_callFunc_extern Tryz.prog 159 _ (ReflectliteType.abiMethod fun t => do pure (.int .u8 (← Rtype.kind t))) Tryz.func159 (by kernel_rfl) (by kernel_rfl) (by kernel_rfl) (by kernel_rfl) args w
theorem xElem (args : Array Value) (w : World) : (callFunc 197 args).run Tryz.prog w = (((ReflectliteType.method ReflectliteType.elem) args).run Tryz.prog w).andThen fun v w => .ok (.value v) w := @run_callFunc_extern Tryz.prog 197 _ (ReflectliteType.method ReflectliteType.elem) Tryz.func197 (by kernel_rfl) (by kernel_rfl) (by kernel_rfl) (by kernel_rfl) args w
theorem xImplements (args : Array Value) (w : World) : (callFunc 198 args).run Tryz.prog w = (((ReflectliteType.relation "Implements" ReflectliteType.implements_) args).run Tryz.prog w).andThen fun v w => .ok (.value v) w := @run_callFunc_extern Tryz.prog 198 _ (ReflectliteType.relation "Implements" ReflectliteType.implements_) Tryz.func198 (by kernel_rfl) (by kernel_rfl) (by kernel_rfl) (by kernel_rfl) args w
theorem xTypeOf (args : Array Value) (w : World) : (callFunc 128 args).run Tryz.prog w = ((ReflectliteType.typeOf args).run Tryz.prog w).andThen fun v w => .ok (.value v) w := @run_callFunc_extern Tryz.prog 128 _ ReflectliteType.typeOf Tryz.func128 (by kernel_rfl) (by kernel_rfl) (by kernel_rfl) (by kernel_rfl) args w
theorem xAssignableTo (args : Array Value) (w : World) : (callFunc 195 args).run Tryz.prog w = (((ReflectliteType.relation "AssignableTo" ReflectliteType.assignableTo) args).run Tryz.prog w).andThen fun v w => .ok (.value v) w := @run_callFunc_extern Tryz.prog 195 _ (ReflectliteType.relation "AssignableTo" ReflectliteType.assignableTo) Tryz.func195 (by kernel_rfl) (by kernel_rfl) (by kernel_rfl) (by kernel_rfl) args w
theorem voCoded (t : Addr) (w : World) : (ReflectliteValue.unpack (.iface 129 (.pointer (some t)))).run Tryz.prog w = .ok (.agg #[.pointer (some ⟨5, 129, none⟩), .pointer (some ⟨w.heap.size, 0, none⟩), .int .u64 150]) (w.alloc (.cells #[.pointer (some t)] 129)) := by kernel_rfl
theorem tyCoded (a : Addr) (w : World) : (ReflectliteValue.methodAny (ReflectliteValue.valueError "reflectlite.Value.Type" 0) (fun t _ _ _ => ReflectliteType.toType t) #[.agg #[.pointer (some ⟨5, 129, none⟩), .pointer (some a), .int .u64 150]]).run Tryz.prog w = .ok (.iface 256 (.agg #[.pointer (some ⟨5, 129, none⟩)])) w := by kernel_rfl
theorem kpCoded (w : World) : ((ReflectliteType.abiMethod fun t => (fun a : Nat => Value.int IntKind.u8 (a : Int)) <$> Rtype.kind t) #[.pointer (some ⟨5, 129, none⟩)]).run Tryz.prog w = .ok (.int .u8 22) w := by kernel_rfl
theorem keCoded (w : World) : ((ReflectliteType.abiMethod fun t => (fun a : Nat => Value.int IntKind.u8 (a : Int)) <$> Rtype.kind t) #[.pointer (some ⟨5, 124, none⟩)]).run Tryz.prog w = .ok (.int .u8 20) w := by kernel_rfl
theorem paCoded (a : Addr) (w : World) : (ReflectliteValue.parts (.agg #[.pointer (some ⟨5, 129, none⟩), .pointer (some a), .int .u64 150])).run Tryz.prog w = .ok (some (129, a, 150)) w := by kernel_rfl
theorem nnCoded (a q : Addr) (W : World) (ha : W.cell? a = some (.pointer (some q))) :
    (ReflectliteValue.method (ReflectliteValue.valueError "reflectlite.Value.IsNil" 0) ReflectliteValue.isNil #[.agg #[.pointer (some ⟨5, 129, none⟩), .pointer (some a), .int .u64 150]]).run Tryz.prog W = .ok (.bool false) W := by
  rw [rlm]
  simp only [Sem.run_bind, paCoded, Result.andThen]
  simp [ReflectliteValue.isNil, loadVar, isAgg, underlying, Tryz.underlying129, ha, Result.andThen]
theorem elCoded (w : World) : (ReflectliteType.method ReflectliteType.elem #[.agg #[.pointer (some ⟨5, 129, none⟩)]]).run Tryz.prog w = .ok (.iface 256 (.agg #[.pointer (some ⟨5, 124, none⟩)])) w := by kernel_rfl
theorem toCoded (v : Value) (w : World) : (ReflectliteType.typeOf #[.iface 124 v]).run Tryz.prog w = .ok (.iface 256 (.agg #[.pointer (some ⟨5, 124, none⟩)])) w := by kernel_rfl

theorem voLocated (t : Addr) (w : World) : (ReflectliteValue.unpack (.iface 311 (.pointer (some t)))).run Tryz.prog w = .ok (.agg #[.pointer (some ⟨5, 311, none⟩), .pointer (some ⟨w.heap.size, 0, none⟩), .int .u64 150]) (w.alloc (.cells #[.pointer (some t)] 311)) := by kernel_rfl
theorem tyLocated (a : Addr) (w : World) : (ReflectliteValue.methodAny (ReflectliteValue.valueError "reflectlite.Value.Type" 0) (fun t _ _ _ => ReflectliteType.toType t) #[.agg #[.pointer (some ⟨5, 311, none⟩), .pointer (some a), .int .u64 150]]).run Tryz.prog w = .ok (.iface 256 (.agg #[.pointer (some ⟨5, 311, none⟩)])) w := by kernel_rfl
theorem kpLocated (w : World) : ((ReflectliteType.abiMethod fun t => (fun a : Nat => Value.int IntKind.u8 (a : Int)) <$> Rtype.kind t) #[.pointer (some ⟨5, 311, none⟩)]).run Tryz.prog w = .ok (.int .u8 22) w := by kernel_rfl
theorem keLocated (w : World) : ((ReflectliteType.abiMethod fun t => (fun a : Nat => Value.int IntKind.u8 (a : Int)) <$> Rtype.kind t) #[.pointer (some ⟨5, 158, none⟩)]).run Tryz.prog w = .ok (.int .u8 20) w := by kernel_rfl
theorem paLocated (a : Addr) (w : World) : (ReflectliteValue.parts (.agg #[.pointer (some ⟨5, 311, none⟩), .pointer (some a), .int .u64 150])).run Tryz.prog w = .ok (some (311, a, 150)) w := by kernel_rfl
theorem nnLocated (a q : Addr) (W : World) (ha : W.cell? a = some (.pointer (some q))) :
    (ReflectliteValue.method (ReflectliteValue.valueError "reflectlite.Value.IsNil" 0) ReflectliteValue.isNil #[.agg #[.pointer (some ⟨5, 311, none⟩), .pointer (some a), .int .u64 150]]).run Tryz.prog W = .ok (.bool false) W := by
  rw [rlm]
  simp only [Sem.run_bind, paLocated, Result.andThen]
  simp [ReflectliteValue.isNil, loadVar, isAgg, underlying, Tryz.underlying311, ha, Result.andThen]
theorem elLocated (w : World) : (ReflectliteType.method ReflectliteType.elem #[.agg #[.pointer (some ⟨5, 311, none⟩)]]).run Tryz.prog w = .ok (.iface 256 (.agg #[.pointer (some ⟨5, 158, none⟩)])) w := by kernel_rfl
theorem toLocated (v : Value) (w : World) : (ReflectliteType.typeOf #[.iface 158 v]).run Tryz.prog w = .ok (.iface 256 (.agg #[.pointer (some ⟨5, 158, none⟩)])) w := by kernel_rfl

theorem voRaised (t : Addr) (w : World) : (ReflectliteValue.unpack (.iface 313 (.pointer (some t)))).run Tryz.prog w = .ok (.agg #[.pointer (some ⟨5, 313, none⟩), .pointer (some ⟨w.heap.size, 0, none⟩), .int .u64 150]) (w.alloc (.cells #[.pointer (some t)] 313)) := by kernel_rfl
theorem tyRaised (a : Addr) (w : World) : (ReflectliteValue.methodAny (ReflectliteValue.valueError "reflectlite.Value.Type" 0) (fun t _ _ _ => ReflectliteType.toType t) #[.agg #[.pointer (some ⟨5, 313, none⟩), .pointer (some a), .int .u64 150]]).run Tryz.prog w = .ok (.iface 256 (.agg #[.pointer (some ⟨5, 313, none⟩)])) w := by kernel_rfl
theorem kpRaised (w : World) : ((ReflectliteType.abiMethod fun t => (fun a : Nat => Value.int IntKind.u8 (a : Int)) <$> Rtype.kind t) #[.pointer (some ⟨5, 313, none⟩)]).run Tryz.prog w = .ok (.int .u8 22) w := by kernel_rfl
theorem keRaised (w : World) : ((ReflectliteType.abiMethod fun t => (fun a : Nat => Value.int IntKind.u8 (a : Int)) <$> Rtype.kind t) #[.pointer (some ⟨5, 162, none⟩)]).run Tryz.prog w = .ok (.int .u8 20) w := by kernel_rfl
theorem paRaised (a : Addr) (w : World) : (ReflectliteValue.parts (.agg #[.pointer (some ⟨5, 313, none⟩), .pointer (some a), .int .u64 150])).run Tryz.prog w = .ok (some (313, a, 150)) w := by kernel_rfl
theorem nnRaised (a q : Addr) (W : World) (ha : W.cell? a = some (.pointer (some q))) :
    (ReflectliteValue.method (ReflectliteValue.valueError "reflectlite.Value.IsNil" 0) ReflectliteValue.isNil #[.agg #[.pointer (some ⟨5, 313, none⟩), .pointer (some a), .int .u64 150]]).run Tryz.prog W = .ok (.bool false) W := by
  rw [rlm]
  simp only [Sem.run_bind, paRaised, Result.andThen]
  simp [ReflectliteValue.isNil, loadVar, isAgg, underlying, Tryz.underlying313, ha, Result.andThen]
theorem elRaised (w : World) : (ReflectliteType.method ReflectliteType.elem #[.agg #[.pointer (some ⟨5, 313, none⟩)]]).run Tryz.prog w = .ok (.iface 256 (.agg #[.pointer (some ⟨5, 162, none⟩)])) w := by kernel_rfl
theorem toRaised (v : Value) (w : World) : (ReflectliteType.typeOf #[.iface 162 v]).run Tryz.prog w = .ok (.iface 256 (.agg #[.pointer (some ⟨5, 162, none⟩)])) w := by kernel_rfl

theorem voLacking (t : Addr) (w : World) : (ReflectliteValue.unpack (.iface 315 (.pointer (some t)))).run Tryz.prog w = .ok (.agg #[.pointer (some ⟨5, 315, none⟩), .pointer (some ⟨w.heap.size, 0, none⟩), .int .u64 150]) (w.alloc (.cells #[.pointer (some t)] 315)) := by kernel_rfl
theorem tyLacking (a : Addr) (w : World) : (ReflectliteValue.methodAny (ReflectliteValue.valueError "reflectlite.Value.Type" 0) (fun t _ _ _ => ReflectliteType.toType t) #[.agg #[.pointer (some ⟨5, 315, none⟩), .pointer (some a), .int .u64 150]]).run Tryz.prog w = .ok (.iface 256 (.agg #[.pointer (some ⟨5, 315, none⟩)])) w := by kernel_rfl
theorem kpLacking (w : World) : ((ReflectliteType.abiMethod fun t => (fun a : Nat => Value.int IntKind.u8 (a : Int)) <$> Rtype.kind t) #[.pointer (some ⟨5, 315, none⟩)]).run Tryz.prog w = .ok (.int .u8 22) w := by kernel_rfl
theorem keLacking (w : World) : ((ReflectliteType.abiMethod fun t => (fun a : Nat => Value.int IntKind.u8 (a : Int)) <$> Rtype.kind t) #[.pointer (some ⟨5, 165, none⟩)]).run Tryz.prog w = .ok (.int .u8 20) w := by kernel_rfl
theorem paLacking (a : Addr) (w : World) : (ReflectliteValue.parts (.agg #[.pointer (some ⟨5, 315, none⟩), .pointer (some a), .int .u64 150])).run Tryz.prog w = .ok (some (315, a, 150)) w := by kernel_rfl
theorem nnLacking (a q : Addr) (W : World) (ha : W.cell? a = some (.pointer (some q))) :
    (ReflectliteValue.method (ReflectliteValue.valueError "reflectlite.Value.IsNil" 0) ReflectliteValue.isNil #[.agg #[.pointer (some ⟨5, 315, none⟩), .pointer (some a), .int .u64 150]]).run Tryz.prog W = .ok (.bool false) W := by
  rw [rlm]
  simp only [Sem.run_bind, paLacking, Result.andThen]
  simp [ReflectliteValue.isNil, loadVar, isAgg, underlying, Tryz.underlying315, ha, Result.andThen]
theorem elLacking (w : World) : (ReflectliteType.method ReflectliteType.elem #[.agg #[.pointer (some ⟨5, 315, none⟩)]]).run Tryz.prog w = .ok (.iface 256 (.agg #[.pointer (some ⟨5, 165, none⟩)])) w := by kernel_rfl
theorem toLacking (v : Value) (w : World) : (ReflectliteType.typeOf #[.iface 165 v]).run Tryz.prog w = .ok (.iface 256 (.agg #[.pointer (some ⟨5, 165, none⟩)])) w := by kernel_rfl

theorem voNoted (t : Addr) (w : World) : (ReflectliteValue.unpack (.iface 317 (.pointer (some t)))).run Tryz.prog w = .ok (.agg #[.pointer (some ⟨5, 317, none⟩), .pointer (some ⟨w.heap.size, 0, none⟩), .int .u64 150]) (w.alloc (.cells #[.pointer (some t)] 317)) := by kernel_rfl
theorem tyNoted (a : Addr) (w : World) : (ReflectliteValue.methodAny (ReflectliteValue.valueError "reflectlite.Value.Type" 0) (fun t _ _ _ => ReflectliteType.toType t) #[.agg #[.pointer (some ⟨5, 317, none⟩), .pointer (some a), .int .u64 150]]).run Tryz.prog w = .ok (.iface 256 (.agg #[.pointer (some ⟨5, 317, none⟩)])) w := by kernel_rfl
theorem kpNoted (w : World) : ((ReflectliteType.abiMethod fun t => (fun a : Nat => Value.int IntKind.u8 (a : Int)) <$> Rtype.kind t) #[.pointer (some ⟨5, 317, none⟩)]).run Tryz.prog w = .ok (.int .u8 22) w := by kernel_rfl
theorem keNoted (w : World) : ((ReflectliteType.abiMethod fun t => (fun a : Nat => Value.int IntKind.u8 (a : Int)) <$> Rtype.kind t) #[.pointer (some ⟨5, 319, none⟩)]).run Tryz.prog w = .ok (.int .u8 22) w := by kernel_rfl
theorem paNoted (a : Addr) (w : World) : (ReflectliteValue.parts (.agg #[.pointer (some ⟨5, 317, none⟩), .pointer (some a), .int .u64 150])).run Tryz.prog w = .ok (some (317, a, 150)) w := by kernel_rfl
theorem nnNoted (a q : Addr) (W : World) (ha : W.cell? a = some (.pointer (some q))) :
    (ReflectliteValue.method (ReflectliteValue.valueError "reflectlite.Value.IsNil" 0) ReflectliteValue.isNil #[.agg #[.pointer (some ⟨5, 317, none⟩), .pointer (some a), .int .u64 150]]).run Tryz.prog W = .ok (.bool false) W := by
  rw [rlm]
  simp only [Sem.run_bind, paNoted, Result.andThen]
  simp [ReflectliteValue.isNil, loadVar, isAgg, underlying, Tryz.underlying317, ha, Result.andThen]
theorem elNoted (w : World) : (ReflectliteType.method ReflectliteType.elem #[.agg #[.pointer (some ⟨5, 317, none⟩)]]).run Tryz.prog w = .ok (.iface 256 (.agg #[.pointer (some ⟨5, 319, none⟩)])) w := by kernel_rfl
theorem toNoted (v : Value) (w : World) : (ReflectliteType.typeOf #[.iface 319 v]).run Tryz.prog w = .ok (.iface 256 (.agg #[.pointer (some ⟨5, 319, none⟩)])) w := by kernel_rfl

theorem wantsCoded : ∃ want, Tryz.prog.underlying 124 = some (.interface want) ∧ (Tryz.prog.info? 127).map (fun i => (lacking want i.methods).isEmpty) = some false := ⟨_, Tryz.underlying124, by kernel_rfl⟩
theorem nasCoded' (w : World) : (ReflectliteType.relation "AssignableTo" ReflectliteType.assignableTo #[.agg #[.pointer (some ⟨5, 127, none⟩)], .iface 256 (.agg #[.pointer (some ⟨5, 124, none⟩)])]).run Tryz.prog w
    = .ok (.bool (Instr.missingMethod (match Tryz.prog.underlying 124 with | some (.interface want) => want | _ => #[]) (match Tryz.prog.info? 127 with | some i => i.methods | none => #[])).isNone) w := by kernel_rfl
theorem nasCoded (w : World) : (ReflectliteType.relation "AssignableTo" ReflectliteType.assignableTo #[.agg #[.pointer (some ⟨5, 127, none⟩)], .iface 256 (.agg #[.pointer (some ⟨5, 124, none⟩)])]).run Tryz.prog w = .ok (.bool false) w := by
  obtain ⟨want, hw, hl⟩ := wantsCoded
  obtain ⟨i, hi, hl⟩ := Option.map_eq_some_iff.1 hl
  rw [nasCoded', hw, hi]
  obtain ⟨m, hm⟩ := missingMethod_some (want := want) (got := i.methods) (fun e => by rw [e] at hl; cases hl)
  simp only [hm]
  rfl
theorem wantsLocated : ∃ want, Tryz.prog.underlying 158 = some (.interface want) ∧ (Tryz.prog.info? 127).map (fun i => (lacking want i.methods).isEmpty) = some false := ⟨_, Tryz.underlying158, by kernel_rfl⟩
theorem nasLocated' (w : World) : (ReflectliteType.relation "AssignableTo" ReflectliteType.assignableTo #[.agg #[.pointer (some ⟨5, 127, none⟩)], .iface 256 (.agg #[.pointer (some ⟨5, 158, none⟩)])]).run Tryz.prog w
    = .ok (.bool (Instr.missingMethod (match Tryz.prog.underlying 158 with | some (.interface want) => want | _ => #[]) (match Tryz.prog.info? 127 with | some i => i.methods | none => #[])).isNone) w := by kernel_rfl
theorem nasLocated (w : World) : (ReflectliteType.relation "AssignableTo" ReflectliteType.assignableTo #[.agg #[.pointer (some ⟨5, 127, none⟩)], .iface 256 (.agg #[.pointer (some ⟨5, 158, none⟩)])]).run Tryz.prog w = .ok (.bool false) w := by
  obtain ⟨want, hw, hl⟩ := wantsLocated
  obtain ⟨i, hi, hl⟩ := Option.map_eq_some_iff.1 hl
  rw [nasLocated', hw, hi]
  obtain ⟨m, hm⟩ := missingMethod_some (want := want) (got := i.methods) (fun e => by rw [e] at hl; cases hl)
  simp only [hm]
  rfl
theorem wantsRaised : ∃ want, Tryz.prog.underlying 162 = some (.interface want) ∧ (Tryz.prog.info? 127).map (fun i => (lacking want i.methods).isEmpty) = some false := ⟨_, Tryz.underlying162, by kernel_rfl⟩
theorem nasRaised' (w : World) : (ReflectliteType.relation "AssignableTo" ReflectliteType.assignableTo #[.agg #[.pointer (some ⟨5, 127, none⟩)], .iface 256 (.agg #[.pointer (some ⟨5, 162, none⟩)])]).run Tryz.prog w
    = .ok (.bool (Instr.missingMethod (match Tryz.prog.underlying 162 with | some (.interface want) => want | _ => #[]) (match Tryz.prog.info? 127 with | some i => i.methods | none => #[])).isNone) w := by kernel_rfl
theorem nasRaised (w : World) : (ReflectliteType.relation "AssignableTo" ReflectliteType.assignableTo #[.agg #[.pointer (some ⟨5, 127, none⟩)], .iface 256 (.agg #[.pointer (some ⟨5, 162, none⟩)])]).run Tryz.prog w = .ok (.bool false) w := by
  obtain ⟨want, hw, hl⟩ := wantsRaised
  obtain ⟨i, hi, hl⟩ := Option.map_eq_some_iff.1 hl
  rw [nasRaised', hw, hi]
  obtain ⟨m, hm⟩ := missingMethod_some (want := want) (got := i.methods) (fun e => by rw [e] at hl; cases hl)
  simp only [hm]
  rfl
theorem wantsLacking : ∃ want, Tryz.prog.underlying 165 = some (.interface want) ∧ (Tryz.prog.info? 127).map (fun i => (lacking want i.methods).isEmpty) = some false := ⟨_, Tryz.underlying165, by kernel_rfl⟩
theorem nasLacking' (w : World) : (ReflectliteType.relation "AssignableTo" ReflectliteType.assignableTo #[.agg #[.pointer (some ⟨5, 127, none⟩)], .iface 256 (.agg #[.pointer (some ⟨5, 165, none⟩)])]).run Tryz.prog w
    = .ok (.bool (Instr.missingMethod (match Tryz.prog.underlying 165 with | some (.interface want) => want | _ => #[]) (match Tryz.prog.info? 127 with | some i => i.methods | none => #[])).isNone) w := by kernel_rfl
theorem nasLacking (w : World) : (ReflectliteType.relation "AssignableTo" ReflectliteType.assignableTo #[.agg #[.pointer (some ⟨5, 127, none⟩)], .iface 256 (.agg #[.pointer (some ⟨5, 165, none⟩)])]).run Tryz.prog w = .ok (.bool false) w := by
  obtain ⟨want, hw, hl⟩ := wantsLacking
  obtain ⟨i, hi, hl⟩ := Option.map_eq_some_iff.1 hl
  rw [nasLacking', hw, hi]
  obtain ⟨m, hm⟩ := missingMethod_some (want := want) (got := i.methods) (fun e => by rw [e] at hl; cases hl)
  simp only [hm]
  rfl
theorem nasNoted (w : World) : (ReflectliteType.relation "AssignableTo" ReflectliteType.assignableTo #[.agg #[.pointer (some ⟨5, 127, none⟩)], .iface 256 (.agg #[.pointer (some ⟨5, 319, none⟩)])]).run Tryz.prog w = .ok (.bool false) w := by kernel_rfl
theorem imNoted (w : World) : (ReflectliteType.relation "Implements" ReflectliteType.implements_ #[.agg #[.pointer (some ⟨5, 319, none⟩)], .iface 256 (.agg #[.pointer (some ⟨5, 41, none⟩)])]).run Tryz.prog w = .ok (.bool true) w := by kernel_rfl
theorem toH (v : Value) (w : World) : (ReflectliteType.typeOf #[.iface 127 v]).run Tryz.prog w = .ok (.iface 256 (.agg #[.pointer (some ⟨5, 127, none⟩)])) w := by kernel_rfl

end Go.Proofs.YtaodkfchmaendaaGreatDoor.Er
/-
  How many errors a chain has at hand.
-/
namespace Go.Proofs.YtaodkfchmaendaaGreatDoor.Er
open Go.RowKit
/-- How many errors a chain has at hand. -/
def leftOf : Value → Nat
  | .iface _ (.agg cs) => (intOf (cs.getD 1 (.int .i64 0))).toNat
  | _ => 0
theorem leftOf_mk (t : TypeId) (e : Value) (n : Int) : leftOf (.iface t (.agg #[e, .int .i64 n])) = n.toNat := rfl

end Go.Proofs.YtaodkfchmaendaaGreatDoor.Er
/-
  errors.As along a chain, at each of the five targets: the first error along Unwrap that has the ability is laid at the target and the answer is true; where none has it among those at hand, the answer is false and nothing has turned.
-/
namespace Go.Proofs.YtaodkfchmaendaaGreatDoor.Er
open Go.RowKit Go.Extern.Stop Go.Stop Go.Extern
attribute [local go_sem] isNCoded isNLocated isNRaised isNLacking isNUnw isNAsI isNUnws isNNoted isCCoded isCLocated isCRaised isCLacking isCUnw isCAsI isCUnws isCNoted isLCoded isLLocated isLRaised isLLacking isLUnw isLAsI isLUnws isLNoted isKCoded isKLocated isKRaised isKLacking isKUnw isKAsI isKUnws isKNoted isHCoded isHLocated isHRaised isHLacking isHUnw isHAsI isHUnws isHNoted toCodedCoded toCodedLocated toCodedRaised toCodedLacking toCodedNoted toLocatedCoded toLocatedLocated toLocatedRaised toLocatedLacking toLocatedNoted toRaisedCoded toRaisedLocated toRaisedRaised toRaisedLacking toRaisedNoted toLackingCoded toLackingLocated toLackingRaised toLackingLacking toLackingNoted toNotedCoded toNotedLocated toNotedRaised toNotedLacking toNotedNoted mNUnwrap mNError mCCode mCError mLCode mLWhere mLError mKCode mKWhere mKLacks mKError mHAs mHUnwrap

attribute [local go_sem] rmKind rmElem rmImplements rmAssignableTo xValueOf xVType xIsNil xKind xElem xImplements xTypeOf xAssignableTo voCoded voLocated voRaised voLacking voNoted tyCoded tyLocated tyRaised tyLacking tyNoted kpCoded kpLocated kpRaised kpLacking kpNoted keCoded keLocated keRaised keLacking keNoted elCoded elLocated elRaised elLacking elNoted nasCoded nasLocated nasRaised nasLacking nasNoted imNoted toH

set_option maxRecDepth 100000 in
set_option maxHeartbeats 2000000 in
theorem as_Coded_hit (t : TypeId) (x : Value) (es : Nat → Value) (left k : Nat) (hk : k < left) (hleft : left ≤ 1024) (tb : Nat) (old : Value) (ad : Addr) (w : World) (hb : w.heap[tb]? = some (.cells #[old] 124))
    (hi : ∀ i, i < k → ∃ t v, es (i + 1) = .iface t v) (hno : ∀ i, i < k → ∃ v, Asks 124 (es i) v false) (hu : ∀ i, i < k → Unwraps w (es i) (es (i + 1))) (hy : Asks 124 (es k) (.iface t x) true) :
    Calls Tryz.prog 98 #[.iface 127 (.agg #[es 0, .int .i64 left]), .iface 129 (.pointer (some ⟨tb, 0, none⟩)), .agg #[.pointer (some ⟨5, 129, none⟩), .pointer (some ad), .int .u64 150], .iface 256 (.agg #[.pointer (some ⟨5, 124, none⟩)])] w fun r w' => r = .returned (.bool true) ∧ Apart tb w w' ∧ w'.heap[tb]? = some (.cells #[(.iface t x)] 124) := by
  have HI : Hid (∀ i, i < k → ∃ t v, es (i + 1) = .iface t v) := hi
  have HN : Hid (∀ i, i < k → ∃ v, Asks 124 (es i) v false) := hno
  have HU : Hid (∀ i, i < k → Unwraps w (es i) (es (i + 1))) := hu
  have HY : Hid (Asks 124 (es k) (.iface t x) true) := hy
  have HB : Hid (w.heap[tb]? = some (.cells #[old] 124)) := hb
  clear hi hno hu hy hb
  go_enter Tryz.func98, Tryz.ntmps98
  go_wp2
  go_loopw [0] (fun v wr => ∃ i : Nat, i ≤ k ∧ v = .iface 127 (.agg #[es i, .int .i64 ((left : Int) - i)]) ∧ Ext w wr) (fun v _ => leftOf v)
  case atStart => exact ⟨0, Nat.zero_le _, by simp, Ext.alloc _ _⟩
  case round =>
    obtain ⟨i, hik, rfl, hx⟩ := hrel
    have HX : Hid (Ext w wr) := hx
    clear hx
    rcases Nat.lt_or_eq_of_le hik with hlt | heq
    · obtain ⟨v0, hq⟩ := HN.out i hlt
      obtain ⟨t1, v1, he⟩ := HI.out i hlt
      have hun := (HU.out i hlt)
      rw [he] at hun
      have HUN : Hid (Unwraps w (es i) (.iface t1 v1)) := hun
      have HQ : Hid (Asks 124 (es i) v0 false) := hq
      have HE : Hid (es (i + 1) = .iface t1 v1) := he
      clear hun hq he
      go_wp2_with (first
        | (go_at_call 164; refine (chainAs_Coded_no _ _ v0 _ _ HQ.out).mono ?_; rintro r w1 ⟨rfl, hx1⟩)
        | (go_at_call 165; refine (chain_unwrap_some _ t1 v1 _ _ (by omega) (by omega) (HUN.out.later (HX.out.trans hx1))).mono ?_; rintro r w2 ⟨rfl, hx2⟩))
      have hrelw : ∃ i' : Nat, i' ≤ k ∧ Value.iface 127 (.agg #[.iface t1 v1, .int .i64 ((left : Int) - i - 1)]) = .iface 127 (.agg #[es i', .int .i64 ((left : Int) - i')]) ∧ Ext w w2 :=
        ⟨i + 1, hlt, by rw [HE.out, show ((left : Int) - i - 1) = (left : Int) - ((i + 1 : Nat) : Int) from by omega], (HX.out.trans hx1).trans hx2⟩
      go_roundw
      case rel => first | exact hrelw | ((repeat apply Exists.intro); exact ⟨hrelw, rfl⟩)
      case measure => simp only [leftOf_mk]; omega
    · subst heq
      go_wp2_with (go_at_call 164; refine (chainAs_Coded_yes t x _ _ old tb _ HY.out (HX.out.block HB.out)).mono ?_; rintro r w1 ⟨rfl, ha, hv⟩)
      go_ret
      exact ⟨rfl, (HX.out.apart tb).trans ha, hv⟩

set_option maxRecDepth 100000 in
set_option maxHeartbeats 2000000 in
theorem as_Coded_miss (es : Nat → Value) (left m : Nat) (hm : 1 ≤ m) (hml : m ≤ left) (hleft : left ≤ 1024) (hend : m = left ∨ es m = .nilIface) (tb : Nat) (ad : Addr) (w : World)
    (hi : ∀ i, i + 1 < m → ∃ t v, es (i + 1) = .iface t v) (hno : ∀ i, i < m → ∃ v, Asks 124 (es i) v false) (hu : ∀ i, i + 1 ≤ m → i + 1 < left → Unwraps w (es i) (es (i + 1))) :
    Calls Tryz.prog 98 #[.iface 127 (.agg #[es 0, .int .i64 left]), .iface 129 (.pointer (some ⟨tb, 0, none⟩)), .agg #[.pointer (some ⟨5, 129, none⟩), .pointer (some ad), .int .u64 150], .iface 256 (.agg #[.pointer (some ⟨5, 124, none⟩)])] w fun r w' => r = .returned (.bool false) ∧ Ext w w' := by
  have HI : Hid (∀ i, i + 1 < m → ∃ t v, es (i + 1) = .iface t v) := hi
  have HN : Hid (∀ i, i < m → ∃ v, Asks 124 (es i) v false) := hno
  have HU : Hid (∀ i, i + 1 ≤ m → i + 1 < left → Unwraps w (es i) (es (i + 1))) := hu
  have HEND : Hid (m = left ∨ es m = .nilIface) := hend
  clear hi hno hu hend
  go_enter Tryz.func98, Tryz.ntmps98
  go_wp2
  go_loopw [0] (fun v wr => ∃ i : Nat, i < m ∧ v = .iface 127 (.agg #[es i, .int .i64 ((left : Int) - i)]) ∧ Ext w wr) (fun v _ => leftOf v)
  case atStart => exact ⟨0, hm, by simp, Ext.alloc _ _⟩
  case round =>
    obtain ⟨i, him, rfl, hx⟩ := hrel
    have HX : Hid (Ext w wr) := hx
    clear hx
    obtain ⟨v0, hq⟩ := HN.out i him
    have HQ : Hid (Asks 124 (es i) v0 false) := hq
    clear hq
    rcases Nat.lt_or_eq_of_le (Nat.succ_le_of_lt him) with hlt | heq
    · obtain ⟨t1, v1, he⟩ := HI.out i hlt
      have hun := (HU.out i (by omega) (by omega))
      rw [he] at hun
      have HUN : Hid (Unwraps w (es i) (.iface t1 v1)) := hun
      have HE : Hid (es (i + 1) = .iface t1 v1) := he
      clear hun he
      go_wp2_with (first
        | (go_at_call 164; refine (chainAs_Coded_no _ _ v0 _ _ HQ.out).mono ?_; rintro r w1 ⟨rfl, hx1⟩)
        | (go_at_call 165; refine (chain_unwrap_some _ t1 v1 _ _ (by omega) (by omega) (HUN.out.later (HX.out.trans hx1))).mono ?_; rintro r w2 ⟨rfl, hx2⟩))
      have hrelw : ∃ i' : Nat, i' < m ∧ Value.iface 127 (.agg #[.iface t1 v1, .int .i64 ((left : Int) - i - 1)]) = .iface 127 (.agg #[es i', .int .i64 ((left : Int) - i')]) ∧ Ext w w2 :=
        ⟨i + 1, hlt, by rw [HE.out, show ((left : Int) - i - 1) = (left : Int) - ((i + 1 : Nat) : Int) from by omega], (HX.out.trans hx1).trans hx2⟩
      go_roundw
      case rel => first | exact hrelw | ((repeat apply Exists.intro); exact ⟨hrelw, rfl⟩)
      case measure => simp only [leftOf_mk]; omega
    · have HQM : Hid (i + 1 = m) := heq
      rcases Nat.lt_or_eq_of_le hml with hless | hfull
      · have hn : es (i + 1) = .nilIface := by
          rcases HEND.out with h | h
          · omega
          · have e : i + 1 = m := HQM.out
            rw [e]; exact h
        have hun := HU.out i (by omega) (by omega)
        rw [hn] at hun
        have HUN : Hid (Unwraps w (es i) .nilIface) := hun
        have hl1 : (1 : Int) < (left : Int) - i := by omega
        have hl2 : (left : Int) - i ≤ 1024 := by omega
        clear hun hn heq
        go_wp2_with (first
          | (go_at_call 164; refine (chainAs_Coded_no _ _ v0 _ _ HQ.out).mono ?_; rintro r w1 ⟨rfl, hx1⟩)
          | (go_at_call 165; refine (chain_unwrap_nil _ _ _ hl1 hl2 (HUN.out.later (HX.out.trans hx1))).mono ?_; rintro r w2 ⟨rfl, hx2⟩))
        go_ret
        exact ⟨rfl, (HX.out.trans hx1).trans hx2⟩
      · have hl1 : (left : Int) - i ≤ 1 := by omega
        clear heq hfull
        go_wp2_with (first
          | (go_at_call 164; refine (chainAs_Coded_no _ _ v0 _ _ HQ.out).mono ?_; rintro r w1 ⟨rfl, hx1⟩)
          | (go_at_call 165; refine (chain_unwrap_end _ _ _ hl1).mono ?_; rintro r w2 ⟨rfl, hx2⟩))
        go_ret
        exact ⟨rfl, (HX.out.trans hx1).trans hx2⟩

set_option maxRecDepth 100000 in
set_option maxHeartbeats 2000000 in
theorem As_Coded_hit (t : TypeId) (x : Value) (es : Nat → Value) (left k : Nat) (hk : k < left) (hleft : left ≤ 1024) (tb : Nat) (old : Value) (w : World) (hb : w.heap[tb]? = some (.cells #[old] 124))
    (hi : ∀ i, i < k → ∃ t v, es (i + 1) = .iface t v) (hno : ∀ i, i < k → ∃ v, Asks 124 (es i) v false) (hu : ∀ i, i < k → Unwraps w (es i) (es (i + 1))) (hy : Asks 124 (es k) (.iface t x) true) :
    Calls Tryz.prog 59 #[.iface 127 (.agg #[es 0, .int .i64 left]), .iface 129 (.pointer (some ⟨tb, 0, none⟩))] w fun r w' => r = .returned (.bool true) ∧ Apart tb w w' ∧ w'.heap[tb]? = some (.cells #[(.iface t x)] 124) := by
  have n8 := nnCoded ⟨w.heap.size, 0, none⟩ ⟨tb, 0, none⟩ ((w.alloc (.cells #[.pointer (some ⟨tb, 0, none⟩)] 129)).alloc (.cells #[.pointer (some ⟨5, 129, none⟩), .pointer (some ⟨w.heap.size, 0, none⟩), .int .u64 150] 198)) (cell_of (blkOld _ (blk0 _ _)) rfl)
  have HC := as_Coded_hit t x es left k hk hleft tb old ⟨w.heap.size, 0, none⟩ ((w.alloc (.cells #[.pointer (some ⟨tb, 0, none⟩)] 129)).alloc (.cells #[.pointer (some ⟨5, 129, none⟩), .pointer (some ⟨w.heap.size, 0, none⟩), .int .u64 150] 198)) (blkOld _ (blkOld _ hb)) hi hno (fun i h => (hu i h).later (Ext.alloc2 _ _ _)) hy
  have HC' := Calls.mono (R' := fun r w' => r = .returned (.bool true) ∧ Apart tb w w' ∧ w'.heap[tb]? = some (.cells #[(.iface t x)] 124)) HC (fun r w' h => ⟨h.1, ((Ext.alloc2 w _ _).apart tb).trans h.2.1, h.2.2⟩)
  clear HC hb hi hno hu hy
  have HD : Hid (Calls Tryz.prog 98 #[.iface 127 (.agg #[es 0, .int .i64 left]), .iface 129 (.pointer (some ⟨tb, 0, none⟩)), .agg #[.pointer (some ⟨5, 129, none⟩), .pointer (some ⟨w.heap.size, 0, none⟩), .int .u64 150], .iface 256 (.agg #[.pointer (some ⟨5, 124, none⟩)])] ((w.alloc (.cells #[.pointer (some ⟨tb, 0, none⟩)] 129)).alloc (.cells #[.pointer (some ⟨5, 129, none⟩), .pointer (some ⟨w.heap.size, 0, none⟩), .int .u64 150] 198)) fun r w' => r = .returned (.bool true) ∧ Apart tb w w' ∧ w'.heap[tb]? = some (.cells #[(.iface t x)] 124)) := HC'
  clear HC'
  go_enter Tryz.func59, Tryz.ntmps59
  go_wp2_with (go_at_call 98; refine HD.out.mono ?_; rintro r w1 ⟨rfl, hx1⟩)
  go_ret
  exact ⟨rfl, hx1⟩

set_option maxRecDepth 100000 in
set_option maxHeartbeats 2000000 in
theorem As_Coded_miss (es : Nat → Value) (left m : Nat) (hm : 1 ≤ m) (hml : m ≤ left) (hleft : left ≤ 1024) (hend : m = left ∨ es m = .nilIface) (tb : Nat) (w : World) 
    (hi : ∀ i, i + 1 < m → ∃ t v, es (i + 1) = .iface t v) (hno : ∀ i, i < m → ∃ v, Asks 124 (es i) v false) (hu : ∀ i, i + 1 ≤ m → i + 1 < left → Unwraps w (es i) (es (i + 1))) :
    Calls Tryz.prog 59 #[.iface 127 (.agg #[es 0, .int .i64 left]), .iface 129 (.pointer (some ⟨tb, 0, none⟩))] w fun r w' => r = .returned (.bool false) ∧ Ext w w' := by
  have n8 := nnCoded ⟨w.heap.size, 0, none⟩ ⟨tb, 0, none⟩ ((w.alloc (.cells #[.pointer (some ⟨tb, 0, none⟩)] 129)).alloc (.cells #[.pointer (some ⟨5, 129, none⟩), .pointer (some ⟨w.heap.size, 0, none⟩), .int .u64 150] 198)) (cell_of (blkOld _ (blk0 _ _)) rfl)
  have HC := as_Coded_miss es left m hm hml hleft hend tb ⟨w.heap.size, 0, none⟩ ((w.alloc (.cells #[.pointer (some ⟨tb, 0, none⟩)] 129)).alloc (.cells #[.pointer (some ⟨5, 129, none⟩), .pointer (some ⟨w.heap.size, 0, none⟩), .int .u64 150] 198)) hi hno (fun i h h' => (hu i h h').later (Ext.alloc2 _ _ _))
  have HC' := Calls.mono (R' := fun r w' => r = .returned (.bool false) ∧ Ext w w') HC (fun r w' h => ⟨h.1, (Ext.alloc2 w _ _).trans h.2⟩)
  clear HC hi hno hu hend
  have HD : Hid (Calls Tryz.prog 98 #[.iface 127 (.agg #[es 0, .int .i64 left]), .iface 129 (.pointer (some ⟨tb, 0, none⟩)), .agg #[.pointer (some ⟨5, 129, none⟩), .pointer (some ⟨w.heap.size, 0, none⟩), .int .u64 150], .iface 256 (.agg #[.pointer (some ⟨5, 124, none⟩)])] ((w.alloc (.cells #[.pointer (some ⟨tb, 0, none⟩)] 129)).alloc (.cells #[.pointer (some ⟨5, 129, none⟩), .pointer (some ⟨w.heap.size, 0, none⟩), .int .u64 150] 198)) fun r w' => r = .returned (.bool false) ∧ Ext w w') := HC'
  clear HC'
  go_enter Tryz.func59, Tryz.ntmps59
  go_wp2_with (go_at_call 98; refine HD.out.mono ?_; rintro r w1 ⟨rfl, hx1⟩)
  go_ret
  exact ⟨rfl, hx1⟩


end Go.Proofs.YtaodkfchmaendaaGreatDoor.Er
