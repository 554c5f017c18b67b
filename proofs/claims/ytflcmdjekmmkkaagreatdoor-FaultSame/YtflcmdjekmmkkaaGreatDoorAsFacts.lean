/-
  errors.As at the five targets of a chain: closed facts on the model's entries for internal/reflectlite, and the three entries that read or write memory.
-/
import Derived.Test.YtflcmdjekmmkkaaGreatDoorTake
namespace Go.Proofs.YtflcmdjekmmkkaaGreatDoor
open Go.RowKit Go.Extern.Stop Go.Stop Go.Extern

theorem rlm (z : Sem Value) (f : TypeId → Addr → Nat → Nat → Sem Value) (v : Value) :
    ReflectliteValue.method z f #[v] = (do match ← ReflectliteValue.parts v with | none => z | some (t, a, fl) => f t a fl (fl % 32)) := rfl
theorem rmKind (h : Value) (w : World) : (Go.method 322 145 (.agg #[h]) "Kind").run Tryz.prog w = .ok (77, h) w := by kernel_rfl
theorem rmElem (h : Value) (w : World) : (Go.method 322 145 (.agg #[h]) "Elem").run Tryz.prog w = .ok (128, .agg #[h]) w := by kernel_rfl
theorem rmImplements (h : Value) (w : World) : (Go.method 322 145 (.agg #[h]) "Implements").run Tryz.prog w = .ok (129, .agg #[h]) w := by kernel_rfl
theorem rmAssignableTo (h : Value) (w : World) : (Go.method 322 145 (.agg #[h]) "AssignableTo").run Tryz.prog w = .ok (126, .agg #[h]) w := by kernel_rfl
theorem xValueOf (args : Array Value) (w : World) : (callFunc 40 args).run Tryz.prog w = (((fun args => ReflectliteValue.unpack (args.getD 0 (.tuple #[]))) args).run Tryz.prog w).andThen fun v w => .ok (.value v) w := @run_callFunc_extern Tryz.prog 40 _ (fun args => ReflectliteValue.unpack (args.getD 0 (.tuple #[]))) Tryz.func40 (by kernel_rfl) (by kernel_rfl) (by kernel_rfl) (by kernel_rfl) args w
theorem xVType (args : Array Value) (w : World) : (callFunc 41 args).run Tryz.prog w = (((ReflectliteValue.methodAny (ReflectliteValue.valueError "reflectlite.Value.Type" 0) (fun t _ _ _ => ReflectliteType.toType t)) args).run Tryz.prog w).andThen fun v w => .ok (.value v) w := @run_callFunc_extern Tryz.prog 41 _ (ReflectliteValue.methodAny (ReflectliteValue.valueError "reflectlite.Value.Type" 0) (fun t _ _ _ => ReflectliteType.toType t)) Tryz.func41 (by kernel_rfl) (by kernel_rfl) (by kernel_rfl) (by kernel_rfl) args w
theorem xIsNil (args : Array Value) (w : World) : (callFunc 42 args).run Tryz.prog w = (((ReflectliteValue.method (ReflectliteValue.valueError "reflectlite.Value.IsNil" 0) ReflectliteValue.isNil) args).run Tryz.prog w).andThen fun v w => .ok (.value v) w := @run_callFunc_extern Tryz.prog 42 _ (ReflectliteValue.method (ReflectliteValue.valueError "reflectlite.Value.IsNil" 0) ReflectliteValue.isNil) Tryz.func42 (by kernel_rfl) (by kernel_rfl) (by kernel_rfl) (by kernel_rfl) args w
theorem xKind (args : Array Value) (w : World) : (callFunc 77 args).run Tryz.prog w = (((ReflectliteType.abiMethod fun t => do pure (.int .u8 (← Rtype.kind t))) args).run Tryz.prog w).andThen fun v w => .ok (.value v) w := @run_callFunc_extern Tryz.prog 77 _ (ReflectliteType.abiMethod fun t => do pure (.int .u8 (← Rtype.kind t))) Tryz.func77 (by kernel_rfl) (by kernel_rfl) (by kernel_rfl) (by kernel_rfl) args w
theorem xElem (args : Array Value) (w : World) : (callFunc 128 args).run Tryz.prog w = (((ReflectliteType.method ReflectliteType.elem) args).run Tryz.prog w).andThen fun v w => .ok (.value v) w := @run_callFunc_extern Tryz.prog 128 _ (ReflectliteType.method ReflectliteType.elem) Tryz.func128 (by kernel_rfl) (by kernel_rfl) (by kernel_rfl) (by kernel_rfl) args w
theorem xImplements (args : Array Value) (w : World) : (callFunc 129 args).run Tryz.prog w = (((ReflectliteType.relation "Implements" ReflectliteType.implements_) args).run Tryz.prog w).andThen fun v w => .ok (.value v) w := @run_callFunc_extern Tryz.prog 129 _ (ReflectliteType.relation "Implements" ReflectliteType.implements_) Tryz.func129 (by kernel_rfl) (by kernel_rfl) (by kernel_rfl) (by kernel_rfl) args w
theorem xTypeOf (args : Array Value) (w : World) : (callFunc 55 args).run Tryz.prog w = ((ReflectliteType.typeOf args).run Tryz.prog w).andThen fun v w => .ok (.value v) w := @run_callFunc_extern Tryz.prog 55 _ ReflectliteType.typeOf Tryz.func55 (by kernel_rfl) (by kernel_rfl) (by kernel_rfl) (by kernel_rfl) args w
theorem xAssignableTo (args : Array Value) (w : World) : (callFunc 126 args).run Tryz.prog w = (((ReflectliteType.relation "AssignableTo" ReflectliteType.assignableTo) args).run Tryz.prog w).andThen fun v w => .ok (.value v) w := @run_callFunc_extern Tryz.prog 126 _ (ReflectliteType.relation "AssignableTo" ReflectliteType.assignableTo) Tryz.func126 (by kernel_rfl) (by kernel_rfl) (by kernel_rfl) (by kernel_rfl) args w
theorem voCoded (t : Addr) (w : World) : (ReflectliteValue.unpack (.iface 97 (.pointer (some t)))).run Tryz.prog w = .ok (.agg #[.pointer (some ⟨4, 97, none⟩), .pointer (some ⟨w.heap.size, 0, none⟩), .int .u64 150]) (w.alloc (.cells #[.pointer (some t)] 97)) := by kernel_rfl
theorem tyCoded (a : Addr) (w : World) : (ReflectliteValue.methodAny (ReflectliteValue.valueError "reflectlite.Value.Type" 0) (fun t _ _ _ => ReflectliteType.toType t) #[.agg #[.pointer (some ⟨4, 97, none⟩), .pointer (some a), .int .u64 150]]).run Tryz.prog w = .ok (.iface 145 (.agg #[.pointer (some ⟨4, 97, none⟩)])) w := by kernel_rfl
theorem kpCoded (w : World) : ((ReflectliteType.abiMethod fun t => (fun a : Nat => Value.int IntKind.u8 (a : Int)) <$> Rtype.kind t) #[.pointer (some ⟨4, 97, none⟩)]).run Tryz.prog w = .ok (.int .u8 22) w := by kernel_rfl
theorem keCoded (w : World) : ((ReflectliteType.abiMethod fun t => (fun a : Nat => Value.int IntKind.u8 (a : Int)) <$> Rtype.kind t) #[.pointer (some ⟨4, 67, none⟩)]).run Tryz.prog w = .ok (.int .u8 20) w := by kernel_rfl
theorem paCoded (a : Addr) (w : World) : (ReflectliteValue.parts (.agg #[.pointer (some ⟨4, 97, none⟩), .pointer (some a), .int .u64 150])).run Tryz.prog w = .ok (some (97, a, 150)) w := by kernel_rfl
theorem nnCoded (a q : Addr) (W : World) (ha : W.cell? a = some (.pointer (some q))) :
    (ReflectliteValue.method (ReflectliteValue.valueError "reflectlite.Value.IsNil" 0) ReflectliteValue.isNil #[.agg #[.pointer (some ⟨4, 97, none⟩), .pointer (some a), .int .u64 150]]).run Tryz.prog W = .ok (.bool false) W := by
  rw [rlm]
  simp only [Sem.run_bind, paCoded, Result.andThen]
  simp [ReflectliteValue.isNil, loadVar, isAgg, underlying, Tryz.underlying97, ha, Result.andThen]
theorem elCoded (w : World) : (ReflectliteType.method ReflectliteType.elem #[.agg #[.pointer (some ⟨4, 97, none⟩)]]).run Tryz.prog w = .ok (.iface 145 (.agg #[.pointer (some ⟨4, 67, none⟩)])) w := by kernel_rfl
theorem toCoded (v : Value) (w : World) : (ReflectliteType.typeOf #[.iface 67 v]).run Tryz.prog w = .ok (.iface 145 (.agg #[.pointer (some ⟨4, 67, none⟩)])) w := by kernel_rfl

theorem voLocated (t : Addr) (w : World) : (ReflectliteValue.unpack (.iface 100 (.pointer (some t)))).run Tryz.prog w = .ok (.agg #[.pointer (some ⟨4, 100, none⟩), .pointer (some ⟨w.heap.size, 0, none⟩), .int .u64 150]) (w.alloc (.cells #[.pointer (some t)] 100)) := by kernel_rfl
theorem tyLocated (a : Addr) (w : World) : (ReflectliteValue.methodAny (ReflectliteValue.valueError "reflectlite.Value.Type" 0) (fun t _ _ _ => ReflectliteType.toType t) #[.agg #[.pointer (some ⟨4, 100, none⟩), .pointer (some a), .int .u64 150]]).run Tryz.prog w = .ok (.iface 145 (.agg #[.pointer (some ⟨4, 100, none⟩)])) w := by kernel_rfl
theorem kpLocated (w : World) : ((ReflectliteType.abiMethod fun t => (fun a : Nat => Value.int IntKind.u8 (a : Int)) <$> Rtype.kind t) #[.pointer (some ⟨4, 100, none⟩)]).run Tryz.prog w = .ok (.int .u8 22) w := by kernel_rfl
theorem keLocated (w : World) : ((ReflectliteType.abiMethod fun t => (fun a : Nat => Value.int IntKind.u8 (a : Int)) <$> Rtype.kind t) #[.pointer (some ⟨4, 77, none⟩)]).run Tryz.prog w = .ok (.int .u8 20) w := by kernel_rfl
theorem paLocated (a : Addr) (w : World) : (ReflectliteValue.parts (.agg #[.pointer (some ⟨4, 100, none⟩), .pointer (some a), .int .u64 150])).run Tryz.prog w = .ok (some (100, a, 150)) w := by kernel_rfl
theorem nnLocated (a q : Addr) (W : World) (ha : W.cell? a = some (.pointer (some q))) :
    (ReflectliteValue.method (ReflectliteValue.valueError "reflectlite.Value.IsNil" 0) ReflectliteValue.isNil #[.agg #[.pointer (some ⟨4, 100, none⟩), .pointer (some a), .int .u64 150]]).run Tryz.prog W = .ok (.bool false) W := by
  rw [rlm]
  simp only [Sem.run_bind, paLocated, Result.andThen]
  simp [ReflectliteValue.isNil, loadVar, isAgg, underlying, Tryz.underlying100, ha, Result.andThen]
theorem elLocated (w : World) : (ReflectliteType.method ReflectliteType.elem #[.agg #[.pointer (some ⟨4, 100, none⟩)]]).run Tryz.prog w = .ok (.iface 145 (.agg #[.pointer (some ⟨4, 77, none⟩)])) w := by kernel_rfl
theorem toLocated (v : Value) (w : World) : (ReflectliteType.typeOf #[.iface 77 v]).run Tryz.prog w = .ok (.iface 145 (.agg #[.pointer (some ⟨4, 77, none⟩)])) w := by kernel_rfl

theorem voRaised (t : Addr) (w : World) : (ReflectliteValue.unpack (.iface 56 (.pointer (some t)))).run Tryz.prog w = .ok (.agg #[.pointer (some ⟨4, 56, none⟩), .pointer (some ⟨w.heap.size, 0, none⟩), .int .u64 150]) (w.alloc (.cells #[.pointer (some t)] 56)) := by kernel_rfl
theorem tyRaised (a : Addr) (w : World) : (ReflectliteValue.methodAny (ReflectliteValue.valueError "reflectlite.Value.Type" 0) (fun t _ _ _ => ReflectliteType.toType t) #[.agg #[.pointer (some ⟨4, 56, none⟩), .pointer (some a), .int .u64 150]]).run Tryz.prog w = .ok (.iface 145 (.agg #[.pointer (some ⟨4, 56, none⟩)])) w := by kernel_rfl
theorem kpRaised (w : World) : ((ReflectliteType.abiMethod fun t => (fun a : Nat => Value.int IntKind.u8 (a : Int)) <$> Rtype.kind t) #[.pointer (some ⟨4, 56, none⟩)]).run Tryz.prog w = .ok (.int .u8 22) w := by kernel_rfl
theorem keRaised (w : World) : ((ReflectliteType.abiMethod fun t => (fun a : Nat => Value.int IntKind.u8 (a : Int)) <$> Rtype.kind t) #[.pointer (some ⟨4, 54, none⟩)]).run Tryz.prog w = .ok (.int .u8 20) w := by kernel_rfl
theorem paRaised (a : Addr) (w : World) : (ReflectliteValue.parts (.agg #[.pointer (some ⟨4, 56, none⟩), .pointer (some a), .int .u64 150])).run Tryz.prog w = .ok (some (56, a, 150)) w := by kernel_rfl
theorem nnRaised (a q : Addr) (W : World) (ha : W.cell? a = some (.pointer (some q))) :
    (ReflectliteValue.method (ReflectliteValue.valueError "reflectlite.Value.IsNil" 0) ReflectliteValue.isNil #[.agg #[.pointer (some ⟨4, 56, none⟩), .pointer (some a), .int .u64 150]]).run Tryz.prog W = .ok (.bool false) W := by
  rw [rlm]
  simp only [Sem.run_bind, paRaised, Result.andThen]
  simp [ReflectliteValue.isNil, loadVar, isAgg, underlying, Tryz.underlying56, ha, Result.andThen]
theorem elRaised (w : World) : (ReflectliteType.method ReflectliteType.elem #[.agg #[.pointer (some ⟨4, 56, none⟩)]]).run Tryz.prog w = .ok (.iface 145 (.agg #[.pointer (some ⟨4, 54, none⟩)])) w := by kernel_rfl
theorem toRaised (v : Value) (w : World) : (ReflectliteType.typeOf #[.iface 54 v]).run Tryz.prog w = .ok (.iface 145 (.agg #[.pointer (some ⟨4, 54, none⟩)])) w := by kernel_rfl

theorem voLacking (t : Addr) (w : World) : (ReflectliteValue.unpack (.iface 159 (.pointer (some t)))).run Tryz.prog w = .ok (.agg #[.pointer (some ⟨4, 159, none⟩), .pointer (some ⟨w.heap.size, 0, none⟩), .int .u64 150]) (w.alloc (.cells #[.pointer (some t)] 159)) := by kernel_rfl
theorem tyLacking (a : Addr) (w : World) : (ReflectliteValue.methodAny (ReflectliteValue.valueError "reflectlite.Value.Type" 0) (fun t _ _ _ => ReflectliteType.toType t) #[.agg #[.pointer (some ⟨4, 159, none⟩), .pointer (some a), .int .u64 150]]).run Tryz.prog w = .ok (.iface 145 (.agg #[.pointer (some ⟨4, 159, none⟩)])) w := by kernel_rfl
theorem kpLacking (w : World) : ((ReflectliteType.abiMethod fun t => (fun a : Nat => Value.int IntKind.u8 (a : Int)) <$> Rtype.kind t) #[.pointer (some ⟨4, 159, none⟩)]).run Tryz.prog w = .ok (.int .u8 22) w := by kernel_rfl
theorem keLacking (w : World) : ((ReflectliteType.abiMethod fun t => (fun a : Nat => Value.int IntKind.u8 (a : Int)) <$> Rtype.kind t) #[.pointer (some ⟨4, 81, none⟩)]).run Tryz.prog w = .ok (.int .u8 20) w := by kernel_rfl
theorem paLacking (a : Addr) (w : World) : (ReflectliteValue.parts (.agg #[.pointer (some ⟨4, 159, none⟩), .pointer (some a), .int .u64 150])).run Tryz.prog w = .ok (some (159, a, 150)) w := by kernel_rfl
theorem nnLacking (a q : Addr) (W : World) (ha : W.cell? a = some (.pointer (some q))) :
    (ReflectliteValue.method (ReflectliteValue.valueError "reflectlite.Value.IsNil" 0) ReflectliteValue.isNil #[.agg #[.pointer (some ⟨4, 159, none⟩), .pointer (some a), .int .u64 150]]).run Tryz.prog W = .ok (.bool false) W := by
  rw [rlm]
  simp only [Sem.run_bind, paLacking, Result.andThen]
  simp [ReflectliteValue.isNil, loadVar, isAgg, underlying, Tryz.underlying159, ha, Result.andThen]
theorem elLacking (w : World) : (ReflectliteType.method ReflectliteType.elem #[.agg #[.pointer (some ⟨4, 159, none⟩)]]).run Tryz.prog w = .ok (.iface 145 (.agg #[.pointer (some ⟨4, 81, none⟩)])) w := by kernel_rfl
theorem toLacking (v : Value) (w : World) : (ReflectliteType.typeOf #[.iface 81 v]).run Tryz.prog w = .ok (.iface 145 (.agg #[.pointer (some ⟨4, 81, none⟩)])) w := by kernel_rfl

theorem voNoted (t : Addr) (w : World) : (ReflectliteValue.unpack (.iface 95 (.pointer (some t)))).run Tryz.prog w = .ok (.agg #[.pointer (some ⟨4, 95, none⟩), .pointer (some ⟨w.heap.size, 0, none⟩), .int .u64 150]) (w.alloc (.cells #[.pointer (some t)] 95)) := by kernel_rfl
theorem tyNoted (a : Addr) (w : World) : (ReflectliteValue.methodAny (ReflectliteValue.valueError "reflectlite.Value.Type" 0) (fun t _ _ _ => ReflectliteType.toType t) #[.agg #[.pointer (some ⟨4, 95, none⟩), .pointer (some a), .int .u64 150]]).run Tryz.prog w = .ok (.iface 145 (.agg #[.pointer (some ⟨4, 95, none⟩)])) w := by kernel_rfl
theorem kpNoted (w : World) : ((ReflectliteType.abiMethod fun t => (fun a : Nat => Value.int IntKind.u8 (a : Int)) <$> Rtype.kind t) #[.pointer (some ⟨4, 95, none⟩)]).run Tryz.prog w = .ok (.int .u8 22) w := by kernel_rfl
theorem keNoted (w : World) : ((ReflectliteType.abiMethod fun t => (fun a : Nat => Value.int IntKind.u8 (a : Int)) <$> Rtype.kind t) #[.pointer (some ⟨4, 87, none⟩)]).run Tryz.prog w = .ok (.int .u8 22) w := by kernel_rfl
theorem paNoted (a : Addr) (w : World) : (ReflectliteValue.parts (.agg #[.pointer (some ⟨4, 95, none⟩), .pointer (some a), .int .u64 150])).run Tryz.prog w = .ok (some (95, a, 150)) w := by kernel_rfl
theorem nnNoted (a q : Addr) (W : World) (ha : W.cell? a = some (.pointer (some q))) :
    (ReflectliteValue.method (ReflectliteValue.valueError "reflectlite.Value.IsNil" 0) ReflectliteValue.isNil #[.agg #[.pointer (some ⟨4, 95, none⟩), .pointer (some a), .int .u64 150]]).run Tryz.prog W = .ok (.bool false) W := by
  rw [rlm]
  simp only [Sem.run_bind, paNoted, Result.andThen]
  simp [ReflectliteValue.isNil, loadVar, isAgg, underlying, Tryz.underlying95, ha, Result.andThen]
theorem elNoted (w : World) : (ReflectliteType.method ReflectliteType.elem #[.agg #[.pointer (some ⟨4, 95, none⟩)]]).run Tryz.prog w = .ok (.iface 145 (.agg #[.pointer (some ⟨4, 87, none⟩)])) w := by kernel_rfl
theorem toNoted (v : Value) (w : World) : (ReflectliteType.typeOf #[.iface 87 v]).run Tryz.prog w = .ok (.iface 145 (.agg #[.pointer (some ⟨4, 87, none⟩)])) w := by kernel_rfl

theorem wantsCoded : ∃ want, Tryz.prog.underlying 67 = some (.interface want) ∧ (Tryz.prog.info? 94).map (fun i => (lacking want i.methods).isEmpty) = some false := ⟨_, Tryz.underlying67, by kernel_rfl⟩
theorem nasCoded' (w : World) : (ReflectliteType.relation "AssignableTo" ReflectliteType.assignableTo #[.agg #[.pointer (some ⟨4, 94, none⟩)], .iface 145 (.agg #[.pointer (some ⟨4, 67, none⟩)])]).run Tryz.prog w
    = .ok (.bool (Instr.missingMethod (match Tryz.prog.underlying 67 with | some (.interface want) => want | _ => #[]) (match Tryz.prog.info? 94 with | some i => i.methods | none => #[])).isNone) w := by kernel_rfl
theorem nasCoded (w : World) : (ReflectliteType.relation "AssignableTo" ReflectliteType.assignableTo #[.agg #[.pointer (some ⟨4, 94, none⟩)], .iface 145 (.agg #[.pointer (some ⟨4, 67, none⟩)])]).run Tryz.prog w = .ok (.bool false) w := by
  obtain ⟨want, hw, hl⟩ := wantsCoded
  obtain ⟨i, hi, hl⟩ := Option.map_eq_some_iff.1 hl
  rw [nasCoded', hw, hi]
  obtain ⟨m, hm⟩ := missingMethod_some (want := want) (got := i.methods) (fun e => by rw [e] at hl; cases hl)
  simp only [hm]
  rfl
theorem wantsLocated : ∃ want, Tryz.prog.underlying 77 = some (.interface want) ∧ (Tryz.prog.info? 94).map (fun i => (lacking want i.methods).isEmpty) = some false := ⟨_, Tryz.underlying77, by kernel_rfl⟩
theorem nasLocated' (w : World) : (ReflectliteType.relation "AssignableTo" ReflectliteType.assignableTo #[.agg #[.pointer (some ⟨4, 94, none⟩)], .iface 145 (.agg #[.pointer (some ⟨4, 77, none⟩)])]).run Tryz.prog w
    = .ok (.bool (Instr.missingMethod (match Tryz.prog.underlying 77 with | some (.interface want) => want | _ => #[]) (match Tryz.prog.info? 94 with | some i => i.methods | none => #[])).isNone) w := by kernel_rfl
theorem nasLocated (w : World) : (ReflectliteType.relation "AssignableTo" ReflectliteType.assignableTo #[.agg #[.pointer (some ⟨4, 94, none⟩)], .iface 145 (.agg #[.pointer (some ⟨4, 77, none⟩)])]).run Tryz.prog w = .ok (.bool false) w := by
  obtain ⟨want, hw, hl⟩ := wantsLocated
  obtain ⟨i, hi, hl⟩ := Option.map_eq_some_iff.1 hl
  rw [nasLocated', hw, hi]
  obtain ⟨m, hm⟩ := missingMethod_some (want := want) (got := i.methods) (fun e => by rw [e] at hl; cases hl)
  simp only [hm]
  rfl
theorem wantsRaised : ∃ want, Tryz.prog.underlying 54 = some (.interface want) ∧ (Tryz.prog.info? 94).map (fun i => (lacking want i.methods).isEmpty) = some false := ⟨_, Tryz.underlying54, by kernel_rfl⟩
theorem nasRaised' (w : World) : (ReflectliteType.relation "AssignableTo" ReflectliteType.assignableTo #[.agg #[.pointer (some ⟨4, 94, none⟩)], .iface 145 (.agg #[.pointer (some ⟨4, 54, none⟩)])]).run Tryz.prog w
    = .ok (.bool (Instr.missingMethod (match Tryz.prog.underlying 54 with | some (.interface want) => want | _ => #[]) (match Tryz.prog.info? 94 with | some i => i.methods | none => #[])).isNone) w := by kernel_rfl
theorem nasRaised (w : World) : (ReflectliteType.relation "AssignableTo" ReflectliteType.assignableTo #[.agg #[.pointer (some ⟨4, 94, none⟩)], .iface 145 (.agg #[.pointer (some ⟨4, 54, none⟩)])]).run Tryz.prog w = .ok (.bool false) w := by
  obtain ⟨want, hw, hl⟩ := wantsRaised
  obtain ⟨i, hi, hl⟩ := Option.map_eq_some_iff.1 hl
  rw [nasRaised', hw, hi]
  obtain ⟨m, hm⟩ := missingMethod_some (want := want) (got := i.methods) (fun e => by rw [e] at hl; cases hl)
  simp only [hm]
  rfl
theorem wantsLacking : ∃ want, Tryz.prog.underlying 81 = some (.interface want) ∧ (Tryz.prog.info? 94).map (fun i => (lacking want i.methods).isEmpty) = some false := ⟨_, Tryz.underlying81, by kernel_rfl⟩
theorem nasLacking' (w : World) : (ReflectliteType.relation "AssignableTo" ReflectliteType.assignableTo #[.agg #[.pointer (some ⟨4, 94, none⟩)], .iface 145 (.agg #[.pointer (some ⟨4, 81, none⟩)])]).run Tryz.prog w
    = .ok (.bool (Instr.missingMethod (match Tryz.prog.underlying 81 with | some (.interface want) => want | _ => #[]) (match Tryz.prog.info? 94 with | some i => i.methods | none => #[])).isNone) w := by kernel_rfl
theorem nasLacking (w : World) : (ReflectliteType.relation "AssignableTo" ReflectliteType.assignableTo #[.agg #[.pointer (some ⟨4, 94, none⟩)], .iface 145 (.agg #[.pointer (some ⟨4, 81, none⟩)])]).run Tryz.prog w = .ok (.bool false) w := by
  obtain ⟨want, hw, hl⟩ := wantsLacking
  obtain ⟨i, hi, hl⟩ := Option.map_eq_some_iff.1 hl
  rw [nasLacking', hw, hi]
  obtain ⟨m, hm⟩ := missingMethod_some (want := want) (got := i.methods) (fun e => by rw [e] at hl; cases hl)
  simp only [hm]
  rfl
theorem nasNoted (w : World) : (ReflectliteType.relation "AssignableTo" ReflectliteType.assignableTo #[.agg #[.pointer (some ⟨4, 94, none⟩)], .iface 145 (.agg #[.pointer (some ⟨4, 87, none⟩)])]).run Tryz.prog w = .ok (.bool false) w := by kernel_rfl
theorem imNoted (w : World) : (ReflectliteType.relation "Implements" ReflectliteType.implements_ #[.agg #[.pointer (some ⟨4, 87, none⟩)], .iface 145 (.agg #[.pointer (some ⟨4, 25, none⟩)])]).run Tryz.prog w = .ok (.bool true) w := by kernel_rfl
theorem toH (v : Value) (w : World) : (ReflectliteType.typeOf #[.iface 94 v]).run Tryz.prog w = .ok (.iface 145 (.agg #[.pointer (some ⟨4, 94, none⟩)])) w := by kernel_rfl

end Go.Proofs.YtflcmdjekmmkkaaGreatDoor
