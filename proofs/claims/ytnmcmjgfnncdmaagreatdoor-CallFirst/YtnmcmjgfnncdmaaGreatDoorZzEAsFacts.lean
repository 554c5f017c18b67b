/-
  errors.As at the five targets of a chain: closed facts on the model's entries for internal/reflectlite, and the three entries that read or write memory.
-/
import Derived.Test.YtnmcmjgfnncdmaaGreatDoorZzETake
namespace Go.Proofs.YtnmcmjgfnncdmaaGreatDoor.Er
open Go.RowKit Go.Extern.Stop Go.Stop Go.Extern

theorem rlm (z : Sem Value) (f : TypeId → Addr → Nat → Nat → Sem Value) (v : Value) :
    ReflectliteValue.method z f #[v] = (do match ← ReflectliteValue.parts v with | none => z | some (t, a, fl) => f t a fl (fl % 32)) := rfl
theorem rmKind (h : Value) (w : World) : (Go.method 627 329 (.agg #[h]) "Kind").run Tryz.prog w = .ok (310, h) w := by kernel_rfl
theorem rmElem (h : Value) (w : World) : (Go.method 627 329 (.agg #[h]) "Elem").run Tryz.prog w = .ok (352, .agg #[h]) w := by kernel_rfl
theorem rmImplements (h : Value) (w : World) : (Go.method 627 329 (.agg #[h]) "Implements").run Tryz.prog w = .ok (353, .agg #[h]) w := by kernel_rfl
theorem rmAssignableTo (h : Value) (w : World) : (Go.method 627 329 (.agg #[h]) "AssignableTo").run Tryz.prog w = .ok (350, .agg #[h]) w := by kernel_rfl
theorem xValueOf (args : Array Value) (w : World) : (callFunc 137 args).run Tryz.prog w = (((fun args => ReflectliteValue.unpack (args.getD 0 (.tuple #[]))) args).run Tryz.prog w).andThen fun v w => .ok (.value v) w := @run_callFunc_extern Tryz.prog 137 _ (fun args => ReflectliteValue.unpack (args.getD 0 (.tuple #[]))) Tryz.func137 (by kernel_rfl) (by kernel_rfl) (by kernel_rfl) (by kernel_rfl) args w
theorem xVType (args : Array Value) (w : World) : (callFunc 138 args).run Tryz.prog w = (((ReflectliteValue.methodAny (ReflectliteValue.valueError "reflectlite.Value.Type" 0) (fun t _ _ _ => ReflectliteType.toType t)) args).run Tryz.prog w).andThen fun v w => .ok (.value v) w := @run_callFunc_extern Tryz.prog 138 _ (ReflectliteValue.methodAny (ReflectliteValue.valueError "reflectlite.Value.Type" 0) (fun t _ _ _ => ReflectliteType.toType t)) Tryz.func138 (by kernel_rfl) (by kernel_rfl) (by kernel_rfl) (by kernel_rfl) args w
theorem xIsNil (args : Array Value) (w : World) : (callFunc 139 args).run Tryz.prog w = (((ReflectliteValue.method (ReflectliteValue.valueError "reflectlite.Value.IsNil" 0) ReflectliteValue.isNil) args).run Tryz.prog w).andThen fun v w => .ok (.value v) w := @run_callFunc_extern Tryz.prog 139 _ (ReflectliteValue.method (ReflectliteValue.valueError "reflectlite.Value.IsNil" 0) ReflectliteValue.isNil) Tryz.func139 (by kernel_rfl) (by kernel_rfl) (by kernel_rfl) (by kernel_rfl) args w
theorem xKind (args : Array Value) (w : World) : (callFunc 310 args).run Tryz.prog w = (((ReflectliteType.abiMethod fun t => do pure (.int .u8 (← Rtype.kind t))) args).run Tryz.prog w).andThen fun v w => .ok (.value v) w := @run_callFunc_extern Tryz.prog 310 _ (ReflectliteType.abiMethod fun t => do pure (.int .u8 (← Rtype.kind t))) Tryz.func310 (by kernel_rfl) (by kernel_rfl) (by kernel_rfl) (by kernel_rfl) args w
theorem xElem (args : Array Value) (w : World) : (callFunc 352 args).run Tryz.prog w = (((ReflectliteType.method ReflectliteType.elem) args).run Tryz.prog w).andThen fun v w => .ok (.value v) w := @run_callFunc_extern Tryz.prog 352 _ (ReflectliteType.method ReflectliteType.elem) Tryz.func352 (by kernel_rfl) (by kernel_rfl) (by kernel_rfl) (by kernel_rfl) args w
theorem xImplements (args : Array Value) (w : World) : (callFunc 353 args).run Tryz.prog w = (((ReflectliteType.relation "Implements" ReflectliteType.implements_) args).run Tryz.prog w).andThen fun v w => .ok (.value v) w := @run_callFunc_extern Tryz.prog 353 _ (ReflectliteType.relation "Implements" ReflectliteType.implements_) Tryz.func353 (by kernel_rfl) (by kernel_rfl) (by kernel_rfl) (by kernel_rfl) args w
theorem xTypeOf (args : Array Value) (w : World) : (callFunc 201 args).run Tryz.prog w = ((ReflectliteType.typeOf args).run Tryz.prog w).andThen fun v w => .ok (.value v) w := @run_callFunc_extern Tryz.prog 201 _ ReflectliteType.typeOf Tryz.func201 (by kernel_rfl) (by kernel_rfl) (by kernel_rfl) (by kernel_rfl) args w
theorem xAssignableTo (args : Array Value) (w : World) : (callFunc 350 args).run Tryz.prog w = (((ReflectliteType.relation "AssignableTo" ReflectliteType.assignableTo) args).run Tryz.prog w).andThen fun v w => .ok (.value v) w := @run_callFunc_extern Tryz.prog 350 _ (ReflectliteType.relation "AssignableTo" ReflectliteType.assignableTo) Tryz.func350 (by kernel_rfl) (by kernel_rfl) (by kernel_rfl) (by kernel_rfl) args w
theorem voCoded (t : Addr) (w : World) : (ReflectliteValue.unpack (.iface 152 (.pointer (some t)))).run Tryz.prog w = .ok (.agg #[.pointer (some ⟨10, 152, none⟩), .pointer (some ⟨w.heap.size, 0, none⟩), .int .u64 150]) (w.alloc (.cells #[.pointer (some t)] 152)) := by kernel_rfl
theorem tyCoded (a : Addr) (w : World) : (ReflectliteValue.methodAny (ReflectliteValue.valueError "reflectlite.Value.Type" 0) (fun t _ _ _ => ReflectliteType.toType t) #[.agg #[.pointer (some ⟨10, 152, none⟩), .pointer (some a), .int .u64 150]]).run Tryz.prog w = .ok (.iface 329 (.agg #[.pointer (some ⟨10, 152, none⟩)])) w := by kernel_rfl
theorem kpCoded (w : World) : ((ReflectliteType.abiMethod fun t => (fun a : Nat => Value.int IntKind.u8 (a : Int)) <$> Rtype.kind t) #[.pointer (some ⟨10, 152, none⟩)]).run Tryz.prog w = .ok (.int .u8 22) w := by kernel_rfl
theorem keCoded (w : World) : ((ReflectliteType.abiMethod fun t => (fun a : Nat => Value.int IntKind.u8 (a : Int)) <$> Rtype.kind t) #[.pointer (some ⟨10, 147, none⟩)]).run Tryz.prog w = .ok (.int .u8 20) w := by kernel_rfl
theorem paCoded (a : Addr) (w : World) : (ReflectliteValue.parts (.agg #[.pointer (some ⟨10, 152, none⟩), .pointer (some a), .int .u64 150])).run Tryz.prog w = .ok (some (152, a, 150)) w := by kernel_rfl
theorem nnCoded (a q : Addr) (W : World) (ha : W.cell? a = some (.pointer (some q))) :
    (ReflectliteValue.method (ReflectliteValue.valueError "reflectlite.Value.IsNil" 0) ReflectliteValue.isNil #[.agg #[.pointer (some ⟨10, 152, none⟩), .pointer (some a), .int .u64 150]]).run Tryz.prog W = .ok (.bool false) W := by
  rw [rlm]
  simp only [Sem.run_bind, paCoded, Result.andThen]
  simp [ReflectliteValue.isNil, loadVar, isAgg, underlying, Tryz.underlying152, ha, Result.andThen]
theorem elCoded (w : World) : (ReflectliteType.method ReflectliteType.elem #[.agg #[.pointer (some ⟨10, 152, none⟩)]]).run Tryz.prog w = .ok (.iface 329 (.agg #[.pointer (some ⟨10, 147, none⟩)])) w := by kernel_rfl
theorem toCoded (v : Value) (w : World) : (ReflectliteType.typeOf #[.iface 147 v]).run Tryz.prog w = .ok (.iface 329 (.agg #[.pointer (some ⟨10, 147, none⟩)])) w := by kernel_rfl

theorem voLocated (t : Addr) (w : World) : (ReflectliteValue.unpack (.iface 477 (.pointer (some t)))).run Tryz.prog w = .ok (.agg #[.pointer (some ⟨10, 477, none⟩), .pointer (some ⟨w.heap.size, 0, none⟩), .int .u64 150]) (w.alloc (.cells #[.pointer (some t)] 477)) := by kernel_rfl
theorem tyLocated (a : Addr) (w : World) : (ReflectliteValue.methodAny (ReflectliteValue.valueError "reflectlite.Value.Type" 0) (fun t _ _ _ => ReflectliteType.toType t) #[.agg #[.pointer (some ⟨10, 477, none⟩), .pointer (some a), .int .u64 150]]).run Tryz.prog w = .ok (.iface 329 (.agg #[.pointer (some ⟨10, 477, none⟩)])) w := by kernel_rfl
theorem kpLocated (w : World) : ((ReflectliteType.abiMethod fun t => (fun a : Nat => Value.int IntKind.u8 (a : Int)) <$> Rtype.kind t) #[.pointer (some ⟨10, 477, none⟩)]).run Tryz.prog w = .ok (.int .u8 22) w := by kernel_rfl
theorem keLocated (w : World) : ((ReflectliteType.abiMethod fun t => (fun a : Nat => Value.int IntKind.u8 (a : Int)) <$> Rtype.kind t) #[.pointer (some ⟨10, 480, none⟩)]).run Tryz.prog w = .ok (.int .u8 20) w := by kernel_rfl
theorem paLocated (a : Addr) (w : World) : (ReflectliteValue.parts (.agg #[.pointer (some ⟨10, 477, none⟩), .pointer (some a), .int .u64 150])).run Tryz.prog w = .ok (some (477, a, 150)) w := by kernel_rfl
theorem nnLocated (a q : Addr) (W : World) (ha : W.cell? a = some (.pointer (some q))) :
    (ReflectliteValue.method (ReflectliteValue.valueError "reflectlite.Value.IsNil" 0) ReflectliteValue.isNil #[.agg #[.pointer (some ⟨10, 477, none⟩), .pointer (some a), .int .u64 150]]).run Tryz.prog W = .ok (.bool false) W := by
  rw [rlm]
  simp only [Sem.run_bind, paLocated, Result.andThen]
  simp [ReflectliteValue.isNil, loadVar, isAgg, underlying, Tryz.underlying477, ha, Result.andThen]
theorem elLocated (w : World) : (ReflectliteType.method ReflectliteType.elem #[.agg #[.pointer (some ⟨10, 477, none⟩)]]).run Tryz.prog w = .ok (.iface 329 (.agg #[.pointer (some ⟨10, 480, none⟩)])) w := by kernel_rfl
theorem toLocated (v : Value) (w : World) : (ReflectliteType.typeOf #[.iface 480 v]).run Tryz.prog w = .ok (.iface 329 (.agg #[.pointer (some ⟨10, 480, none⟩)])) w := by kernel_rfl

theorem voRaised (t : Addr) (w : World) : (ReflectliteValue.unpack (.iface 481 (.pointer (some t)))).run Tryz.prog w = .ok (.agg #[.pointer (some ⟨10, 481, none⟩), .pointer (some ⟨w.heap.size, 0, none⟩), .int .u64 150]) (w.alloc (.cells #[.pointer (some t)] 481)) := by kernel_rfl
theorem tyRaised (a : Addr) (w : World) : (ReflectliteValue.methodAny (ReflectliteValue.valueError "reflectlite.Value.Type" 0) (fun t _ _ _ => ReflectliteType.toType t) #[.agg #[.pointer (some ⟨10, 481, none⟩), .pointer (some a), .int .u64 150]]).run Tryz.prog w = .ok (.iface 329 (.agg #[.pointer (some ⟨10, 481, none⟩)])) w := by kernel_rfl
theorem kpRaised (w : World) : ((ReflectliteType.abiMethod fun t => (fun a : Nat => Value.int IntKind.u8 (a : Int)) <$> Rtype.kind t) #[.pointer (some ⟨10, 481, none⟩)]).run Tryz.prog w = .ok (.int .u8 22) w := by kernel_rfl
theorem keRaised (w : World) : ((ReflectliteType.abiMethod fun t => (fun a : Nat => Value.int IntKind.u8 (a : Int)) <$> Rtype.kind t) #[.pointer (some ⟨10, 484, none⟩)]).run Tryz.prog w = .ok (.int .u8 20) w := by kernel_rfl
theorem paRaised (a : Addr) (w : World) : (ReflectliteValue.parts (.agg #[.pointer (some ⟨10, 481, none⟩), .pointer (some a), .int .u64 150])).run Tryz.prog w = .ok (some (481, a, 150)) w := by kernel_rfl
theorem nnRaised (a q : Addr) (W : World) (ha : W.cell? a = some (.pointer (some q))) :
    (ReflectliteValue.method (ReflectliteValue.valueError "reflectlite.Value.IsNil" 0) ReflectliteValue.isNil #[.agg #[.pointer (some ⟨10, 481, none⟩), .pointer (some a), .int .u64 150]]).run Tryz.prog W = .ok (.bool false) W := by
  rw [rlm]
  simp only [Sem.run_bind, paRaised, Result.andThen]
  simp [ReflectliteValue.isNil, loadVar, isAgg, underlying, Tryz.underlying481, ha, Result.andThen]
theorem elRaised (w : World) : (ReflectliteType.method ReflectliteType.elem #[.agg #[.pointer (some ⟨10, 481, none⟩)]]).run Tryz.prog w = .ok (.iface 329 (.agg #[.pointer (some ⟨10, 484, none⟩)])) w := by kernel_rfl
theorem toRaised (v : Value) (w : World) : (ReflectliteType.typeOf #[.iface 484 v]).run Tryz.prog w = .ok (.iface 329 (.agg #[.pointer (some ⟨10, 484, none⟩)])) w := by kernel_rfl

theorem voLacking (t : Addr) (w : World) : (ReflectliteValue.unpack (.iface 485 (.pointer (some t)))).run Tryz.prog w = .ok (.agg #[.pointer (some ⟨10, 485, none⟩), .pointer (some ⟨w.heap.size, 0, none⟩), .int .u64 150]) (w.alloc (.cells #[.pointer (some t)] 485)) := by kernel_rfl
theorem tyLacking (a : Addr) (w : World) : (ReflectliteValue.methodAny (ReflectliteValue.valueError "reflectlite.Value.Type" 0) (fun t _ _ _ => ReflectliteType.toType t) #[.agg #[.pointer (some ⟨10, 485, none⟩), .pointer (some a), .int .u64 150]]).run Tryz.prog w = .ok (.iface 329 (.agg #[.pointer (some ⟨10, 485, none⟩)])) w := by kernel_rfl
theorem kpLacking (w : World) : ((ReflectliteType.abiMethod fun t => (fun a : Nat => Value.int IntKind.u8 (a : Int)) <$> Rtype.kind t) #[.pointer (some ⟨10, 485, none⟩)]).run Tryz.prog w = .ok (.int .u8 22) w := by kernel_rfl
theorem keLacking (w : World) : ((ReflectliteType.abiMethod fun t => (fun a : Nat => Value.int IntKind.u8 (a : Int)) <$> Rtype.kind t) #[.pointer (some ⟨10, 488, none⟩)]).run Tryz.prog w = .ok (.int .u8 20) w := by kernel_rfl
theorem paLacking (a : Addr) (w : World) : (ReflectliteValue.parts (.agg #[.pointer (some ⟨10, 485, none⟩), .pointer (some a), .int .u64 150])).run Tryz.prog w = .ok (some (485, a, 150)) w := by kernel_rfl
theorem nnLacking (a q : Addr) (W : World) (ha : W.cell? a = some (.pointer (some q))) :
    (ReflectliteValue.method (ReflectliteValue.valueError "reflectlite.Value.IsNil" 0) ReflectliteValue.isNil #[.agg #[.pointer (some ⟨10, 485, none⟩), .pointer (some a), .int .u64 150]]).run Tryz.prog W = .ok (.bool false) W := by
  rw [rlm]
  simp only [Sem.run_bind, paLacking, Result.andThen]
  simp [ReflectliteValue.isNil, loadVar, isAgg, underlying, Tryz.underlying485, ha, Result.andThen]
theorem elLacking (w : World) : (ReflectliteType.method ReflectliteType.elem #[.agg #[.pointer (some ⟨10, 485, none⟩)]]).run Tryz.prog w = .ok (.iface 329 (.agg #[.pointer (some ⟨10, 488, none⟩)])) w := by kernel_rfl
theorem toLacking (v : Value) (w : World) : (ReflectliteType.typeOf #[.iface 488 v]).run Tryz.prog w = .ok (.iface 329 (.agg #[.pointer (some ⟨10, 488, none⟩)])) w := by kernel_rfl

theorem voNoted (t : Addr) (w : World) : (ReflectliteValue.unpack (.iface 489 (.pointer (some t)))).run Tryz.prog w = .ok (.agg #[.pointer (some ⟨10, 489, none⟩), .pointer (some ⟨w.heap.size, 0, none⟩), .int .u64 150]) (w.alloc (.cells #[.pointer (some t)] 489)) := by kernel_rfl
theorem tyNoted (a : Addr) (w : World) : (ReflectliteValue.methodAny (ReflectliteValue.valueError "reflectlite.Value.Type" 0) (fun t _ _ _ => ReflectliteType.toType t) #[.agg #[.pointer (some ⟨10, 489, none⟩), .pointer (some a), .int .u64 150]]).run Tryz.prog w = .ok (.iface 329 (.agg #[.pointer (some ⟨10, 489, none⟩)])) w := by kernel_rfl
theorem kpNoted (w : World) : ((ReflectliteType.abiMethod fun t => (fun a : Nat => Value.int IntKind.u8 (a : Int)) <$> Rtype.kind t) #[.pointer (some ⟨10, 489, none⟩)]).run Tryz.prog w = .ok (.int .u8 22) w := by kernel_rfl
theorem keNoted (w : World) : ((ReflectliteType.abiMethod fun t => (fun a : Nat => Value.int IntKind.u8 (a : Int)) <$> Rtype.kind t) #[.pointer (some ⟨10, 491, none⟩)]).run Tryz.prog w = .ok (.int .u8 22) w := by kernel_rfl
theorem paNoted (a : Addr) (w : World) : (ReflectliteValue.parts (.agg #[.pointer (some ⟨10, 489, none⟩), .pointer (some a), .int .u64 150])).run Tryz.prog w = .ok (some (489, a, 150)) w := by kernel_rfl
theorem nnNoted (a q : Addr) (W : World) (ha : W.cell? a = some (.pointer (some q))) :
    (ReflectliteValue.method (ReflectliteValue.valueError "reflectlite.Value.IsNil" 0) ReflectliteValue.isNil #[.agg #[.pointer (some ⟨10, 489, none⟩), .pointer (some a), .int .u64 150]]).run Tryz.prog W = .ok (.bool false) W := by
  rw [rlm]
  simp only [Sem.run_bind, paNoted, Result.andThen]
  simp [ReflectliteValue.isNil, loadVar, isAgg, underlying, Tryz.underlying489, ha, Result.andThen]
theorem elNoted (w : World) : (ReflectliteType.method ReflectliteType.elem #[.agg #[.pointer (some ⟨10, 489, none⟩)]]).run Tryz.prog w = .ok (.iface 329 (.agg #[.pointer (some ⟨10, 491, none⟩)])) w := by kernel_rfl
theorem toNoted (v : Value) (w : World) : (ReflectliteType.typeOf #[.iface 491 v]).run Tryz.prog w = .ok (.iface 329 (.agg #[.pointer (some ⟨10, 491, none⟩)])) w := by kernel_rfl

theorem wantsCoded : ∃ want, Tryz.prog.underlying 147 = some (.interface want) ∧ (Tryz.prog.info? 150).map (fun i => (lacking want i.methods).isEmpty) = some false := ⟨_, Tryz.underlying147, by kernel_rfl⟩
theorem nasCoded' (w : World) : (ReflectliteType.relation "AssignableTo" ReflectliteType.assignableTo #[.agg #[.pointer (some ⟨10, 150, none⟩)], .iface 329 (.agg #[.pointer (some ⟨10, 147, none⟩)])]).run Tryz.prog w
    = .ok (.bool (Instr.missingMethod (match Tryz.prog.underlying 147 with | some (.interface want) => want | _ => #[]) (match Tryz.prog.info? 150 with | some i => i.methods | none => #[])).isNone) w := by kernel_rfl
theorem nasCoded (w : World) : (ReflectliteType.relation "AssignableTo" ReflectliteType.assignableTo #[.agg #[.pointer (some ⟨10, 150, none⟩)], .iface 329 (.agg #[.pointer (some ⟨10, 147, none⟩)])]).run Tryz.prog w = .ok (.bool false) w := by
  obtain ⟨want, hw, hl⟩ := wantsCoded
  obtain ⟨i, hi, hl⟩ := Option.map_eq_some_iff.1 hl
  rw [nasCoded', hw, hi]
  obtain ⟨m, hm⟩ := missingMethod_some (want := want) (got := i.methods) (fun e => by rw [e] at hl; cases hl)
  simp only [hm]
  rfl
theorem wantsLocated : ∃ want, Tryz.prog.underlying 480 = some (.interface want) ∧ (Tryz.prog.info? 150).map (fun i => (lacking want i.methods).isEmpty) = some false := ⟨_, Tryz.underlying480, by kernel_rfl⟩
theorem nasLocated' (w : World) : (ReflectliteType.relation "AssignableTo" ReflectliteType.assignableTo #[.agg #[.pointer (some ⟨10, 150, none⟩)], .iface 329 (.agg #[.pointer (some ⟨10, 480, none⟩)])]).run Tryz.prog w
    = .ok (.bool (Instr.missingMethod (match Tryz.prog.underlying 480 with | some (.interface want) => want | _ => #[]) (match Tryz.prog.info? 150 with | some i => i.methods | none => #[])).isNone) w := by kernel_rfl
theorem nasLocated (w : World) : (ReflectliteType.relation "AssignableTo" ReflectliteType.assignableTo #[.agg #[.pointer (some ⟨10, 150, none⟩)], .iface 329 (.agg #[.pointer (some ⟨10, 480, none⟩)])]).run Tryz.prog w = .ok (.bool false) w := by
  obtain ⟨want, hw, hl⟩ := wantsLocated
  obtain ⟨i, hi, hl⟩ := Option.map_eq_some_iff.1 hl
  rw [nasLocated', hw, hi]
  obtain ⟨m, hm⟩ := missingMethod_some (want := want) (got := i.methods) (fun e => by rw [e] at hl; cases hl)
  simp only [hm]
  rfl
theorem wantsRaised : ∃ want, Tryz.prog.underlying 484 = some (.interface want) ∧ (Tryz.prog.info? 150).map (fun i => (lacking want i.methods).isEmpty) = some false := ⟨_, Tryz.underlying484, by kernel_rfl⟩
theorem nasRaised' (w : World) : (ReflectliteType.relation "AssignableTo" ReflectliteType.assignableTo #[.agg #[.pointer (some ⟨10, 150, none⟩)], .iface 329 (.agg #[.pointer (some ⟨10, 484, none⟩)])]).run Tryz.prog w
    = .ok (.bool (Instr.missingMethod (match Tryz.prog.underlying 484 with | some (.interface want) => want | _ => #[]) (match Tryz.prog.info? 150 with | some i => i.methods | none => #[])).isNone) w := by kernel_rfl
theorem nasRaised (w : World) : (ReflectliteType.relation "AssignableTo" ReflectliteType.assignableTo #[.agg #[.pointer (some ⟨10, 150, none⟩)], .iface 329 (.agg #[.pointer (some ⟨10, 484, none⟩)])]).run Tryz.prog w = .ok (.bool false) w := by
  obtain ⟨want, hw, hl⟩ := wantsRaised
  obtain ⟨i, hi, hl⟩ := Option.map_eq_some_iff.1 hl
  rw [nasRaised', hw, hi]
  obtain ⟨m, hm⟩ := missingMethod_some (want := want) (got := i.methods) (fun e => by rw [e] at hl; cases hl)
  simp only [hm]
  rfl
theorem wantsLacking : ∃ want, Tryz.prog.underlying 488 = some (.interface want) ∧ (Tryz.prog.info? 150).map (fun i => (lacking want i.methods).isEmpty) = some false := ⟨_, Tryz.underlying488, by kernel_rfl⟩
theorem nasLacking' (w : World) : (ReflectliteType.relation "AssignableTo" ReflectliteType.assignableTo #[.agg #[.pointer (some ⟨10, 150, none⟩)], .iface 329 (.agg #[.pointer (some ⟨10, 488, none⟩)])]).run Tryz.prog w
    = .ok (.bool (Instr.missingMethod (match Tryz.prog.underlying 488 with | some (.interface want) => want | _ => #[]) (match Tryz.prog.info? 150 with | some i => i.methods | none => #[])).isNone) w := by kernel_rfl
theorem nasLacking (w : World) : (ReflectliteType.relation "AssignableTo" ReflectliteType.assignableTo #[.agg #[.pointer (some ⟨10, 150, none⟩)], .iface 329 (.agg #[.pointer (some ⟨10, 488, none⟩)])]).run Tryz.prog w = .ok (.bool false) w := by
  obtain ⟨want, hw, hl⟩ := wantsLacking
  obtain ⟨i, hi, hl⟩ := Option.map_eq_some_iff.1 hl
  rw [nasLacking', hw, hi]
  obtain ⟨m, hm⟩ := missingMethod_some (want := want) (got := i.methods) (fun e => by rw [e] at hl; cases hl)
  simp only [hm]
  rfl
theorem nasNoted (w : World) : (ReflectliteType.relation "AssignableTo" ReflectliteType.assignableTo #[.agg #[.pointer (some ⟨10, 150, none⟩)], .iface 329 (.agg #[.pointer (some ⟨10, 491, none⟩)])]).run Tryz.prog w = .ok (.bool false) w := by kernel_rfl
theorem imNoted (w : World) : (ReflectliteType.relation "Implements" ReflectliteType.implements_ #[.agg #[.pointer (some ⟨10, 491, none⟩)], .iface 329 (.agg #[.pointer (some ⟨10, 72, none⟩)])]).run Tryz.prog w = .ok (.bool true) w := by kernel_rfl
theorem toH (v : Value) (w : World) : (ReflectliteType.typeOf #[.iface 150 v]).run Tryz.prog w = .ok (.iface 329 (.agg #[.pointer (some ⟨10, 150, none⟩)])) w := by kernel_rfl

end Go.Proofs.YtnmcmjgfnncdmaaGreatDoor.Er
