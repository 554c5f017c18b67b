/-
  The abilities' claims: each returns where the node's type has the ability, and panics where it lacks it.
-/
import Derived.Test.YthablchefckclaaDoorBase
import Derived.Stop.Asserts
namespace Go.Proofs.YthablchefckclaaDoor
open Go.RowKit Go.Stop
section
variable {P : Program} {w : World} {t xT asserted e : TypeId} {v : Value} {want : Array (String × TypeId)} {i : TypeInfo}
theorem run_claim_has (hu : P.underlying asserted = some (.interface want)) (h : (P.info? t).map (fun i => (lacking want i.methods).isEmpty) = some true) (v : Value) (xT : TypeId) (w : World) :
    (Instr.typeAssert (.iface t v) xT asserted false).run P w = .ok (.iface t v) w := by
  obtain ⟨i, hi, hl⟩ := Option.map_eq_some_iff.1 h
  simp [Instr.typeAssert, run_underlying hu, typeInfo, hi, missingMethod_none (List.isEmpty_iff.1 hl)]
theorem run_claim_lacks (hu : P.underlying asserted = some (.interface want)) (h : (P.info? t).map (fun i => (lacking want i.methods).isEmpty) = some false) (he : P.underlying P.rt.typeAssertionError = some (.pointer e)) (v : Value) (xT : TypeId) (w : World) :
    ∃ o, (Instr.typeAssert (.iface t v) xT asserted false).run P w = .halt (.panic (.iface P.rt.typeAssertionError (.pointer (some ⟨w.heap.size, 0, none⟩)))) (w.alloc o) := by
  obtain ⟨i, hi, hl⟩ := Option.map_eq_some_iff.1 h
  obtain ⟨m, hm⟩ := missingMethod_some (want := want) (got := i.methods) (fun e => by rw [e] at hl; cases hl)
  refine ⟨.cells (Value.agg #[.pointer none, typeHandle P t, typeHandle P asserted, strVal m]).cells e, ?_⟩
  simp [Instr.typeAssert, run_underlying hu, typeInfo, hi, hm, runtimePanic, elemOf, run_underlying he, go_sem, newVar, goPanic, newRow, newObj]
  rfl
end
/-- What a claim comes to: it returns, or it panics with a value of its own. -/
def ClaimR (b : Bool) (w : World) (e : Ending) (w' : World) : Prop := (b = true ∧ e = .returned (.tuple #[]) ∧ w' = w) ∨ (b = false ∧ (∃ t v, e = .panicked [{ v := .iface t v, recovered := false }]) ∧ Ext w w')
theorem teErr : ∃ e, Tryd.prog.underlying Tryd.prog.rt.typeAssertionError = some (.pointer e) := ⟨203, by kernel_rfl⟩
theorem claim_literal_0 (v : Value) (w : World) : Calls Tryd.prog 55 #[.iface 75 v] w (ClaimR true w) := by
  have h := run_claim_has (P := Tryd.prog) (t := 75) Tryd.underlying45 (by kernel_rfl) v 48 w
  go_enter Tryd.func55, Tryd.ntmps55
  go_wp2_with fail
  go_end0
  exact .inl ⟨rfl, rfl, rfl⟩
theorem claim_literal_1 (v : Value) (w : World) : Calls Tryd.prog 56 #[.iface 75 v] w (ClaimR false w) := by
  obtain ⟨e, he⟩ := teErr
  obtain ⟨o, h⟩ := run_claim_lacks (P := Tryd.prog) (t := 75) Tryd.underlying51 (by kernel_rfl) he v 48 w
  clear he
  go_enter Tryd.func56, Tryd.ntmps56
  go_wp2_with fail
  exact ⟨rfl, Or.inr ⟨rfl, ⟨_, _, rfl⟩, Ext.alloc _ _⟩⟩
theorem claim_literal_2 (v : Value) (w : World) : Calls Tryd.prog 57 #[.iface 75 v] w (ClaimR false w) := by
  obtain ⟨e, he⟩ := teErr
  obtain ⟨o, h⟩ := run_claim_lacks (P := Tryd.prog) (t := 75) Tryd.underlying160 (by kernel_rfl) he v 48 w
  clear he
  go_enter Tryd.func57, Tryd.ntmps57
  go_wp2_with fail
  exact ⟨rfl, Or.inr ⟨rfl, ⟨_, _, rfl⟩, Ext.alloc _ _⟩⟩
theorem claim_literal_3 (v : Value) (w : World) : Calls Tryd.prog 58 #[.iface 75 v] w (ClaimR false w) := by
  obtain ⟨e, he⟩ := teErr
  obtain ⟨o, h⟩ := run_claim_lacks (P := Tryd.prog) (t := 75) Tryd.underlying162 (by kernel_rfl) he v 48 w
  clear he
  go_enter Tryd.func58, Tryd.ntmps58
  go_wp2_with fail
  exact ⟨rfl, Or.inr ⟨rfl, ⟨_, _, rfl⟩, Ext.alloc _ _⟩⟩
theorem claim_literal_4 (v : Value) (w : World) : Calls Tryd.prog 59 #[.iface 75 v] w (ClaimR false w) := by
  obtain ⟨e, he⟩ := teErr
  obtain ⟨o, h⟩ := run_claim_lacks (P := Tryd.prog) (t := 75) Tryd.underlying164 (by kernel_rfl) he v 48 w
  clear he
  go_enter Tryd.func59, Tryd.ntmps59
  go_wp2_with fail
  exact ⟨rfl, Or.inr ⟨rfl, ⟨_, _, rfl⟩, Ext.alloc _ _⟩⟩
theorem claim_literal_5 (v : Value) (w : World) : Calls Tryd.prog 60 #[.iface 75 v] w (ClaimR false w) := by
  obtain ⟨e, he⟩ := teErr
  obtain ⟨o, h⟩ := run_claim_lacks (P := Tryd.prog) (t := 75) Tryd.underlying166 (by kernel_rfl) he v 48 w
  clear he
  go_enter Tryd.func60, Tryd.ntmps60
  go_wp2_with fail
  exact ⟨rfl, Or.inr ⟨rfl, ⟨_, _, rfl⟩, Ext.alloc _ _⟩⟩
theorem claim_literal_6 (v : Value) (w : World) : Calls Tryd.prog 61 #[.iface 75 v] w (ClaimR true w) := by
  have h := run_claim_has (P := Tryd.prog) (t := 75) Tryd.underlying168 (by kernel_rfl) v 48 w
  go_enter Tryd.func61, Tryd.ntmps61
  go_wp2_with fail
  go_end0
  exact .inl ⟨rfl, rfl, rfl⟩
theorem claim_literal_7 (v : Value) (w : World) : Calls Tryd.prog 62 #[.iface 75 v] w (ClaimR true w) := by
  have h := run_claim_has (P := Tryd.prog) (t := 75) Tryd.underlying170 (by kernel_rfl) v 48 w
  go_enter Tryd.func62, Tryd.ntmps62
  go_wp2_with fail
  go_end0
  exact .inl ⟨rfl, rfl, rfl⟩
theorem claim_literal_8 (v : Value) (w : World) : Calls Tryd.prog 63 #[.iface 75 v] w (ClaimR true w) := by
  have h := run_claim_has (P := Tryd.prog) (t := 75) Tryd.underlying172 (by kernel_rfl) v 48 w
  go_enter Tryd.func63, Tryd.ntmps63
  go_wp2_with fail
  go_end0
  exact .inl ⟨rfl, rfl, rfl⟩
theorem claim_literal_9 (v : Value) (w : World) : Calls Tryd.prog 64 #[.iface 75 v] w (ClaimR false w) := by
  obtain ⟨e, he⟩ := teErr
  obtain ⟨o, h⟩ := run_claim_lacks (P := Tryd.prog) (t := 75) Tryd.underlying174 (by kernel_rfl) he v 48 w
  clear he
  go_enter Tryd.func64, Tryd.ntmps64
  go_wp2_with fail
  exact ⟨rfl, Or.inr ⟨rfl, ⟨_, _, rfl⟩, Ext.alloc _ _⟩⟩
theorem claim_literal_10 (v : Value) (w : World) : Calls Tryd.prog 65 #[.iface 75 v] w (ClaimR false w) := by
  obtain ⟨e, he⟩ := teErr
  obtain ⟨o, h⟩ := run_claim_lacks (P := Tryd.prog) (t := 75) Tryd.underlying176 (by kernel_rfl) he v 48 w
  clear he
  go_enter Tryd.func65, Tryd.ntmps65
  go_wp2_with fail
  exact ⟨rfl, Or.inr ⟨rfl, ⟨_, _, rfl⟩, Ext.alloc _ _⟩⟩
theorem claim_literal_11 (v : Value) (w : World) : Calls Tryd.prog 66 #[.iface 75 v] w (ClaimR false w) := by
  obtain ⟨e, he⟩ := teErr
  obtain ⟨o, h⟩ := run_claim_lacks (P := Tryd.prog) (t := 75) Tryd.underlying148 (by kernel_rfl) he v 48 w
  clear he
  go_enter Tryd.func66, Tryd.ntmps66
  go_wp2_with fail
  exact ⟨rfl, Or.inr ⟨rfl, ⟨_, _, rfl⟩, Ext.alloc _ _⟩⟩
theorem claim_literal_12 (v : Value) (w : World) : Calls Tryd.prog 67 #[.iface 75 v] w (ClaimR false w) := by
  obtain ⟨e, he⟩ := teErr
  obtain ⟨o, h⟩ := run_claim_lacks (P := Tryd.prog) (t := 75) Tryd.underlying146 (by kernel_rfl) he v 48 w
  clear he
  go_enter Tryd.func67, Tryd.ntmps67
  go_wp2_with fail
  exact ⟨rfl, Or.inr ⟨rfl, ⟨_, _, rfl⟩, Ext.alloc _ _⟩⟩
theorem claim_literal_13 (v : Value) (w : World) : Calls Tryd.prog 68 #[.iface 75 v] w (ClaimR false w) := by
  obtain ⟨e, he⟩ := teErr
  obtain ⟨o, h⟩ := run_claim_lacks (P := Tryd.prog) (t := 75) Tryd.underlying178 (by kernel_rfl) he v 48 w
  clear he
  go_enter Tryd.func68, Tryd.ntmps68
  go_wp2_with fail
  exact ⟨rfl, Or.inr ⟨rfl, ⟨_, _, rfl⟩, Ext.alloc _ _⟩⟩

end Go.Proofs.YthablchefckclaaDoor
