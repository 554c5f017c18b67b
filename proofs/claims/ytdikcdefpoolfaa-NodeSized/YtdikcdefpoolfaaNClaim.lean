/-
  The abilities' claims: each returns where the node's type has the ability, and panics where it lacks it.
-/
import Derived.Test.YtdikcdefpoolfaaBase
import Derived.Stop.Asserts
namespace Go.Proofs.Ytdikcdefpoolfaa
open Go.RowKit Go.Stop
section
variable {P : Program} {w : World} {t xT asserted e : TypeId} {v : Value} {want : Array (String × TypeId)} {i : TypeInfo}
theorem run_claim_has (hu : P.underlying asserted = some (.interface want)) (h : (P.info? t).map (fun i => (lacking want i.methods).isEmpty) = some true) (v : Value) (xT : TypeId) (w : World) :
    (Instr.typeAssert (.iface t v) xT asserted false).run P w = .ok (.iface t v) w := by
  obtain ⟨i, hi, hl⟩ := Option.map_eq_some_iff.1 h
  simp [Instr.typeAssert, run_underlying hu, typeInfo, hi, missingMethod_none (List.isEmpty_iff.1 hl)]
theorem run_claim_lacks (hu : P.underlying asserted = some (.interface want)) (h : (P.info? t).map (fun i => (lacking want i.methods).isEmpty) = some false) (he : P.underlying P.rt.typeAssertionError = some (.pointer e)) (v : Value) (xT : TypeId) (w : World) :
    ∃ o, (Instr.typeAssert (.iface t v) xT asserted false).run P w = .halt (.panic (.iface P.rt.typeAssertionError (.pointer (some ⟨w.heap.size, 0, none⟩)))) (w.alloc o) := by
  obtain ⟨i, hi, hl⟩ := Option.map_eq_some_iff.1 h
  obtain ⟨m, hm⟩ := missingMethod_some (want := want) (got := i.methods) (fun e => by rw [e] at hl; cases hl)
  refine ⟨.cells (Value.agg #[.pointer none, typeHandle P t, typeHandle P asserted, strVal m]).cells e, ?_⟩
  simp [Instr.typeAssert, run_underlying hu, typeInfo, hi, hm, runtimePanic, elemOf, run_underlying he, go_sem, newVar, goPanic, newRow, newObj]
  rfl
end
/-- What a claim comes to: it returns, or it panics with a value of its own. -/
def ClaimR (b : Bool) (w : World) (e : Ending) (w' : World) : Prop := (b = true ∧ e = .returned (.tuple #[]) ∧ w' = w) ∨ (b = false ∧ (∃ t v, e = .panicked [{ v := .iface t v, recovered := false }]) ∧ Ext w w')
theorem teErr : ∃ e, Try.prog.underlying Try.prog.rt.typeAssertionError = some (.pointer e) := ⟨188, by kernel_rfl⟩
theorem claim_literal_0 (v : Value) (w : World) : Calls Try.prog 40 #[.iface 165 v] w (ClaimR true w) := by
  have h := run_claim_has (P := Try.prog) (t := 165) Try.underlying46 (by kernel_rfl) v 38 w
  go_enter Try.func40, Try.ntmps40
  go_wp2_with fail
  go_end0
  exact .inl ⟨rfl, rfl, rfl⟩
theorem claim_literal_1 (v : Value) (w : World) : Calls Try.prog 41 #[.iface 165 v] w (ClaimR false w) := by
  obtain ⟨e, he⟩ := teErr
  obtain ⟨o, h⟩ := run_claim_lacks (P := Try.prog) (t := 165) Try.underlying49 (by kernel_rfl) he v 38 w
  clear he
  go_enter Try.func41, Try.ntmps41
  go_wp2_with fail
  exact ⟨rfl, Or.inr ⟨rfl, ⟨_, _, rfl⟩, Ext.alloc _ _⟩⟩
theorem claim_literal_2 (v : Value) (w : World) : Calls Try.prog 42 #[.iface 165 v] w (ClaimR false w) := by
  obtain ⟨e, he⟩ := teErr
  obtain ⟨o, h⟩ := run_claim_lacks (P := Try.prog) (t := 165) Try.underlying148 (by kernel_rfl) he v 38 w
  clear he
  go_enter Try.func42, Try.ntmps42
  go_wp2_with fail
  exact ⟨rfl, Or.inr ⟨rfl, ⟨_, _, rfl⟩, Ext.alloc _ _⟩⟩
theorem claim_literal_3 (v : Value) (w : World) : Calls Try.prog 43 #[.iface 165 v] w (ClaimR false w) := by
  obtain ⟨e, he⟩ := teErr
  obtain ⟨o, h⟩ := run_claim_lacks (P := Try.prog) (t := 165) Try.underlying150 (by kernel_rfl) he v 38 w
  clear he
  go_enter Try.func43, Try.ntmps43
  go_wp2_with fail
  exact ⟨rfl, Or.inr ⟨rfl, ⟨_, _, rfl⟩, Ext.alloc _ _⟩⟩
theorem claim_literal_4 (v : Value) (w : World) : Calls Try.prog 44 #[.iface 165 v] w (ClaimR false w) := by
  obtain ⟨e, he⟩ := teErr
  obtain ⟨o, h⟩ := run_claim_lacks (P := Try.prog) (t := 165) Try.underlying152 (by kernel_rfl) he v 38 w
  clear he
  go_enter Try.func44, Try.ntmps44
  go_wp2_with fail
  exact ⟨rfl, Or.inr ⟨rfl, ⟨_, _, rfl⟩, Ext.alloc _ _⟩⟩
theorem claim_literal_5 (v : Value) (w : World) : Calls Try.prog 45 #[.iface 165 v] w (ClaimR false w) := by
  obtain ⟨e, he⟩ := teErr
  obtain ⟨o, h⟩ := run_claim_lacks (P := Try.prog) (t := 165) Try.underlying154 (by kernel_rfl) he v 38 w
  clear he
  go_enter Try.func45, Try.ntmps45
  go_wp2_with fail
  exact ⟨rfl, Or.inr ⟨rfl, ⟨_, _, rfl⟩, Ext.alloc _ _⟩⟩
theorem claim_literal_6 (v : Value) (w : World) : Calls Try.prog 46 #[.iface 165 v] w (ClaimR true w) := by
  have h := run_claim_has (P := Try.prog) (t := 165) Try.underlying156 (by kernel_rfl) v 38 w
  go_enter Try.func46, Try.ntmps46
  go_wp2_with fail
  go_end0
  exact .inl ⟨rfl, rfl, rfl⟩
theorem claim_literal_7 (v : Value) (w : World) : Calls Try.prog 47 #[.iface 165 v] w (ClaimR true w) := by
  have h := run_claim_has (P := Try.prog) (t := 165) Try.underlying158 (by kernel_rfl) v 38 w
  go_enter Try.func47, Try.ntmps47
  go_wp2_with fail
  go_end0
  exact .inl ⟨rfl, rfl, rfl⟩
theorem claim_literal_8 (v : Value) (w : World) : Calls Try.prog 48 #[.iface 165 v] w (ClaimR true w) := by
  have h := run_claim_has (P := Try.prog) (t := 165) Try.underlying160 (by kernel_rfl) v 38 w
  go_enter Try.func48, Try.ntmps48
  go_wp2_with fail
  go_end0
  exact .inl ⟨rfl, rfl, rfl⟩
theorem claim_literal_9 (v : Value) (w : World) : Calls Try.prog 49 #[.iface 165 v] w (ClaimR false w) := by
  obtain ⟨e, he⟩ := teErr
  obtain ⟨o, h⟩ := run_claim_lacks (P := Try.prog) (t := 165) Try.underlying162 (by kernel_rfl) he v 38 w
  clear he
  go_enter Try.func49, Try.ntmps49
  go_wp2_with fail
  exact ⟨rfl, Or.inr ⟨rfl, ⟨_, _, rfl⟩, Ext.alloc _ _⟩⟩
theorem claim_literal_10 (v : Value) (w : World) : Calls Try.prog 50 #[.iface 165 v] w (ClaimR false w) := by
  obtain ⟨e, he⟩ := teErr
  obtain ⟨o, h⟩ := run_claim_lacks (P := Try.prog) (t := 165) Try.underlying35 (by kernel_rfl) he v 38 w
  clear he
  go_enter Try.func50, Try.ntmps50
  go_wp2_with fail
  exact ⟨rfl, Or.inr ⟨rfl, ⟨_, _, rfl⟩, Ext.alloc _ _⟩⟩
theorem claim_literal_11 (v : Value) (w : World) : Calls Try.prog 51 #[.iface 165 v] w (ClaimR false w) := by
  obtain ⟨e, he⟩ := teErr
  obtain ⟨o, h⟩ := run_claim_lacks (P := Try.prog) (t := 165) Try.underlying146 (by kernel_rfl) he v 38 w
  clear he
  go_enter Try.func51, Try.ntmps51
  go_wp2_with fail
  exact ⟨rfl, Or.inr ⟨rfl, ⟨_, _, rfl⟩, Ext.alloc _ _⟩⟩
theorem claim_literal_12 (v : Value) (w : World) : Calls Try.prog 52 #[.iface 165 v] w (ClaimR false w) := by
  obtain ⟨e, he⟩ := teErr
  obtain ⟨o, h⟩ := run_claim_lacks (P := Try.prog) (t := 165) Try.underlying144 (by kernel_rfl) he v 38 w
  clear he
  go_enter Try.func52, Try.ntmps52
  go_wp2_with fail
  exact ⟨rfl, Or.inr ⟨rfl, ⟨_, _, rfl⟩, Ext.alloc _ _⟩⟩
theorem claim_literal_13 (v : Value) (w : World) : Calls Try.prog 53 #[.iface 165 v] w (ClaimR false w) := by
  obtain ⟨e, he⟩ := teErr
  obtain ⟨o, h⟩ := run_claim_lacks (P := Try.prog) (t := 165) Try.underlying164 (by kernel_rfl) he v 38 w
  clear he
  go_enter Try.func53, Try.ntmps53
  go_wp2_with fail
  exact ⟨rfl, Or.inr ⟨rfl, ⟨_, _, rfl⟩, Ext.alloc _ _⟩⟩

end Go.Proofs.Ytdikcdefpoolfaa
