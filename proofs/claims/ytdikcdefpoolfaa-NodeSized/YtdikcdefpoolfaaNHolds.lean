/-
  holds: whether a node has an ability, by a claim that panics or does not; by contracts.
-/
import Derived.Test.YtdikcdefpoolfaaNClaim
namespace Go.Proofs.Ytdikcdefpoolfaa
open Go.RowKit
set_option maxRecDepth 100000 in
theorem catch_panicking (p : Addr) (x : Bool) (u : TypeId) (pv : Value) (older : List PanicEntry) (w : World) (hc : w.cell? p = some (.bool x)) (hz : w.frozen? p = false) :
    CallsD Try.prog 38 #[.pointer (some p)] (.panicking ({ v := .iface u pv, recovered := false } :: older)) w fun e u' w' =>
      e = .returned (.tuple #[]) ∧ u' = .panicking ({ v := .iface u pv, recovered := true } :: older) ∧ w' = w.setCell p (.bool false) := by
  refine callsD_of_wpS Try.func38 rfl fun c₀ cs hu => ?_
  apply wpS_region
  simp [wpOpsS, go_sem, recoverD, hu, Try.ntmps38, hc, hz, bodyPostS, results, Try.results38]
set_option maxRecDepth 100000 in
theorem catch_idle (p : Addr) (x : Bool) (w : World) (hc : w.cell? p = some (.bool x)) (hz : w.frozen? p = false) :
    CallsD Try.prog 38 #[.pointer (some p)] .returning w fun e u' w' => e = .returned (.tuple #[]) ∧ u' = .returning ∧ w' = w.setCell p (.bool true) := by
  refine callsD_of_wpS Try.func38 rfl fun c₀ cs hu => ?_
  apply wpS_region
  simp [wpOpsS, go_sem, recoverD, hu, Try.ntmps38, hc, hz, bodyPostS, results, Try.results38]
  cases c₀
  simp_all
/-- An ability, as a value. -/
abbrev abV (nm : ByteArray) (o : Bool) (f : Nat) : Value := .agg #[.string nm, .bool o, .func (.func f) #[] #[]]
set_option maxRecDepth 100000 in
theorem holds_any (nm : ByteArray) (o b : Bool) (f : Nat) (n : Value) (w : World) (hE : ∀ a w, (callFunc f a).run Try.prog w = .ok (.enter f a) w) (hf : ∀ w1, Ext w w1 → Calls Try.prog f #[n] w1 (ClaimR b w1)) : Calls Try.prog 26 #[abV nm o f, n] w fun e w' => e = .returned (.bool b) ∧ Ext w w' := by
  have hmf : ∀ (fn : Fn) (first cap : Array Value) (w : World), (Instr.makeFunc fn first cap).run Try.prog w = .ok (.func fn first cap) w := fun _ _ _ _ => rfl
  have HF := hid hf
  clear hf
  obtain ⟨M, hM⟩ : ∃ M, (w.alloc (.cells #[.string nm, .bool o, .func (.func f) #[] #[]] 105)).alloc (.cells #[.bool false] 4) = M := ⟨_, rfl⟩
  have XM := hid (show Ext w M from hM ▸ Ext.alloc2 _ _ _)
  have HM0 := hid (show M.heap[w.heap.size]? = some (.cells #[.string nm, .bool o, .func (.func f) #[] #[]] 105) from hM ▸ blkOld _ (blk0 _ _))
  have HM1 := hid (show M.heap[w.heap.size + 1]? = some (.cells #[.bool false] 4) from hM ▸ blk1 _ _ _)
  have c2 : M.cell? ⟨w.heap.size, 2, none⟩ = some (.func (.func f) #[] #[]) := cell_of HM0.out rfl
  go_enter_defers Try.func26, Try.ntmps26
  go_wp2_with fail
  refine (HF.out M XM.out).mono ?_
  rintro e w1 (⟨rfl, rfl, rfl⟩ | ⟨rfl, ⟨t, v, rfl⟩, hx⟩)
  · go_wp2_with fail
    refine leaves_cons (f := 38) (args := #[.pointer (some ⟨w.heap.size + 1, 0, none⟩)]) (by simp) (by simp [go_sem]) ?_
    refine (catch_idle ⟨w.heap.size + 1, 0, none⟩ false _ (cell_of HM1.out rfl) (frozen_of HM1.out)).mono ?_
    rintro e u' w'' ⟨rfl, rfl, rfl⟩
    have z0 : (w1.setCell ⟨w.heap.size + 1, 0, none⟩ (.bool true)).cell? ⟨w.heap.size + 1, 0, none⟩ = some (.bool true) := cell_of (set_at HM1.out 0 _) rfl
    simp [Leaves, settle, results, Try.results26, go_sem, z0]
    exact Kp.extOf XM.out (Kp.set w1 (w.heap.size + 1) 0 _ (fun h => h rfl)) (by omega)
  · have HB := hid (hx.block HM1.out)
    have X1 := hid (XM.out.trans hx)
    clear hx hM c2
    go_wp2_with fail
    refine leaves_cons (f := 38) (args := #[.pointer (some ⟨w.heap.size + 1, 0, none⟩)]) (by simp) (by simp [go_sem]) ?_
    refine (catch_panicking ⟨w.heap.size + 1, 0, none⟩ false t v [] _ (cell_of HB.out rfl) (frozen_of HB.out)).mono ?_
    rintro e u' w'' ⟨rfl, rfl, rfl⟩
    have z0 : (w1.setCell ⟨w.heap.size + 1, 0, none⟩ (.bool false)).cell? ⟨w.heap.size + 1, 0, none⟩ = some (.bool false) := cell_of (set_at HB.out 0 _) rfl
    simp [Leaves, settle, results, Try.results26, go_sem, z0]
    exact Kp.extOf X1.out (Kp.set w1 (w.heap.size + 1) 0 _ (fun h => h rfl)) (by omega)
end Go.Proofs.Ytdikcdefpoolfaa
