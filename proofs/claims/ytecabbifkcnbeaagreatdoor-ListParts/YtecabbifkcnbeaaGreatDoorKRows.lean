/-
  (*Kit).Rows, (*Kit).Row, EqNames and EqRow of rows that are the same: by contracts.
-/
import Derived.Test.YtecabbifkcnbeaaGreatDoorKKit
namespace Go.Proofs.YtecabbifkcnbeaaGreatDoor
open Go.RowKit
theorem app_ritem {ops : Array Oper} {rest : List Oper} {o : Oper} {ac : Act} {Q : Exit → Act → World → Prop} {ty : TypeId} (w : World) (hgd : o.guard = none) (x y : Operand)
    (ho : o.op = .call { callee := .builtin .append, args := #[x, y], argTypes := #[102, 102] }) (hty : o.type = 102)
    (base g : Nat) (lv : Value) (acc : List Rw) (r : Rw) (a : Option Addr) (c : Nat) (hx : ac.eval x = lv) (hy : ac.eval y = .slice (some ⟨g, 0, none⟩) 1 1) (hB : base ≤ w.heap.size)
    (hit : RItems w base lv acc) (hg : w.heap[g]? = some (.cells (r.cells a c).toArray ty)) (htb : TB w a r.abs) (hlim : acc.length ≤ 2000000)
    (h : ∀ ao c' w', RItems w' base (.slice ao (acc.length + 1) c') (acc ++ [r]) → w.grownBy w' lv.ownBlock → wpList Tryz.prog ops Q rest (ac.put o.dst (.slice ao (acc.length + 1) c')) w') :
    wpList Tryz.prog ops Q (o :: rest) ac w := by
  refine wpList_plain hgd fun K hK => ?_
  obtain ⟨ao, c', w', hr, h2, h3⟩ := run_ritem (ty := ty) base g lv acc r a c hB hit hg htb hlim
  unfold Oper.wp execOp
  rw [List.length_append] at hr h2
  simp only [ho, hty, resolve, invoke, builtin, Sem.run_bind, Sem.run_pure, Result.andThen_ok, List.map_toArray, List.map_cons, List.map_nil, hx, hy, hr]
  exact hK _ _ (h ao c' w' h2 h3)
/-- The rows told so far. -/
def RowsLp (w : World) (acc : List Rw) (j : Nat) (ao : Option Addr) (c : Nat) (wr : World) : Prop := RItems wr w.heap.size (.slice ao j c) (acc.take j) ∧ Ext w wr
/-- What Rows tells. -/
def RowsR (w : World) (acc : List Rw) (e : Ending) (w' : World) : Prop := ∃ ao c, e = .returned (.slice ao acc.length c) ∧ RItems w' w.heap.size (.slice ao acc.length c) acc ∧ Ext w w'
/-- What Row tells. -/
def RowR (w : World) (r : Rw) (e : Ending) (w' : World) : Prop := ∃ a c, e = .returned (.tuple #[r.val a c, .bool true]) ∧ TB w' a r.abs ∧ Ext w w'
end Go.Proofs.YtecabbifkcnbeaaGreatDoor
