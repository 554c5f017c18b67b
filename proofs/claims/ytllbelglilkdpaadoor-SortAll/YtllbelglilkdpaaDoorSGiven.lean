/-
  A given appended to the list that is none yet.
-/
import Derived.Test.YtllbelglilkdpaaDoorSEq
import Derived.Maps.AppendAt
namespace Go.Proofs.YtllbelglilkdpaaDoor
open Go.RowKit
theorem givenInfo : (Tryd.prog.info? 50).map (fun i => (i.zero, i.size, i.bytes)) = some (some (.agg #[.string ⟨#[]⟩, .string ⟨#[]⟩, .slice none 0 0]), 3, 56) := by kernel_rfl
theorem info_three {P : Program} {t : TypeId} {z : Option Value} {s b : Nat} (h : (P.info? t).map (fun i => (i.zero, i.size, i.bytes)) = some (z, s, b)) : ∃ i, P.info? t = some i ∧ i.zero = z ∧ i.size = s ∧ i.bytes = b := by
  cases hi : P.info? t with
  | none => rw [hi] at h; cases h
  | some i =>
    rw [hi] at h
    simp only [Option.map_some, Option.some.injEq, Prod.mk.injEq] at h
    exact ⟨i, rfl, h.1, h.2.1, h.2.2⟩
theorem grown_kp' {w w' : World} {row : Option Nat} (h : w.grownBy w' row) : Kp (fun k => row ≠ some k) w w' := ⟨h.os, h.tape, h.output, h.size, fun k hk hK => h.block k hk (fun e => hK e.symm)⟩
theorem run_given {w : World} {ty : TypeId} (x y : ByteArray) (a : Option Addr) (l c : Nat) :
    ∃ g c' w', (Builtin.append_ #[28, 28] 28 #[.slice none 0 0, .slice (some ⟨w.heap.size, 0, none⟩) 1 1]).run Tryd.prog (w.alloc (.cells #[.string x, .string y, .slice a l c] ty)) = .ok (.slice (some ⟨g, 0, none⟩) 1 c') w' ∧ (w'.cell? ⟨g, 0, none⟩ = some (.string x) ∧ w'.cell? ⟨g, 1, none⟩ = some (.string y) ∧ w'.cell? ⟨g, 2, none⟩ = some (.slice a l c)) ∧ Ext w w' := by
  obtain ⟨ii, hii, hz0, hz1, hz2⟩ := info_three givenInfo
  have hnews : ∀ (j : Nat) (u : Value), [Value.string x, .string y, .slice a l c][j]? = some u → (w.alloc (.cells #[.string x, .string y, .slice a l c] ty)).cell? (Addr.add ⟨w.heap.size, 0, none⟩ j) = some u := by
    intro j u hu
    have e : Addr.add ⟨w.heap.size, 0, none⟩ j = ⟨w.heap.size, j, none⟩ := by
      by_cases hj : j = 0
      · subst hj; simp [Addr.add]
      · simp [Addr.add, hj]
    rw [e]
    exact cell_of (blk0 w _) (by simpa using hu)
  obtain ⟨v', w', hr, ho2, hg, _, hat⟩ := run_append_own_at (P := Tryd.prog) (w.alloc (.cells #[.string x, .string y, .slice a l c] ty)) w.heap.size 28 28 50 ii _ 3 56 Tryd.underlying28 hii hz0 hz1 hz2 rfl (by decide) (.slice none 0 0) 0 [] (World.ownsRow_nil _ _ _ _) ⟨w.heap.size, 0, none⟩ 1 1 [.string x, .string y, .slice a l c] rfl hnews (fun u hu => by simp at hu; rcases hu with rfl | rfl | rfl <;> rfl) (by unfold maxLen; omega) (by omega) (by rw [blkS]; omega)
  rcases ho2.2 with ⟨_, h1⟩ | ⟨g, cap, cur, rfl, hbg, hbk, h3, h4, h5, h6⟩
  · exact absurd h1 (by decide)
  have key : ∀ i u, i < 3 → [Value.string x, .string y, .slice a l c][i]? = some u → w'.cell? ⟨g, i, none⟩ = some u := fun i u hi hu => by
    have h7 : cur.toList.take ((0 + 1) * 3) = [] ++ [Value.string x, .string y, .slice a l c] := h6
    rw [List.nil_append] at h7
    rw [← h7, List.getElem?_take_of_lt (by omega)] at hu
    exact cell_of hbk (by simpa using hu)
  refine ⟨g, cap, w', hr, ⟨key 0 _ (by decide) rfl, key 1 _ (by decide) rfl, key 2 _ (by decide) rfl⟩, ?_⟩
  exact (Ext.alloc w _).trans (Kp.ext (grown_kp' hg) (fun k _ => by simp [Value.ownBlock]))
theorem app_given {ops : Array Oper} {rest : List Oper} {o : Oper} {ac : Act} {Q : Exit → Act → World → Prop} {w : World} {ty : TypeId} (hgd : o.guard = none) (s z : Operand)
    (ho : o.op = .call { callee := .builtin .append, args := #[s, z], argTypes := #[28, 28] }) (hty : o.type = 28) (x y : ByteArray) (a : Option Addr) (l c : Nat) (hs : ac.eval s = .slice none 0 0) (hx : ac.eval z = .slice (some ⟨w.heap.size, 0, none⟩) 1 1)
    (h : ∀ g c' w', (w'.cell? ⟨g, 0, none⟩ = some (.string x) ∧ w'.cell? ⟨g, 1, none⟩ = some (.string y) ∧ w'.cell? ⟨g, 2, none⟩ = some (.slice a l c)) → Ext w w' → wpList Tryd.prog ops Q rest (ac.put o.dst (.slice (some ⟨g, 0, none⟩) 1 c')) w') : wpList Tryd.prog ops Q (o :: rest) ac (w.alloc (.cells #[.string x, .string y, .slice a l c] ty)) := by
  refine wpList_plain hgd fun K hK => ?_
  obtain ⟨g, c', w', hr, h2, h3⟩ := run_given (ty := ty) (w := w) x y a l c
  unfold Oper.wp execOp
  simp only [ho, hty, resolve, invoke, builtin, Sem.run_bind, Sem.run_pure, Result.andThen_ok, List.map_toArray, List.map_cons, List.map_nil, hs, hx, hr]
  exact hK _ _ (h g c' w' h2 h3)
end Go.Proofs.YtllbelglilkdpaaDoor
