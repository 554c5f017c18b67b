/-
  A script of Ops that comes in, opened.
-/
import Derived.Test.YtfafnmfgiclanaaDoorAllW
import Derived.Test.YtfafnmfgiclanaaDoorOpIn
namespace Go.Proofs.YtfafnmfgiclanaaDoor
open Go.ChangeShapes Go.WideShapes Go.ChangeAt Go.RowKit Go.Deep
set_option maxRecDepth 100000
section
variable {H : Type} {enc : TypeId × Value → H} {W : World}
theorem script_open {r : Reach} {b0 : Nat} {v : Value} {d : DataW H} {p : List MemPlace} (hv : Value.okWide Tryd.prog W r b0 22 v) (h : DataW.Trod enc Tryd.prog W 0 (fun _ => true) true 22 v d p)
    (hz : (DataW.weights Tryd.prog 22 d).all (· ≤ reachBytes) = true) (hk : Rows.uptoBulk d ≤ 1048576) : ∃ a n c, v = .slice a n c ∧ Script W a n ∧ n ≤ 1048576 := by
  obtain ⟨a0, n0, c0, rfl⟩ := okWide_slice Tryd.underlying22 hv
  obtain ⟨fuel, hf⟩ := h
  have hf' : DataW.trod enc Tryd.prog W 0 (fun _ => true) true fuel 22 [.slice a0 n0 c0] = some (d, p) := hf
  rcases DataW.trod_slice Tryd.underlying22 hf' with ⟨h0, _⟩ | ⟨a, len, cap, elems, rest, m, _, h0, hx, _, hlc, _, hel, hat, _, _⟩
  · simp only [List.cons.injEq, and_true] at h0
    injection h0 with e1 e2 e3
    subst e1; subst e2; subst e3
    exact ⟨none, 0, 0, rfl, fun i hi => absurd hi (Nat.not_lt_zero _), by omega⟩
  · simp only [List.cons.injEq, and_true] at h0
    injection h0 with e1 e2 e3
    subst e1; subst e2; subst e3
    have hsp : a.spot = none := by
      simp only [Value.okWide, Tryd.underlying22, Cell.okWide, Cell.ok] at hv
      exact hv.2.2.2.1
    obtain ⟨g, off, sp⟩ := a
    have hsp' : sp = none := hsp
    subst hsp'
    simp only [Prod.mk.injEq] at hx
    obtain ⟨rfl, _⟩ := hx
    simp only [Rows.uptoBulk] at hk
    have hlen := bulkAll_len (elems.map (·.1))
    rw [List.length_map, hel] at hlen
    refine ⟨some ⟨g, off, none⟩, n0, c0, rfl, fun i hi => ⟨g, off, rfl, ?_⟩, by omega⟩
    have hi' : i < elems.length := by omega
    have h1 := hat i hi
    rw [cells_29, add_none, List.getElem?_eq_getElem hi'] at h1
    obtain ⟨cs, hcs, htr⟩ := Option.bind_eq_some_iff.1 h1
    unfold World.cells? at hcs
    rw [if_pos (Nat.zero_le _)] at hcs
    obtain ⟨x0, x1, x2, x3, x4, x5, rfl⟩ := list6 (by simpa using Lib.mapM_length hcs)
    have cell : ∀ (j : Nat) (b : Value), j < 6 → [x0, x1, x2, x3, x4, x5][j]? = some b → W.cell? ⟨g, off + i * 6 + j, none⟩ = some b := fun j b hj hb => by
      obtain ⟨b', h2, h3⟩ := Lib.mapM_at hcs j j (by rw [List.getElem?_range hj])
      rw [hb] at h2
      rw [add_none] at h3
      rw [h3, ← Option.some.inj h2]
    have hmem : elems[i].1 ∈ elems.map (·.1) := List.mem_map.2 ⟨_, List.getElem_mem hi', rfl⟩
    have hb := bulkAll_mem hmem
    obtain ⟨kd, S, f1, a1, c1, xs, f2, a2, c2, ys, rfl, rfl, rfl, rfl, rfl, rfl, r1, r2, r3, r4, r5⟩ := op_read htr
      (List.all_eq_true.2 fun n hn => List.all_eq_true.1 hz n (by
        simp only [DataW.weights, Tryd.underlying22]
        exact List.mem_cons_of_mem _ (List.mem_append.2 (.inl (weightsAll_mem hmem hn))))) (by omega)
    exact ⟨kd, S, f1, a1, c1, xs, f2, a2, c2, ys, cell 0 _ (by decide) rfl, cell 1 _ (by decide) rfl, cell 2 _ (by decide) rfl, cell 3 _ (by decide) rfl, cell 4 _ (by decide) rfl, cell 5 _ (by decide) rfl, r1, r2, r3, r4, r5⟩
end
end Go.Proofs.YtfafnmfgiclanaaDoor
