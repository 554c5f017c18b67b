/-
  A slice of plain values that comes in, opened; their numbers are ones of 64 bits.
-/
import Derived.Test.YtbpbkihcfdnphaaDoorPlainIn
import Derived.Test.YtbpbkihcfdnphaaDoorEqs
import Derived.Test.YtbpbkihcfdnphaaDoorPlainFit
namespace Go.Proofs.YtbpbkihcfdnphaaDoor
open Go.ChangeShapes Go.WideShapes Go.ChangeAt Go.RowKit
set_option maxRecDepth 100000
section
variable {H : Type} {enc : TypeId × Value → H} {W : World}
set_option maxHeartbeats 1000000 in
theorem plains_openF {r : Reach} {b0 : Nat} {v : Value} {d : DataW H} {p : List MemPlace} (hv : Value.okWide Tryd.prog W r b0 22 v) (h : DataW.Trod enc Tryd.prog W 0 (fun _ => true) true 22 v d p)
    (hz : (DataW.weights Tryd.prog 22 d).all (· ≤ reachBytes) = true) : ∃ m a c ks, v = .slice a ks.length c ∧ RdL (fun _ => True) W m a ks ∧ ∀ t ∈ ks, t.fitI := by
  obtain ⟨a0, n0, c0, rfl⟩ := okWide_slice Tryd.underlying22 hv
  obtain ⟨fuel, hf⟩ := h
  have g3 : DataW.trod enc Tryd.prog W 0 (fun _ => true) true fuel 22 [.slice a0 n0 c0] = some (d, p) := hf
  rcases DataW.trod_slice Tryd.underlying22 g3 with ⟨h0, _⟩ | ⟨a, len, cap, elems, rest, m, hm, h0, hx, _, hlc, _, hel, hat, _, _⟩
  · simp only [List.cons.injEq, and_true] at h0
    rw [h0]
    exact ⟨0, none, 0, [], rfl, ⟨by decide, .inl rfl⟩, fun t ht => absurd ht (by simp)⟩
  simp only [List.cons.injEq, and_true] at h0
  injection h0 with e1 e2 e3
  subst e1; subst e2; subst e3
  obtain ⟨rfl, _⟩ := Prod.mk.inj hx
  by_cases hl0 : n0 = 0
  · subst hl0
    exact ⟨0, some a, c0, [], rfl, ⟨by decide, .inl rfl⟩, fun t ht => absurd ht (by simp)⟩
  simp only [DataW.weights, Tryd.underlying22, List.all_cons, List.all_append, Bool.and_eq_true, List.length_map, bytes_24, reachBytes] at hz
  obtain ⟨z31, z32, _⟩ := hz
  have z30 : (elems.length + rest.length) * 56 ≤ 140737488351232 := of_decide_eq_true z31
  have kid : ∀ i, i < n0 → ∃ u0 u1 u2 u3, W.cell? (a.add (i * 4)) = some u0 ∧ W.cell? ((a.add (i * 4)).add 1) = some u1 ∧ W.cell? ((a.add (i * 4)).add 2) = some u2 ∧ W.cell? ((a.add (i * 4)).add 3) = some u3 ∧ ∃ t, Rd (fun _ => True) W m (.agg #[u0, u1, u2, u3]) t ∧ t.fitI := fun i hi => by
    have hi' : i < elems.length := by omega
    have h1 := hat i hi
    rw [cells_24, List.getElem?_eq_getElem hi'] at h1
    obtain ⟨cs, hcs, htr⟩ := Option.bind_eq_some_iff.1 h1
    unfold World.cells? at hcs
    rw [if_pos (Nat.zero_le _)] at hcs
    obtain ⟨x0, x1, x2, x3, rfl⟩ := list4 (by simpa using Lib.mapM_length hcs)
    have cell : ∀ (j : Nat) (b : Value), j < 4 → [x0, x1, x2, x3][j]? = some b → W.cell? ((a.add (i * 4)).add j) = some b := fun j b hj hb => by
      obtain ⟨b', h2, h3⟩ := Lib.mapM_at hcs j j (by rw [List.getElem?_range hj])
      rw [hb] at h2
      rw [h3, ← Option.some.inj h2]
    have c0 := cell 0 _ (by decide) rfl
    have ea : ∀ b : Addr, b.add 0 = b := fun b => by simp [Addr.add]
    rw [ea] at c0
    refine ⟨x0, x1, x2, x3, c0, cell 1 _ (by decide) rfl, cell 2 _ (by decide) rfl, cell 3 _ (by decide) rfl, plain_readF m htr (List.all_eq_true.2 fun n hn => ?_)⟩
    exact List.all_eq_true.1 z32 n (weightsAll_mem (List.mem_map.2 ⟨_, List.getElem_mem hi', rfl⟩) hn)
  obtain ⟨g, off, sp⟩ := a
  have hsp : sp = none := by
    obtain ⟨u0, _, _, _, h0, _⟩ := kid 0 (by omega)
    have e0 : Addr.add ⟨g, off, sp⟩ (0 * 4) = ⟨g, off, sp⟩ := by simp [Addr.add]
    rw [e0] at h0
    exact cell_spot h0
  subst hsp
  have ea : ∀ p j, Addr.add ⟨g, p, none⟩ j = ⟨g, p + j, none⟩ := fun p j => by
    by_cases hj : j = 0
    · subst hj; simp [Addr.add]
    · simp [Addr.add, hj]
  simp only [ea] at kid
  obtain ⟨ks, hkl, hks⟩ := ks_of (n := n0) (P := fun i t => (∃ u0 u1 u2 u3, Four W g (off + i * 4) u0 u1 u2 u3 ∧ Rd (fun _ => True) W m (.agg #[u0, u1, u2, u3]) t) ∧ t.fitI) (fun i hi => by
    obtain ⟨u0, u1, u2, u3, h0, h1, h2, h3, t, ht, hft⟩ := kid i hi
    exact ⟨t, ⟨u0, u1, u2, u3, ⟨h0, h1, h2, h3⟩, ht⟩, hft⟩)
  refine ⟨m, some ⟨g, off, none⟩, c0, ks, by rw [hkl], ⟨by rw [hkl]; omega, .inr ⟨g, off, rfl, trivial, fun j hj => (hks j hj).1⟩⟩, fun t ht => ?_⟩
  obtain ⟨j, hj, rfl⟩ := List.getElem_of_mem ht
  exact (hks j hj).2
end
end Go.Proofs.YtbpbkihcfdnphaaDoor
