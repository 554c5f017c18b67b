/-
  A slice of givens that comes in, opened.
-/
import Derived.Test.YtllbelglilkdpaaDoorSortIn
import Derived.Test.YtllbelglilkdpaaDoorSGs
namespace Go.Proofs.YtllbelglilkdpaaDoor
open Go.ChangeShapes Go.WideShapes Go.ChangeAt Go.RowKit
set_option maxRecDepth 100000
theorem scells_50 : Tryd.prog.cellsOf 50 = 3 := by kernel_rfl
theorem sbytes_50 : Tryd.prog.bytesOf 50 = 56 := by kernel_rfl
theorem slist3 {α : Type} {l : List α} (h : l.length = 3) : ∃ c0 c1 c2, l = [c0, c1, c2] := by
  rcases l with _ | ⟨c0, _ | ⟨c1, _ | ⟨c2, _ | ⟨c3, l⟩⟩⟩⟩
  all_goals first
    | exact ⟨_, _, _, rfl⟩
    | (simp at h; done)
section
variable {H : Type} {enc : TypeId × Value → H} {W : World}
set_option maxHeartbeats 1000000 in
theorem given_read (m : Nat) {b0 b1 b2 : Value} {y : DataW H × List MemPlace} (h : DataW.trod enc Tryd.prog W 0 (fun _ => true) true m 50 [b0, b1, b2] = some y)
    (hz : (DataW.weights Tryd.prog 50 y.1).all (· ≤ reachBytes) = true) : ∃ x t, b0 = .string x ∧ x.size ≤ 140737488351232 ∧ SRd (fun _ => True) W m (.agg #[b1, b2]) t := by
  obtain ⟨ys, k, hm, hx, _, hl, hfld⟩ := DataW.trod_struct Tryd.underlying50 h
  subst hm
  obtain ⟨y0, y1, rfl⟩ := slist2 (hl.trans rfl)
  have g0 : DataW.trod enc Tryd.prog W 0 (fun _ => true) true k 9 [b0] = some y0 := by have := hfld 0 _ rfl; simpa [scells_9, scells_27] using this
  have g1 : DataW.trod enc Tryd.prog W 0 (fun _ => true) true k 27 [b1, b2] = some y1 := by have := hfld 1 _ rfl; simpa [scells_9, scells_27] using this
  obtain ⟨tx, e0, rfl, _⟩ := DataW.trod_string Tryd.underlying9 g0
  simp only [List.cons.injEq, and_true] at e0
  subst e0
  subst hx
  simp only [List.map_cons, List.map_nil, DataW.weights, Tryd.underlying50, DataW.weightsEach, List.nil_append, List.append_nil, List.cons_append, List.all_cons, Bool.and_eq_true, decide_eq_true_eq] at hz
  obtain ⟨z2, z3⟩ := hz
  obtain ⟨t, ht⟩ := sort_read k g1 z3
  exact ⟨tx, t, rfl, stext_reach tx z2, ht.deep⟩
set_option maxHeartbeats 1000000 in
theorem givens_open {r : Reach} {b0 : Nat} {v : Value} {d : DataW H} {p : List MemPlace} (hv : Value.okWide Tryd.prog W r b0 28 v) (h : DataW.Trod enc Tryd.prog W 0 (fun _ => true) true 28 v d p)
    (hz : (DataW.weights Tryd.prog 28 d).all (· ≤ reachBytes) = true) : ∃ m l, GsRd (fun _ => True) W m v l := by
  obtain ⟨a0, n0, c0, rfl⟩ := okWide_slice Tryd.underlying28 hv
  obtain ⟨fuel, hf⟩ := h
  have g3 : DataW.trod enc Tryd.prog W 0 (fun _ => true) true fuel 28 [.slice a0 n0 c0] = some (d, p) := hf
  rcases DataW.trod_slice Tryd.underlying28 g3 with ⟨h0, _⟩ | ⟨a, len, cap, elems, rest, m, hm, h0, hx, _, hlc, _, hel, hat, _, _⟩
  · simp only [List.cons.injEq, and_true] at h0
    rw [h0]
    exact ⟨0, [], none, 0, rfl, by decide, .inl rfl⟩
  simp only [List.cons.injEq, and_true] at h0
  injection h0 with e1 e2 e3
  subst e1; subst e2; subst e3
  obtain ⟨rfl, _⟩ := Prod.mk.inj hx
  by_cases hl0 : n0 = 0
  · subst hl0
    exact ⟨0, [], some a, c0, rfl, by decide, .inl rfl⟩
  simp only [DataW.weights, Tryd.underlying28, List.all_cons, List.all_append, Bool.and_eq_true, List.length_map, sbytes_50, reachBytes] at hz
  obtain ⟨z31, z32, _⟩ := hz
  have z30 : (elems.length + rest.length) * 56 ≤ 140737488351232 := of_decide_eq_true z31
  have kid : ∀ i, i < n0 → ∃ u0 u1 u2, W.cell? (a.add (i * 3)) = some u0 ∧ W.cell? ((a.add (i * 3)).add 1) = some u1 ∧ W.cell? ((a.add (i * 3)).add 2) = some u2 ∧ ∃ x t, u0 = .string x ∧ x.size ≤ 140737488351232 ∧ SRd (fun _ => True) W m (.agg #[u1, u2]) t := fun i hi => by
    have hi' : i < elems.length := by omega
    have h1 := hat i hi
    rw [scells_50, List.getElem?_eq_getElem hi'] at h1
    obtain ⟨cs, hcs, htr⟩ := Option.bind_eq_some_iff.1 h1
    unfold World.cells? at hcs
    rw [if_pos (Nat.zero_le _)] at hcs
    obtain ⟨x0, x1, x2, rfl⟩ := slist3 (by simpa using Lib.mapM_length hcs)
    have cell : ∀ (j : Nat) (b : Value), j < 3 → [x0, x1, x2][j]? = some b → W.cell? ((a.add (i * 3)).add j) = some b := fun j b hj hb => by
      obtain ⟨b', h2, h3⟩ := Lib.mapM_at hcs j j (by rw [List.getElem?_range hj])
      rw [hb] at h2
      rw [h3, ← Option.some.inj h2]
    have c0 := cell 0 _ (by decide) rfl
    have ea : ∀ b : Addr, b.add 0 = b := fun b => by simp [Addr.add]
    rw [ea] at c0
    refine ⟨x0, x1, x2, c0, cell 1 _ (by decide) rfl, cell 2 _ (by decide) rfl, given_read m htr (List.all_eq_true.2 fun n hn => ?_)⟩
    exact List.all_eq_true.1 z32 n (sweightsAll_mem (List.mem_map.2 ⟨_, List.getElem_mem hi', rfl⟩) hn)
  obtain ⟨g, off, sp⟩ := a
  have hsp : sp = none := by
    obtain ⟨u0, _, _, h0, _⟩ := kid 0 (by omega)
    have e0 : Addr.add ⟨g, off, sp⟩ (0 * 3) = ⟨g, off, sp⟩ := by simp [Addr.add]
    rw [e0] at h0
    exact scell_spot h0
  subst hsp
  have ea : ∀ p j, Addr.add ⟨g, p, none⟩ j = ⟨g, p + j, none⟩ := fun p j => by
    by_cases hj : j = 0
    · subst hj; simp [Addr.add]
    · simp [Addr.add, hj]
  simp only [ea] at kid
  obtain ⟨ks, hkl, hks⟩ := sks_of (n := n0) (P := fun i (t : ByteArray × S) => Gv (fun _ => True) W m g (off + i * 3) t.1 t.2) (fun i hi => by
    obtain ⟨u0, u1, u2, h0, h1, h2, x, t, rfl, hx, ht⟩ := kid i hi
    exact ⟨(x, t), h0, hx, u1, u2, ⟨h1, h2⟩, ht⟩)
  exact ⟨m, ks, some ⟨g, off, none⟩, c0, by rw [hkl], by rw [hkl]; omega, .inr ⟨g, off, rfl, trivial, hks⟩⟩
end
end Go.Proofs.YtllbelglilkdpaaDoor
