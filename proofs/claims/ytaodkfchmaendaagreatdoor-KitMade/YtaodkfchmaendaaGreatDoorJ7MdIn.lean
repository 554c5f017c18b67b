/-
  A list of rows, a text that come in, opened.
-/
import Derived.Test.YtaodkfchmaendaaGreatDoorJ7In
import Derived.Test.YtaodkfchmaendaaGreatDoorJ7MdL
namespace Go.Proofs.YtaodkfchmaendaaGreatDoor
open Go.ChangeShapes Go.WideShapes Go.ChangeAt Go.RowKit
set_option maxRecDepth 100000
theorem jbytes_rt : Tryz.prog.bytesOf 37 = 72 := by kernel_rfl
theorem jmany_of {α : Type} {n : Nat} {P : Nat → α → Prop} (h : ∀ j, j < n → ∃ t, P j t) : ∃ ks : List α, ks.length = n ∧ ∀ j, (hj : j < ks.length) → P j ks[j] := by
  induction n with
  | zero => exact ⟨[], rfl, fun j hj => absurd hj (Nat.not_lt_zero _)⟩
  | succ n ih =>
    obtain ⟨ks, hl, hp⟩ := ih (fun j hj => h j (by omega))
    obtain ⟨t, ht⟩ := h n (by omega)
    refine ⟨ks ++ [t], by simp [hl], fun j hj => ?_⟩
    by_cases hlt : j < ks.length
    · rw [List.getElem_append_left hlt]
      exact hp j hlt
    · have hje : j = ks.length := by simp at hj; omega
      subst hje
      rw [List.getElem_append_right (Nat.le_refl _)]
      simp only [Nat.sub_self, List.getElem_cons_zero]
      rw [hl]
      exact ht
section
variable {H : Type} {enc : TypeId × Value → H} {W : World}
set_option maxHeartbeats 1000000 in
theorem jrows_wide {r : Reach} {b0 : Nat} {v : Value} {d : DataW H} {p : List MemPlace} (hv : Value.okWide Tryz.prog W r b0 55 v) (h : DataW.Trod enc Tryz.prog W 0 (fun _ => true) true 55 v d p)
    (hz : (DataW.weights Tryz.prog 55 d).all (· ≤ reachBytes) = true) : ∃ a rws c, v = .slice a rws.length c ∧ Nd.RowsLie W a rws ∧ rws.length ≤ 1954687338220 ∧ (∀ r ∈ rws, r.kind.size ≤ 140737488351232 ∧ r.abs.length ≤ 140737488351232) ∧ ((a = none ∧ rws = [] ∧ c = 0) ∨ ∃ g off, a = some ⟨g, off, none⟩) := by
  obtain ⟨a0, n0, c0, rfl⟩ := okWide_slice Tryz.underlying55 hv
  obtain ⟨fuel, hf⟩ := h
  have hf' : DataW.trod enc Tryz.prog W 0 (fun _ => true) true fuel 55 [.slice a0 n0 c0] = some (d, p) := hf
  rcases DataW.trod_slice Tryz.underlying55 hf' with ⟨h0, _⟩ | ⟨a, len, cap, elems, rest, m, _, h0, hx, _, hlc, _, hel, hat, _, _⟩
  · simp only [List.cons.injEq, and_true] at h0
    injection h0 with e1 e2 e3
    subst e1; subst e2; subst e3
    exact ⟨none, [], 0, rfl, fun i hi => absurd hi (Nat.not_lt_zero _), by decide, (fun r hr => by cases hr), .inl ⟨rfl, rfl, rfl⟩⟩
  · simp only [List.cons.injEq, and_true] at h0
    injection h0 with e1 e2 e3
    subst e1; subst e2; subst e3
    have hsp : a.spot = none := by
      simp only [Value.okWide, Tryz.underlying55, Cell.okWide, Cell.ok] at hv
      exact hv.2.2.2.1
    obtain ⟨g, off, sp⟩ := a
    have hsp' : sp = none := hsp
    subst hsp'
    simp only [Prod.mk.injEq] at hx
    obtain ⟨rfl, _⟩ := hx
    simp only [DataW.weights, Tryz.underlying55, List.all_cons, List.all_append, Bool.and_eq_true, List.length_map, jbytes_rt, reachBytes] at hz
    obtain ⟨z1, z2, _⟩ := hz
    have z0 : (elems.length + rest.length) * 72 ≤ 140737488351232 := of_decide_eq_true z1
    have hall : ∀ i, i < n0 → ∃ r : Rw, (∃ ra rc, (W.cell? ⟨g, off + i * 6, none⟩ = some (.string r.kind) ∧ W.cell? ⟨g, off + i * 6 + 1, none⟩ = some (.int .i64 r.min) ∧ W.cell? ⟨g, off + i * 6 + 2, none⟩ = some (.int .i64 r.max) ∧ W.cell? ⟨g, off + i * 6 + 3, none⟩ = some (.bool r.num) ∧ W.cell? ⟨g, off + i * 6 + 4, none⟩ = some (.int .i64 r.text) ∧ W.cell? ⟨g, off + i * 6 + 5, none⟩ = some (.slice ra r.abs.length rc)) ∧ TRow W ra r.abs) ∧ r.kind.size ≤ 140737488351232 ∧ r.abs.length ≤ 140737488351232 := by
      intro i hi
      have hi' : i < elems.length := by omega
      have h1 := hat i hi
      rw [jcells_rt, jadd, List.getElem?_eq_getElem hi'] at h1
      obtain ⟨cs, hcs, htr⟩ := Option.bind_eq_some_iff.1 h1
      unfold World.cells? at hcs
      rw [if_pos (Nat.zero_le _)] at hcs
      obtain ⟨b0, b1, b2, b3, b4, b5, rfl⟩ := jlist6 (by simpa using Lib.mapM_length hcs)
      have hcell : ∀ (j : Nat) (b : Value), j < 6 → [b0, b1, b2, b3, b4, b5][j]? = some b → W.cell? ⟨g, off + i * 6 + j, none⟩ = some b := fun j b hj hb => by
        obtain ⟨b', h2, h3⟩ := Lib.mapM_at hcs j j (by rw [List.getElem?_range hj])
        rw [hb] at h2
        rw [jadd] at h3
        rw [h3, ← Option.some.inj h2]
      have hmem : elems[i].1 ∈ elems.map (·.1) := List.mem_map.2 ⟨_, List.getElem_mem hi', rfl⟩
      have hzi : (DataW.weights Tryz.prog 37 elems[i].1).all (· ≤ reachBytes) = true := List.all_eq_true.2 fun n hn => List.all_eq_true.1 z2 n (jweightsAll_mem hmem hn)
      obtain ⟨rw0, ra, rc, rfl, rfl, rfl, rfl, rfl, rfl, hrow, q0, q5⟩ := jrow_read htr hzi
      exact ⟨rw0, ⟨ra, rc, ⟨hcell 0 _ (by decide) rfl, hcell 1 _ (by decide) rfl, hcell 2 _ (by decide) rfl, hcell 3 _ (by decide) rfl, hcell 4 _ (by decide) rfl, hcell 5 _ (by decide) rfl⟩, hrow⟩, by omega, by omega⟩
    obtain ⟨rws, hl, hp⟩ := jmany_of hall
    subst hl
    refine ⟨some ⟨g, off, none⟩, rws, c0, rfl, fun j hj => ?_, by omega, fun r hr => ?_, .inr ⟨g, off, rfl⟩⟩
    · obtain ⟨⟨ra, rc, hcs, ht⟩, _⟩ := hp j hj
      exact ⟨g, off, ra, rc, rfl, hcs, ht⟩
    · obtain ⟨j, hj, rfl⟩ := List.getElem_of_mem hr
      exact (hp j hj).2
set_option maxRecDepth 100000 in
theorem jstr_open {r : Reach} {b0 : Nat} {v : Value} {d : DataW H} {p : List MemPlace} (hv : Value.okWide Tryz.prog W r b0 9 v) (h : DataW.Trod enc Tryz.prog W 0 (fun _ => true) true 9 v d p)
    (hz : (DataW.weights Tryz.prog 9 d).all (· ≤ reachBytes) = true) : ∃ s, v = .string s ∧ s.size ≤ 140737488351232 := by
  obtain ⟨s, rfl⟩ := okWide_string Tryz.underlying9 hv
  obtain ⟨fuel, hf⟩ := h
  obtain ⟨s', e, hd, _⟩ := DataW.trod_string Tryz.underlying9 hf
  simp only [Value.cells, List.cons.injEq, and_true, Value.string.injEq] at e
  subst e
  obtain ⟨rfl, _⟩ := Prod.mk.inj hd
  simp only [DataW.weights, List.all_cons, List.all_nil, Bool.and_true, decide_eq_true_eq] at hz
  have e : s.data.toList.length = s.size := by rw [Array.length_toList]; rfl
  rw [e] at hz
  exact ⟨s, rfl, hz⟩
end
end Go.Proofs.YtaodkfchmaendaaGreatDoor
