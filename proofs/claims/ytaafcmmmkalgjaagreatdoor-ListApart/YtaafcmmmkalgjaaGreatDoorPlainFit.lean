/-
  A plain value that comes in, opened.
-/
import Derived.Test.YtaafcmmmkalgjaaGreatDoorTFit
import Derived.ProofKit
import Derived.OpenShut
import Derived.ChangeSlices
import Derived.SizedLaws
import Derived.Lib.LaidTab
namespace Go.Proofs.YtaafcmmmkalgjaaGreatDoor
open Go.ChangeShapes Go.WideShapes Go.ChangeAt Go.RowKit
set_option maxRecDepth 100000
theorem cells_3 : Tryz.prog.cellsOf 3 = 1 := by kernel_rfl
theorem cells_2 : Tryz.prog.cellsOf 2 = 1 := by kernel_rfl
theorem cells_9 : Tryz.prog.cellsOf 9 = 1 := by kernel_rfl
theorem cells_25 : Tryz.prog.cellsOf 25 = 1 := by kernel_rfl
theorem cells_30 : Tryz.prog.cellsOf 30 = 4 := by kernel_rfl
theorem bytes_30 : Tryz.prog.bytesOf 30 = 56 := by kernel_rfl
theorem Rd.deep {K : Nat → Prop} {w : World} : ∀ {d : Nat} {v : Value} {t : T}, Rd K w d v t → Rd K w (d + 1) v t
  | 0, _, _, h => h.elim
  | d + 1, v, .node k n x ks, ⟨a, c, h1, h3, h4, h5⟩ => ⟨a, c, h1, h3, h4, h5.imp id fun ⟨g, off, ha, hg, hc⟩ => ⟨g, off, ha, hg, fun j hj => by
      obtain ⟨u0, u1, u2, u3, hf, hr⟩ := hc j hj
      exact ⟨u0, u1, u2, u3, hf, Rd.deep hr⟩⟩⟩
theorem list4 {α : Type} {l : List α} (h : l.length = 4) : ∃ c0 c1 c2 c3, l = [c0, c1, c2, c3] := by
  rcases l with _ | ⟨c0, _ | ⟨c1, _ | ⟨c2, _ | ⟨c3, _ | ⟨c4, l⟩⟩⟩⟩⟩
  all_goals first
    | exact ⟨_, _, _, _, rfl⟩
    | (simp at h; done)
theorem array4 {cs : Array Value} (h : cs.size = 4) : ∃ c0 c1 c2 c3, cs = #[c0, c1, c2, c3] := by
  obtain ⟨l⟩ := cs
  obtain ⟨c0, c1, c2, c3, rfl⟩ := list4 (l := l) (by simpa using h)
  exact ⟨_, _, _, _, rfl⟩
theorem weightsAll_mem {H : Type} {P : Program} {e : TypeId} {d : DataW H} {l : List (DataW H)} (h : d ∈ l) {n : Nat} (hn : n ∈ DataW.weights P e d) : n ∈ DataW.weightsAll P e l := by
  induction l with
  | nil => cases h
  | cons x r ih =>
    simp only [DataW.weightsAll, List.mem_append]
    rcases List.mem_cons.1 h with rfl | h
    · exact .inl hn
    · exact .inr (ih h)
theorem text_reach (s : ByteArray) (h : s.data.toList.length ≤ reachBytes) : s.size ≤ 140737488351232 := by
  have e : s.data.toList.length = s.size := by rw [Array.length_toList]; rfl
  rw [e] at h
  exact h
theorem cell_spot {w : World} {g off : Nat} {sp : Option _} {v : Value} (h : w.cell? ⟨g, off, sp⟩ = some v) : sp = none := by
  cases sp with
  | none => rfl
  | some s =>
    exfalso
    unfold World.cell? at h
    split at h <;> simp at h
theorem ks_of {n : Nat} {P : Nat → T → Prop} (h : ∀ j, j < n → ∃ t, P j t) : ∃ ks : List T, ks.length = n ∧ ∀ j, (hj : j < ks.length) → P j ks[j] := by
  induction n with
  | zero => exact ⟨[], rfl, fun j hj => absurd hj (Nat.not_lt_zero _)⟩
  | succ n ih =>
    obtain ⟨ks, hl, hp⟩ := ih (fun j hj => h j (by omega))
    obtain ⟨t, ht⟩ := h n (by omega)
    refine ⟨ks ++ [t], by simp [hl], fun j hj => ?_⟩
    by_cases hjn : j < ks.length
    · rw [List.getElem_append_left hjn]; exact hp j hjn
    · have : j = ks.length := by simp at hj; omega
      subst this
      simp [hl]
      exact ht
section
variable {H : Type} {enc : TypeId × Value → H} {W : World}
set_option maxHeartbeats 1000000 in
theorem plain_read : ∀ (m : Nat) {b0 b1 b2 b3 : Value} {y : DataW H × List MemPlace}, DataW.trod enc Tryz.prog W 0 (fun _ => true) true m 30 [b0, b1, b2, b3] = some y →
    (DataW.weights Tryz.prog 30 y.1).all (· ≤ reachBytes) = true → ∃ t, Rd (fun _ => True) W m (.agg #[b0, b1, b2, b3]) t := by
  intro m
  induction m using Nat.strongRecOn with
  | ind m ih =>
  intro b0 b1 b2 b3 y h hz
  obtain ⟨ys, k, hm, hx, _, hl, hfld⟩ := DataW.trod_struct Tryz.underlying30 h
  subst hm
  obtain ⟨y0, y1, y2, y3, rfl⟩ := list4 (hl.trans rfl)
  have g0 : DataW.trod enc Tryz.prog W 0 (fun _ => true) true k 3 [b0] = some y0 := by have := hfld 0 _ rfl; simpa [cells_3] using this
  have g1 : DataW.trod enc Tryz.prog W 0 (fun _ => true) true k 2 [b1] = some y1 := by have := hfld 1 _ rfl; simpa [cells_2] using this
  have g2 : DataW.trod enc Tryz.prog W 0 (fun _ => true) true k 9 [b2] = some y2 := by have := hfld 2 _ rfl; simpa [cells_9] using this
  have g3 : DataW.trod enc Tryz.prog W 0 (fun _ => true) true k 25 [b3] = some y3 := by have := hfld 3 _ rfl; simpa [cells_25] using this
  obtain ⟨kd, e0, rfl, _⟩ := DataW.trod_int Tryz.underlying3 g0
  obtain ⟨n, e1, rfl, _⟩ := DataW.trod_int Tryz.underlying2 g1
  obtain ⟨tx, e2, rfl, _⟩ := DataW.trod_string Tryz.underlying9 g2
  simp only [List.cons.injEq, and_true] at e0 e1 e2
  subst e0; subst e1; subst e2
  subst hx
  simp only [List.map_cons, List.map_nil, DataW.weights, Tryz.underlying30, DataW.weightsEach, List.nil_append, List.append_nil, List.cons_append, List.all_cons, Bool.and_eq_true, decide_eq_true_eq] at hz
  obtain ⟨z2, z3⟩ := hz
  have s2 := text_reach tx z2
  rcases DataW.trod_slice Tryz.underlying25 g3 with ⟨h0, _⟩ | ⟨a, len, cap, elems, rest, m, hm, h0, hx, _, hlc, _, hel, hat, _, _⟩
  · simp only [List.cons.injEq, and_true] at h0
    subst h0
    exact ⟨.node kd n tx [], none, 0, rfl, s2, by decide, .inl rfl⟩
  simp only [List.cons.injEq, and_true] at h0
  subst h0; subst hx; subst hm
  by_cases hl0 : len = 0
  · subst hl0
    exact ⟨.node kd n tx [], some a, cap, rfl, s2, by decide, .inl rfl⟩
  simp only [DataW.weights, Tryz.underlying25, List.all_cons, List.all_append, Bool.and_eq_true, List.length_map, bytes_30, reachBytes] at z3
  obtain ⟨z31, z32, _⟩ := z3
  have z30 : (elems.length + rest.length) * 56 ≤ 140737488351232 := of_decide_eq_true z31
  have kid : ∀ i, i < len → ∃ u0 u1 u2 u3, W.cell? (a.add (i * 4)) = some u0 ∧ W.cell? ((a.add (i * 4)).add 1) = some u1 ∧ W.cell? ((a.add (i * 4)).add 2) = some u2 ∧ W.cell? ((a.add (i * 4)).add 3) = some u3 ∧ ∃ t, Rd (fun _ => True) W m (.agg #[u0, u1, u2, u3]) t := fun i hi => by
    have hi' : i < elems.length := by omega
    have h1 := hat i hi
    rw [cells_30, List.getElem?_eq_getElem hi'] at h1
    obtain ⟨cs, hcs, htr⟩ := Option.bind_eq_some_iff.1 h1
    unfold World.cells? at hcs
    rw [if_pos (Nat.zero_le _)] at hcs
    obtain ⟨x0, x1, x2, x3, rfl⟩ := list4 (by simpa using Lib.mapM_length hcs)
    have cell : ∀ (j : Nat) (b : Value), j < 4 → [x0, x1, x2, x3][j]? = some b → W.cell? ((a.add (i * 4)).add j) = some b := fun j b hj hb => by
      obtain ⟨b', h2, h3⟩ := Lib.mapM_at hcs j j (by rw [List.getElem?_range hj])
      rw [hb] at h2
      rw [h3, ← Option.some.inj h2]
    have c0 := cell 0 _ (by decide) rfl
    have ea : ∀ b : Addr, b.add 0 = b := fun b => by simp [Addr.add]
    rw [ea] at c0
    refine ⟨x0, x1, x2, x3, c0, cell 1 _ (by decide) rfl, cell 2 _ (by decide) rfl, cell 3 _ (by decide) rfl, ih m (by omega) htr (List.all_eq_true.2 fun n hn => ?_)⟩
    exact List.all_eq_true.1 z32 n (weightsAll_mem (List.mem_map.2 ⟨_, List.getElem_mem hi', rfl⟩) hn)
  obtain ⟨g, off, sp⟩ := a
  have hsp : sp = none := by
    obtain ⟨u0, _, _, _, h0, _⟩ := kid 0 (by omega)
    have e0 : Addr.add ⟨g, off, sp⟩ (0 * 4) = ⟨g, off, sp⟩ := by simp [Addr.add]
    rw [e0] at h0
    exact cell_spot h0
  subst hsp
  have ea : ∀ p j, Addr.add ⟨g, p, none⟩ j = ⟨g, p + j, none⟩ := fun p j => by
    by_cases hj : j = 0
    · subst hj; simp [Addr.add]
    · simp [Addr.add, hj]
  simp only [ea] at kid
  obtain ⟨ks, hkl, hks⟩ := ks_of (n := len) (P := fun i t => ∃ u0 u1 u2 u3, Four W g (off + i * 4) u0 u1 u2 u3 ∧ Rd (fun _ => True) W m (.agg #[u0, u1, u2, u3]) t) (fun i hi => by
    obtain ⟨u0, u1, u2, u3, h0, h1, h2, h3, t, ht⟩ := kid i hi
    exact ⟨t, u0, u1, u2, u3, ⟨h0, h1, h2, h3⟩, ht⟩)
  refine ⟨.node kd n tx ks, Rd.deep (d := m + 1) ⟨some ⟨g, off, none⟩, cap, by rw [hkl], s2, by rw [hkl]; omega, .inr ⟨g, off, rfl, trivial, hks⟩⟩⟩
theorem plain_open {r : Reach} {b0 : Nat} {v : Value} {d : DataW H} {p : List MemPlace} (hv : Value.okWide Tryz.prog W r b0 30 v) (h : DataW.Trod enc Tryz.prog W 0 (fun _ => true) true 30 v d p)
    (hz : (DataW.weights Tryz.prog 30 d).all (· ≤ reachBytes) = true) : ∃ m t, Rd (fun _ => True) W m v t := by
  simp only [Value.okWide, Tryz.underlying30] at hv
  obtain ⟨cs, rfl, hs, _⟩ := hv
  obtain ⟨c0, c1, c2, c3, rfl⟩ := array4 (hs.trans cells_30)
  obtain ⟨fuel, hf⟩ := h
  obtain ⟨t, ht⟩ := plain_read (y := (d, p)) fuel hf hz
  exact ⟨fuel, t, ht⟩
end
end Go.Proofs.YtaafcmmmkalgjaaGreatDoor
/-
  A plain value that comes in, opened; its numbers are ones of 64 bits.
-/
namespace Go.Proofs.YtaafcmmmkalgjaaGreatDoor
open Go.ChangeShapes Go.WideShapes Go.ChangeAt Go.RowKit
set_option maxRecDepth 100000
theorem lit_fit {n : Int} (h : (Lit.int .i64 n).wf = true) : -9223372036854775808 ≤ n ∧ n ≤ 9223372036854775807 := by
  simp only [Lit.wf, Bool.and_eq_true, decide_eq_true_eq] at h
  exact h
theorem fitNL_of : ∀ (l : List T), (∀ j, (h : j < l.length) → l[j].fitN) → T.fitNL l
  | [], _ => trivial
  | t :: r, h => ⟨h 0 (by simp), fitNL_of r (fun j hj => h (j + 1) (by simp; omega))⟩
section
variable {H : Type} {enc : TypeId × Value → H} {W : World}
set_option maxHeartbeats 1000000 in
theorem plain_readF : ∀ (m : Nat) {b0 b1 b2 b3 : Value} {y : DataW H × List MemPlace}, DataW.trod enc Tryz.prog W 0 (fun _ => true) true m 30 [b0, b1, b2, b3] = some y →
    (DataW.weights Tryz.prog 30 y.1).all (· ≤ reachBytes) = true → ∃ t, Rd (fun _ => True) W m (.agg #[b0, b1, b2, b3]) t ∧ t.fitN := by
  intro m
  induction m using Nat.strongRecOn with
  | ind m ih =>
  intro b0 b1 b2 b3 y h hz
  obtain ⟨ys, k, hm, hx, _, hl, hfld⟩ := DataW.trod_struct Tryz.underlying30 h
  subst hm
  obtain ⟨y0, y1, y2, y3, rfl⟩ := list4 (hl.trans rfl)
  have g0 : DataW.trod enc Tryz.prog W 0 (fun _ => true) true k 3 [b0] = some y0 := by have := hfld 0 _ rfl; simpa [cells_3] using this
  have g1 : DataW.trod enc Tryz.prog W 0 (fun _ => true) true k 2 [b1] = some y1 := by have := hfld 1 _ rfl; simpa [cells_2] using this
  have g2 : DataW.trod enc Tryz.prog W 0 (fun _ => true) true k 9 [b2] = some y2 := by have := hfld 2 _ rfl; simpa [cells_9] using this
  have g3 : DataW.trod enc Tryz.prog W 0 (fun _ => true) true k 25 [b3] = some y3 := by have := hfld 3 _ rfl; simpa [cells_25] using this
  obtain ⟨kd, e0, rfl, _⟩ := DataW.trod_int Tryz.underlying3 g0
  obtain ⟨n, e1, rfl, hwf⟩ := DataW.trod_int Tryz.underlying2 g1
  have hfit : -9223372036854775808 ≤ n ∧ n ≤ 9223372036854775807 := lit_fit hwf
  obtain ⟨tx, e2, rfl, _⟩ := DataW.trod_string Tryz.underlying9 g2
  simp only [List.cons.injEq, and_true] at e0 e1 e2
  subst e0; subst e1; subst e2
  subst hx
  simp only [List.map_cons, List.map_nil, DataW.weights, Tryz.underlying30, DataW.weightsEach, List.nil_append, List.append_nil, List.cons_append, List.all_cons, Bool.and_eq_true, decide_eq_true_eq] at hz
  obtain ⟨z2, z3⟩ := hz
  have s2 := text_reach tx z2
  rcases DataW.trod_slice Tryz.underlying25 g3 with ⟨h0, _⟩ | ⟨a, len, cap, elems, rest, m, hm, h0, hx, _, hlc, _, hel, hat, _, _⟩
  · simp only [List.cons.injEq, and_true] at h0
    subst h0
    exact ⟨.node kd n tx [], ⟨none, 0, rfl, s2, by decide, .inl rfl⟩, fun _ => hfit, trivial⟩
  simp only [List.cons.injEq, and_true] at h0
  subst h0; subst hx; subst hm
  by_cases hl0 : len = 0
  · subst hl0
    exact ⟨.node kd n tx [], ⟨some a, cap, rfl, s2, by decide, .inl rfl⟩, fun _ => hfit, trivial⟩
  simp only [DataW.weights, Tryz.underlying25, List.all_cons, List.all_append, Bool.and_eq_true, List.length_map, bytes_30, reachBytes] at z3
  obtain ⟨z31, z32, _⟩ := z3
  have z30 : (elems.length + rest.length) * 56 ≤ 140737488351232 := of_decide_eq_true z31
  have kid : ∀ i, i < len → ∃ u0 u1 u2 u3, W.cell? (a.add (i * 4)) = some u0 ∧ W.cell? ((a.add (i * 4)).add 1) = some u1 ∧ W.cell? ((a.add (i * 4)).add 2) = some u2 ∧ W.cell? ((a.add (i * 4)).add 3) = some u3 ∧ ∃ t, Rd (fun _ => True) W m (.agg #[u0, u1, u2, u3]) t ∧ t.fitN := fun i hi => by
    have hi' : i < elems.length := by omega
    have h1 := hat i hi
    rw [cells_30, List.getElem?_eq_getElem hi'] at h1
    obtain ⟨cs, hcs, htr⟩ := Option.bind_eq_some_iff.1 h1
    unfold World.cells? at hcs
    rw [if_pos (Nat.zero_le _)] at hcs
    obtain ⟨x0, x1, x2, x3, rfl⟩ := list4 (by simpa using Lib.mapM_length hcs)
    have cell : ∀ (j : Nat) (b : Value), j < 4 → [x0, x1, x2, x3][j]? = some b → W.cell? ((a.add (i * 4)).add j) = some b := fun j b hj hb => by
      obtain ⟨b', h2, h3⟩ := Lib.mapM_at hcs j j (by rw [List.getElem?_range hj])
      rw [hb] at h2
      rw [h3, ← Option.some.inj h2]
    have c0 := cell 0 _ (by decide) rfl
    have ea : ∀ b : Addr, b.add 0 = b := fun b => by simp [Addr.add]
    rw [ea] at c0
    refine ⟨x0, x1, x2, x3, c0, cell 1 _ (by decide) rfl, cell 2 _ (by decide) rfl, cell 3 _ (by decide) rfl, ih m (by omega) htr (List.all_eq_true.2 fun n hn => ?_)⟩
    exact List.all_eq_true.1 z32 n (weightsAll_mem (List.mem_map.2 ⟨_, List.getElem_mem hi', rfl⟩) hn)
  obtain ⟨g, off, sp⟩ := a
  have hsp : sp = none := by
    obtain ⟨u0, _, _, _, h0, _⟩ := kid 0 (by omega)
    have e0 : Addr.add ⟨g, off, sp⟩ (0 * 4) = ⟨g, off, sp⟩ := by simp [Addr.add]
    rw [e0] at h0
    exact cell_spot h0
  subst hsp
  have ea : ∀ p j, Addr.add ⟨g, p, none⟩ j = ⟨g, p + j, none⟩ := fun p j => by
    by_cases hj : j = 0
    · subst hj; simp [Addr.add]
    · simp [Addr.add, hj]
  simp only [ea] at kid
  obtain ⟨ks, hkl, hks⟩ := ks_of (n := len) (P := fun i t => (∃ u0 u1 u2 u3, Four W g (off + i * 4) u0 u1 u2 u3 ∧ Rd (fun _ => True) W m (.agg #[u0, u1, u2, u3]) t) ∧ t.fitN) (fun i hi => by
    obtain ⟨u0, u1, u2, u3, h0, h1, h2, h3, t, ht, hft⟩ := kid i hi
    exact ⟨t, ⟨u0, u1, u2, u3, ⟨h0, h1, h2, h3⟩, ht⟩, hft⟩)
  refine ⟨.node kd n tx ks, Rd.deep (d := m + 1) ⟨some ⟨g, off, none⟩, cap, by rw [hkl], s2, by rw [hkl]; omega, .inr ⟨g, off, rfl, trivial, fun j hj => (hks j hj).1⟩⟩, fun _ => hfit, fitNL_of ks (fun j hj => (hks j hj).2)⟩
theorem plain_openF {r : Reach} {b0 : Nat} {v : Value} {d : DataW H} {p : List MemPlace} (hv : Value.okWide Tryz.prog W r b0 30 v) (h : DataW.Trod enc Tryz.prog W 0 (fun _ => true) true 30 v d p)
    (hz : (DataW.weights Tryz.prog 30 d).all (· ≤ reachBytes) = true) : ∃ m t, Rd (fun _ => True) W m v t ∧ t.fitN := by
  simp only [Value.okWide, Tryz.underlying30] at hv
  obtain ⟨cs, rfl, hs, _⟩ := hv
  obtain ⟨c0, c1, c2, c3, rfl⟩ := array4 (hs.trans cells_30)
  obtain ⟨fuel, hf⟩ := h
  obtain ⟨t, ht⟩ := plain_readF (y := (d, p)) fuel hf hz
  exact ⟨fuel, t, ht⟩
end
end Go.Proofs.YtaafcmmmkalgjaaGreatDoor
