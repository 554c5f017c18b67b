/-
  A sort that comes in, opened.
-/
import Derived.Test.YtllbelglilkdpaaDoorSData
import Derived.ProofKit
import Derived.OpenShut
import Derived.ChangeSlices
import Derived.SizedLaws
import Derived.Lib.LaidTab
namespace Go.Proofs.YtllbelglilkdpaaDoor
open Go.ChangeShapes Go.WideShapes Go.ChangeAt Go.RowKit
set_option maxRecDepth 100000
theorem scells_9 : Tryd.prog.cellsOf 9 = 1 := by kernel_rfl
theorem scells_25 : Tryd.prog.cellsOf 25 = 1 := by kernel_rfl
theorem scells_27 : Tryd.prog.cellsOf 27 = 2 := by kernel_rfl
theorem sbytes_27 : Tryd.prog.bytesOf 27 = 40 := by kernel_rfl
theorem SRd.deep {K : Nat → Prop} {w : World} : ∀ {d : Nat} {v : Value} {t : S}, SRd K w d v t → SRd K w (d + 1) v t
  | 0, _, _, h => h.elim
  | d + 1, v, .node x ks, ⟨a, c, h1, h3, h4, h5⟩ => ⟨a, c, h1, h3, h4, h5.imp id fun ⟨g, off, ha, hg, hc⟩ => ⟨g, off, ha, hg, fun j hj => by
      obtain ⟨u0, u1, hf, hr⟩ := hc j hj
      exact ⟨u0, u1, hf, SRd.deep hr⟩⟩⟩
theorem slist2 {α : Type} {l : List α} (h : l.length = 2) : ∃ c0 c1, l = [c0, c1] := by
  rcases l with _ | ⟨c0, _ | ⟨c1, _ | ⟨c2, l⟩⟩⟩
  all_goals first
    | exact ⟨_, _, rfl⟩
    | (simp at h; done)
theorem sarray2 {cs : Array Value} (h : cs.size = 2) : ∃ c0 c1, cs = #[c0, c1] := by
  obtain ⟨l⟩ := cs
  obtain ⟨c0, c1, rfl⟩ := slist2 (l := l) (by simpa using h)
  exact ⟨_, _, rfl⟩
theorem sweightsAll_mem {H : Type} {P : Program} {e : TypeId} {d : DataW H} {l : List (DataW H)} (h : d ∈ l) {n : Nat} (hn : n ∈ DataW.weights P e d) : n ∈ DataW.weightsAll P e l := by
  induction l with
  | nil => cases h
  | cons x r ih =>
    simp only [DataW.weightsAll, List.mem_append]
    rcases List.mem_cons.1 h with rfl | h
    · exact .inl hn
    · exact .inr (ih h)
theorem stext_reach (s : ByteArray) (h : s.data.toList.length ≤ reachBytes) : s.size ≤ 140737488351232 := by
  have e : s.data.toList.length = s.size := by rw [Array.length_toList]; rfl
  rw [e] at h
  exact h
theorem scell_spot {w : World} {g off : Nat} {sp : Option _} {v : Value} (h : w.cell? ⟨g, off, sp⟩ = some v) : sp = none := by
  cases sp with
  | none => rfl
  | some s =>
    exfalso
    unfold World.cell? at h
    split at h <;> simp at h
theorem sks_of {α : Type} {n : Nat} {P : Nat → α → Prop} (h : ∀ j, j < n → ∃ t, P j t) : ∃ ks : List α, ks.length = n ∧ ∀ j, (hj : j < ks.length) → P j ks[j] := by
  induction n with
  | zero => exact ⟨[], rfl, fun j hj => absurd hj (Nat.not_lt_zero _)⟩
  | succ n ih =>
    obtain ⟨ks, hl, hp⟩ := ih (fun j hj => h j (by omega))
    obtain ⟨t, ht⟩ := h n (by omega)
    refine ⟨ks ++ [t], by simp [hl], fun j hj => ?_⟩
    by_cases hjn : j < ks.length
    · rw [List.getElem_append_left hjn]; exact hp j hjn
    · have : j = ks.length := by simp at hj; omega
      subst this
      simp [hl]
      exact ht
section
variable {H : Type} {enc : TypeId × Value → H} {W : World}
set_option maxHeartbeats 1000000 in
theorem sort_read : ∀ (m : Nat) {b0 b1 : Value} {y : DataW H × List MemPlace}, DataW.trod enc Tryd.prog W 0 (fun _ => true) true m 27 [b0, b1] = some y →
    (DataW.weights Tryd.prog 27 y.1).all (· ≤ reachBytes) = true → ∃ t, SRd (fun _ => True) W m (.agg #[b0, b1]) t := by
  intro m
  induction m using Nat.strongRecOn with
  | ind m ih =>
  intro b0 b1 y h hz
  obtain ⟨ys, k, hm, hx, _, hl, hfld⟩ := DataW.trod_struct Tryd.underlying27 h
  subst hm
  obtain ⟨y0, y1, rfl⟩ := slist2 (hl.trans rfl)
  have g0 : DataW.trod enc Tryd.prog W 0 (fun _ => true) true k 9 [b0] = some y0 := by have := hfld 0 _ rfl; simpa [scells_9] using this
  have g1 : DataW.trod enc Tryd.prog W 0 (fun _ => true) true k 25 [b1] = some y1 := by have := hfld 1 _ rfl; simpa [scells_25] using this
  obtain ⟨tx, e0, rfl, _⟩ := DataW.trod_string Tryd.underlying9 g0
  simp only [List.cons.injEq, and_true] at e0
  subst e0
  subst hx
  simp only [List.map_cons, List.map_nil, DataW.weights, Tryd.underlying27, DataW.weightsEach, List.nil_append, List.append_nil, List.cons_append, List.all_cons, Bool.and_eq_true, decide_eq_true_eq] at hz
  obtain ⟨z2, z3⟩ := hz
  have s2 := stext_reach tx z2
  rcases DataW.trod_slice Tryd.underlying25 g1 with ⟨h0, _⟩ | ⟨a, len, cap, elems, rest, m, hm, h0, hx, _, hlc, _, hel, hat, _, _⟩
  · simp only [List.cons.injEq, and_true] at h0
    subst h0
    exact ⟨.node tx [], none, 0, rfl, s2, by decide, .inl rfl⟩
  simp only [List.cons.injEq, and_true] at h0
  subst h0; subst hx; subst hm
  by_cases hl0 : len = 0
  · subst hl0
    exact ⟨.node tx [], some a, cap, rfl, s2, by decide, .inl rfl⟩
  simp only [DataW.weights, Tryd.underlying25, List.all_cons, List.all_append, Bool.and_eq_true, List.length_map, sbytes_27, reachBytes] at z3
  obtain ⟨z31, z32, _⟩ := z3
  have z30 : (elems.length + rest.length) * 40 ≤ 140737488351232 := of_decide_eq_true z31
  have kid : ∀ i, i < len → ∃ u0 u1, W.cell? (a.add (i * 2)) = some u0 ∧ W.cell? ((a.add (i * 2)).add 1) = some u1 ∧ ∃ t, SRd (fun _ => True) W m (.agg #[u0, u1]) t := fun i hi => by
    have hi' : i < elems.length := by omega
    have h1 := hat i hi
    rw [scells_27, List.getElem?_eq_getElem hi'] at h1
    obtain ⟨cs, hcs, htr⟩ := Option.bind_eq_some_iff.1 h1
    unfold World.cells? at hcs
    rw [if_pos (Nat.zero_le _)] at hcs
    obtain ⟨x0, x1, rfl⟩ := slist2 (by simpa using Lib.mapM_length hcs)
    have cell : ∀ (j : Nat) (b : Value), j < 2 → [x0, x1][j]? = some b → W.cell? ((a.add (i * 2)).add j) = some b := fun j b hj hb => by
      obtain ⟨b', h2, h3⟩ := Lib.mapM_at hcs j j (by rw [List.getElem?_range hj])
      rw [hb] at h2
      rw [h3, ← Option.some.inj h2]
    have c0 := cell 0 _ (by decide) rfl
    have ea : ∀ b : Addr, b.add 0 = b := fun b => by simp [Addr.add]
    rw [ea] at c0
    refine ⟨x0, x1, c0, cell 1 _ (by decide) rfl, ih m (by omega) htr (List.all_eq_true.2 fun n hn => ?_)⟩
    exact List.all_eq_true.1 z32 n (sweightsAll_mem (List.mem_map.2 ⟨_, List.getElem_mem hi', rfl⟩) hn)
  obtain ⟨g, off, sp⟩ := a
  have hsp : sp = none := by
    obtain ⟨u0, _, h0, _⟩ := kid 0 (by omega)
    have e0 : Addr.add ⟨g, off, sp⟩ (0 * 2) = ⟨g, off, sp⟩ := by simp [Addr.add]
    rw [e0] at h0
    exact scell_spot h0
  subst hsp
  have ea : ∀ p j, Addr.add ⟨g, p, none⟩ j = ⟨g, p + j, none⟩ := fun p j => by
    by_cases hj : j = 0
    · subst hj; simp [Addr.add]
    · simp [Addr.add, hj]
  simp only [ea] at kid
  obtain ⟨ks, hkl, hks⟩ := sks_of (n := len) (P := fun i t => ∃ u0 u1, Two W g (off + i * 2) u0 u1 ∧ SRd (fun _ => True) W m (.agg #[u0, u1]) t) (fun i hi => by
    obtain ⟨u0, u1, h0, h1, t, ht⟩ := kid i hi
    exact ⟨t, u0, u1, ⟨h0, h1⟩, ht⟩)
  refine ⟨.node tx ks, SRd.deep (d := m + 1) ⟨some ⟨g, off, none⟩, cap, by rw [hkl], s2, by rw [hkl]; omega, .inr ⟨g, off, rfl, trivial, hks⟩⟩⟩
theorem sort_open {r : Reach} {b0 : Nat} {v : Value} {d : DataW H} {p : List MemPlace} (hv : Value.okWide Tryd.prog W r b0 27 v) (h : DataW.Trod enc Tryd.prog W 0 (fun _ => true) true 27 v d p)
    (hz : (DataW.weights Tryd.prog 27 d).all (· ≤ reachBytes) = true) : ∃ m t, SRd (fun _ => True) W m v t := by
  simp only [Value.okWide, Tryd.underlying27] at hv
  obtain ⟨cs, rfl, hs, _⟩ := hv
  obtain ⟨c0, c1, rfl⟩ := sarray2 (hs.trans scells_27)
  obtain ⟨fuel, hf⟩ := h
  obtain ⟨t, ht⟩ := sort_read (y := (d, p)) fuel hf hz
  exact ⟨fuel, t, ht⟩
end
end Go.Proofs.YtllbelglilkdpaaDoor
