/-
  A sort that comes in, opened.
-/
import Derived.Test.YtllbelglilkdpaaDoorSData
import Derived.ProofKit
import Derived.OpenShut
import Derived.ChangeSlices
import Derived.SizedLaws
import Derived.Lib.LaidTab
import Derived.Test.YtllbelglilkdpaaDoorSGs
import Derived.Test.YtllbelglilkdpaaDoorBase
namespace Go.Proofs.YtllbelglilkdpaaDoor
open Go.ChangeShapes Go.WideShapes Go.ChangeAt Go.RowKit
set_option maxRecDepth 100000
theorem scells_9 : Tryd.prog.cellsOf 9 = 1 := by kernel_rfl
theorem scells_25 : Tryd.prog.cellsOf 25 = 1 := by kernel_rfl
theorem scells_27 : Tryd.prog.cellsOf 27 = 2 := by kernel_rfl
theorem sbytes_27 : Tryd.prog.bytesOf 27 = 40 := by kernel_rfl
theorem SRd.deep {K : Nat → Prop} {w : World} : ∀ {d : Nat} {v : Value} {t : S}, SRd K w d v t → SRd K w (d + 1) v t
  | 0, _, _, h => h.elim
  | d + 1, v, .node x ks, ⟨a, c, h1, h3, h4, h5⟩ => ⟨a, c, h1, h3, h4, h5.imp id fun ⟨g, off, ha, hg, hc⟩ => ⟨g, off, ha, hg, fun j hj => by
      obtain ⟨u0, u1, hf, hr⟩ := hc j hj
      exact ⟨u0, u1, hf, SRd.deep hr⟩⟩⟩
theorem slist2 {α : Type} {l : List α} (h : l.length = 2) : ∃ c0 c1, l = [c0, c1] := by
  rcases l with _ | ⟨c0, _ | ⟨c1, _ | ⟨c2, l⟩⟩⟩
  all_goals first
    | exact ⟨_, _, rfl⟩
    | (simp at h; done)
theorem sarray2 {cs : Array Value} (h : cs.size = 2) : ∃ c0 c1, cs = #[c0, c1] := by
  obtain ⟨l⟩ := cs
  obtain ⟨c0, c1, rfl⟩ := slist2 (l := l) (by simpa using h)
  exact ⟨_, _, rfl⟩
theorem sweightsAll_mem {H : Type} {P : Program} {e : TypeId} {d : DataW H} {l : List (DataW H)} (h : d ∈ l) {n : Nat} (hn : n ∈ DataW.weights P e d) : n ∈ DataW.weightsAll P e l := by
  induction l with
  | nil => cases h
  | cons x r ih =>
    simp only [DataW.weightsAll, List.mem_append]
    rcases List.mem_cons.1 h with rfl | h
    · exact .inl hn
    · exact .inr (ih h)
theorem stext_reach (s : ByteArray) (h : s.data.toList.length ≤ reachBytes) : s.size ≤ 140737488351232 := by
  have e : s.data.toList.length = s.size := by rw [Array.length_toList]; rfl
  rw [e] at h
  exact h
theorem scell_spot {w : World} {g off : Nat} {sp : Option _} {v : Value} (h : w.cell? ⟨g, off, sp⟩ = some v) : sp = none := by
  cases sp with
  | none => rfl
  | some s =>
    exfalso
    unfold World.cell? at h
    split at h <;> simp at h
theorem sks_of {α : Type} {n : Nat} {P : Nat → α → Prop} (h : ∀ j, j < n → ∃ t, P j t) : ∃ ks : List α, ks.length = n ∧ ∀ j, (hj : j < ks.length) → P j ks[j] := by
  induction n with
  | zero => exact ⟨[], rfl, fun j hj => absurd hj (Nat.not_lt_zero _)⟩
  | succ n ih =>
    obtain ⟨ks, hl, hp⟩ := ih (fun j hj => h j (by omega))
    obtain ⟨t, ht⟩ := h n (by omega)
    refine ⟨ks ++ [t], by simp [hl], fun j hj => ?_⟩
    by_cases hjn : j < ks.length
    · rw [List.getElem_append_left hjn]; exact hp j hjn
    · have : j = ks.length := by simp at hj; omega
      subst this
      simp [hl]
      exact ht
section
variable {H : Type} {enc : TypeId × Value → H} {W : World}
set_option maxHeartbeats 1000000 in
theorem sort_read : ∀ (m : Nat) {b0 b1 : Value} {y : DataW H × List MemPlace}, DataW.trod enc Tryd.prog W 0 (fun _ => true) true m 27 [b0, b1] = some y →
    (DataW.weights Tryd.prog 27 y.1).all (· ≤ reachBytes) = true → ∃ t, SRd (fun _ => True) W m (.agg #[b0, b1]) t := by
  intro m
  induction m using Nat.strongRecOn with
  | ind m ih =>
  intro b0 b1 y h hz
  obtain ⟨ys, k, hm, hx, _, hl, hfld⟩ := DataW.trod_struct Tryd.underlying27 h
  subst hm
  obtain ⟨y0, y1, rfl⟩ := slist2 (hl.trans rfl)
  have g0 : DataW.trod enc Tryd.prog W 0 (fun _ => true) true k 9 [b0] = some y0 := by have := hfld 0 _ rfl; simpa [scells_9] using this
  have g1 : DataW.trod enc Tryd.prog W 0 (fun _ => true) true k 25 [b1] = some y1 := by have := hfld 1 _ rfl; simpa [scells_25] using this
  obtain ⟨tx, e0, rfl, _⟩ := DataW.trod_string Tryd.underlying9 g0
  simp only [List.cons.injEq, and_true] at e0
  subst e0
  subst hx
  simp only [List.map_cons, List.map_nil, DataW.weights, Tryd.underlying27, DataW.weightsEach, List.nil_append, List.append_nil, List.cons_append, List.all_cons, Bool.and_eq_true, decide_eq_true_eq] at hz
  obtain ⟨z2, z3⟩ := hz
  have s2 := stext_reach tx z2
  rcases DataW.trod_slice Tryd.underlying25 g1 with ⟨h0, _⟩ | ⟨a, len, cap, elems, rest, m, hm, h0, hx, _, hlc, _, hel, hat, _, _⟩
  · simp only [List.cons.injEq, and_true] at h0
    subst h0
    exact ⟨.node tx [], none, 0, rfl, s2, by decide, .inl rfl⟩
  simp only [List.cons.injEq, and_true] at h0
  subst h0; subst hx; subst hm
  by_cases hl0 : len = 0
  · subst hl0
    exact ⟨.node tx [], some a, cap, rfl, s2, by decide, .inl rfl⟩
  simp only [DataW.weights, Tryd.underlying25, List.all_cons, List.all_append, Bool.and_eq_true, List.length_map, sbytes_27, reachBytes] at z3
  obtain ⟨z31, z32, _⟩ := z3
  have z30 : (elems.length + rest.length) * 40 ≤ 140737488351232 := of_decide_eq_true z31
  have kid : ∀ i, i < len → ∃ u0 u1, W.cell? (a.add (i * 2)) = some u0 ∧ W.cell? ((a.add (i * 2)).add 1) = some u1 ∧ ∃ t, SRd (fun _ => True) W m (.agg #[u0, u1]) t := fun i hi => by
    have hi' : i < elems.length := by omega
    have h1 := hat i hi
    rw [scells_27, List.getElem?_eq_getElem hi'] at h1
    obtain ⟨cs, hcs, htr⟩ := Option.bind_eq_some_iff.1 h1
    unfold World.cells? at hcs
    rw [if_pos (Nat.zero_le _)] at hcs
    obtain ⟨x0, x1, rfl⟩ := slist2 (by simpa using Lib.mapM_length hcs)
    have cell : ∀ (j : Nat) (b : Value), j < 2 → [x0, x1][j]? = some b → W.cell? ((a.add (i * 2)).add j) = some b := fun j b hj hb => by
      obtain ⟨b', h2, h3⟩ := Lib.mapM_at hcs j j (by rw [List.getElem?_range hj])
      rw [hb] at h2
      rw [h3, ← Option.some.inj h2]
    have c0 := cell 0 _ (by decide) rfl
    have ea : ∀ b : Addr, b.add 0 = b := fun b => by simp [Addr.add]
    rw [ea] at c0
    refine ⟨x0, x1, c0, cell 1 _ (by decide) rfl, ih m (by omega) htr (List.all_eq_true.2 fun n hn => ?_)⟩
    exact List.all_eq_true.1 z32 n (sweightsAll_mem (List.mem_map.2 ⟨_, List.getElem_mem hi', rfl⟩) hn)
  obtain ⟨g, off, sp⟩ := a
  have hsp : sp = none := by
    obtain ⟨u0, _, h0, _⟩ := kid 0 (by omega)
    have e0 : Addr.add ⟨g, off, sp⟩ (0 * 2) = ⟨g, off, sp⟩ := by simp [Addr.add]
    rw [e0] at h0
    exact scell_spot h0
  subst hsp
  have ea : ∀ p j, Addr.add ⟨g, p, none⟩ j = ⟨g, p + j, none⟩ := fun p j => by
    by_cases hj : j = 0
    · subst hj; simp [Addr.add]
    · simp [Addr.add, hj]
  simp only [ea] at kid
  obtain ⟨ks, hkl, hks⟩ := sks_of (n := len) (P := fun i t => ∃ u0 u1, Two W g (off + i * 2) u0 u1 ∧ SRd (fun _ => True) W m (.agg #[u0, u1]) t) (fun i hi => by
    obtain ⟨u0, u1, h0, h1, t, ht⟩ := kid i hi
    exact ⟨t, u0, u1, ⟨h0, h1⟩, ht⟩)
  refine ⟨.node tx ks, SRd.deep (d := m + 1) ⟨some ⟨g, off, none⟩, cap, by rw [hkl], s2, by rw [hkl]; omega, .inr ⟨g, off, rfl, trivial, hks⟩⟩⟩
theorem sort_open {r : Reach} {b0 : Nat} {v : Value} {d : DataW H} {p : List MemPlace} (hv : Value.okWide Tryd.prog W r b0 27 v) (h : DataW.Trod enc Tryd.prog W 0 (fun _ => true) true 27 v d p)
    (hz : (DataW.weights Tryd.prog 27 d).all (· ≤ reachBytes) = true) : ∃ m t, SRd (fun _ => True) W m v t := by
  simp only [Value.okWide, Tryd.underlying27] at hv
  obtain ⟨cs, rfl, hs, _⟩ := hv
  obtain ⟨c0, c1, rfl⟩ := sarray2 (hs.trans scells_27)
  obtain ⟨fuel, hf⟩ := h
  obtain ⟨t, ht⟩ := sort_read (y := (d, p)) fuel hf hz
  exact ⟨fuel, t, ht⟩
end
end Go.Proofs.YtllbelglilkdpaaDoor
/-
  A slice of givens that comes in, opened.
-/
namespace Go.Proofs.YtllbelglilkdpaaDoor
open Go.ChangeShapes Go.WideShapes Go.ChangeAt Go.RowKit
set_option maxRecDepth 100000
theorem scells_50 : Tryd.prog.cellsOf 50 = 3 := by kernel_rfl
theorem sbytes_50 : Tryd.prog.bytesOf 50 = 56 := by kernel_rfl
theorem slist3 {α : Type} {l : List α} (h : l.length = 3) : ∃ c0 c1 c2, l = [c0, c1, c2] := by
  rcases l with _ | ⟨c0, _ | ⟨c1, _ | ⟨c2, _ | ⟨c3, l⟩⟩⟩⟩
  all_goals first
    | exact ⟨_, _, _, rfl⟩
    | (simp at h; done)
section
variable {H : Type} {enc : TypeId × Value → H} {W : World}
set_option maxHeartbeats 1000000 in
theorem given_read (m : Nat) {b0 b1 b2 : Value} {y : DataW H × List MemPlace} (h : DataW.trod enc Tryd.prog W 0 (fun _ => true) true m 50 [b0, b1, b2] = some y)
    (hz : (DataW.weights Tryd.prog 50 y.1).all (· ≤ reachBytes) = true) : ∃ x t, b0 = .string x ∧ x.size ≤ 140737488351232 ∧ SRd (fun _ => True) W m (.agg #[b1, b2]) t := by
  obtain ⟨ys, k, hm, hx, _, hl, hfld⟩ := DataW.trod_struct Tryd.underlying50 h
  subst hm
  obtain ⟨y0, y1, rfl⟩ := slist2 (hl.trans rfl)
  have g0 : DataW.trod enc Tryd.prog W 0 (fun _ => true) true k 9 [b0] = some y0 := by have := hfld 0 _ rfl; simpa [scells_9, scells_27] using this
  have g1 : DataW.trod enc Tryd.prog W 0 (fun _ => true) true k 27 [b1, b2] = some y1 := by have := hfld 1 _ rfl; simpa [scells_9, scells_27] using this
  obtain ⟨tx, e0, rfl, _⟩ := DataW.trod_string Tryd.underlying9 g0
  simp only [List.cons.injEq, and_true] at e0
  subst e0
  subst hx
  simp only [List.map_cons, List.map_nil, DataW.weights, Tryd.underlying50, DataW.weightsEach, List.nil_append, List.append_nil, List.cons_append, List.all_cons, Bool.and_eq_true, decide_eq_true_eq] at hz
  obtain ⟨z2, z3⟩ := hz
  obtain ⟨t, ht⟩ := sort_read k g1 z3
  exact ⟨tx, t, rfl, stext_reach tx z2, ht.deep⟩
set_option maxHeartbeats 1000000 in
theorem givens_open {r : Reach} {b0 : Nat} {v : Value} {d : DataW H} {p : List MemPlace} (hv : Value.okWide Tryd.prog W r b0 28 v) (h : DataW.Trod enc Tryd.prog W 0 (fun _ => true) true 28 v d p)
    (hz : (DataW.weights Tryd.prog 28 d).all (· ≤ reachBytes) = true) : ∃ m l, GsRd (fun _ => True) W m v l := by
  obtain ⟨a0, n0, c0, rfl⟩ := okWide_slice Tryd.underlying28 hv
  obtain ⟨fuel, hf⟩ := h
  have g3 : DataW.trod enc Tryd.prog W 0 (fun _ => true) true fuel 28 [.slice a0 n0 c0] = some (d, p) := hf
  rcases DataW.trod_slice Tryd.underlying28 g3 with ⟨h0, _⟩ | ⟨a, len, cap, elems, rest, m, hm, h0, hx, _, hlc, _, hel, hat, _, _⟩
  · simp only [List.cons.injEq, and_true] at h0
    rw [h0]
    exact ⟨0, [], none, 0, rfl, by decide, .inl rfl⟩
  simp only [List.cons.injEq, and_true] at h0
  injection h0 with e1 e2 e3
  subst e1; subst e2; subst e3
  obtain ⟨rfl, _⟩ := Prod.mk.inj hx
  by_cases hl0 : n0 = 0
  · subst hl0
    exact ⟨0, [], some a, c0, rfl, by decide, .inl rfl⟩
  simp only [DataW.weights, Tryd.underlying28, List.all_cons, List.all_append, Bool.and_eq_true, List.length_map, sbytes_50, reachBytes] at hz
  obtain ⟨z31, z32, _⟩ := hz
  have z30 : (elems.length + rest.length) * 56 ≤ 140737488351232 := of_decide_eq_true z31
  have kid : ∀ i, i < n0 → ∃ u0 u1 u2, W.cell? (a.add (i * 3)) = some u0 ∧ W.cell? ((a.add (i * 3)).add 1) = some u1 ∧ W.cell? ((a.add (i * 3)).add 2) = some u2 ∧ ∃ x t, u0 = .string x ∧ x.size ≤ 140737488351232 ∧ SRd (fun _ => True) W m (.agg #[u1, u2]) t := fun i hi => by
    have hi' : i < elems.length := by omega
    have h1 := hat i hi
    rw [scells_50, List.getElem?_eq_getElem hi'] at h1
    obtain ⟨cs, hcs, htr⟩ := Option.bind_eq_some_iff.1 h1
    unfold World.cells? at hcs
    rw [if_pos (Nat.zero_le _)] at hcs
    obtain ⟨x0, x1, x2, rfl⟩ := slist3 (by simpa using Lib.mapM_length hcs)
    have cell : ∀ (j : Nat) (b : Value), j < 3 → [x0, x1, x2][j]? = some b → W.cell? ((a.add (i * 3)).add j) = some b := fun j b hj hb => by
      obtain ⟨b', h2, h3⟩ := Lib.mapM_at hcs j j (by rw [List.getElem?_range hj])
      rw [hb] at h2
      rw [h3, ← Option.some.inj h2]
    have c0 := cell 0 _ (by decide) rfl
    have ea : ∀ b : Addr, b.add 0 = b := fun b => by simp [Addr.add]
    rw [ea] at c0
    refine ⟨x0, x1, x2, c0, cell 1 _ (by decide) rfl, cell 2 _ (by decide) rfl, given_read m htr (List.all_eq_true.2 fun n hn => ?_)⟩
    exact List.all_eq_true.1 z32 n (sweightsAll_mem (List.mem_map.2 ⟨_, List.getElem_mem hi', rfl⟩) hn)
  obtain ⟨g, off, sp⟩ := a
  have hsp : sp = none := by
    obtain ⟨u0, _, _, h0, _⟩ := kid 0 (by omega)
    have e0 : Addr.add ⟨g, off, sp⟩ (0 * 3) = ⟨g, off, sp⟩ := by simp [Addr.add]
    rw [e0] at h0
    exact scell_spot h0
  subst hsp
  have ea : ∀ p j, Addr.add ⟨g, p, none⟩ j = ⟨g, p + j, none⟩ := fun p j => by
    by_cases hj : j = 0
    · subst hj; simp [Addr.add]
    · simp [Addr.add, hj]
  simp only [ea] at kid
  obtain ⟨ks, hkl, hks⟩ := sks_of (n := n0) (P := fun i (t : ByteArray × S) => Gv (fun _ => True) W m g (off + i * 3) t.1 t.2) (fun i hi => by
    obtain ⟨u0, u1, u2, h0, h1, h2, x, t, rfl, hx, ht⟩ := kid i hi
    exact ⟨(x, t), h0, hx, u1, u2, ⟨h1, h2⟩, ht⟩)
  exact ⟨m, ks, some ⟨g, off, none⟩, c0, by rw [hkl], by rw [hkl]; omega, .inr ⟨g, off, rfl, trivial, hks⟩⟩
end
end Go.Proofs.YtllbelglilkdpaaDoor
/-
  A plain value that comes in, opened.
-/
namespace Go.Proofs.YtllbelglilkdpaaDoor
open Go.ChangeShapes Go.WideShapes Go.ChangeAt Go.RowKit
set_option maxRecDepth 100000
theorem cells_3 : Tryd.prog.cellsOf 3 = 1 := by kernel_rfl
theorem cells_2 : Tryd.prog.cellsOf 2 = 1 := by kernel_rfl
theorem cells_9 : Tryd.prog.cellsOf 9 = 1 := by kernel_rfl
theorem cells_29 : Tryd.prog.cellsOf 29 = 1 := by kernel_rfl
theorem cells_31 : Tryd.prog.cellsOf 31 = 4 := by kernel_rfl
theorem bytes_31 : Tryd.prog.bytesOf 31 = 56 := by kernel_rfl
theorem Rd.deep {K : Nat → Prop} {w : World} : ∀ {d : Nat} {v : Value} {t : T}, Rd K w d v t → Rd K w (d + 1) v t
  | 0, _, _, h => h.elim
  | d + 1, v, .node k n x ks, ⟨a, c, h1, h3, h4, h5⟩ => ⟨a, c, h1, h3, h4, h5.imp id fun ⟨g, off, ha, hg, hc⟩ => ⟨g, off, ha, hg, fun j hj => by
      obtain ⟨u0, u1, u2, u3, hf, hr⟩ := hc j hj
      exact ⟨u0, u1, u2, u3, hf, Rd.deep hr⟩⟩⟩
theorem list4 {α : Type} {l : List α} (h : l.length = 4) : ∃ c0 c1 c2 c3, l = [c0, c1, c2, c3] := by
  rcases l with _ | ⟨c0, _ | ⟨c1, _ | ⟨c2, _ | ⟨c3, _ | ⟨c4, l⟩⟩⟩⟩⟩
  all_goals first
    | exact ⟨_, _, _, _, rfl⟩
    | (simp at h; done)
theorem array4 {cs : Array Value} (h : cs.size = 4) : ∃ c0 c1 c2 c3, cs = #[c0, c1, c2, c3] := by
  obtain ⟨l⟩ := cs
  obtain ⟨c0, c1, c2, c3, rfl⟩ := list4 (l := l) (by simpa using h)
  exact ⟨_, _, _, _, rfl⟩
theorem weightsAll_mem {H : Type} {P : Program} {e : TypeId} {d : DataW H} {l : List (DataW H)} (h : d ∈ l) {n : Nat} (hn : n ∈ DataW.weights P e d) : n ∈ DataW.weightsAll P e l := by
  induction l with
  | nil => cases h
  | cons x r ih =>
    simp only [DataW.weightsAll, List.mem_append]
    rcases List.mem_cons.1 h with rfl | h
    · exact .inl hn
    · exact .inr (ih h)
theorem text_reach (s : ByteArray) (h : s.data.toList.length ≤ reachBytes) : s.size ≤ 140737488351232 := by
  have e : s.data.toList.length = s.size := by rw [Array.length_toList]; rfl
  rw [e] at h
  exact h
theorem cell_spot {w : World} {g off : Nat} {sp : Option _} {v : Value} (h : w.cell? ⟨g, off, sp⟩ = some v) : sp = none := by
  cases sp with
  | none => rfl
  | some s =>
    exfalso
    unfold World.cell? at h
    split at h <;> simp at h
theorem ks_of {n : Nat} {P : Nat → T → Prop} (h : ∀ j, j < n → ∃ t, P j t) : ∃ ks : List T, ks.length = n ∧ ∀ j, (hj : j < ks.length) → P j ks[j] := by
  induction n with
  | zero => exact ⟨[], rfl, fun j hj => absurd hj (Nat.not_lt_zero _)⟩
  | succ n ih =>
    obtain ⟨ks, hl, hp⟩ := ih (fun j hj => h j (by omega))
    obtain ⟨t, ht⟩ := h n (by omega)
    refine ⟨ks ++ [t], by simp [hl], fun j hj => ?_⟩
    by_cases hjn : j < ks.length
    · rw [List.getElem_append_left hjn]; exact hp j hjn
    · have : j = ks.length := by simp at hj; omega
      subst this
      simp [hl]
      exact ht
section
variable {H : Type} {enc : TypeId × Value → H} {W : World}
set_option maxHeartbeats 1000000 in
theorem plain_read : ∀ (m : Nat) {b0 b1 b2 b3 : Value} {y : DataW H × List MemPlace}, DataW.trod enc Tryd.prog W 0 (fun _ => true) true m 31 [b0, b1, b2, b3] = some y →
    (DataW.weights Tryd.prog 31 y.1).all (· ≤ reachBytes) = true → ∃ t, Rd (fun _ => True) W m (.agg #[b0, b1, b2, b3]) t := by
  intro m
  induction m using Nat.strongRecOn with
  | ind m ih =>
  intro b0 b1 b2 b3 y h hz
  obtain ⟨ys, k, hm, hx, _, hl, hfld⟩ := DataW.trod_struct Tryd.underlying31 h
  subst hm
  obtain ⟨y0, y1, y2, y3, rfl⟩ := list4 (hl.trans rfl)
  have g0 : DataW.trod enc Tryd.prog W 0 (fun _ => true) true k 3 [b0] = some y0 := by have := hfld 0 _ rfl; simpa [cells_3] using this
  have g1 : DataW.trod enc Tryd.prog W 0 (fun _ => true) true k 2 [b1] = some y1 := by have := hfld 1 _ rfl; simpa [cells_2] using this
  have g2 : DataW.trod enc Tryd.prog W 0 (fun _ => true) true k 9 [b2] = some y2 := by have := hfld 2 _ rfl; simpa [cells_9] using this
  have g3 : DataW.trod enc Tryd.prog W 0 (fun _ => true) true k 29 [b3] = some y3 := by have := hfld 3 _ rfl; simpa [cells_29] using this
  obtain ⟨kd, e0, rfl, _⟩ := DataW.trod_int Tryd.underlying3 g0
  obtain ⟨n, e1, rfl, _⟩ := DataW.trod_int Tryd.underlying2 g1
  obtain ⟨tx, e2, rfl, _⟩ := DataW.trod_string Tryd.underlying9 g2
  simp only [List.cons.injEq, and_true] at e0 e1 e2
  subst e0; subst e1; subst e2
  subst hx
  simp only [List.map_cons, List.map_nil, DataW.weights, Tryd.underlying31, DataW.weightsEach, List.nil_append, List.append_nil, List.cons_append, List.all_cons, Bool.and_eq_true, decide_eq_true_eq] at hz
  obtain ⟨z2, z3⟩ := hz
  have s2 := text_reach tx z2
  rcases DataW.trod_slice Tryd.underlying29 g3 with ⟨h0, _⟩ | ⟨a, len, cap, elems, rest, m, hm, h0, hx, _, hlc, _, hel, hat, _, _⟩
  · simp only [List.cons.injEq, and_true] at h0
    subst h0
    exact ⟨.node kd n tx [], none, 0, rfl, s2, by decide, .inl rfl⟩
  simp only [List.cons.injEq, and_true] at h0
  subst h0; subst hx; subst hm
  by_cases hl0 : len = 0
  · subst hl0
    exact ⟨.node kd n tx [], some a, cap, rfl, s2, by decide, .inl rfl⟩
  simp only [DataW.weights, Tryd.underlying29, List.all_cons, List.all_append, Bool.and_eq_true, List.length_map, bytes_31, reachBytes] at z3
  obtain ⟨z31, z32, _⟩ := z3
  have z30 : (elems.length + rest.length) * 56 ≤ 140737488351232 := of_decide_eq_true z31
  have kid : ∀ i, i < len → ∃ u0 u1 u2 u3, W.cell? (a.add (i * 4)) = some u0 ∧ W.cell? ((a.add (i * 4)).add 1) = some u1 ∧ W.cell? ((a.add (i * 4)).add 2) = some u2 ∧ W.cell? ((a.add (i * 4)).add 3) = some u3 ∧ ∃ t, Rd (fun _ => True) W m (.agg #[u0, u1, u2, u3]) t := fun i hi => by
    have hi' : i < elems.length := by omega
    have h1 := hat i hi
    rw [cells_31, List.getElem?_eq_getElem hi'] at h1
    obtain ⟨cs, hcs, htr⟩ := Option.bind_eq_some_iff.1 h1
    unfold World.cells? at hcs
    rw [if_pos (Nat.zero_le _)] at hcs
    obtain ⟨x0, x1, x2, x3, rfl⟩ := list4 (by simpa using Lib.mapM_length hcs)
    have cell : ∀ (j : Nat) (b : Value), j < 4 → [x0, x1, x2, x3][j]? = some b → W.cell? ((a.add (i * 4)).add j) = some b := fun j b hj hb => by
      obtain ⟨b', h2, h3⟩ := Lib.mapM_at hcs j j (by rw [List.getElem?_range hj])
      rw [hb] at h2
      rw [h3, ← Option.some.inj h2]
    have c0 := cell 0 _ (by decide) rfl
    have ea : ∀ b : Addr, b.add 0 = b := fun b => by simp [Addr.add]
    rw [ea] at c0
    refine ⟨x0, x1, x2, x3, c0, cell 1 _ (by decide) rfl, cell 2 _ (by decide) rfl, cell 3 _ (by decide) rfl, ih m (by omega) htr (List.all_eq_true.2 fun n hn => ?_)⟩
    exact List.all_eq_true.1 z32 n (weightsAll_mem (List.mem_map.2 ⟨_, List.getElem_mem hi', rfl⟩) hn)
  obtain ⟨g, off, sp⟩ := a
  have hsp : sp = none := by
    obtain ⟨u0, _, _, _, h0, _⟩ := kid 0 (by omega)
    have e0 : Addr.add ⟨g, off, sp⟩ (0 * 4) = ⟨g, off, sp⟩ := by simp [Addr.add]
    rw [e0] at h0
    exact cell_spot h0
  subst hsp
  have ea : ∀ p j, Addr.add ⟨g, p, none⟩ j = ⟨g, p + j, none⟩ := fun p j => by
    by_cases hj : j = 0
    · subst hj; simp [Addr.add]
    · simp [Addr.add, hj]
  simp only [ea] at kid
  obtain ⟨ks, hkl, hks⟩ := ks_of (n := len) (P := fun i t => ∃ u0 u1 u2 u3, Four W g (off + i * 4) u0 u1 u2 u3 ∧ Rd (fun _ => True) W m (.agg #[u0, u1, u2, u3]) t) (fun i hi => by
    obtain ⟨u0, u1, u2, u3, h0, h1, h2, h3, t, ht⟩ := kid i hi
    exact ⟨t, u0, u1, u2, u3, ⟨h0, h1, h2, h3⟩, ht⟩)
  refine ⟨.node kd n tx ks, Rd.deep (d := m + 1) ⟨some ⟨g, off, none⟩, cap, by rw [hkl], s2, by rw [hkl]; omega, .inr ⟨g, off, rfl, trivial, hks⟩⟩⟩
theorem plain_open {r : Reach} {b0 : Nat} {v : Value} {d : DataW H} {p : List MemPlace} (hv : Value.okWide Tryd.prog W r b0 31 v) (h : DataW.Trod enc Tryd.prog W 0 (fun _ => true) true 31 v d p)
    (hz : (DataW.weights Tryd.prog 31 d).all (· ≤ reachBytes) = true) : ∃ m t, Rd (fun _ => True) W m v t := by
  simp only [Value.okWide, Tryd.underlying31] at hv
  obtain ⟨cs, rfl, hs, _⟩ := hv
  obtain ⟨c0, c1, c2, c3, rfl⟩ := array4 (hs.trans cells_31)
  obtain ⟨fuel, hf⟩ := h
  obtain ⟨t, ht⟩ := plain_read (y := (d, p)) fuel hf hz
  exact ⟨fuel, t, ht⟩
end
end Go.Proofs.YtllbelglilkdpaaDoor
/-
  A list of calls (Ops) that comes in, opened.
-/
namespace Go.Proofs.YtllbelglilkdpaaDoor
open Go.ChangeShapes Go.WideShapes Go.ChangeAt Go.RowKit
set_option maxRecDepth 100000
theorem ocells_33 : Tryd.prog.cellsOf 33 = 11 := by kernel_rfl
theorem ocells_28 : Tryd.prog.cellsOf 28 = 1 := by kernel_rfl
theorem obytes_33 : Tryd.prog.bytesOf 33 = 184 := by kernel_rfl
theorem list6 {α : Type} {l : List α} (h : l.length = 6) : ∃ c0 c1 c2 c3 c4 c5, l = [c0, c1, c2, c3, c4, c5] := by
  rcases l with _ | ⟨c0, _ | ⟨c1, _ | ⟨c2, _ | ⟨c3, _ | ⟨c4, _ | ⟨c5, _ | ⟨c6, l⟩⟩⟩⟩⟩⟩⟩
  all_goals first
    | exact ⟨_, _, _, _, _, _, rfl⟩
    | (simp at h; done)
theorem list11 {α : Type} {l : List α} (h : l.length = 11) : ∃ c0 c1 c2 c3 c4 c5 c6 c7 c8 c9 c10, l = [c0, c1, c2, c3, c4, c5, c6, c7, c8, c9, c10] := by
  rcases l with _ | ⟨c0, _ | ⟨c1, _ | ⟨c2, _ | ⟨c3, _ | ⟨c4, _ | ⟨c5, _ | ⟨c6, _ | ⟨c7, _ | ⟨c8, _ | ⟨c9, _ | ⟨c10, _ | ⟨c11, l⟩⟩⟩⟩⟩⟩⟩⟩⟩⟩⟩⟩
  all_goals first
    | exact ⟨_, _, _, _, _, _, _, _, _, _, _, rfl⟩
    | (simp at h; done)
/-- What a call is told: its number, two sorts, a text, givens and a plain value. -/
structure OpV where
  (kd pk pn : Int) (x x' sx px : ByteArray) (a a' ga pa : Option Addr) (kl c kl' c' gl gc pl pc : Nat) (t u : S) (l : List (ByteArray × S)) (p : T) (m m' mg mp : Nat)
def OpV.cells (o : OpV) : Array Value := #[.int .i64 o.kd, .string o.x, .slice o.a o.kl o.c, .string o.x', .slice o.a' o.kl' o.c', .string o.sx, .slice o.ga o.gl o.gc, .int .i64 o.pk, .int .i64 o.pn, .string o.px, .slice o.pa o.pl o.pc]
/-- What it reads as. -/
def OpV.Ok (o : OpV) (W : World) : Prop := SRd (fun _ => True) W o.m (.agg #[.string o.x, .slice o.a o.kl o.c]) o.t ∧ SRd (fun _ => True) W o.m' (.agg #[.string o.x', .slice o.a' o.kl' o.c']) o.u ∧ o.sx.size ≤ 140737488351232 ∧ GsRd (fun _ => True) W o.mg (.slice o.ga o.gl o.gc) o.l ∧
  Rd (fun _ => True) W o.mp (.agg #[.int .i64 o.pk, .int .i64 o.pn, .string o.px, .slice o.pa o.pl o.pc]) o.p
/-- What lies at a place: a call. -/
def OpAt (W : World) (g o : Nat) : Prop := ∃ p : OpV, (∀ j v, p.cells[j]? = some v → W.cell? ⟨g, o + j, none⟩ = some v) ∧ p.Ok W
/-- A list of them. -/
def Ops (W : World) (a : Option Addr) (n : Nat) : Prop := ∀ i, i < n → ∃ g off, a = some ⟨g, off, none⟩ ∧ OpAt W g (off + i * 11)
section
variable {H : Type} {enc : TypeId × Value → H} {W : World}
set_option maxHeartbeats 1000000 in
theorem givens_read {fuel : Nat} {v : Value} {y : DataW H × List MemPlace} (g3 : DataW.trod enc Tryd.prog W 0 (fun _ => true) true fuel 28 [v] = some y)
    (hz : (DataW.weights Tryd.prog 28 y.1).all (· ≤ reachBytes) = true) : ∃ m l, GsRd (fun _ => True) W m v l := by
  rcases DataW.trod_slice Tryd.underlying28 g3 with ⟨h0, _⟩ | ⟨a, len, cap, elems, rest, m, hm, h0, hx, _, hlc, _, hel, hat, _, _⟩
  · simp only [List.cons.injEq, and_true] at h0
    rw [h0]
    exact ⟨0, [], none, 0, rfl, by decide, .inl rfl⟩
  simp only [List.cons.injEq, and_true] at h0
  subst h0
  subst hx
  by_cases hl0 : len = 0
  · subst hl0
    exact ⟨0, [], some a, cap, rfl, by decide, .inl rfl⟩
  simp only [DataW.weights, Tryd.underlying28, List.all_cons, List.all_append, Bool.and_eq_true, List.length_map, sbytes_50, reachBytes] at hz
  obtain ⟨z31, z32, _⟩ := hz
  have z30 : (elems.length + rest.length) * 56 ≤ 140737488351232 := of_decide_eq_true z31
  have kid : ∀ i, i < len → ∃ u0 u1 u2, W.cell? (a.add (i * 3)) = some u0 ∧ W.cell? ((a.add (i * 3)).add 1) = some u1 ∧ W.cell? ((a.add (i * 3)).add 2) = some u2 ∧ ∃ x t, u0 = .string x ∧ x.size ≤ 140737488351232 ∧ SRd (fun _ => True) W m (.agg #[u1, u2]) t := fun i hi => by
    have hi' : i < elems.length := by omega
    have h1 := hat i hi
    rw [scells_50, List.getElem?_eq_getElem hi'] at h1
    obtain ⟨cs, hcs, htr⟩ := Option.bind_eq_some_iff.1 h1
    unfold World.cells? at hcs
    rw [if_pos (Nat.zero_le _)] at hcs
    obtain ⟨x0, x1, x2, rfl⟩ := slist3 (by simpa using Lib.mapM_length hcs)
    have cell : ∀ (j : Nat) (b : Value), j < 3 → [x0, x1, x2][j]? = some b → W.cell? ((a.add (i * 3)).add j) = some b := fun j b hj hb => by
      obtain ⟨b', h2, h3⟩ := Lib.mapM_at hcs j j (by rw [List.getElem?_range hj])
      rw [hb] at h2
      rw [h3, ← Option.some.inj h2]
    have c0 := cell 0 _ (by decide) rfl
    have ea : ∀ b : Addr, b.add 0 = b := fun b => by simp [Addr.add]
    rw [ea] at c0
    refine ⟨x0, x1, x2, c0, cell 1 _ (by decide) rfl, cell 2 _ (by decide) rfl, given_read m htr (List.all_eq_true.2 fun n hn => ?_)⟩
    exact List.all_eq_true.1 z32 n (sweightsAll_mem (List.mem_map.2 ⟨_, List.getElem_mem hi', rfl⟩) hn)
  obtain ⟨g, off, sp⟩ := a
  have hsp : sp = none := by
    obtain ⟨u0, _, _, h0, _⟩ := kid 0 (by omega)
    have e0 : Addr.add ⟨g, off, sp⟩ (0 * 3) = ⟨g, off, sp⟩ := by simp [Addr.add]
    rw [e0] at h0
    exact scell_spot h0
  subst hsp
  have ea : ∀ p j, Addr.add ⟨g, p, none⟩ j = ⟨g, p + j, none⟩ := fun p j => by
    by_cases hj : j = 0
    · subst hj; simp [Addr.add]
    · simp [Addr.add, hj]
  simp only [ea] at kid
  obtain ⟨ks, hkl, hks⟩ := sks_of (n := len) (P := fun i (t : ByteArray × S) => Gv (fun _ => True) W m g (off + i * 3) t.1 t.2) (fun i hi => by
    obtain ⟨u0, u1, u2, h0, h1, h2, x, t, rfl, hx, ht⟩ := kid i hi
    exact ⟨(x, t), h0, hx, u1, u2, ⟨h1, h2⟩, ht⟩)
  exact ⟨m, ks, some ⟨g, off, none⟩, cap, by rw [hkl], by rw [hkl]; omega, .inr ⟨g, off, rfl, trivial, hks⟩⟩
set_option maxHeartbeats 1000000 in
theorem op_read {g o m : Nat} {b0 b1 b2 b3 b4 b5 b6 b7 b8 b9 b10 : Value} {y : DataW H × List MemPlace} (h : DataW.trod enc Tryd.prog W 0 (fun _ => true) true m 33 [b0, b1, b2, b3, b4, b5, b6, b7, b8, b9, b10] = some y)
    (hz : (DataW.weights Tryd.prog 33 y.1).all (· ≤ reachBytes) = true) (hc : ∀ (j : Nat) (b : Value), j < 11 → [b0, b1, b2, b3, b4, b5, b6, b7, b8, b9, b10][j]? = some b → W.cell? ⟨g, o + j, none⟩ = some b) : OpAt W g o := by
  obtain ⟨ys, k, _, hx, _, hl, hfld⟩ := DataW.trod_struct Tryd.underlying33 h
  obtain ⟨y0, y1, y2, y3, y4, y5, rfl⟩ := list6 (hl.trans rfl)
  have g0 : DataW.trod enc Tryd.prog W 0 (fun _ => true) true k 3 [b0] = some y0 := by have := hfld 0 _ rfl; simpa [cells_3] using this
  have g1 : DataW.trod enc Tryd.prog W 0 (fun _ => true) true k 27 [b1, b2] = some y1 := by have := hfld 1 _ rfl; simpa [cells_3, scells_27] using this
  have g2 : DataW.trod enc Tryd.prog W 0 (fun _ => true) true k 27 [b3, b4] = some y2 := by have := hfld 2 _ rfl; simpa [cells_3, scells_27] using this
  have g3 : DataW.trod enc Tryd.prog W 0 (fun _ => true) true k 9 [b5] = some y3 := by have := hfld 3 _ rfl; simpa [cells_3, scells_27, cells_9] using this
  have g4 : DataW.trod enc Tryd.prog W 0 (fun _ => true) true k 28 [b6] = some y4 := by have := hfld 4 _ rfl; simpa [cells_3, scells_27, cells_9, ocells_28] using this
  have g5 : DataW.trod enc Tryd.prog W 0 (fun _ => true) true k 31 [b7, b8, b9, b10] = some y5 := by have := hfld 5 _ rfl; simpa [cells_3, scells_27, cells_9, ocells_28, cells_31] using this
  obtain ⟨kd, e0, rfl, _⟩ := DataW.trod_int Tryd.underlying3 g0
  obtain ⟨sx, e3, rfl, _⟩ := DataW.trod_string Tryd.underlying9 g3
  simp only [List.cons.injEq, and_true] at e0 e3
  subst e0; subst e3
  subst hx
  simp only [List.map_cons, List.map_nil, DataW.weights, Tryd.underlying33, DataW.weightsEach, List.nil_append, List.append_nil, List.all_append, Bool.and_eq_true, List.all_cons, decide_eq_true_eq, List.cons_append] at hz
  obtain ⟨z1, z2, z3, z4, z5⟩ := hz
  obtain ⟨t, ht⟩ := sort_read k g1 z1
  obtain ⟨u, hu⟩ := sort_read k g2 z2
  have s3 := text_reach sx z3
  obtain ⟨mg, lg, hg⟩ := givens_read g4 z4
  obtain ⟨p, hp⟩ := plain_read k g5 z5
  obtain ⟨a1, c1, e1⟩ := ht.shape
  obtain ⟨a2, c2, e2⟩ := hu.shape
  have e1' : b1 = .string t.name ∧ b2 = .slice a1 t.kids.length c1 := by simpa using e1
  have e2' : b3 = .string u.name ∧ b4 = .slice a2 u.kids.length c2 := by simpa using e2
  obtain ⟨rfl, rfl⟩ := e1'
  obtain ⟨rfl, rfl⟩ := e2'
  obtain ⟨ga, gc, rfl, hg2⟩ := hg
  obtain ⟨pk, pn, px, pa, pc, rfl, rfl, rfl, rfl⟩ := hp.shape
  refine ⟨⟨kd, pk, pn, t.name, u.name, sx, px, a1, a2, ga, pa, _, c1, _, c2, lg.length, gc, _, pc, t, u, lg, p, k, k, mg, k⟩, fun j v hv => ?_, ht, hu, s3, ⟨ga, gc, rfl, hg2⟩, hp⟩
  have hj : j < 11 := (Array.getElem?_eq_some_iff.1 hv).1
  refine hc j v hj ?_
  rw [← hv]
  unfold OpV.cells
  simp
theorem ops_open {r : Reach} {b0 : Nat} {v : Value} {d : DataW H} {p : List MemPlace} (hv : Value.okWide Tryd.prog W r b0 22 v) (h : DataW.Trod enc Tryd.prog W 0 (fun _ => true) true 22 v d p)
    (hz : (DataW.weights Tryd.prog 22 d).all (· ≤ reachBytes) = true) : ∃ a n c, v = .slice a n c ∧ Ops W a n ∧ n * 184 ≤ 140737488351232 := by
  obtain ⟨a0, n0, c0, rfl⟩ := okWide_slice Tryd.underlying22 hv
  obtain ⟨fuel, hf⟩ := h
  have hf' : DataW.trod enc Tryd.prog W 0 (fun _ => true) true fuel 22 [.slice a0 n0 c0] = some (d, p) := hf
  rcases DataW.trod_slice Tryd.underlying22 hf' with ⟨h0, _⟩ | ⟨a, len, cap, elems, rest, m, _, h0, hx, _, hlc, _, hel, hat, _, _⟩
  · simp only [List.cons.injEq, and_true] at h0
    injection h0 with e1 e2 e3
    subst e1; subst e2; subst e3
    exact ⟨none, 0, 0, rfl, fun i hi => absurd hi (Nat.not_lt_zero _), by omega⟩
  · simp only [List.cons.injEq, and_true] at h0
    injection h0 with e1 e2 e3
    subst e1; subst e2; subst e3
    have hsp : a.spot = none := by
      simp only [Value.okWide, Tryd.underlying22, Cell.okWide, Cell.ok] at hv
      exact hv.2.2.2.1
    obtain ⟨g, off, sp⟩ := a
    have hsp' : sp = none := hsp
    subst hsp'
    simp only [Prod.mk.injEq] at hx
    obtain ⟨rfl, _⟩ := hx
    simp only [DataW.weights, Tryd.underlying22, List.all_cons, List.all_append, Bool.and_eq_true, List.length_map, obytes_33, reachBytes] at hz
    obtain ⟨z1, z2, _⟩ := hz
    have z0 : (elems.length + rest.length) * 184 ≤ 140737488351232 := of_decide_eq_true z1
    have ea : ∀ p j, Addr.add ⟨g, p, none⟩ j = ⟨g, p + j, none⟩ := fun p j => by
      by_cases hj : j = 0
      · subst hj; simp [Addr.add]
      · simp [Addr.add, hj]
    refine ⟨some ⟨g, off, none⟩, n0, c0, rfl, fun i hi => ⟨g, off, rfl, ?_⟩, by omega⟩
    have hi' : i < elems.length := by omega
    have h1 := hat i hi
    rw [ocells_33, ea, List.getElem?_eq_getElem hi'] at h1
    obtain ⟨cs, hcs, htr⟩ := Option.bind_eq_some_iff.1 h1
    unfold World.cells? at hcs
    rw [if_pos (Nat.zero_le _)] at hcs
    obtain ⟨x0, x1, x2, x3, x4, x5, x6, x7, x8, x9, x10, rfl⟩ := list11 (by simpa using Lib.mapM_length hcs)
    have hmem : elems[i].1 ∈ elems.map (·.1) := List.mem_map.2 ⟨_, List.getElem_mem hi', rfl⟩
    refine op_read htr (List.all_eq_true.2 fun n hn => List.all_eq_true.1 z2 n (sweightsAll_mem hmem hn)) (fun j b hj hb => ?_)
    obtain ⟨b', h2, h3⟩ := Lib.mapM_at hcs j j (by rw [List.getElem?_range hj])
    rw [hb] at h2
    rw [ea] at h3
    rw [h3, ← Option.some.inj h2]
end
end Go.Proofs.YtllbelglilkdpaaDoor
