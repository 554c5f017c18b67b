/-
  Rows, trees and lists of them that come in, opened.
-/
import Derived.Test.YtaodkfchmaendaaGreatDoorKMay
import Derived.ProofKit
import Derived.OpenShut
import Derived.ChangeSlices
import Derived.SizedLaws
import Derived.Lib.LaidTab
namespace Go.Proofs.YtaodkfchmaendaaGreatDoor
open Go.ChangeShapes Go.WideShapes Go.ChangeAt Go.RowKit
set_option maxRecDepth 100000
theorem jcells_st : Tryz.prog.cellsOf 9 = 1 := by kernel_rfl
theorem jcells_ss : Tryz.prog.cellsOf 35 = 1 := by kernel_rfl
theorem jcells_it : Tryz.prog.cellsOf 3 = 1 := by kernel_rfl
theorem jcells_i6 : Tryz.prog.cellsOf 2 = 1 := by kernel_rfl
theorem jcells_bo : Tryz.prog.cellsOf 4 = 1 := by kernel_rfl
theorem jcells_rt : Tryz.prog.cellsOf 37 = 6 := by kernel_rfl
theorem jcells_tr : Tryz.prog.cellsOf 24 = 4 := by kernel_rfl
theorem jcells_ts : Tryz.prog.cellsOf 22 = 1 := by kernel_rfl
theorem jbytes_st : Tryz.prog.bytesOf 9 = 16 := by kernel_rfl
theorem jbytes_tr : Tryz.prog.bytesOf 24 = 64 := by kernel_rfl
theorem jlist4 {α : Type} {l : List α} (h : l.length = 4) : ∃ c0 c1 c2 c3, l = [c0, c1, c2, c3] := by
  rcases l with _ | ⟨c0, _ | ⟨c1, _ | ⟨c2, _ | ⟨c3, _ | ⟨c4, l⟩⟩⟩⟩⟩
  all_goals first
    | exact ⟨_, _, _, _, rfl⟩
    | (simp at h; done)
theorem jlist6 {α : Type} {l : List α} (h : l.length = 6) : ∃ c0 c1 c2 c3 c4 c5, l = [c0, c1, c2, c3, c4, c5] := by
  rcases l with _ | ⟨c0, _ | ⟨c1, _ | ⟨c2, _ | ⟨c3, _ | ⟨c4, _ | ⟨c5, _ | ⟨c6, l⟩⟩⟩⟩⟩⟩⟩
  all_goals first
    | exact ⟨_, _, _, _, _, _, rfl⟩
    | (simp at h; done)
theorem jweightsAll_mem {H : Type} {P : Program} {e : TypeId} {d : DataW H} {l : List (DataW H)} (h : d ∈ l) {n : Nat} (hn : n ∈ DataW.weights P e d) : n ∈ DataW.weightsAll P e l := by
  induction l with
  | nil => cases h
  | cons x r ih =>
    simp only [DataW.weightsAll, List.mem_append]
    rcases List.mem_cons.1 h with rfl | h
    · exact .inl hn
    · exact .inr (ih h)
theorem jcell_spot {w : World} {g off : Nat} {sp : Option _} {v : Value} (h : w.cell? ⟨g, off, sp⟩ = some v) : sp = none := by
  cases sp with
  | none => rfl
  | some s =>
    exfalso
    unfold World.cell? at h
    split at h <;> simp at h
theorem jtext_reach (s : ByteArray) (h : s.data.toList.length ≤ reachBytes) : s.size ≤ 140737488351232 := by
  have e : s.data.toList.length = s.size := by rw [Array.length_toList]; rfl
  rw [e] at h
  exact h
theorem jadd (g p j : Nat) : Addr.add ⟨g, p, none⟩ j = ⟨g, p + j, none⟩ := by
  by_cases hj : j = 0
  · subst hj; simp [Addr.add]
  · simp [Addr.add, hj]
theorem jtexts_of {n : Nat} {P : Nat → ByteArray → Prop} (h : ∀ j, j < n → ∃ t, P j t) : ∃ ks : List ByteArray, ks.length = n ∧ ∀ j, (hj : j < ks.length) → P j ks[j] := by
  induction n with
  | zero => exact ⟨[], rfl, fun j hj => absurd hj (Nat.not_lt_zero _)⟩
  | succ n ih =>
    obtain ⟨ks, hl, hp⟩ := ih (fun j hj => h j (by omega))
    obtain ⟨t, ht⟩ := h n (by omega)
    refine ⟨ks ++ [t], by simp [hl], fun j hj => ?_⟩
    by_cases hjn : j < ks.length
    · rw [List.getElem_append_left hjn]; exact hp j hjn
    · have : j = ks.length := by simp at hj; omega
      subst this
      simp [hl]
      exact ht
section
variable {H : Type} {enc : TypeId × Value → H} {W : World}
/-- A list of texts. -/
theorem jtexts_read {fuel : Nat} {v : Value} {y : DataW H × List MemPlace} (h : DataW.trod enc Tryz.prog W 0 (fun _ => true) true fuel 35 [v] = some y)
    (hz : (DataW.weights Tryz.prog 35 y.1).all (· ≤ reachBytes) = true) : ∃ a c xs, v = .slice a xs.length c ∧ TRow W a xs ∧ xs.length * 16 ≤ 140737488351232 := by
  rcases DataW.trod_slice Tryz.underlying35 h with ⟨h0, _⟩ | ⟨a, len, cap, elems, rest, m, hm, h0, hx, _, hlc, _, hel, hat, _, _⟩
  · simp only [List.cons.injEq, and_true] at h0
    subst h0
    exact ⟨none, 0, [], rfl, .inl rfl, by decide⟩
  simp only [List.cons.injEq, and_true] at h0
  subst h0; subst hx
  simp only [DataW.weights, Tryz.underlying35, List.all_cons, List.all_append, Bool.and_eq_true, List.length_map, jbytes_st, reachBytes] at hz
  obtain ⟨z1, z2, _⟩ := hz
  have z0 : (elems.length + rest.length) * 16 ≤ 140737488351232 := of_decide_eq_true z1
  by_cases hl0 : len = 0
  · subst hl0
    exact ⟨some a, cap, [], rfl, .inl rfl, by decide⟩
  have kid : ∀ i, i < len → ∃ s, W.cell? (a.add i) = some (.string s) := fun i hi => by
    have hi' : i < elems.length := by omega
    have h1 := hat i hi
    rw [jcells_st, List.getElem?_eq_getElem hi', Nat.mul_one] at h1
    obtain ⟨cs, hcs, htr⟩ := Option.bind_eq_some_iff.1 h1
    unfold World.cells? at hcs
    rw [if_pos (Nat.zero_le _)] at hcs
    obtain ⟨s, e, _, _⟩ := DataW.trod_string Tryz.underlying9 htr
    subst e
    obtain ⟨b', h2, h3⟩ := Lib.mapM_at hcs 0 0 (by rfl)
    have ea : ∀ b : Addr, b.add 0 = b := fun b => by simp [Addr.add]
    rw [ea] at h3
    exact ⟨s, by rw [h3, ← Option.some.inj h2]⟩
  obtain ⟨g, off, sp⟩ := a
  have hsp : sp = none := by
    obtain ⟨s, h0⟩ := kid 0 (by omega)
    have e0 : Addr.add ⟨g, off, sp⟩ 0 = ⟨g, off, sp⟩ := by simp [Addr.add]
    rw [e0] at h0
    exact jcell_spot h0
  subst hsp
  simp only [jadd] at kid
  obtain ⟨ks, hkl, hks⟩ := jtexts_of kid
  exact ⟨some ⟨g, off, none⟩, cap, ks, by rw [hkl], .inr ⟨g, off, rfl, hks⟩, by rw [hkl]; omega⟩
/-- A row's cells. -/
theorem jrow_read {fuel : Nat} {b0 b1 b2 b3 b4 b5 : Value} {y : DataW H × List MemPlace} (h : DataW.trod enc Tryz.prog W 0 (fun _ => true) true fuel 37 [b0, b1, b2, b3, b4, b5] = some y)
    (hz : (DataW.weights Tryz.prog 37 y.1).all (· ≤ reachBytes) = true) : ∃ (r : Rw) (a : Option Addr) (c : Nat), b0 = .string r.kind ∧ b1 = .int .i64 r.min ∧ b2 = .int .i64 r.max ∧ b3 = .bool r.num ∧ b4 = .int .i64 r.text ∧ b5 = .slice a r.abs.length c ∧ TRow W a r.abs ∧ r.kind.size ≤ 140737488351232 ∧ r.abs.length * 16 ≤ 140737488351232 := by
  obtain ⟨ys, k, _, hx, _, hl, hfld⟩ := DataW.trod_struct Tryz.underlying37 h
  obtain ⟨y0, y1, y2, y3, y4, y5, rfl⟩ := jlist6 (hl.trans rfl)
  have g0 : DataW.trod enc Tryz.prog W 0 (fun _ => true) true k 9 [b0] = some y0 := by have := hfld 0 _ rfl; simpa [jcells_st] using this
  have g1 : DataW.trod enc Tryz.prog W 0 (fun _ => true) true k 3 [b1] = some y1 := by have := hfld 1 _ rfl; simpa [jcells_it] using this
  have g2 : DataW.trod enc Tryz.prog W 0 (fun _ => true) true k 3 [b2] = some y2 := by have := hfld 2 _ rfl; simpa [jcells_it] using this
  have g3 : DataW.trod enc Tryz.prog W 0 (fun _ => true) true k 4 [b3] = some y3 := by have := hfld 3 _ rfl; simpa [jcells_bo] using this
  have g4 : DataW.trod enc Tryz.prog W 0 (fun _ => true) true k 3 [b4] = some y4 := by have := hfld 4 _ rfl; simpa [jcells_it] using this
  have g5 : DataW.trod enc Tryz.prog W 0 (fun _ => true) true k 35 [b5] = some y5 := by have := hfld 5 _ rfl; simpa [jcells_ss] using this
  obtain ⟨kd, e0, rfl, _⟩ := DataW.trod_string Tryz.underlying9 g0
  obtain ⟨mn, e1, rfl, _⟩ := DataW.trod_int Tryz.underlying3 g1
  obtain ⟨mx, e2, rfl, _⟩ := DataW.trod_int Tryz.underlying3 g2
  obtain ⟨nm, e3, rfl⟩ := DataW.trod_bool Tryz.underlying4 g3
  obtain ⟨tx, e4, rfl, _⟩ := DataW.trod_int Tryz.underlying3 g4
  simp only [List.cons.injEq, and_true] at e0 e1 e2 e3 e4
  subst e0; subst e1; subst e2; subst e3; subst e4
  subst hx
  simp only [List.map_cons, List.map_nil, DataW.weights, Tryz.underlying37, DataW.weightsEach, List.nil_append, List.append_nil, List.cons_append, List.all_cons, Bool.and_eq_true, decide_eq_true_eq] at hz
  obtain ⟨z0, z5⟩ := hz
  obtain ⟨a, c, xs, rfl, ht, hb⟩ := jtexts_read g5 z5
  exact ⟨⟨kd, mn, mx, nm, tx, xs⟩, a, c, rfl, rfl, rfl, rfl, rfl, rfl, ht, jtext_reach kd z0, hb⟩
/-- A tree's cells; its kids are not looked at. -/
theorem jtree_read {fuel : Nat} {b0 b1 b2 b3 : Value} {y : DataW H × List MemPlace} (h : DataW.trod enc Tryz.prog W 0 (fun _ => true) true fuel 24 [b0, b1, b2, b3] = some y)
    (hz : (DataW.weights Tryz.prog 24 y.1).all (· ≤ reachBytes) = true) : ∃ k n x a m c, b0 = .string k ∧ b1 = .int .i64 n ∧ b2 = .string x ∧ b3 = .slice a m c ∧ k.size ≤ 140737488351232 ∧ x.size ≤ 140737488351232 ∧ m * 64 ≤ 140737488351232 := by
  obtain ⟨ys, f, _, hx, _, hl, hfld⟩ := DataW.trod_struct Tryz.underlying24 h
  obtain ⟨y0, y1, y2, y3, rfl⟩ := jlist4 (hl.trans rfl)
  have g0 : DataW.trod enc Tryz.prog W 0 (fun _ => true) true f 9 [b0] = some y0 := by have := hfld 0 _ rfl; simpa [jcells_st] using this
  have g1 : DataW.trod enc Tryz.prog W 0 (fun _ => true) true f 2 [b1] = some y1 := by have := hfld 1 _ rfl; simpa [jcells_i6] using this
  have g2 : DataW.trod enc Tryz.prog W 0 (fun _ => true) true f 9 [b2] = some y2 := by have := hfld 2 _ rfl; simpa [jcells_st] using this
  have g3 : DataW.trod enc Tryz.prog W 0 (fun _ => true) true f 22 [b3] = some y3 := by have := hfld 3 _ rfl; simpa [jcells_ts] using this
  obtain ⟨kd, e0, rfl, _⟩ := DataW.trod_string Tryz.underlying9 g0
  obtain ⟨n, e1, rfl, _⟩ := DataW.trod_int Tryz.underlying2 g1
  obtain ⟨tx, e2, rfl, _⟩ := DataW.trod_string Tryz.underlying9 g2
  simp only [List.cons.injEq, and_true] at e0 e1 e2
  subst e0; subst e1; subst e2
  subst hx
  simp only [List.map_cons, List.map_nil, DataW.weights, Tryz.underlying24, DataW.weightsEach, List.nil_append, List.append_nil, List.cons_append, List.all_cons, Bool.and_eq_true, decide_eq_true_eq] at hz
  obtain ⟨z0, z2, z3⟩ := hz
  have s0 := jtext_reach kd z0
  have s2 := jtext_reach tx z2
  rcases DataW.trod_slice Tryz.underlying22 g3 with ⟨h0, _⟩ | ⟨a, len, cap, elems, rest, m, hm, h0, hx, _, hlc, _, hel, hat, _, _⟩
  · simp only [List.cons.injEq, and_true] at h0
    subst h0
    exact ⟨kd, n, tx, none, 0, 0, rfl, rfl, rfl, rfl, s0, s2, by decide⟩
  simp only [List.cons.injEq, and_true] at h0
  subst h0; subst hx
  simp only [DataW.weights, Tryz.underlying22, List.all_cons, List.all_append, Bool.and_eq_true, List.length_map, jbytes_tr, reachBytes] at z3
  have z30 : (elems.length + rest.length) * 64 ≤ 140737488351232 := of_decide_eq_true z3.1
  exact ⟨kd, n, tx, some a, len, cap, rfl, rfl, rfl, rfl, s0, s2, by omega⟩
theorem jtree_open {r : Reach} {b0 : Nat} {v : Value} {d : DataW H} {p : List MemPlace} (hv : Value.okWide Tryz.prog W r b0 24 v) (h : DataW.Trod enc Tryz.prog W 0 (fun _ => true) true 24 v d p)
    (hz : (DataW.weights Tryz.prog 24 d).all (· ≤ reachBytes) = true) : ∃ k n x a m c, v = .agg #[.string k, .int .i64 n, .string x, .slice a m c] ∧ k.size ≤ 140737488351232 ∧ x.size ≤ 140737488351232 ∧ m * 64 ≤ 140737488351232 := by
  simp only [Value.okWide, Tryz.underlying24] at hv
  obtain ⟨⟨cs⟩, rfl, hs, _⟩ := hv
  obtain ⟨c0, c1, c2, c3, rfl⟩ := jlist4 (l := cs) (by simpa using hs.trans jcells_tr)
  obtain ⟨fuel, hf⟩ := h
  obtain ⟨k, n, x, a, m, c, rfl, rfl, rfl, rfl, h1, h2, h3⟩ := jtree_read (y := (d, p)) hf hz
  exact ⟨k, n, x, a, m, c, rfl, h1, h2, h3⟩
end
end Go.Proofs.YtaodkfchmaendaaGreatDoor
