/-
  A list of calls (Ops) that comes in, opened.
-/
import Derived.Test.YthdmoghooaccgaaTreeIn
import Derived.Test.YthdmoghooaccgaaPathAid
namespace Go.Proofs.Ythdmoghooaccgaa
open Go.ChangeShapes Go.WideShapes Go.ChangeAt Go.RowKit
set_option maxRecDepth 100000
theorem cells_3 : Try.prog.cellsOf 3 = 1 := by kernel_rfl
theorem cells_27 : Try.prog.cellsOf 27 = 1 := by kernel_rfl
theorem cells_29 : Try.prog.cellsOf 29 = 11 := by kernel_rfl
theorem bytes_3 : Try.prog.bytesOf 3 = 8 := by kernel_rfl
theorem bytes_29 : Try.prog.bytesOf 29 = 168 := by kernel_rfl
theorem list5 {α : Type} {l : List α} (h : l.length = 5) : ∃ c0 c1 c2 c3 c4, l = [c0, c1, c2, c3, c4] := by
  rcases l with _ | ⟨c0, _ | ⟨c1, _ | ⟨c2, _ | ⟨c3, _ | ⟨c4, _ | ⟨c5, l⟩⟩⟩⟩⟩⟩
  all_goals first
    | exact ⟨_, _, _, _, _, rfl⟩
    | (simp at h; done)
theorem list11 {α : Type} {l : List α} (h : l.length = 11) : ∃ c0 c1 c2 c3 c4 c5 c6 c7 c8 c9 c10, l = [c0, c1, c2, c3, c4, c5, c6, c7, c8, c9, c10] := by
  rcases l with _ | ⟨c0, _ | ⟨c1, _ | ⟨c2, _ | ⟨c3, _ | ⟨c4, _ | ⟨c5, _ | ⟨c6, _ | ⟨c7, _ | ⟨c8, _ | ⟨c9, _ | ⟨c10, _ | ⟨c11, l⟩⟩⟩⟩⟩⟩⟩⟩⟩⟩⟩⟩
  all_goals first
    | exact ⟨_, _, _, _, _, _, _, _, _, _, _, rfl⟩
    | (simp at h; done)
/-- What lies at a place: a call. -/
def OpAt (W : World) (g o : Nat) : Prop := ∃ kd k n x a kl c k' n' x' a' kl' c' pa pc st m m' t u, ∃ p : List Int,
  (W.cell? ⟨g, o, none⟩ = some (.int .i64 kd) ∧ W.cell? ⟨g, o + 1, none⟩ = some (.string k) ∧ W.cell? ⟨g, o + 2, none⟩ = some (.int .i64 n) ∧ W.cell? ⟨g, o + 3, none⟩ = some (.string x) ∧ W.cell? ⟨g, o + 4, none⟩ = some (.slice a kl c) ∧ W.cell? ⟨g, o + 5, none⟩ = some (.string k') ∧ W.cell? ⟨g, o + 6, none⟩ = some (.int .i64 n') ∧ W.cell? ⟨g, o + 7, none⟩ = some (.string x') ∧ W.cell? ⟨g, o + 8, none⟩ = some (.slice a' kl' c') ∧ W.cell? ⟨g, o + 9, none⟩ = some (.slice pa p.length pc) ∧ W.cell? ⟨g, o + 10, none⟩ = some (.int .i64 st)) ∧
  Rd (fun _ => True) W m (.agg #[.string k, .int .i64 n, .string x, .slice a kl c]) t ∧ Rd (fun _ => True) W m' (.agg #[.string k', .int .i64 n', .string x', .slice a' kl' c']) u ∧ Ints W (.slice pa p.length pc) p ∧ p.length * 8 ≤ 140737488351232
/-- A list of them. -/
def Ops (W : World) (a : Option Addr) (n : Nat) : Prop := ∀ i, i < n → ∃ g off, a = some ⟨g, off, none⟩ ∧ OpAt W g (off + i * 11)
section
variable {H : Type} {enc : TypeId × Value → H} {W : World}
/-- What a slice of ints that came in reads as. -/
theorem ints_open {fuel : Nat} {v : Value} {y : DataW H × List MemPlace} (h : DataW.trod enc Try.prog W 0 (fun _ => true) true fuel 27 [v] = some y)
    (hz : (DataW.weights Try.prog 27 y.1).all (· ≤ reachBytes) = true) : ∃ a c xs, v = .slice a xs.length c ∧ Ints W (.slice a xs.length c) xs ∧ xs.length * 8 ≤ 140737488351232 := by
  rcases open_ints Try.underlying27 Try.underlying3 cells_3 h with ⟨h0, _⟩ | ⟨a, len, cap, zs, h0, _, hl, hm, hzs, rfl, hc, _⟩
  · simp only [List.cons.injEq, and_true] at h0
    subst h0
    exact ⟨none, 0, [], rfl, Ints.nil _ _ _, by decide⟩
  · simp only [List.cons.injEq, and_true] at h0
    subst h0
    have hzc : zs.length = cap := by simpa using hzs
    have hw : ((lits (H := H) .i64 (zs.take len)).length + (lits (H := H) .i64 (zs.drop len)).length) * Try.prog.bytesOf 3 ≤ reachBytes := by
      have := List.all_eq_true.1 hz (((lits (H := H) .i64 (zs.take len)).length + (lits (H := H) .i64 (zs.drop len)).length) * Try.prog.bytesOf 3) (by simp [DataW.weights, Try.underlying27])
      simpa using this
    rw [bytes_3] at hw
    simp only [lits, List.length_map, List.length_take, List.length_drop, reachBytes] at hw
    have hxl : (zs.take len).length = len := by simp; omega
    cases len with
    | zero => exact ⟨some a, cap, [], rfl, Ints.nil _ _ _, by decide⟩
    | succ len =>
      obtain ⟨g, off, sp⟩ := a
      have hsp' : sp = none := by
        have h0 := hc 0 (by omega)
        have e0 : Addr.add ⟨g, off, sp⟩ 0 = ⟨g, off, sp⟩ := by simp [Addr.add]
        rw [e0] at h0
        cases sp with
        | none => rfl
        | some s =>
          exfalso
          unfold World.cell? at h0
          split at h0 <;> simp at h0
      subst hsp'
      refine ⟨some ⟨g, off, none⟩, cap, zs.take (len + 1), by rw [hxl], .inr ⟨g, off, cap, by rw [hxl], fun j u hu => ?_⟩, by omega⟩
      have hj : j < len + 1 := by have := (List.getElem?_eq_some_iff.1 hu).1; omega
      rw [List.getElem?_take_of_lt hj] at hu
      have := hc j (by omega)
      have ea : Addr.add ⟨g, off, none⟩ j = ⟨g, off + j, none⟩ := by
        by_cases hj : j = 0
        · subst hj; simp [Addr.add]
        · simp [Addr.add, hj]
      rw [ea] at this
      rw [this]
      simp [List.getD, hu]
set_option maxHeartbeats 1000000 in
theorem op_read {g o m : Nat} {b0 b1 b2 b3 b4 b5 b6 b7 b8 b9 b10 : Value} {y : DataW H × List MemPlace} (h : DataW.trod enc Try.prog W 0 (fun _ => true) true m 29 [b0, b1, b2, b3, b4, b5, b6, b7, b8, b9, b10] = some y)
    (hz : (DataW.weights Try.prog 29 y.1).all (· ≤ reachBytes) = true) (hc : ∀ (j : Nat) (b : Value), j < 11 → [b0, b1, b2, b3, b4, b5, b6, b7, b8, b9, b10][j]? = some b → W.cell? ⟨g, o + j, none⟩ = some b) : OpAt W g o := by
  obtain ⟨ys, k, _, hx, _, hl, hfld⟩ := DataW.trod_struct Try.underlying29 h
  obtain ⟨y0, y1, y2, y3, y4, rfl⟩ := list5 (hl.trans rfl)
  have g0 : DataW.trod enc Try.prog W 0 (fun _ => true) true k 3 [b0] = some y0 := by have := hfld 0 _ rfl; simpa [cells_3] using this
  have g1 : DataW.trod enc Try.prog W 0 (fun _ => true) true k 26 [b1, b2, b3, b4] = some y1 := by have := hfld 1 _ rfl; simpa [cells_26] using this
  have g2 : DataW.trod enc Try.prog W 0 (fun _ => true) true k 26 [b5, b6, b7, b8] = some y2 := by have := hfld 2 _ rfl; simpa [cells_26] using this
  have g3 : DataW.trod enc Try.prog W 0 (fun _ => true) true k 27 [b9] = some y3 := by have := hfld 3 _ rfl; simpa [cells_27] using this
  have g4 : DataW.trod enc Try.prog W 0 (fun _ => true) true k 3 [b10] = some y4 := by have := hfld 4 _ rfl; simpa [cells_3] using this
  obtain ⟨kd, e0, rfl, _⟩ := DataW.trod_int Try.underlying3 g0
  obtain ⟨st, e4, rfl, _⟩ := DataW.trod_int Try.underlying3 g4
  simp only [List.cons.injEq, and_true] at e0 e4
  subst e0; subst e4
  subst hx
  simp only [List.map_cons, List.map_nil, DataW.weights, Try.underlying29, DataW.weightsEach, List.nil_append, List.append_nil, List.all_append, Bool.and_eq_true] at hz
  obtain ⟨z1, z2, z3⟩ := hz
  obtain ⟨t, ht⟩ := tree_read k g1 z1
  obtain ⟨u, hu⟩ := tree_read k g2 z2
  obtain ⟨pa, pc, p, rfl, hI, hb⟩ := ints_open g3 z3
  obtain ⟨k1, n1, x1, a1, c1, rfl, rfl, rfl, rfl⟩ := ht.shape
  obtain ⟨k2, n2, x2, a2, c2, rfl, rfl, rfl, rfl⟩ := hu.shape
  exact ⟨kd, k1, n1, x1, a1, _, c1, k2, n2, x2, a2, _, c2, pa, pc, st, k, k, t, u, p, ⟨hc 0 _ (by decide) rfl, hc 1 _ (by decide) rfl, hc 2 _ (by decide) rfl, hc 3 _ (by decide) rfl, hc 4 _ (by decide) rfl, hc 5 _ (by decide) rfl, hc 6 _ (by decide) rfl, hc 7 _ (by decide) rfl, hc 8 _ (by decide) rfl, hc 9 _ (by decide) rfl, hc 10 _ (by decide) rfl⟩, ht, hu, hI, hb⟩
theorem ops_open {r : Reach} {b0 : Nat} {v : Value} {d : DataW H} {p : List MemPlace} (hv : Value.okWide Try.prog W r b0 22 v) (h : DataW.Trod enc Try.prog W 0 (fun _ => true) true 22 v d p)
    (hz : (DataW.weights Try.prog 22 d).all (· ≤ reachBytes) = true) : ∃ a n c, v = .slice a n c ∧ Ops W a n ∧ n * 168 ≤ 140737488351232 := by
  obtain ⟨a0, n0, c0, rfl⟩ := okWide_slice Try.underlying22 hv
  obtain ⟨fuel, hf⟩ := h
  have hf' : DataW.trod enc Try.prog W 0 (fun _ => true) true fuel 22 [.slice a0 n0 c0] = some (d, p) := hf
  rcases DataW.trod_slice Try.underlying22 hf' with ⟨h0, _⟩ | ⟨a, len, cap, elems, rest, m, _, h0, hx, _, hlc, _, hel, hat, _, _⟩
  · simp only [List.cons.injEq, and_true] at h0
    injection h0 with e1 e2 e3
    subst e1; subst e2; subst e3
    exact ⟨none, 0, 0, rfl, fun i hi => absurd hi (Nat.not_lt_zero _), by omega⟩
  · simp only [List.cons.injEq, and_true] at h0
    injection h0 with e1 e2 e3
    subst e1; subst e2; subst e3
    have hsp : a.spot = none := by
      simp only [Value.okWide, Try.underlying22, Cell.okWide, Cell.ok] at hv
      exact hv.2.2.2.1
    obtain ⟨g, off, sp⟩ := a
    have hsp' : sp = none := hsp
    subst hsp'
    simp only [Prod.mk.injEq] at hx
    obtain ⟨rfl, _⟩ := hx
    simp only [DataW.weights, Try.underlying22, List.all_cons, List.all_append, Bool.and_eq_true, List.length_map, bytes_29, reachBytes] at hz
    obtain ⟨z1, z2, _⟩ := hz
    have z0 : (elems.length + rest.length) * 168 ≤ 140737488351232 := of_decide_eq_true z1
    refine ⟨some ⟨g, off, none⟩, n0, c0, rfl, fun i hi => ⟨g, off, rfl, ?_⟩, by omega⟩
    have hi' : i < elems.length := by omega
    have h1 := hat i hi
    rw [cells_29, add_none, List.getElem?_eq_getElem hi'] at h1
    obtain ⟨cs, hcs, htr⟩ := Option.bind_eq_some_iff.1 h1
    unfold World.cells? at hcs
    rw [if_pos (Nat.zero_le _)] at hcs
    obtain ⟨x0, x1, x2, x3, x4, x5, x6, x7, x8, x9, x10, rfl⟩ := list11 (by simpa using Lib.mapM_length hcs)
    have hmem : elems[i].1 ∈ elems.map (·.1) := List.mem_map.2 ⟨_, List.getElem_mem hi', rfl⟩
    refine op_read htr (List.all_eq_true.2 fun n hn => List.all_eq_true.1 z2 n (weightsAll_mem hmem hn)) (fun j b hj hb => ?_)
    obtain ⟨b', h2, h3⟩ := Lib.mapM_at hcs j j (by rw [List.getElem?_range hj])
    rw [hb] at h2
    rw [add_none] at h3
    rw [h3, ← Option.some.inj h2]
end
end Go.Proofs.Ythdmoghooaccgaa
