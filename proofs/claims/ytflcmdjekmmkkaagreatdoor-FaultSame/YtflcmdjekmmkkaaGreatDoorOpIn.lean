/-
  An Op that comes in, opened: its fields, the path's numbers, what each of them weighs.
-/
import Derived.Test.YtflcmdjekmmkkaaGreatDoorMade
import Derived.ProofKit
import Derived.OpenShut
import Derived.ChangeSlices
import Derived.SizedLaws
namespace Go.Proofs.YtflcmdjekmmkkaaGreatDoor
open Go.ChangeShapes Go.WideShapes Go.ChangeAt Go.RowKit
theorem array8 {cs : Array Value} (h : cs.size = 8) : ∃ c0 c1 c2 c3 c4 c5 c6 c7, cs = #[c0, c1, c2, c3, c4, c5, c6, c7] := by
  obtain ⟨l⟩ := cs
  rcases l with _ | ⟨c0, _ | ⟨c1, _ | ⟨c2, _ | ⟨c3, _ | ⟨c4, _ | ⟨c5, _ | ⟨c6, _ | ⟨c7, _ | ⟨c8, l⟩⟩⟩⟩⟩⟩⟩⟩⟩
  all_goals first
    | exact ⟨_, _, _, _, _, _, _, _, rfl⟩
    | (simp at h; done)
theorem list7 {α : Type} {l : List α} (h : l.length = 7) : ∃ c0 c1 c2 c3 c4 c5 c6, l = [c0, c1, c2, c3, c4, c5, c6] := by
  rcases l with _ | ⟨c0, _ | ⟨c1, _ | ⟨c2, _ | ⟨c3, _ | ⟨c4, _ | ⟨c5, _ | ⟨c6, _ | ⟨c8, l⟩⟩⟩⟩⟩⟩⟩⟩
  all_goals first
    | exact ⟨_, _, _, _, _, _, _, rfl⟩
    | (simp at h; done)
theorem list2 {α : Type} {l : List α} (h : l.length = 2) : ∃ c0 c1, l = [c0, c1] := by
  rcases l with _ | ⟨c0, _ | ⟨c1, _ | ⟨c8, l⟩⟩⟩
  all_goals first
    | exact ⟨_, _, rfl⟩
    | (simp at h; done)

theorem cells_3 : Tryz.prog.cellsOf 3 = 1 := by kernel_rfl
theorem cells_26 : Tryz.prog.cellsOf 26 = 1 := by kernel_rfl
theorem cells_9 : Tryz.prog.cellsOf 9 = 1 := by kernel_rfl
theorem cells_27 : Tryz.prog.cellsOf 27 = 1 := by kernel_rfl
theorem cells_34 : Tryz.prog.cellsOf 34 = 1 := by kernel_rfl
theorem cells_29 : Tryz.prog.cellsOf 29 = 2 := by kernel_rfl
theorem cells_36 : Tryz.prog.cellsOf 36 = 8 := by kernel_rfl
theorem bytes_3 : Tryz.prog.bytesOf 3 = 8 := by kernel_rfl
theorem cellTypes_36 : Tryz.prog.cellTypes Tryz.prog.depth 36 = some [3, 26, 9, 27, 9, 9, 9, 34] := by kernel_rfl
set_option maxRecDepth 100000
section
variable {H : Type} {enc : TypeId × Value → H} {W : World}
theorem spot_of {r : Reach} {b0 : Nat} {a : Addr} {n c : Nat} (h : Cell.okWide Tryz.prog W r b0 27 (.slice (some a) n c)) : a.spot = none := by
  simp only [Cell.okWide, Tryz.underlying27, Cell.ok] at h
  exact h.2.2.2.1
/-- What a slice of ints that came in reads as. -/
theorem ints_open {r : Reach} {b0 : Nat} {fuel : Nat} {v : Value} {y : DataW H × List MemPlace} (hv : Cell.okWide Tryz.prog W r b0 27 v) (h : DataW.trod enc Tryz.prog W 0 (fun _ => true) true fuel 27 [v] = some y)
    (hz : (DataW.weights Tryz.prog 27 y.1).all (· ≤ reachBytes) = true) : ∃ a n c xs, v = .slice a n c ∧ Ints W (.slice a n c) xs ∧ xs.length * 8 ≤ 140737488355328 := by
  rcases open_ints Tryz.underlying27 Tryz.underlying3 cells_3 h with ⟨h0, _⟩ | ⟨a, len, cap, zs, h0, _, hl, hm, hzs, rfl, hc, _⟩
  · simp only [List.cons.injEq, and_true] at h0
    subst h0
    exact ⟨none, 0, 0, [], rfl, .inl ⟨rfl, rfl⟩, by decide⟩
  · simp only [List.cons.injEq, and_true] at h0
    subst h0
    have hsp := spot_of hv
    obtain ⟨g, off, sp⟩ := a
    have hsp' : sp = none := hsp
    subst hsp'
    have hzc : zs.length = cap := by simpa using hzs
    have hw : ((lits (H := H) .i64 (zs.take len)).length + (lits (H := H) .i64 (zs.drop len)).length) * Tryz.prog.bytesOf 3 ≤ reachBytes := by
      have := List.all_eq_true.1 hz (((lits (H := H) .i64 (zs.take len)).length + (lits (H := H) .i64 (zs.drop len)).length) * Tryz.prog.bytesOf 3) (by simp [DataW.weights, Tryz.underlying27])
      simpa using this
    rw [bytes_3] at hw
    simp only [lits, List.length_map, List.length_take, List.length_drop, reachBytes] at hw
    have hxl : (zs.take len).length = len := by simp; omega
    refine ⟨some ⟨g, off, none⟩, len, cap, zs.take len, rfl, .inr ⟨g, off, cap, by rw [hxl], fun j u hu => ?_⟩, by omega⟩
    have hj : j < len := by have := (List.getElem?_eq_some_iff.1 hu).1; omega
    rw [List.getElem?_take_of_lt hj] at hu
    have := hc j (by omega)
    have ea : Addr.add ⟨g, off, none⟩ j = ⟨g, off + j, none⟩ := by
      by_cases hj : j = 0
      · subst hj; simp [Addr.add]
      · simp [Addr.add, hj]
    rw [ea] at this
    rw [this]
    simp [List.getD, hu]
set_option maxHeartbeats 1000000 in
theorem op_open {r : Reach} {b0 : Nat} {v : Value} {d : DataW H} {p : List MemPlace} (hv : Value.okWide Tryz.prog W r b0 36 v) (h : DataW.Trod enc Tryz.prog W 0 (fun _ => true) true 36 v d p)
    (hz : (DataW.weights Tryz.prog 36 d).all (· ≤ reachBytes) = true) :
    ∃ kd co fu a n c sa ki ab na nn nc xs, v = .agg #[.int .i64 kd, .int .i64 co, .string fu, .slice a n c, .string sa, .string ki, .string ab, .slice na nn nc] ∧ Ints W (.slice a n c) xs ∧ xs.length * 8 ≤ 140737488355328 ∧
      sa.size ≤ 140737488355328 ∧ ki.size ≤ 140737488355328 ∧ ab.size ≤ 140737488355328 := by
  simp only [Value.okWide, Tryz.underlying36] at hv
  obtain ⟨cs, rfl, hs8, ts, hts, _, hcell⟩ := hv
  rw [cellTypes_36] at hts
  obtain rfl := (Option.some.inj hts).symm
  obtain ⟨c0, c1, c2, c3, c4, c5, c6, c7, rfl⟩ := array8 (hs8.trans cells_36)
  obtain ⟨u3, hu3, hc3⟩ := hcell 3 c3 rfl
  obtain rfl : 27 = u3 := by simpa using hu3
  obtain ⟨fuel, hf⟩ := h
  obtain ⟨ys, m, _, hx, _, hl, hfld⟩ := DataW.trod_struct Tryz.underlying36 hf
  obtain ⟨y0, y1, y2, y3, y4, y5, y6, rfl⟩ := list7 (hl.trans rfl)
  have g0 : DataW.trod enc Tryz.prog W 0 (fun _ => true) true m 3 [c0] = some y0 := by have := hfld 0 _ rfl; simpa [Value.cells, cells_3] using this
  have g1 : DataW.trod enc Tryz.prog W 0 (fun _ => true) true m 26 [c1] = some y1 := by have := hfld 1 _ rfl; simpa [Value.cells, cells_26] using this
  have g2 : DataW.trod enc Tryz.prog W 0 (fun _ => true) true m 29 [c2, c3] = some y2 := by have := hfld 2 _ rfl; simpa [Value.cells, cells_29] using this
  have g3 : DataW.trod enc Tryz.prog W 0 (fun _ => true) true m 9 [c4] = some y3 := by have := hfld 3 _ rfl; simpa [Value.cells, cells_9] using this
  have g4 : DataW.trod enc Tryz.prog W 0 (fun _ => true) true m 9 [c5] = some y4 := by have := hfld 4 _ rfl; simpa [Value.cells, cells_9] using this
  have g5 : DataW.trod enc Tryz.prog W 0 (fun _ => true) true m 9 [c6] = some y5 := by have := hfld 5 _ rfl; simpa [Value.cells, cells_9] using this
  have g6 : DataW.trod enc Tryz.prog W 0 (fun _ => true) true m 34 [c7] = some y6 := by have := hfld 6 _ rfl; simpa [Value.cells, cells_34] using this
  obtain ⟨kd, e0, rfl, _⟩ := DataW.trod_int Tryz.underlying3 g0
  obtain ⟨co, e1, rfl, _⟩ := DataW.trod_int Tryz.underlying26 g1
  obtain ⟨sa, e4, rfl, _⟩ := DataW.trod_string Tryz.underlying9 g3
  obtain ⟨ki, e5, rfl, _⟩ := DataW.trod_string Tryz.underlying9 g4
  obtain ⟨ab, e6, rfl, _⟩ := DataW.trod_string Tryz.underlying9 g5
  obtain ⟨na, nn, nc, e7⟩ : ∃ a l c, [c7] = [Value.slice a l c] := by
    rcases DataW.trod_slice Tryz.underlying34 g6 with ⟨h0, _⟩ | ⟨a, len, cap, elems, rest, n, _, h0, _⟩
    · exact ⟨_, _, _, h0⟩
    · exact ⟨_, _, _, h0⟩
  obtain ⟨zs, m2, _, hy2, _, hzl, hzf⟩ := DataW.trod_struct Tryz.underlying29 g2
  obtain ⟨z0, z1, rfl⟩ := list2 (hzl.trans rfl)
  have q0 : DataW.trod enc Tryz.prog W 0 (fun _ => true) true m2 9 [c2] = some z0 := by have := hzf 0 _ rfl; simpa [cells_9] using this
  have q1 : DataW.trod enc Tryz.prog W 0 (fun _ => true) true m2 27 [c3] = some z1 := by have := hzf 1 _ rfl; simpa [cells_27] using this
  obtain ⟨fu, e2, rfl, _⟩ := DataW.trod_string Tryz.underlying9 q0
  simp only [List.cons.injEq, and_true] at e0 e1 e2 e4 e5 e6 e7
  subst e0; subst e1; subst e2; subst e4; subst e5; subst e6; subst e7
  subst hy2
  simp only [Prod.mk.injEq] at hx
  obtain ⟨rfl, _⟩ := hx
  simp only [List.map_cons, List.map_nil, DataW.weights, Tryz.underlying36, Tryz.underlying29, DataW.weightsEach, List.nil_append, List.append_nil, List.cons_append, List.all_cons, List.all_append, Bool.and_eq_true, decide_eq_true_eq] at hz
  obtain ⟨a, n, c, xs, rfl, hI, hb⟩ := ints_open hc3 q1 hz.2.1
  have sz : ∀ s : ByteArray, s.data.toList.length ≤ reachBytes → s.size ≤ 140737488355328 := fun s h => by
    have e : s.data.toList.length = s.size := by rw [Array.length_toList]; rfl
    rw [e] at h
    simp only [reachBytes] at h
    omega
  refine ⟨kd, co, fu, a, n, c, sa, ki, ab, na, nn, nc, xs, rfl, hI, hb, sz _ hz.2.2.1, sz _ hz.2.2.2.1, sz _ hz.2.2.2.2.1⟩
end


end Go.Proofs.YtflcmdjekmmkkaaGreatDoor
