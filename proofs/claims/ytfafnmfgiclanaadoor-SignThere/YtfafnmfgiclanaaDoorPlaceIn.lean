/-
  A Place that comes in, opened: its name, the path's numbers, what each of them weighs.
-/
import Derived.Test.YtfafnmfgiclanaaDoorHold
import Derived.ProofKit
import Derived.OpenShut
import Derived.ChangeSlices
import Derived.SizedLaws
namespace Go.Proofs.YtfafnmfgiclanaaDoor
open Go.ChangeShapes Go.WideShapes Go.ChangeAt Go.RowKit
theorem array2 {cs : Array Value} (h : cs.size = 2) : ∃ c0 c1, cs = #[c0, c1] := by
  obtain ⟨l⟩ := cs
  rcases l with _ | ⟨c0, _ | ⟨c1, _ | ⟨c2, l⟩⟩⟩
  all_goals first
    | exact ⟨_, _, rfl⟩
    | (simp at h; done)
theorem list2 {α : Type} {l : List α} (h : l.length = 2) : ∃ c0 c1, l = [c0, c1] := by
  rcases l with _ | ⟨c0, _ | ⟨c1, _ | ⟨c8, l⟩⟩⟩
  all_goals first
    | exact ⟨_, _, rfl⟩
    | (simp at h; done)
theorem cells_3 : Tryd.prog.cellsOf 3 = 1 := by kernel_rfl
theorem cells_9 : Tryd.prog.cellsOf 9 = 1 := by kernel_rfl
theorem cells_25 : Tryd.prog.cellsOf 25 = 1 := by kernel_rfl
theorem cells_27 : Tryd.prog.cellsOf 27 = 2 := by kernel_rfl
theorem bytes_3 : Tryd.prog.bytesOf 3 = 8 := by kernel_rfl
set_option maxRecDepth 100000
section
variable {H : Type} {enc : TypeId × Value → H} {W : World}
/-- What a slice of ints that came in reads as. -/
theorem ints_open {fuel : Nat} {v : Value} {y : DataW H × List MemPlace} (h : DataW.trod enc Tryd.prog W 0 (fun _ => true) true fuel 25 [v] = some y)
    (hz : (DataW.weights Tryd.prog 25 y.1).all (· ≤ reachBytes) = true) : ∃ a c xs, v = .slice a xs.length c ∧ Ints W (.slice a xs.length c) xs ∧ xs.length * 8 ≤ 140737488351232 := by
  rcases open_ints Tryd.underlying25 Tryd.underlying3 cells_3 h with ⟨h0, _⟩ | ⟨a, len, cap, zs, h0, _, hl, hm, hzs, rfl, hc, _⟩
  · simp only [List.cons.injEq, and_true] at h0
    subst h0
    exact ⟨none, 0, [], rfl, Ints.nil _ _ _, by decide⟩
  · simp only [List.cons.injEq, and_true] at h0
    subst h0
    have hzc : zs.length = cap := by simpa using hzs
    have hw : ((lits (H := H) .i64 (zs.take len)).length + (lits (H := H) .i64 (zs.drop len)).length) * Tryd.prog.bytesOf 3 ≤ reachBytes := by
      have := List.all_eq_true.1 hz (((lits (H := H) .i64 (zs.take len)).length + (lits (H := H) .i64 (zs.drop len)).length) * Tryd.prog.bytesOf 3) (by simp [DataW.weights, Tryd.underlying25])
      simpa using this
    rw [bytes_3] at hw
    simp only [lits, List.length_map, List.length_take, List.length_drop, reachBytes] at hw
    have hxl : (zs.take len).length = len := by simp; omega
    cases len with
    | zero => exact ⟨some a, cap, [], rfl, Ints.nil _ _ _, by decide⟩
    | succ len =>
      obtain ⟨g, off, sp⟩ := a
      have hsp' : sp = none := by
        have h0 := hc 0 (by omega)
        have e0 : Addr.add ⟨g, off, sp⟩ 0 = ⟨g, off, sp⟩ := by simp [Addr.add]
        rw [e0] at h0
        cases sp with
        | none => rfl
        | some s =>
          exfalso
          unfold World.cell? at h0
          split at h0 <;> simp at h0
      subst hsp'
      refine ⟨some ⟨g, off, none⟩, cap, zs.take (len + 1), by rw [hxl], .inr ⟨g, off, cap, by rw [hxl], fun j u hu => ?_⟩, by omega⟩
      have hj : j < len + 1 := by have := (List.getElem?_eq_some_iff.1 hu).1; omega
      rw [List.getElem?_take_of_lt hj] at hu
      have := hc j (by omega)
      have ea : Addr.add ⟨g, off, none⟩ j = ⟨g, off + j, none⟩ := by
        by_cases hj : j = 0
        · subst hj; simp [Addr.add]
        · simp [Addr.add, hj]
      rw [ea] at this
      rw [this]
      simp [List.getD, hu]
theorem text_size (s : ByteArray) (h : s.data.toList.length ≤ reachBytes) : s.size ≤ 140737488355328 := by
  have e : s.data.toList.length = s.size := by rw [Array.length_toList]; rfl
  rw [e] at h
  simp only [reachBytes] at h
  omega
set_option maxHeartbeats 1000000 in
theorem place_open {r : Reach} {b0 : Nat} {v : Value} {d : DataW H} {p : List MemPlace} (hv : Value.okWide Tryd.prog W r b0 27 v) (h : DataW.Trod enc Tryd.prog W 0 (fun _ => true) true 27 v d p)
    (hz : (DataW.weights Tryd.prog 27 d).all (· ≤ reachBytes) = true) :
    ∃ fu a c xs, v = .agg #[.string fu, .slice a xs.length c] ∧ Ints W (.slice a xs.length c) xs ∧ xs.length * 8 ≤ 140737488351232 ∧ fu.size ≤ 140737488355328 := by
  simp only [Value.okWide, Tryd.underlying27] at hv
  obtain ⟨cs, rfl, hs2, _⟩ := hv
  obtain ⟨c0, c1, rfl⟩ := array2 (hs2.trans cells_27)
  obtain ⟨fuel, hf⟩ := h
  obtain ⟨ys, m, _, hx, _, hl, hfld⟩ := DataW.trod_struct Tryd.underlying27 hf
  obtain ⟨y0, y1, rfl⟩ := list2 (hl.trans rfl)
  have g0 : DataW.trod enc Tryd.prog W 0 (fun _ => true) true m 9 [c0] = some y0 := by have := hfld 0 _ rfl; simpa [Value.cells, cells_9] using this
  have g1 : DataW.trod enc Tryd.prog W 0 (fun _ => true) true m 25 [c1] = some y1 := by have := hfld 1 _ rfl; simpa [Value.cells, cells_25] using this
  obtain ⟨fu, e0, rfl, _⟩ := DataW.trod_string Tryd.underlying9 g0
  simp only [List.cons.injEq, and_true] at e0
  subst e0
  simp only [Prod.mk.injEq] at hx
  obtain ⟨rfl, _⟩ := hx
  simp only [List.map_cons, List.map_nil, DataW.weights, Tryd.underlying27, DataW.weightsEach, List.nil_append, List.append_nil, List.cons_append, List.all_cons, Bool.and_eq_true, decide_eq_true_eq] at hz
  obtain ⟨a, c, xs, rfl, hI, hb⟩ := ints_open g1 hz.2
  exact ⟨fu, a, c, xs, rfl, hI, hb, text_size _ hz.1⟩
theorem string_open {r : Reach} {b0 : Nat} {v : Value} {d : DataW H} {p : List MemPlace} (hv : Value.okWide Tryd.prog W r b0 9 v) (h : DataW.Trod enc Tryd.prog W 0 (fun _ => true) true 9 v d p)
    (hz : (DataW.weights Tryd.prog 9 d).all (· ≤ reachBytes) = true) : ∃ s, v = .string s ∧ s.size ≤ 140737488355328 := by
  obtain ⟨s, rfl⟩ := okWide_string Tryd.underlying9 hv
  obtain ⟨fuel, hf⟩ := h
  obtain ⟨s', e, hd, _⟩ := DataW.trod_string Tryd.underlying9 hf
  simp only [Value.cells, List.cons.injEq, and_true, Value.string.injEq] at e
  subst e
  obtain ⟨rfl, _⟩ := Prod.mk.inj hd
  simp only [DataW.weights, List.all_cons, List.all_nil, Bool.and_true, decide_eq_true_eq] at hz
  exact ⟨s, rfl, text_size _ hz⟩
end
end Go.Proofs.YtfafnmfgiclanaaDoor
