/-
  A slice of strings that comes in, opened.
-/
import Derived.Test.YtflcmdjekmmkkaaGreatDoorFound
import Derived.Test.YtflcmdjekmmkkaaGreatDoorOpIn
import Derived.Deep.Strs
namespace Go.Proofs.YtflcmdjekmmkkaaGreatDoor
open Go.ChangeShapes Go.WideShapes Go.ChangeAt Go.RowKit Go.Deep
set_option maxRecDepth 100000

theorem bytes_9 : Tryz.prog.bytesOf 9 = 16 := by kernel_rfl
section
variable {H : Type} {enc : TypeId × Value → H} {W : World}
theorem strs_open {r : Reach} {b0 : Nat} {v : Value} {d : DataW H} {p : List MemPlace} (hv : Value.okWide Tryz.prog W r b0 34 v) (h : DataW.Trod enc Tryz.prog W 0 (fun _ => true) true 34 v d p)
    (hz : (DataW.weights Tryz.prog 34 d).all (· ≤ reachBytes) = true) : ∃ a n c l, v = .slice a n c ∧ Strs W (.slice a n c) l ∧ l.length ≤ 140737488355328 := by
  obtain ⟨a0, n0, c0, rfl⟩ := okWide_slice Tryz.underlying34 hv
  obtain ⟨fuel, hf⟩ := h
  have hf' : DataW.trod enc Tryz.prog W 0 (fun _ => true) true fuel 34 [.slice a0 n0 c0] = some (d, p) := hf
  rcases open_strs Tryz.underlying34 Tryz.underlying9 cells_9 hf' with ⟨h0, _⟩ | ⟨a, len, cap, m, Sx, h0, _, hl, hm, hmm, hx, hc⟩
  · simp only [List.cons.injEq, and_true] at h0
    rw [h0]
    exact ⟨none, 0, 0, [], rfl, .inl ⟨rfl, rfl⟩, by decide⟩
  · simp only [List.cons.injEq, and_true] at h0
    injection h0 with e1 e2 e3
    subst e1; subst e2; subst e3
    have hsp : a.spot = none := by
      simp only [Value.okWide, Tryz.underlying34, Cell.okWide, Cell.ok] at hv
      exact hv.2.2.2.1
    obtain ⟨g, off, sp⟩ := a
    have hsp' : sp = none := hsp
    subst hsp'
    have hmc : m = c0 := by simpa using hmm
    subst hmc
    simp only [Prod.mk.injEq] at hx
    obtain ⟨rfl, _⟩ := hx
    have hw := List.all_eq_true.1 hz ((((List.range n0).map fun i => (DataW.lit (Lit.string (Sx i).data.toList) : DataW H)).length + ((List.range (m - n0)).map fun j => (DataW.lit (Lit.string (Sx (n0 + j)).data.toList) : DataW H)).length) * Tryz.prog.bytesOf 9) (by simp [DataW.weights, Tryz.underlying34])
    rw [bytes_9] at hw
    simp only [List.length_map, List.length_range, reachBytes, decide_eq_true_eq] at hw
    refine ⟨some ⟨g, off, none⟩, n0, m, (List.range n0).map Sx, rfl, .inr ⟨g, off, m, by simp, fun j s hs => ?_⟩, by simp; omega⟩
    rw [List.getElem?_map] at hs
    obtain ⟨i, hi, rfl⟩ := Option.map_eq_some_iff.1 hs
    obtain ⟨hj, rfl⟩ : j < n0 ∧ j = i := by
      have := List.getElem?_eq_some_iff.1 hi
      obtain ⟨h1, h2⟩ := this
      simp at h1 h2
      exact ⟨h1, h2⟩
    have := (hc j (by omega)).1
    have ea : Addr.add ⟨g, off, none⟩ j = ⟨g, off + j, none⟩ := by
      by_cases hj : j = 0
      · subst hj; simp [Addr.add]
      · simp [Addr.add, hj]
    rw [ea] at this
    exact this
end


end Go.Proofs.YtflcmdjekmmkkaaGreatDoor
