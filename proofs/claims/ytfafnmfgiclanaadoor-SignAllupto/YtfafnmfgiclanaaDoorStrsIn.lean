/-
  Texts and slices of texts that come in, opened; how great they are where their bulk is bounded.
-/
import Derived.Test.YtfafnmfgiclanaaDoorPartsMath
import Derived.Test.YtfafnmfgiclanaaDoorPlaceIn
import Derived.Deep.Strs
namespace Go.Proofs.YtfafnmfgiclanaaDoor
open Go.ChangeShapes Go.WideShapes Go.ChangeAt Go.RowKit Go.Deep
set_option maxRecDepth 100000
theorem bulk_map {H α : Type} (f : α → DataW H) (l : List α) : Rows.uptoBulkAll (l.map f) = (l.map (fun x => Rows.uptoBulk (f x))).sum := by
  induction l with
  | nil => simp [Rows.uptoBulkAll]
  | cons x l ih => simp only [List.map_cons, Rows.uptoBulkAll, ih, List.sum_cons]
theorem bulk_text {H : Type} (l : List UInt8) : Rows.uptoBulk (.lit (.string l) : DataW H) = l.length + 1 := by simp [Rows.uptoBulk]
section
variable {H : Type} {enc : TypeId × Value → H} {W : World}
theorem string_read {r : Reach} {b0 : Nat} {v : Value} {d : DataW H} {p : List MemPlace} (hv : Value.okWide Tryd.prog W r b0 9 v) (h : DataW.Trod enc Tryd.prog W 0 (fun _ => true) true 9 v d p) : ∃ s, v = .string s ∧ d = .lit (.string s.data.toList) := by
  obtain ⟨s, rfl⟩ := okWide_string Tryd.underlying9 hv
  obtain ⟨fuel, hf⟩ := h
  obtain ⟨s', e, hd, _⟩ := DataW.trod_string Tryd.underlying9 hf
  simp only [Value.cells, List.cons.injEq, and_true, Value.string.injEq] at e
  subst e
  exact ⟨s, rfl, (Prod.mk.inj hd).1⟩
theorem strs_open {r : Reach} {b0 : Nat} {v : Value} {d : DataW H} {p : List MemPlace} (hv : Value.okWide Tryd.prog W r b0 41 v) (h : DataW.Trod enc Tryd.prog W 0 (fun _ => true) true 41 v d p) :
    ∃ a c l, v = .slice a l.length c ∧ Vals W (.slice a l.length c) (strCells' l) ∧ tot l ≤ Rows.uptoBulk d := by
  obtain ⟨a0, n0, c0, rfl⟩ := okWide_slice Tryd.underlying41 hv
  obtain ⟨fuel, hf⟩ := h
  have hf' : DataW.trod enc Tryd.prog W 0 (fun _ => true) true fuel 41 [.slice a0 n0 c0] = some (d, p) := hf
  rcases open_strs Tryd.underlying41 Tryd.underlying9 cells_9 hf' with ⟨h0, _⟩ | ⟨a, len, cap, m, Sx, h0, _, hl, hm, hmm, hx, hc⟩
  · simp only [List.cons.injEq, and_true] at h0
    rw [h0]
    exact ⟨none, 0, [], rfl, .inl ⟨rfl, rfl⟩, by simp [tot]⟩
  · simp only [List.cons.injEq, and_true] at h0
    injection h0 with e1 e2 e3
    subst e1; subst e2; subst e3
    have hsp : a.spot = none := by
      simp only [Value.okWide, Tryd.underlying41, Cell.okWide, Cell.ok] at hv
      exact hv.2.2.2.1
    obtain ⟨g, off, sp⟩ := a
    have hsp' : sp = none := hsp
    subst hsp'
    have hmc : m = c0 := by simpa using hmm
    subst hmc
    simp only [Prod.mk.injEq] at hx
    obtain ⟨rfl, _⟩ := hx
    have hlen : ((List.range n0).map (fun i => (Sx i).data.toList)).length = n0 := by simp
    refine ⟨some ⟨g, off, none⟩, m, (List.range n0).map (fun i => (Sx i).data.toList), by rw [hlen], .inr ⟨g, off, m, by simp [strCells'], fun j s hs => ?_⟩, ?_⟩
    · obtain ⟨hj, hs'⟩ : j < n0 ∧ strV (Sx j).data.toList = s := by
        obtain ⟨h1, h2⟩ := List.getElem?_eq_some_iff.1 hs
        simp [strCells'] at h1 h2
        exact ⟨h1, h2⟩
      rw [← hs']
      have e : strV (Sx j).data.toList = .string (Sx j) := by
        show Value.string ⟨(Sx j).data.toList.toArray⟩ = _
        rw [← bytes_of (Sx j) _ rfl]
      rw [e]
      have := (hc j (by omega)).1
      have ea : Addr.add ⟨g, off, none⟩ j = ⟨g, off + j, none⟩ := by
        by_cases hj : j = 0
        · subst hj; simp [Addr.add]
        · simp [Addr.add, hj]
      rw [ea] at this
      exact this
    · simp only [Rows.uptoBulk]
      rw [bulk_map]
      simp only [bulk_text, tot, List.map_map, Function.comp_def]
      omega
end
end Go.Proofs.YtfafnmfgiclanaaDoor
