/-
  An Op that lies in memory, read.
-/
import Derived.Test.YtfafnmfgiclanaaDoorStrsIn
import Derived.Lib.LaidTab
namespace Go.Proofs.YtfafnmfgiclanaaDoor
open Go.ChangeShapes Go.WideShapes Go.ChangeAt Go.RowKit Go.Deep
set_option maxRecDepth 100000
theorem cells_29 : Tryd.prog.cellsOf 29 = 6 := by kernel_rfl
theorem list4 {α : Type} {l : List α} (h : l.length = 4) : ∃ c0 c1 c2 c3, l = [c0, c1, c2, c3] := by
  rcases l with _ | ⟨c0, _ | ⟨c1, _ | ⟨c2, _ | ⟨c3, _ | ⟨c4, l⟩⟩⟩⟩⟩
  all_goals first
    | exact ⟨_, _, _, _, rfl⟩
    | (simp at h; done)
theorem list6 {α : Type} {l : List α} (h : l.length = 6) : ∃ c0 c1 c2 c3 c4 c5, l = [c0, c1, c2, c3, c4, c5] := by
  rcases l with _ | ⟨c0, _ | ⟨c1, _ | ⟨c2, _ | ⟨c3, _ | ⟨c4, _ | ⟨c5, _ | ⟨c6, l⟩⟩⟩⟩⟩⟩⟩
  all_goals first
    | exact ⟨_, _, _, _, _, _, rfl⟩
    | (simp at h; done)
theorem weightsAll_mem {H : Type} {P : Program} {e : TypeId} {d : DataW H} {l : List (DataW H)} (h : d ∈ l) {n : Nat} (hn : n ∈ DataW.weights P e d) : n ∈ DataW.weightsAll P e l := by
  induction l with
  | nil => cases h
  | cons x r ih =>
    simp only [DataW.weightsAll, List.mem_append]
    rcases List.mem_cons.1 h with rfl | h
    · exact .inl hn
    · exact .inr (ih h)
theorem bulkAll_mem {H : Type} {d : DataW H} {l : List (DataW H)} (h : d ∈ l) : Rows.uptoBulk d ≤ Rows.uptoBulkAll l := by
  induction l with
  | nil => cases h
  | cons x r ih =>
    simp only [Rows.uptoBulkAll]
    rcases List.mem_cons.1 h with rfl | h
    · omega
    · have := ih h; omega
theorem bulk_one {H : Type} (d : DataW H) : 1 ≤ Rows.uptoBulk d := by
  cases d with
  | lit l => cases l <;> simp [Rows.uptoBulk]
  | nil => simp [Rows.uptoBulk]
  | ptr d => simp [Rows.uptoBulk]
  | slice elems spare => simp [Rows.uptoBulk]
  | agg parts => simp [Rows.uptoBulk]
  | iface t d => simp [Rows.uptoBulk]
  | map entries => simp [Rows.uptoBulk]
  | held h => simp [Rows.uptoBulk]
theorem bulkAll_len {H : Type} (l : List (DataW H)) : l.length ≤ Rows.uptoBulkAll l := by
  induction l with
  | nil => simp
  | cons x r ih => have := bulk_one x; simp only [Rows.uptoBulkAll, List.length_cons]; omega
section
variable {H : Type} {enc : TypeId × Value → H} {W : World}
set_option maxHeartbeats 1000000 in
theorem op_read {m : Nat} {b0 b1 b2 b3 b4 b5 : Value} {y : DataW H × List MemPlace} (h : DataW.trod enc Tryd.prog W 0 (fun _ => true) true m 29 [b0, b1, b2, b3, b4, b5] = some y)
    (hz : (DataW.weights Tryd.prog 29 y.1).all (· ≤ reachBytes) = true) (hk : Rows.uptoBulk y.1 ≤ 1048576) :
    ∃ kd S f1 a1 c1 xs f2 a2 c2 ys, b0 = .int .i64 kd ∧ b1 = .string S ∧ b2 = .string f1 ∧ b3 = .slice a1 xs.length c1 ∧ b4 = .string f2 ∧ b5 = .slice a2 ys.length c2 ∧
      S.size ≤ 1099511627776 ∧ xs.length * 8 ≤ 140737488351232 ∧ ys.length * 8 ≤ 140737488351232 ∧ Ints W (.slice a1 xs.length c1) xs ∧ Ints W (.slice a2 ys.length c2) ys := by
  obtain ⟨ys, k, _, hx, _, hl, hfld⟩ := DataW.trod_struct Tryd.underlying29 h
  obtain ⟨y0, y1, y2, y3, rfl⟩ := list4 (hl.trans rfl)
  have g0 : DataW.trod enc Tryd.prog W 0 (fun _ => true) true k 3 [b0] = some y0 := by have := hfld 0 _ rfl; simpa [cells_3] using this
  have g1 : DataW.trod enc Tryd.prog W 0 (fun _ => true) true k 9 [b1] = some y1 := by have := hfld 1 _ rfl; simpa [cells_9] using this
  have g2 : DataW.trod enc Tryd.prog W 0 (fun _ => true) true k 27 [b2, b3] = some y2 := by have := hfld 2 _ rfl; simpa [cells_27] using this
  have g3 : DataW.trod enc Tryd.prog W 0 (fun _ => true) true k 27 [b4, b5] = some y3 := by have := hfld 3 _ rfl; simpa [cells_27] using this
  obtain ⟨kd, e0, rfl, _⟩ := DataW.trod_int Tryd.underlying3 g0
  obtain ⟨S, e1, rfl, _⟩ := DataW.trod_string Tryd.underlying9 g1
  obtain ⟨zs, k2, _, hy2, _, hzl, hzf⟩ := DataW.trod_struct Tryd.underlying27 g2
  obtain ⟨z0, z1, rfl⟩ := list2 (hzl.trans rfl)
  have q0 : DataW.trod enc Tryd.prog W 0 (fun _ => true) true k2 9 [b2] = some z0 := by have := hzf 0 _ rfl; simpa [cells_9] using this
  have q1 : DataW.trod enc Tryd.prog W 0 (fun _ => true) true k2 25 [b3] = some z1 := by have := hzf 1 _ rfl; simpa [cells_25] using this
  obtain ⟨f1, e2, rfl, _⟩ := DataW.trod_string Tryd.underlying9 q0
  obtain ⟨us, k3, _, hy3, _, hul, huf⟩ := DataW.trod_struct Tryd.underlying27 g3
  obtain ⟨u0, u1, rfl⟩ := list2 (hul.trans rfl)
  have p0 : DataW.trod enc Tryd.prog W 0 (fun _ => true) true k3 9 [b4] = some u0 := by have := huf 0 _ rfl; simpa [cells_9] using this
  have p1 : DataW.trod enc Tryd.prog W 0 (fun _ => true) true k3 25 [b5] = some u1 := by have := huf 1 _ rfl; simpa [cells_25] using this
  obtain ⟨f2, e4, rfl, _⟩ := DataW.trod_string Tryd.underlying9 p0
  simp only [List.cons.injEq, and_true] at e0 e1 e2 e4
  subst e0; subst e1; subst e2; subst e4
  subst hy2; subst hy3
  subst hx
  simp only [List.map_cons, List.map_nil, DataW.weights, Tryd.underlying29, Tryd.underlying27, DataW.weightsEach, List.nil_append, List.append_nil, List.cons_append, List.all_cons, List.all_append, Bool.and_eq_true, decide_eq_true_eq] at hz
  simp only [List.map_cons, List.map_nil, Rows.uptoBulk, Rows.uptoBulkAll] at hk
  obtain ⟨a1, c1, xs, rfl, hI1, hb1⟩ := ints_open q1 hz.2.2.1
  obtain ⟨a2, c2, vs, rfl, hI2, hb2⟩ := ints_open p1 hz.2.2.2.2
  refine ⟨kd, S, f1, a1, c1, xs, f2, a2, c2, vs, rfl, rfl, rfl, rfl, rfl, rfl, ?_, hb1, hb2, hI1, hI2⟩
  rw [← size_list]
  omega
end
end Go.Proofs.YtfafnmfgiclanaaDoor
