/-
  Rows, trees and lists of them that come in, opened.
-/
import Derived.Test.YtaodkfchmaendaaGreatDoorKMay
import Derived.ProofKit
import Derived.OpenShut
import Derived.ChangeSlices
import Derived.SizedLaws
import Derived.Lib.LaidTab
import Derived.Test.YtaodkfchmaendaaGreatDoorJ7RefF
import Derived.Test.YtaodkfchmaendaaGreatDoorJ7Beg
namespace Go.Proofs.YtaodkfchmaendaaGreatDoor
open Go.ChangeShapes Go.WideShapes Go.ChangeAt Go.RowKit
set_option maxRecDepth 100000
theorem jcells_st : Tryz.prog.cellsOf 9 = 1 := by kernel_rfl
theorem jcells_ss : Tryz.prog.cellsOf 35 = 1 := by kernel_rfl
theorem jcells_it : Tryz.prog.cellsOf 3 = 1 := by kernel_rfl
theorem jcells_i6 : Tryz.prog.cellsOf 2 = 1 := by kernel_rfl
theorem jcells_bo : Tryz.prog.cellsOf 4 = 1 := by kernel_rfl
theorem jcells_rt : Tryz.prog.cellsOf 37 = 6 := by kernel_rfl
theorem jcells_tr : Tryz.prog.cellsOf 24 = 4 := by kernel_rfl
theorem jcells_ts : Tryz.prog.cellsOf 22 = 1 := by kernel_rfl
theorem jbytes_st : Tryz.prog.bytesOf 9 = 16 := by kernel_rfl
theorem jbytes_tr : Tryz.prog.bytesOf 24 = 64 := by kernel_rfl
theorem jlist4 {α : Type} {l : List α} (h : l.length = 4) : ∃ c0 c1 c2 c3, l = [c0, c1, c2, c3] := by
  rcases l with _ | ⟨c0, _ | ⟨c1, _ | ⟨c2, _ | ⟨c3, _ | ⟨c4, l⟩⟩⟩⟩⟩
  all_goals first
    | exact ⟨_, _, _, _, rfl⟩
    | (simp at h; done)
theorem jlist6 {α : Type} {l : List α} (h : l.length = 6) : ∃ c0 c1 c2 c3 c4 c5, l = [c0, c1, c2, c3, c4, c5] := by
  rcases l with _ | ⟨c0, _ | ⟨c1, _ | ⟨c2, _ | ⟨c3, _ | ⟨c4, _ | ⟨c5, _ | ⟨c6, l⟩⟩⟩⟩⟩⟩⟩
  all_goals first
    | exact ⟨_, _, _, _, _, _, rfl⟩
    | (simp at h; done)
theorem jweightsAll_mem {H : Type} {P : Program} {e : TypeId} {d : DataW H} {l : List (DataW H)} (h : d ∈ l) {n : Nat} (hn : n ∈ DataW.weights P e d) : n ∈ DataW.weightsAll P e l := by
  induction l with
  | nil => cases h
  | cons x r ih =>
    simp only [DataW.weightsAll, List.mem_append]
    rcases List.mem_cons.1 h with rfl | h
    · exact .inl hn
    · exact .inr (ih h)
theorem jcell_spot {w : World} {g off : Nat} {sp : Option _} {v : Value} (h : w.cell? ⟨g, off, sp⟩ = some v) : sp = none := by
  cases sp with
  | none => rfl
  | some s =>
    exfalso
    unfold World.cell? at h
    split at h <;> simp at h
theorem jtext_reach (s : ByteArray) (h : s.data.toList.length ≤ reachBytes) : s.size ≤ 140737488351232 := by
  have e : s.data.toList.length = s.size := by rw [Array.length_toList]; rfl
  rw [e] at h
  exact h
theorem jadd (g p j : Nat) : Addr.add ⟨g, p, none⟩ j = ⟨g, p + j, none⟩ := by
  by_cases hj : j = 0
  · subst hj; simp [Addr.add]
  · simp [Addr.add, hj]
theorem jtexts_of {n : Nat} {P : Nat → ByteArray → Prop} (h : ∀ j, j < n → ∃ t, P j t) : ∃ ks : List ByteArray, ks.length = n ∧ ∀ j, (hj : j < ks.length) → P j ks[j] := by
  induction n with
  | zero => exact ⟨[], rfl, fun j hj => absurd hj (Nat.not_lt_zero _)⟩
  | succ n ih =>
    obtain ⟨ks, hl, hp⟩ := ih (fun j hj => h j (by omega))
    obtain ⟨t, ht⟩ := h n (by omega)
    refine ⟨ks ++ [t], by simp [hl], fun j hj => ?_⟩
    by_cases hjn : j < ks.length
    · rw [List.getElem_append_left hjn]; exact hp j hjn
    · have : j = ks.length := by simp at hj; omega
      subst this
      simp [hl]
      exact ht
section
variable {H : Type} {enc : TypeId × Value → H} {W : World}
/-- A list of texts. -/
theorem jtexts_read {fuel : Nat} {v : Value} {y : DataW H × List MemPlace} (h : DataW.trod enc Tryz.prog W 0 (fun _ => true) true fuel 35 [v] = some y)
    (hz : (DataW.weights Tryz.prog 35 y.1).all (· ≤ reachBytes) = true) : ∃ a c xs, v = .slice a xs.length c ∧ TRow W a xs ∧ xs.length * 16 ≤ 140737488351232 := by
  rcases DataW.trod_slice Tryz.underlying35 h with ⟨h0, _⟩ | ⟨a, len, cap, elems, rest, m, hm, h0, hx, _, hlc, _, hel, hat, _, _⟩
  · simp only [List.cons.injEq, and_true] at h0
    subst h0
    exact ⟨none, 0, [], rfl, .inl rfl, by decide⟩
  simp only [List.cons.injEq, and_true] at h0
  subst h0; subst hx
  simp only [DataW.weights, Tryz.underlying35, List.all_cons, List.all_append, Bool.and_eq_true, List.length_map, jbytes_st, reachBytes] at hz
  obtain ⟨z1, z2, _⟩ := hz
  have z0 : (elems.length + rest.length) * 16 ≤ 140737488351232 := of_decide_eq_true z1
  by_cases hl0 : len = 0
  · subst hl0
    exact ⟨some a, cap, [], rfl, .inl rfl, by decide⟩
  have kid : ∀ i, i < len → ∃ s, W.cell? (a.add i) = some (.string s) := fun i hi => by
    have hi' : i < elems.length := by omega
    have h1 := hat i hi
    rw [jcells_st, List.getElem?_eq_getElem hi', Nat.mul_one] at h1
    obtain ⟨cs, hcs, htr⟩ := Option.bind_eq_some_iff.1 h1
    unfold World.cells? at hcs
    rw [if_pos (Nat.zero_le _)] at hcs
    obtain ⟨s, e, _, _⟩ := DataW.trod_string Tryz.underlying9 htr
    subst e
    obtain ⟨b', h2, h3⟩ := Lib.mapM_at hcs 0 0 (by rfl)
    have ea : ∀ b : Addr, b.add 0 = b := fun b => by simp [Addr.add]
    rw [ea] at h3
    exact ⟨s, by rw [h3, ← Option.some.inj h2]⟩
  obtain ⟨g, off, sp⟩ := a
  have hsp : sp = none := by
    obtain ⟨s, h0⟩ := kid 0 (by omega)
    have e0 : Addr.add ⟨g, off, sp⟩ 0 = ⟨g, off, sp⟩ := by simp [Addr.add]
    rw [e0] at h0
    exact jcell_spot h0
  subst hsp
  simp only [jadd] at kid
  obtain ⟨ks, hkl, hks⟩ := jtexts_of kid
  exact ⟨some ⟨g, off, none⟩, cap, ks, by rw [hkl], .inr ⟨g, off, rfl, hks⟩, by rw [hkl]; omega⟩
/-- A row's cells. -/
theorem jrow_read {fuel : Nat} {b0 b1 b2 b3 b4 b5 : Value} {y : DataW H × List MemPlace} (h : DataW.trod enc Tryz.prog W 0 (fun _ => true) true fuel 37 [b0, b1, b2, b3, b4, b5] = some y)
    (hz : (DataW.weights Tryz.prog 37 y.1).all (· ≤ reachBytes) = true) : ∃ (r : Rw) (a : Option Addr) (c : Nat), b0 = .string r.kind ∧ b1 = .int .i64 r.min ∧ b2 = .int .i64 r.max ∧ b3 = .bool r.num ∧ b4 = .int .i64 r.text ∧ b5 = .slice a r.abs.length c ∧ TRow W a r.abs ∧ r.kind.size ≤ 140737488351232 ∧ r.abs.length * 16 ≤ 140737488351232 := by
  obtain ⟨ys, k, _, hx, _, hl, hfld⟩ := DataW.trod_struct Tryz.underlying37 h
  obtain ⟨y0, y1, y2, y3, y4, y5, rfl⟩ := jlist6 (hl.trans rfl)
  have g0 : DataW.trod enc Tryz.prog W 0 (fun _ => true) true k 9 [b0] = some y0 := by have := hfld 0 _ rfl; simpa [jcells_st] using this
  have g1 : DataW.trod enc Tryz.prog W 0 (fun _ => true) true k 3 [b1] = some y1 := by have := hfld 1 _ rfl; simpa [jcells_it] using this
  have g2 : DataW.trod enc Tryz.prog W 0 (fun _ => true) true k 3 [b2] = some y2 := by have := hfld 2 _ rfl; simpa [jcells_it] using this
  have g3 : DataW.trod enc Tryz.prog W 0 (fun _ => true) true k 4 [b3] = some y3 := by have := hfld 3 _ rfl; simpa [jcells_bo] using this
  have g4 : DataW.trod enc Tryz.prog W 0 (fun _ => true) true k 3 [b4] = some y4 := by have := hfld 4 _ rfl; simpa [jcells_it] using this
  have g5 : DataW.trod enc Tryz.prog W 0 (fun _ => true) true k 35 [b5] = some y5 := by have := hfld 5 _ rfl; simpa [jcells_ss] using this
  obtain ⟨kd, e0, rfl, _⟩ := DataW.trod_string Tryz.underlying9 g0
  obtain ⟨mn, e1, rfl, _⟩ := DataW.trod_int Tryz.underlying3 g1
  obtain ⟨mx, e2, rfl, _⟩ := DataW.trod_int Tryz.underlying3 g2
  obtain ⟨nm, e3, rfl⟩ := DataW.trod_bool Tryz.underlying4 g3
  obtain ⟨tx, e4, rfl, _⟩ := DataW.trod_int Tryz.underlying3 g4
  simp only [List.cons.injEq, and_true] at e0 e1 e2 e3 e4
  subst e0; subst e1; subst e2; subst e3; subst e4
  subst hx
  simp only [List.map_cons, List.map_nil, DataW.weights, Tryz.underlying37, DataW.weightsEach, List.nil_append, List.append_nil, List.cons_append, List.all_cons, Bool.and_eq_true, decide_eq_true_eq] at hz
  obtain ⟨z0, z5⟩ := hz
  obtain ⟨a, c, xs, rfl, ht, hb⟩ := jtexts_read g5 z5
  exact ⟨⟨kd, mn, mx, nm, tx, xs⟩, a, c, rfl, rfl, rfl, rfl, rfl, rfl, ht, jtext_reach kd z0, hb⟩
/-- A tree's cells; its kids are not looked at. -/
theorem jtree_read {fuel : Nat} {b0 b1 b2 b3 : Value} {y : DataW H × List MemPlace} (h : DataW.trod enc Tryz.prog W 0 (fun _ => true) true fuel 24 [b0, b1, b2, b3] = some y)
    (hz : (DataW.weights Tryz.prog 24 y.1).all (· ≤ reachBytes) = true) : ∃ k n x a m c, b0 = .string k ∧ b1 = .int .i64 n ∧ b2 = .string x ∧ b3 = .slice a m c ∧ k.size ≤ 140737488351232 ∧ x.size ≤ 140737488351232 ∧ m * 64 ≤ 140737488351232 := by
  obtain ⟨ys, f, _, hx, _, hl, hfld⟩ := DataW.trod_struct Tryz.underlying24 h
  obtain ⟨y0, y1, y2, y3, rfl⟩ := jlist4 (hl.trans rfl)
  have g0 : DataW.trod enc Tryz.prog W 0 (fun _ => true) true f 9 [b0] = some y0 := by have := hfld 0 _ rfl; simpa [jcells_st] using this
  have g1 : DataW.trod enc Tryz.prog W 0 (fun _ => true) true f 2 [b1] = some y1 := by have := hfld 1 _ rfl; simpa [jcells_i6] using this
  have g2 : DataW.trod enc Tryz.prog W 0 (fun _ => true) true f 9 [b2] = some y2 := by have := hfld 2 _ rfl; simpa [jcells_st] using this
  have g3 : DataW.trod enc Tryz.prog W 0 (fun _ => true) true f 22 [b3] = some y3 := by have := hfld 3 _ rfl; simpa [jcells_ts] using this
  obtain ⟨kd, e0, rfl, _⟩ := DataW.trod_string Tryz.underlying9 g0
  obtain ⟨n, e1, rfl, _⟩ := DataW.trod_int Tryz.underlying2 g1
  obtain ⟨tx, e2, rfl, _⟩ := DataW.trod_string Tryz.underlying9 g2
  simp only [List.cons.injEq, and_true] at e0 e1 e2
  subst e0; subst e1; subst e2
  subst hx
  simp only [List.map_cons, List.map_nil, DataW.weights, Tryz.underlying24, DataW.weightsEach, List.nil_append, List.append_nil, List.cons_append, List.all_cons, Bool.and_eq_true, decide_eq_true_eq] at hz
  obtain ⟨z0, z2, z3⟩ := hz
  have s0 := jtext_reach kd z0
  have s2 := jtext_reach tx z2
  rcases DataW.trod_slice Tryz.underlying22 g3 with ⟨h0, _⟩ | ⟨a, len, cap, elems, rest, m, hm, h0, hx, _, hlc, _, hel, hat, _, _⟩
  · simp only [List.cons.injEq, and_true] at h0
    subst h0
    exact ⟨kd, n, tx, none, 0, 0, rfl, rfl, rfl, rfl, s0, s2, by decide⟩
  simp only [List.cons.injEq, and_true] at h0
  subst h0; subst hx
  simp only [DataW.weights, Tryz.underlying22, List.all_cons, List.all_append, Bool.and_eq_true, List.length_map, jbytes_tr, reachBytes] at z3
  have z30 : (elems.length + rest.length) * 64 ≤ 140737488351232 := of_decide_eq_true z3.1
  exact ⟨kd, n, tx, some a, len, cap, rfl, rfl, rfl, rfl, s0, s2, by omega⟩
theorem jtree_open {r : Reach} {b0 : Nat} {v : Value} {d : DataW H} {p : List MemPlace} (hv : Value.okWide Tryz.prog W r b0 24 v) (h : DataW.Trod enc Tryz.prog W 0 (fun _ => true) true 24 v d p)
    (hz : (DataW.weights Tryz.prog 24 d).all (· ≤ reachBytes) = true) : ∃ k n x a m c, v = .agg #[.string k, .int .i64 n, .string x, .slice a m c] ∧ k.size ≤ 140737488351232 ∧ x.size ≤ 140737488351232 ∧ m * 64 ≤ 140737488351232 := by
  simp only [Value.okWide, Tryz.underlying24] at hv
  obtain ⟨⟨cs⟩, rfl, hs, _⟩ := hv
  obtain ⟨c0, c1, c2, c3, rfl⟩ := jlist4 (l := cs) (by simpa using hs.trans jcells_tr)
  obtain ⟨fuel, hf⟩ := h
  obtain ⟨k, n, x, a, m, c, rfl, rfl, rfl, rfl, h1, h2, h3⟩ := jtree_read (y := (d, p)) hf hz
  exact ⟨k, n, x, a, m, c, rfl, h1, h2, h3⟩
end
end Go.Proofs.YtaodkfchmaendaaGreatDoor
/-
  A list of calls of May and Fits that comes in, opened; KitAll tells true.
-/
namespace Go.Proofs.YtaodkfchmaendaaGreatDoor
open Go.ChangeShapes Go.WideShapes Go.ChangeAt Go.RowKit
set_option maxRecDepth 100000
theorem jcells_op : Tryz.prog.cellsOf 49 = 10 := by kernel_rfl
theorem jbytes_op : Tryz.prog.bytesOf 49 = 136 := by kernel_rfl
theorem jlist2 {α : Type} {l : List α} (h : l.length = 2) : ∃ c0 c1, l = [c0, c1] := by
  rcases l with _ | ⟨c0, _ | ⟨c1, _ | ⟨c2, l⟩⟩⟩
  all_goals first
    | exact ⟨_, _, rfl⟩
    | (simp at h; done)
theorem jlist10 {α : Type} {l : List α} (h : l.length = 10) : ∃ c0 c1 c2 c3 c4 c5 c6 c7 c8 c9, l = [c0, c1, c2, c3, c4, c5, c6, c7, c8, c9] := by
  rcases l with _ | ⟨c0, _ | ⟨c1, _ | ⟨c2, _ | ⟨c3, _ | ⟨c4, _ | ⟨c5, _ | ⟨c6, _ | ⟨c7, _ | ⟨c8, _ | ⟨c9, _ | ⟨c10, l⟩⟩⟩⟩⟩⟩⟩⟩⟩⟩⟩
  all_goals first
    | exact ⟨_, _, _, _, _, _, _, _, _, _, rfl⟩
    | (simp at h; done)
/-- What lies at a place: a row and a tree. -/
structure OpAt (W : World) (g o : Nat) (r : Rw) (ra : Option Addr) (rc : Nat) (k : ByteArray) (n : Int) (x : ByteArray) (ta : Option Addr) (m tc : Nat) : Prop where
  c0 : W.cell? ⟨g, o, none⟩ = some (.string r.kind)
  c1 : W.cell? ⟨g, o + 1, none⟩ = some (.int .i64 r.min)
  c2 : W.cell? ⟨g, o + 2, none⟩ = some (.int .i64 r.max)
  c3 : W.cell? ⟨g, o + 3, none⟩ = some (.bool r.num)
  c4 : W.cell? ⟨g, o + 4, none⟩ = some (.int .i64 r.text)
  c5 : W.cell? ⟨g, o + 5, none⟩ = some (.slice ra r.abs.length rc)
  c6 : W.cell? ⟨g, o + 6, none⟩ = some (.string k)
  c7 : W.cell? ⟨g, o + 7, none⟩ = some (.int .i64 n)
  c8 : W.cell? ⟨g, o + 8, none⟩ = some (.string x)
  c9 : W.cell? ⟨g, o + 9, none⟩ = some (.slice ta m tc)
  row : TRow W ra r.abs
  z0 : r.kind.size ≤ 140737488351232
  z5 : r.abs.length * 16 ≤ 140737488351232
  z6 : k.size ≤ 140737488351232
  z8 : x.size ≤ 140737488351232
  z9 : m * 64 ≤ 140737488351232
theorem OpAt.later {W W' : World} {g o : Nat} {r : Rw} {ra : Option Addr} {rc : Nat} {k : ByteArray} {n : Int} {x : ByteArray} {ta : Option Addr} {m tc : Nat} (h : OpAt W g o r ra rc k n x ta m tc) (hx : Ext W W') : OpAt W' g o r ra rc k n x ta m tc := by
  have Y : ∀ {q : Addr} {v : Value}, W.cell? q = some v → W'.cell? q = some v := fun e => (hx.kp (fun _ => True)).cell e trivial
  exact ⟨Y h.c0, Y h.c1, Y h.c2, Y h.c3, Y h.c4, Y h.c5, Y h.c6, Y h.c7, Y h.c8, Y h.c9, h.row.later hx, h.z0, h.z5, h.z6, h.z8, h.z9⟩
def OpsIn (W : World) (a : Option Addr) (n : Nat) : Prop := ∀ i, i < n → ∃ g off r ra rc k num x ta m tc, a = some ⟨g, off, none⟩ ∧ OpAt W g (off + i * 10) r ra rc k num x ta m tc
section
variable {H : Type} {enc : TypeId × Value → H} {W : World}
set_option maxHeartbeats 1000000 in
theorem jops_open {r : Reach} {b0 : Nat} {v : Value} {d : DataW H} {p : List MemPlace} (hv : Value.okWide Tryz.prog W r b0 47 v) (h : DataW.Trod enc Tryz.prog W 0 (fun _ => true) true 47 v d p)
    (hz : (DataW.weights Tryz.prog 47 d).all (· ≤ reachBytes) = true) : ∃ a n c, v = .slice a n c ∧ OpsIn W a n ∧ n * 136 ≤ 140737488351232 := by
  obtain ⟨a0, n0, c0, rfl⟩ := okWide_slice Tryz.underlying47 hv
  obtain ⟨fuel, hf⟩ := h
  have hf' : DataW.trod enc Tryz.prog W 0 (fun _ => true) true fuel 47 [.slice a0 n0 c0] = some (d, p) := hf
  rcases DataW.trod_slice Tryz.underlying47 hf' with ⟨h0, _⟩ | ⟨a, len, cap, elems, rest, m, _, h0, hx, _, hlc, _, hel, hat, _, _⟩
  · simp only [List.cons.injEq, and_true] at h0
    injection h0 with e1 e2 e3
    subst e1; subst e2; subst e3
    exact ⟨none, 0, 0, rfl, fun i hi => absurd hi (Nat.not_lt_zero _), by omega⟩
  · simp only [List.cons.injEq, and_true] at h0
    injection h0 with e1 e2 e3
    subst e1; subst e2; subst e3
    have hsp : a.spot = none := by
      simp only [Value.okWide, Tryz.underlying47, Cell.okWide, Cell.ok] at hv
      exact hv.2.2.2.1
    obtain ⟨g, off, sp⟩ := a
    have hsp' : sp = none := hsp
    subst hsp'
    simp only [Prod.mk.injEq] at hx
    obtain ⟨rfl, _⟩ := hx
    simp only [DataW.weights, Tryz.underlying47, List.all_cons, List.all_append, Bool.and_eq_true, List.length_map, jbytes_op, reachBytes] at hz
    obtain ⟨z1, z2, _⟩ := hz
    have z0 : (elems.length + rest.length) * 136 ≤ 140737488351232 := of_decide_eq_true z1
    refine ⟨some ⟨g, off, none⟩, n0, c0, rfl, fun i hi => ?_, by omega⟩
    have hi' : i < elems.length := by omega
    have h1 := hat i hi
    rw [jcells_op, jadd, List.getElem?_eq_getElem hi'] at h1
    obtain ⟨cs, hcs, htr⟩ := Option.bind_eq_some_iff.1 h1
    unfold World.cells? at hcs
    rw [if_pos (Nat.zero_le _)] at hcs
    obtain ⟨b0, b1, b2, b3, b4, b5, b6, b7, b8, b9, rfl⟩ := jlist10 (by simpa using Lib.mapM_length hcs)
    have hcell : ∀ (j : Nat) (b : Value), j < 10 → [b0, b1, b2, b3, b4, b5, b6, b7, b8, b9][j]? = some b → W.cell? ⟨g, off + i * 10 + j, none⟩ = some b := fun j b hj hb => by
      obtain ⟨b', h2, h3⟩ := Lib.mapM_at hcs j j (by rw [List.getElem?_range hj])
      rw [hb] at h2
      rw [jadd] at h3
      rw [h3, ← Option.some.inj h2]
    have hmem : elems[i].1 ∈ elems.map (·.1) := List.mem_map.2 ⟨_, List.getElem_mem hi', rfl⟩
    have hzi : (DataW.weights Tryz.prog 49 elems[i].1).all (· ≤ reachBytes) = true := List.all_eq_true.2 fun n hn => List.all_eq_true.1 z2 n (jweightsAll_mem hmem hn)
    obtain ⟨ys, k, _, hx2, _, hl, hfld⟩ := DataW.trod_struct Tryz.underlying49 htr
    obtain ⟨y0, y1, rfl⟩ := jlist2 (hl.trans rfl)
    have g0 : DataW.trod enc Tryz.prog W 0 (fun _ => true) true k 37 [b0, b1, b2, b3, b4, b5] = some y0 := by have := hfld 0 _ rfl; simpa [jcells_rt] using this
    have g1 : DataW.trod enc Tryz.prog W 0 (fun _ => true) true k 24 [b6, b7, b8, b9] = some y1 := by have := hfld 1 _ rfl; simpa [jcells_tr] using this
    rw [hx2] at hzi
    simp only [List.map_cons, List.map_nil, DataW.weights, Tryz.underlying49, DataW.weightsEach, List.append_nil, List.all_append, Bool.and_eq_true] at hzi
    obtain ⟨rw0, ra, rc, rfl, rfl, rfl, rfl, rfl, rfl, hrow, q0, q5⟩ := jrow_read g0 hzi.1
    obtain ⟨tk, tn, tx, ta, tm, tc, rfl, rfl, rfl, rfl, q6, q8, q9⟩ := jtree_read g1 hzi.2
    exact ⟨g, off, rw0, ra, rc, tk, tn, tx, ta, tm, tc, rfl, ⟨hcell 0 _ (by decide) rfl, hcell 1 _ (by decide) rfl, hcell 2 _ (by decide) rfl, hcell 3 _ (by decide) rfl, hcell 4 _ (by decide) rfl, hcell 5 _ (by decide) rfl, hcell 6 _ (by decide) rfl, hcell 7 _ (by decide) rfl, hcell 8 _ (by decide) rfl, hcell 9 _ (by decide) rfl, hrow, q0, q5, q6, q8, q9⟩⟩
end
namespace Nd
theorem is_err {c : Int} {v : Value} {w : World} (h : (c = 0 ∧ v = .nilIface) ∨ ((c == 0) = false ∧ ∃ b, v = .iface 137 (.pointer (some ⟨b, 0, none⟩)) ∧ w.cell? ⟨b, 0, none⟩ = some (.int .i64 c))) : Calls Tryz.prog 14 #[v, .int .i64 c] w fun e w' => e = .returned (.bool true) ∧ Ext w w' := by
  rcases h with ⟨rfl, rfl⟩ | ⟨hc, b, rfl, hb⟩
  · exact is_nil w
  · exact is_coded b c w hc hb
theorem err_later {c : Int} {v : Value} {w w' : World} (h : (c = 0 ∧ v = .nilIface) ∨ ((c == 0) = false ∧ ∃ b, v = .iface 137 (.pointer (some ⟨b, 0, none⟩)) ∧ w.cell? ⟨b, 0, none⟩ = some (.int .i64 c))) (hx : Ext w w') : (c = 0 ∧ v = .nilIface) ∨ ((c == 0) = false ∧ ∃ b, v = .iface 137 (.pointer (some ⟨b, 0, none⟩)) ∧ w'.cell? ⟨b, 0, none⟩ = some (.int .i64 c)) := h.imp id fun ⟨hc, b, h1, h2⟩ => ⟨hc, b, h1, (hx.kp (fun _ => True)).cell h2 trivial⟩
set_option maxRecDepth 100000 in
set_option maxHeartbeats 4000000 in
theorem kitAll_true (a : Option Addr) (n c : Nat) (w : World) (hS : OpsIn w a n) (hn : n * 136 ≤ 140737488351232) (hl : Laid w) : Calls Tryz.prog 4 #[.slice a n c] w fun e w' => e = .returned (.bool true) ∧ Ext w w' := by
  have HS := hid hS
  have HB := hid (begun7_any w hl)
  have hn' : (n : Int) ≤ 140737488351232 := by omega
  clear hS hl hn
  go_enter Tryz.func4, Tryz.ntmps4
  go_wp2_with fail
  refine HB.out.mono ?_
  rintro e V0 ⟨rfl, hx0⟩
  have HX0 := hid hx0
  clear hx0
  go_wp2_with fail
  go_loopw [3] (fun i wr => ∃ j : Nat, j ≤ n ∧ i = .int .i64 j ∧ Ext w wr) (fun i _ => n - (intOf i).toNat)
  case atStart => exact ⟨0, Nat.zero_le _, rfl, HX0.out⟩
  case round =>
    obtain ⟨j, hj, rfl, hx⟩ := hrel
    have HX := hid hx
    clear hx
    by_cases hlt : j < n
    · have hlt' : (j : Int) < n := by omega
      obtain ⟨g, off, r, ra, rc, k, num, x, ta, m, tc, rfl, hop⟩ := HS.out j hlt
      have HO := hid (hop.later HX.out)
      obtain ⟨p0, p1, p2, p3, p4, p5, p6, p7, p8, p9, hrow, z0, z5, z6, z8, z9⟩ := HO.out
      have HM := hid (fun w1 (hx : Ext wr w1) => kMay_any r ra rc w1 (by omega) (by omega) (hrow.later hx))
      have HRM := hid (fun w1 (hx : Ext wr w1) => rMay_any r ra rc w1 (by omega) (by omega) (hrow.later hx))
      have HF := hid (fun w1 (hx : Ext wr w1) => kFits_any r ra rc k x num ta m tc w1 (by omega) (by omega) (by omega) (by omega) (hrow.later hx))
      have HRF := hid (fun w1 (hx : Ext wr w1) => rFits_any r ra rc k x num m w1 (by omega) (by omega) (hrow.later hx) (by omega) (by omega))
      have hm' : (m : Int) ≤ 140737488351232 := by omega
      have hgl := lt_of_cell p0
      clear hop hrow z0 z5 z6 z8 z9 HO
      generalize mayR r = VM at *
      generalize fitsV r k num x m = VF at *
      unfold Rw.val at HM HRM HF HRF
      obtain ⟨rk, mn, mx, bj, tj, abs⟩ := r
      dsimp only at *
      generalize abs.length = al at *
      have HB2 := hid (blk0 wr (.cells #[.string rk, .int .i64 mn, .int .i64 mx, .bool bj, .int .i64 tj, .slice ra al rc, .string k, .int .i64 num, .string x, .slice ta m tc] 49))
      have X1 := hid (Ext.alloc wr (.cells #[.string rk, .int .i64 mn, .int .i64 mx, .bool bj, .int .i64 tj, .slice ra al rc, .string k, .int .i64 num, .string x, .slice ta m tc] 49))
      have HT := hid (fun W' (hx : Ext (wr.alloc (.cells #[.string rk, .int .i64 mn, .int .i64 mx, .bool bj, .int .i64 tj, .slice ra al rc, .string k, .int .i64 num, .string x, .slice ta m tc] 49)) W') => ten_of (hx.block HB2.out))
      go_wp2_with fail
      refine (HM.out _ X1.out).mono ?_
      rintro e w2 ⟨v2, rfl, hv2, hx2⟩
      have HV2 := hid hv2
      have X2 := hid (X1.out.trans hx2)
      have Y2 := hid hx2
      clear hv2 hx2 p0 p1 p2 p3 p4 p5 p6 p7 p8 p9
      obtain ⟨z0, z1, z2, z3, z4, z5, z6, z7, z8, z9⟩ := HT.out _ Y2.out
      go_wp2_with fail
      refine (HRM.out _ X2.out).mono ?_
      rintro e w3 ⟨rfl, hx3⟩
      have HV3 := hid (err_later HV2.out hx3)
      have X3 := hid (X2.out.trans hx3)
      have Y3 := hid (Y2.out.trans hx3)
      clear hx3 z0 z1 z2 z3 z4 z5 z6 z7 z8 z9
      obtain ⟨z0, z1, z2, z3, z4, z5, z6, z7, z8, z9⟩ := HT.out _ Y3.out
      go_wp2_with fail
      refine (HF.out _ X3.out).mono ?_
      rintro e w4 ⟨v4, rfl, hv4, hx4⟩
      have HV4 := hid hv4
      have HV5 := hid (err_later HV3.out hx4)
      have X4 := hid (X3.out.trans hx4)
      have Y4 := hid (Y3.out.trans hx4)
      clear hv4 hx4 z0 z1 z2 z3 z4 z5 z6 z7 z8 z9
      obtain ⟨z0, z1, z2, z3, z4, z5, z6, z7, z8, z9⟩ := HT.out _ Y4.out
      go_wp2_with fail
      refine (HRF.out _ X4.out).mono ?_
      rintro e w5 ⟨rfl, hx5⟩
      have HV6 := hid (err_later HV4.out hx5)
      have HV7 := hid (err_later HV5.out hx5)
      have X5 := hid (X4.out.trans hx5)
      clear hx5 z0 z1 z2 z3 z4 z5 z6 z7 z8 z9
      go_wp2_with fail
      refine (is_err HV7.out).mono ?_
      rintro e w6 ⟨rfl, hx6⟩
      have HV8 := hid (err_later HV6.out hx6)
      have X6 := hid (X5.out.trans hx6)
      clear hx6
      go_wp2_with fail
      refine (is_err HV8.out).mono ?_
      rintro e w7 ⟨rfl, hx7⟩
      have X7 := hid (HX.out.trans (X6.out.trans hx7))
      clear hx7
      go_wp2_with fail
      go_roundw
      case rel => exact ⟨j + 1, hlt, by go_num, X7.out⟩
      case measure => simp [intOf]; omega
    · have hlt3 : ¬ (j : Int) < n := by omega
      go_wp2_with fail
      go_ret
      exact ⟨rfl, HX.out⟩
end Nd
end Go.Proofs.YtaodkfchmaendaaGreatDoor
