/-
  A list of calls that comes in, opened: of each its operation and its values.
-/
import Derived.Test.YtaafcmmmkalgjaaGreatDoorPlainFit
import Derived.Test.YtaafcmmmkalgjaaGreatDoorEqs
import Derived.Test.YtaafcmmmkalgjaaGreatDoorLRefF
import Derived.Test.YtaafcmmmkalgjaaGreatDoorCTItems
import Derived.Deep.RegionHeld3
import Derived.Deep.Cut
import Derived.Deep.CutRange
namespace Go.Proofs.YtaafcmmmkalgjaaGreatDoor
open Go.ChangeShapes Go.WideShapes Go.ChangeAt Go.RowKit
set_option maxRecDepth 100000
theorem cells_28 : Tryz.prog.cellsOf 28 = 2 := by kernel_rfl
theorem bytes_28 : Tryz.prog.bytesOf 28 = 40 := by kernel_rfl
theorem cells_sl : Tryz.prog.cellsOf 25 = 1 := by kernel_rfl
theorem cells_st : Tryz.prog.cellsOf 9 = 1 := by kernel_rfl
theorem list2 {α : Type} {l : List α} (h : l.length = 2) : ∃ c0 c1, l = [c0, c1] := by
  rcases l with _ | ⟨c0, _ | ⟨c1, _ | ⟨c2, l⟩⟩⟩
  all_goals first
    | exact ⟨_, _, rfl⟩
    | (simp at h; done)
/-- What lies at a place: a call. -/
def CallAt (W : World) (g o : Nat) (op : ByteArray) (la : Option Addr) (lc m : Nat) (ks : List T) : Prop := W.cell? ⟨g, o, none⟩ = some (.string op) ∧ W.cell? ⟨g, o + 1, none⟩ = some (.slice la ks.length lc) ∧ RdL (fun _ => True) W m la ks ∧ (∀ t ∈ ks, t.fitN) ∧ op.size ≤ 140737488351232 ∧ CapE W la ks.length
/-- A list of them. -/
def CallsIn (W : World) (a : Option Addr) (n : Nat) : Prop := ∀ i, i < n → ∃ g off op la lc m ks, a = some ⟨g, off, none⟩ ∧ CallAt W g (off + i * 2) op la lc m ks
section
variable {H : Type} {enc : TypeId × Value → H} {W : World}
theorem plain_cap (m : Nat) {b0 b1 b2 b3 : Value} {y : DataW H × List MemPlace} (h : DataW.trod enc Tryz.prog W 0 (fun _ => true) true m 30 [b0, b1, b2, b3] = some y) : ∃ q l c, b3 = Value.slice q l c ∧ l ≤ c := by
  obtain ⟨ys, k, _, _, _, hl, hfld⟩ := DataW.trod_struct Tryz.underlying30 h
  obtain ⟨y0, y1, y2, y3, rfl⟩ := list4 (hl.trans rfl)
  have g3 : DataW.trod enc Tryz.prog W 0 (fun _ => true) true k 25 [b3] = some y3 := by have := hfld 3 _ rfl; simpa [cells_sl] using this
  rcases DataW.trod_slice Tryz.underlying25 g3 with ⟨h0, _⟩ | ⟨a, len, cap, _, _, _, _, h0, _, _, hlc, _, _, _, _, _⟩
  · simp only [List.cons.injEq, and_true] at h0
    exact ⟨none, 0, 0, h0, Nat.le_refl _⟩
  · simp only [List.cons.injEq, and_true] at h0
    exact ⟨some a, len, cap, h0, by omega⟩
set_option maxHeartbeats 1000000 in
theorem plains_readF {fuel : Nat} {v : Value} {y : DataW H × List MemPlace} (g3 : DataW.trod enc Tryz.prog W 0 (fun _ => true) true fuel 25 [v] = some y)
    (hz : (DataW.weights Tryz.prog 25 y.1).all (· ≤ reachBytes) = true) : ∃ m a c ks, v = .slice a ks.length c ∧ RdL (fun _ => True) W m a ks ∧ (∀ t ∈ ks, t.fitN) ∧ CapE W a ks.length := by
  rcases DataW.trod_slice Tryz.underlying25 g3 with ⟨h0, _⟩ | ⟨a, len, cap, elems, rest, m, hm, h0, hx, _, hlc, _, hel, hat, _, _⟩
  · simp only [List.cons.injEq, and_true] at h0
    rw [h0]
    exact ⟨0, none, 0, [], rfl, ⟨by decide, .inl rfl⟩, fun t ht => absurd ht (by simp), fun _ _ _ j hj => absurd hj (Nat.not_lt_zero _)⟩
  simp only [List.cons.injEq, and_true] at h0
  subst h0
  subst hx
  by_cases hl0 : len = 0
  · subst hl0
    exact ⟨0, some a, cap, [], rfl, ⟨by decide, .inl rfl⟩, fun t ht => absurd ht (by simp), fun _ _ _ j hj => absurd hj (Nat.not_lt_zero _)⟩
  simp only [DataW.weights, Tryz.underlying25, List.all_cons, List.all_append, Bool.and_eq_true, List.length_map, bytes_30, reachBytes] at hz
  obtain ⟨z31, z32, _⟩ := hz
  have z30 : (elems.length + rest.length) * 56 ≤ 140737488351232 := of_decide_eq_true z31
  have kid : ∀ i, i < len → ∃ u0 u1 u2 u3, W.cell? (a.add (i * 4)) = some u0 ∧ W.cell? ((a.add (i * 4)).add 1) = some u1 ∧ W.cell? ((a.add (i * 4)).add 2) = some u2 ∧ W.cell? ((a.add (i * 4)).add 3) = some u3 ∧ (∃ q l c, u3 = Value.slice q l c ∧ l ≤ c) ∧ ∃ t, Rd (fun _ => True) W m (.agg #[u0, u1, u2, u3]) t ∧ t.fitN := fun i hi => by
    have hi' : i < elems.length := by omega
    have h1 := hat i hi
    rw [cells_30, List.getElem?_eq_getElem hi'] at h1
    obtain ⟨cs, hcs, htr⟩ := Option.bind_eq_some_iff.1 h1
    unfold World.cells? at hcs
    rw [if_pos (Nat.zero_le _)] at hcs
    obtain ⟨x0, x1, x2, x3, rfl⟩ := list4 (by simpa using Lib.mapM_length hcs)
    have cell : ∀ (j : Nat) (b : Value), j < 4 → [x0, x1, x2, x3][j]? = some b → W.cell? ((a.add (i * 4)).add j) = some b := fun j b hj hb => by
      obtain ⟨b', h2, h3⟩ := Lib.mapM_at hcs j j (by rw [List.getElem?_range hj])
      rw [hb] at h2
      rw [h3, ← Option.some.inj h2]
    have c0 := cell 0 _ (by decide) rfl
    have ea : ∀ b : Addr, b.add 0 = b := fun b => by simp [Addr.add]
    rw [ea] at c0
    refine ⟨x0, x1, x2, x3, c0, cell 1 _ (by decide) rfl, cell 2 _ (by decide) rfl, cell 3 _ (by decide) rfl, plain_cap m htr, plain_readF m htr (List.all_eq_true.2 fun n hn => ?_)⟩
    exact List.all_eq_true.1 z32 n (weightsAll_mem (List.mem_map.2 ⟨_, List.getElem_mem hi', rfl⟩) hn)
  obtain ⟨g, off, sp⟩ := a
  have hsp : sp = none := by
    obtain ⟨u0, _, _, _, h0, _⟩ := kid 0 (by omega)
    have e0 : Addr.add ⟨g, off, sp⟩ (0 * 4) = ⟨g, off, sp⟩ := by simp [Addr.add]
    rw [e0] at h0
    exact cell_spot h0
  subst hsp
  have ea : ∀ p j, Addr.add ⟨g, p, none⟩ j = ⟨g, p + j, none⟩ := fun p j => by
    by_cases hj : j = 0
    · subst hj; simp [Addr.add]
    · simp [Addr.add, hj]
  simp only [ea] at kid
  obtain ⟨ks, hkl, hks⟩ := ks_of (n := len) (P := fun i t => (∃ u0 u1 u2 u3, Four W g (off + i * 4) u0 u1 u2 u3 ∧ Rd (fun _ => True) W m (.agg #[u0, u1, u2, u3]) t) ∧ t.fitN ∧ ∃ q l c, W.cell? ⟨g, off + i * 4 + 3, none⟩ = some (.slice q l c) ∧ l ≤ c) (fun i hi => by
    obtain ⟨u0, u1, u2, u3, h0, h1, h2, h3, ⟨q, l, c, e, hlc⟩, t, ht, hft⟩ := kid i hi
    exact ⟨t, ⟨u0, u1, u2, u3, ⟨h0, h1, h2, h3⟩, ht⟩, hft, q, l, c, by rw [h3, e], hlc⟩)
  refine ⟨m, some ⟨g, off, none⟩, cap, ks, by rw [hkl], ⟨by rw [hkl]; omega, .inr ⟨g, off, rfl, trivial, fun j hj => (hks j hj).1⟩⟩, fun t ht => ?_, fun g' off' e j hj => ?_⟩
  · obtain ⟨j, hj, rfl⟩ := List.getElem_of_mem ht
    exact (hks j hj).2.1
  · injection e with e
    injection e with e1 e2
    subst e1; subst e2
    exact (hks j hj).2.2
set_option maxHeartbeats 1000000 in
theorem call_read {g o m : Nat} {b0 b1 : Value} {y : DataW H × List MemPlace} (h : DataW.trod enc Tryz.prog W 0 (fun _ => true) true m 28 [b0, b1] = some y)
    (hz : (DataW.weights Tryz.prog 28 y.1).all (· ≤ reachBytes) = true) (hc : ∀ (j : Nat) (b : Value), j < 2 → [b0, b1][j]? = some b → W.cell? ⟨g, o + j, none⟩ = some b) : ∃ op la lc m ks, CallAt W g o op la lc m ks := by
  obtain ⟨ys, k, _, hx, _, hl, hfld⟩ := DataW.trod_struct Tryz.underlying28 h
  obtain ⟨y0, y1, rfl⟩ := list2 (hl.trans rfl)
  have g0 : DataW.trod enc Tryz.prog W 0 (fun _ => true) true k 9 [b0] = some y0 := by have := hfld 0 _ rfl; simpa [cells_st] using this
  have g1 : DataW.trod enc Tryz.prog W 0 (fun _ => true) true k 25 [b1] = some y1 := by have := hfld 1 _ rfl; simpa [cells_sl] using this
  obtain ⟨sx, e0, rfl, _⟩ := DataW.trod_string Tryz.underlying9 g0
  simp only [List.cons.injEq, and_true] at e0
  subst e0
  subst hx
  simp only [List.map_cons, List.map_nil, DataW.weights, Tryz.underlying28, DataW.weightsEach, List.append_nil, List.all_append, Bool.and_eq_true, List.all_cons, List.all_nil, Bool.and_true, decide_eq_true_eq] at hz
  obtain ⟨z1, z2⟩ := hz
  obtain ⟨ml, la, lc, ks, rfl, hL, hfl, hcp⟩ := plains_readF g1 z2
  exact ⟨sx, la, lc, ml, ks, hc 0 _ (by decide) rfl, hc 1 _ (by decide) rfl, hL, hfl, text_reach sx z1, hcp⟩
theorem calls_open {r : Reach} {b0 : Nat} {v : Value} {d : DataW H} {p : List MemPlace} (hv : Value.okWide Tryz.prog W r b0 22 v) (h : DataW.Trod enc Tryz.prog W 0 (fun _ => true) true 22 v d p)
    (hz : (DataW.weights Tryz.prog 22 d).all (· ≤ reachBytes) = true) : ∃ a n c, v = .slice a n c ∧ CallsIn W a n ∧ n * 40 ≤ 140737488351232 := by
  obtain ⟨a0, n0, c0, rfl⟩ := okWide_slice Tryz.underlying22 hv
  obtain ⟨fuel, hf⟩ := h
  have hf' : DataW.trod enc Tryz.prog W 0 (fun _ => true) true fuel 22 [.slice a0 n0 c0] = some (d, p) := hf
  rcases DataW.trod_slice Tryz.underlying22 hf' with ⟨h0, _⟩ | ⟨a, len, cap, elems, rest, m, _, h0, hx, _, hlc, _, hel, hat, _, _⟩
  · simp only [List.cons.injEq, and_true] at h0
    injection h0 with e1 e2 e3
    subst e1; subst e2; subst e3
    exact ⟨none, 0, 0, rfl, fun i hi => absurd hi (Nat.not_lt_zero _), by omega⟩
  · simp only [List.cons.injEq, and_true] at h0
    injection h0 with e1 e2 e3
    subst e1; subst e2; subst e3
    have hsp : a.spot = none := by
      simp only [Value.okWide, Tryz.underlying22, Cell.okWide, Cell.ok] at hv
      exact hv.2.2.2.1
    obtain ⟨g, off, sp⟩ := a
    have hsp' : sp = none := hsp
    subst hsp'
    simp only [Prod.mk.injEq] at hx
    obtain ⟨rfl, _⟩ := hx
    simp only [DataW.weights, Tryz.underlying22, List.all_cons, List.all_append, Bool.and_eq_true, List.length_map, bytes_28, reachBytes] at hz
    obtain ⟨z1, z2, _⟩ := hz
    have z0 : (elems.length + rest.length) * 40 ≤ 140737488351232 := of_decide_eq_true z1
    have ea : ∀ p j, Addr.add ⟨g, p, none⟩ j = ⟨g, p + j, none⟩ := fun p j => by
      by_cases hj : j = 0
      · subst hj; simp [Addr.add]
      · simp [Addr.add, hj]
    refine ⟨some ⟨g, off, none⟩, n0, c0, rfl, fun i hi => ?_, by omega⟩
    have hi' : i < elems.length := by omega
    have h1 := hat i hi
    rw [cells_28, ea, List.getElem?_eq_getElem hi'] at h1
    obtain ⟨cs, hcs, htr⟩ := Option.bind_eq_some_iff.1 h1
    unfold World.cells? at hcs
    rw [if_pos (Nat.zero_le _)] at hcs
    obtain ⟨x0, x1, rfl⟩ := list2 (by simpa using Lib.mapM_length hcs)
    have hmem : elems[i].1 ∈ elems.map (·.1) := List.mem_map.2 ⟨_, List.getElem_mem hi', rfl⟩
    obtain ⟨op, la, lc, ml, ks, hcall⟩ := call_read (g := g) (o := off + i * 2) htr (List.all_eq_true.2 fun n hn => List.all_eq_true.1 z2 n (weightsAll_mem hmem hn)) (fun j b hj hb => by
      obtain ⟨b', h2, h3⟩ := Lib.mapM_at hcs j j (by rw [List.getElem?_range hj])
      rw [hb] at h2
      rw [ea] at h3
      rw [h3, ← Option.some.inj h2])
    exact ⟨g, off, op, la, lc, ml, ks, rfl, hcall⟩
end
end Go.Proofs.YtaafcmmmkalgjaaGreatDoor
/-
  light and works of the statements of list, given that the program and the document answer the same.
-/
namespace Go.Proofs.YtaafcmmmkalgjaaGreatDoor.Nd
open Go.RowKit
def LightsR (w : World) (ks : List T) (e : Ending) (w' : World) : Prop := ∃ b, e = .returned (.bool b) ∧ (b = true → ks.length ≤ 2000 ∧ ∀ t ∈ ks, lightB t = true) ∧ Ext w w'
set_option maxRecDepth 100000 in
set_option maxHeartbeats 2000000 in
theorem lights_any {K : Nat → Prop} {d : Nat} {a : Option Addr} {c : Nat} {ks : List T} (w : World) (h : RdL K w d a ks) : Calls Tryz.prog 6 #[.slice a ks.length c] w (LightsR w ks) := by
  have HK := hid h
  obtain ⟨n, hne⟩ : ∃ n, ks.length = n := ⟨_, rfl⟩
  have HNE := hid hne
  have hn' : (n : Int) ≤ 140737488351232 := by have := h.1; omega
  rw [hne]
  clear h hne
  go_enter Tryz.func6, Tryz.ntmps6
  go_wp2_with fail
  go_loopw [3, 4] (fun q3 q4 wr => ∃ j : Nat, j ≤ n ∧ j ≤ 2000 ∧ q4 = .int .i64 j ∧ q3 = .int .i64 j ∧ (∀ i, (hi : i < ks.length) → i < j → lightB ks[i] = true) ∧ Ext w wr) (fun _ q4 _ => n - (intOf q4).toNat)
  case atStart => exact ⟨0, Nat.zero_le _, Nat.zero_le _, rfl, rfl, fun _ _ h => absurd h (Nat.not_lt_zero _), Ext.refl _⟩
  case round =>
    obtain ⟨j, hj, hj2, rfl, rfl, hall, hx⟩ := hrel
    have HX := hid hx
    have HALL := hid hall
    clear hx hall
    by_cases hlt : j < n
    · have hlt' : (j : Int) < n := by omega
      have hjx : j < ks.length := by rw [HNE.out]; exact hlt
      obtain ⟨g, off, k', n', x', a', l', c', rfl, hg, h4, hrd0⟩ := HK.out.kid hjx
      obtain ⟨o0, o1, o2, o3⟩ := Four.keep h4 (HX.out.kp K) hg
      have hgl := lt_of_cell o0
      have HLG := hid (Light_any wr (hrd0.later HX.out))
      have HS := hid (show lightB ks[j] = true → ∀ i, (hi : i < ks.length) → i < j + 1 → lightB ks[i] = true from fun hy i hi h => by
        rcases Nat.lt_succ_iff_lt_or_eq.1 h with h | rfl
        · exact HALL.out i hi h
        · exact hy)
      generalize ks[j] = t at *
      obtain ⟨b, hb⟩ : ∃ b, lightB t = b := ⟨_, rfl⟩
      rw [hb] at HLG HS
      clear hjx h4 hrd0 hg hb
      go_wp2_with fail
      refine HLG.out.mono ?_
      rintro e w1 ⟨rfl, hx1⟩
      have X1 := hid (HX.out.trans hx1)
      clear hx1 o0 o1 o2 o3 hgl
      cases b with
      | false =>
        go_wp2_with fail
        go_ret
        exact ⟨false, rfl, (fun h => Bool.noConfusion h), X1.out⟩
      | true =>
        by_cases h20 : j = 2000
        · subst h20
          go_wp2_with fail
          go_ret
          exact ⟨false, rfl, (fun h => Bool.noConfusion h), X1.out⟩
        · have h21 : ¬ (2000 : Int) < (j : Int) + 1 := by omega
          go_wp2_with fail
          go_roundw
          case rel => exact ⟨j + 1, hlt, by omega, by go_num, by go_num, HS.out (by trivial), X1.out⟩
          case measure => simp [intOf]; omega
    · have hlt3 : ¬ (j : Int) < n := by omega
      go_wp2_with fail
      go_ret
      refine ⟨true, rfl, fun _ => ⟨by have := HNE.out; omega, fun t ht => ?_⟩, HX.out⟩
      obtain ⟨i, hi, rfl⟩ := List.getElem_of_mem ht
      exact HALL.out i hi (by have := HNE.out; omega)
theorem titems_prow {w : World} {base d m c : Nat} {ao : Option Addr} {acc : List T} (h : TItems w base d (.slice ao m c) acc) : PRow w ao acc := by
  rcases Nat.eq_zero_or_pos acc.length with h0 | h0
  · exact .inl (List.eq_nil_of_length_eq_zero h0)
  · obtain ⟨g, _, _, _, _, rfl, _⟩ := TItems.at h 0 h0
    refine .inr ⟨g, 0, rfl, fun j hj => ?_⟩
    obtain ⟨g', u0, u1, u2, u3, e, h4, hr⟩ := TItems.at h j hj
    injection e with e
    injection e with e
    subst e
    exact ⟨_, d, u0, u1, u2, u3, by rw [Nat.zero_add]; exact h4, hr.1⟩
def TwLp2 (w w0 : World) (d : Nat) (ks : List T) (q3 q4 : Value) (wr : World) : Prop := ∃ (j : Nat) (ao : Option Addr) (c : Nat), j ≤ ks.length ∧ q4 = .int .i64 j ∧ q3 = .slice ao j c ∧ TItems wr w0.heap.size d (.slice ao j c) (ks.take j) ∧ Ext w0 wr ∧ Ext w wr
set_option maxRecDepth 100000 in
set_option maxHeartbeats 8000000 in
theorem worksC_any {d : Nat} (o : ByteArray) (a : Option Addr) (c : Nat) (ks : List T) (w : World) (hmx : MaxAt w) (hboth : ks.length ≤ 2000 → BothC 8 7 o ks) (hcap : CapE w a ks.length) (h : RdL (fun _ => True) w d a ks) : Calls Tryz.prog 10 #[.agg #[.string o, .slice a ks.length c]] w fun e w' => e = .returned (.bool true) ∧ Ext w w' := by
  have HMX := hid hmx
  have HBO := hid hboth
  have HCP := hid hcap
  clear hmx hboth hcap
  have HK := hid h
  obtain ⟨n, hne⟩ : ∃ n, ks.length = n := ⟨_, rfl⟩
  have HNE := hid hne
  have hn56 : n * 56 ≤ 140737488351232 := by have := h.1; omega
  have hn' : (n : Int) ≤ 140737488351232 := by omega
  have HLI := hid (fun w1 (hx : Ext w w1) => lights_any (c := c) w1 (h.keep (hx.kp _)))
  rw [hne] at HLI ⊢
  clear h hne
  obtain ⟨M, hM⟩ : ∃ M, w.alloc (.cells #[.string o, .slice a n c] 28) = M := ⟨_, rfl⟩
  have XM := hid (show Ext w M from hM ▸ Ext.alloc _ _)
  have HM0 := hid (show M.heap[w.heap.size]? = some (.cells #[.string o, .slice a n c] 28) from hM ▸ blk0 _ _)
  have HB := hid (show ∀ W', Ext M W' → W'.cell? ⟨w.heap.size, 0, none⟩ = some (.string o) ∧ W'.cell? ⟨w.heap.size, 1, none⟩ = some (.slice a n c) ∧ w.heap.size < W'.heap.size from fun W' X => ⟨cell_of (X.block HM0.out) rfl, cell_of (X.block HM0.out) rfl, lt_of_block (X.block HM0.out)⟩)
  obtain ⟨c0, c1, hwl⟩ := HB.out M (Ext.refl _)
  go_enter Tryz.func10, Tryz.ntmps10
  go_wp2_with fail
  first | rw [hM] | skip
  clear hM
  refine (HLI.out _ XM.out).mono ?_
  rintro e w1 ⟨b, rfl, hli, hx1⟩
  have X1 := hid hx1
  have HLL := hid hli
  clear hx1 hli c0 c1 hwl
  cases b with
  | false =>
    go_wp2_with fail
    go_ret
    exact ⟨rfl, XM.out.trans X1.out⟩
  | true =>
    have HLT := hid (HLL.out rfl).2
    have HBQ := hid (HBO.out (HLL.out rfl).1)
    clear HLL HBO
    go_wp2_with fail
    go_loopw [3, 4] (fun q3 q4 wr => TwLp2 M w1 d ks q3 q4 wr) (fun _ q4 _ => n - (intOf q4).toNat)
    case atStart => exact ⟨0, none, 0, Nat.zero_le _, rfl, rfl, TItems.nil _ _, Ext.refl _, X1.out⟩
    case round =>
      obtain ⟨j, ao, c1, hj, rfl, rfl, hit, hx0, hx⟩ := hrel
      have HIT := hid hit
      have HX0 := hid hx0
      have HX := hid hx
      rw [HNE.out] at hj
      clear hit hx hx0
      obtain ⟨b0, b1, hwl⟩ := HB.out wr HX.out
      by_cases hlt : j < n
      · have hlt' : (j : Int) < n := by omega
        have hjx : j < ks.length := by rw [HNE.out]; exact hlt
        obtain ⟨g, off, k', n', x', a', l', c', rfl, hg, h4, hrd0⟩ := HK.out.kid hjx
        obtain ⟨o0, o1, o2, o3⟩ := Four.keep h4 ((XM.out.trans HX.out).kp (fun _ => True)) trivial
        have hgl := lt_of_cell o0
        have HL := hid (show (ks.take j).length = j by rw [List.length_take, Nat.min_eq_left (Nat.le_of_lt hjx)])
        have HS := hid (show ks.take j ++ [ks[j]] = ks.take (j + 1) from (List.take_succ_eq_append_getElem hjx).symm)
        have HTW := hid (twin_any d _ ks[j] _ wr (hrd0.later (XM.out.trans HX.out)))
        generalize ks[j] = t at *
        generalize ks.take j = acc at *
        clear hjx h4 hrd0
        go_wp2_with fail
        refine HTW.out.mono ?_
        rintro e w2 ⟨v2, rfl, hm2, hx2⟩
        have HX2 := hid hx2
        have HM2 := hid hm2
        obtain ⟨u0, u1, u2, u3, rfl⟩ := hm2.rd.agg
        obtain ⟨k2, n2, x2, a2, c2, rfl, rfl, rfl, rfl⟩ := hm2.rd.shape
        clear hx2 hm2 o0 o1 o2 o3 b0 b1 hwl hgl
        generalize t.kids.length = tl at *
        have HIT2 := hid (show TItems (w2.alloc (.cells #[.int .i64 k2, .int .i64 n2, .string x2, .slice a2 tl c2] 30)) w1.heap.size d (.slice ao j c1) acc from HIT.out.keep ((HX2.out.trans (Ext.alloc _ _)).kp (fun _ => True)) (fun _ _ => trivial))
        have HEL := hid (show EL (fun x => (Value.slice ao j c1).ownBlock ≠ some x) (w2.alloc (.cells #[.int .i64 k2, .int .i64 n2, .string x2, .slice a2 tl c2] 30)) d (.agg #[.int .i64 k2, .int .i64 n2, .string x2, .slice a2 tl c2]) t from by
          have h2 := (HM2.out.later (Ext.alloc w2 (.cells #[.int .i64 k2, .int .i64 n2, .string x2, .slice a2 tl c2] 30))).mono (L := fun x => (Value.slice ao j c1).ownBlock ≠ some x) (fun q _ hq e => by have := (HIT.out.own e).2; omega)
          exact ⟨h2.rd, fun _ => h2⟩)
        have HB0 := hid (show w1.heap.size ≤ (w2.alloc (.cells #[.int .i64 k2, .int .i64 n2, .string x2, .slice a2 tl c2] 30)).heap.size from Nat.le_trans HX0.out.size (HX2.out.trans (Ext.alloc _ _)).size)
        go_wp2_with (at_builtin; go_loud (refine app_titem rfl _ _ rfl rfl w1.heap.size d (.slice ao j c1) acc k2 n2 x2 a2 tl c2 t rfl (by first | rfl | (rw [blkS]; rfl)) HB0.out HIT2.out HEL.out (by rw [HL.out]; omega) ?_); intro a5 c5 w5 hit5 hb5; rw [HL.out] at hit5 ⊢)
        go_roundw
        case rel =>
          have hE := Below.trans (HX0.out.trans (HX2.out.trans (Ext.alloc _ _))) hb5
          exact ⟨j + 1, a5, c5, by rw [HNE.out]; omega, by go_num, rfl, by rw [← HS.out]; exact hit5, hE, X1.out.trans hE⟩
        case measure => simp [intOf]; omega
      · obtain rfl : j = n := by omega
        have HI2 := hid (show TItems wr w1.heap.size d (.slice ao j c1) ks by
          have := HIT.out
          rwa [List.take_of_length_le (by have := HNE.out; omega)] at this)
        have hlt3 : ¬ (j : Int) < j := by omega
        obtain ⟨r, hp0, hq0⟩ := HBQ.out
        have HPW := hid (show Calls Tryz.prog 8 #[.string o, .slice ao j c1] wr fun e w' => ∃ V, e = .returned V ∧ AnsV r w' V ∧ Ext wr w' from by
          have := hp0 wr ao c1 (HMX.out.later (XM.out.trans HX.out)) (titems_prow HI2.out)
          rwa [HNE.out] at this)
        have HPR := hid (show ∀ w1, Ext w w1 → Calls Tryz.prog 7 #[.string o, .slice a j c] w1 fun e w' => ∃ R, e = .returned R ∧ AnsP r w' R ∧ Ext w1 w' from fun w1 hx => by
          have := hq0 _ d w1 a c (HK.out.keep (hx.kp _)) (HCP.out.later hx)
          rwa [HNE.out] at this)
        clear hp0 hq0
        go_wp2_with fail
        refine HPW.out.mono ?_
        rintro e w4 ⟨V, rfl, hv, hx4⟩
        have HAV := hid hv
        have HX4 := hid (HX.out.trans hx4)
        have HR4 := hid hx4
        obtain ⟨vv, ec, ex, rfl, hvf⟩ := hv.shape
        have HVF := hid hvf
        clear hv hx4 hvf b0 b1 hwl
        obtain ⟨b0, b1, hwl⟩ := HB.out w4 HX4.out
        go_wp2_with fail
        refine (HPR.out _ (XM.out.trans HX4.out)).mono ?_
        rintro e w5 ⟨R, rfl, hr, hx5⟩
        obtain ⟨pk, pn, px, pa, pl, pc, rfl, hfit⟩ := hr.beside HAV.out
        have HFI := hid hfit
        have HX5 := hid (HX4.out.trans (hx5.trans (Ext.alloc w5 (.cells #[.int .i64 pk, .int .i64 pn, .string px, .slice pa pl pc] 30))))
        have HR5 := hid (HR4.out.trans (hx5.trans (Ext.alloc w5 (.cells #[.int .i64 pk, .int .i64 pn, .string px, .slice pa pl pc] 30))))
        have HF5 := hid (HFI.out (w5.alloc (.cells #[.int .i64 pk, .int .i64 pn, .string px, .slice pa pl pc] 30)) (hx5.trans (Ext.alloc _ _)) (Ext.alloc _ _))
        clear hr hx5 hfit b0 b1 hwl
        go_wp2_with fail
        refine HF5.out.mono ?_
        rintro e w6 ⟨rfl, hx6⟩
        have HX6 := hid (HX5.out.trans hx6)
        have HR6 := hid (HR5.out.trans hx6)
        clear hx6
        have hse : (ex.toList == ex.toList) = true := beq_self_eq_true _
        go_wp2_with fail
        go_loopw [12, 13] (fun q12 q13 wx => ∃ i : Nat, i ≤ j ∧ q13 = .int .i64 i ∧ q12 = .bool true ∧ Ext w6 wx) (fun _ q13 _ => j - (intOf q13).toNat)
        case atStart => exact ⟨0, Nat.zero_le _, rfl, rfl, Ext.refl _⟩
        case round =>
          obtain ⟨i, hi, rfl, rfl, hx7⟩ := hrel
          have HX7 := hid hx7
          clear hx7
          by_cases hlt : i < j
          · have hlt' : (i : Int) < j := by omega
            have hix : i < ks.length := by rw [HNE.out]; exact hlt
            obtain ⟨g, off, k', n', x', a', l', c', ea, hg, h4, hrd0⟩ := HK.out.kid hix
            subst ea
            obtain ⟨g2, u0, u1, u2, u3, eo, h42, hel⟩ := HI2.out.at i hix
            subst eo
            obtain ⟨k2, n2, x2, a2, c2, rfl, rfl, rfl, rfl⟩ := hel.1.shape
            have XA := hid (XM.out.trans (HX6.out.trans HX7.out))
            have XB := hid (HR6.out.trans HX7.out)
            have HKE := hid (fun w1 (hx1 : Ext wr w1) => kept_any w1 ((hel.2 (HLT.out _ (List.getElem_mem hix))).later (XB.out.trans hx1)) (hrd0.later (XA.out.trans hx1)))
            generalize ks[i] = t at *
            generalize (T.kids t).length = kt at *
            have HSK := hid (show ∀ W', Ext wr W' → (W'.cell? ⟨g, off + i * 4, none⟩ = some (.int .i64 k') ∧ W'.cell? ⟨g, off + i * 4 + 1, none⟩ = some (.int .i64 n') ∧ W'.cell? ⟨g, off + i * 4 + 2, none⟩ = some (.string x') ∧ W'.cell? ⟨g, off + i * 4 + 3, none⟩ = some (.slice a' l' c') ∧ W'.cell? ⟨g2, i * 4, none⟩ = some (.int .i64 k2) ∧ W'.cell? ⟨g2, i * 4 + 1, none⟩ = some (.int .i64 n2) ∧ W'.cell? ⟨g2, i * 4 + 2, none⟩ = some (.string x2) ∧ W'.cell? ⟨g2, i * 4 + 3, none⟩ = some (.slice a2 kt c2) ∧ W'.cell? ⟨w.heap.size, 1, none⟩ = some (.slice (some ⟨g, off, none⟩) j c)) from fun W' X => by
              obtain ⟨o0, o1, o2, o3⟩ := Four.keep h4 ((XA.out.trans X).kp (fun _ => True)) trivial
              obtain ⟨p0, p1, p2, p3⟩ := Four.keep h42 ((XB.out.trans X).kp (fun _ => True)) trivial
              exact ⟨o0, o1, o2, o3, p0, p1, p2, p3, (HB.out W' (HX6.out.trans (HX7.out.trans X))).2.1⟩)
            have hgl : g < wr.heap.size := lt_of_cell (HSK.out _ (Ext.refl _)).1
            have hgl2 : g2 < wr.heap.size := lt_of_cell (HSK.out _ (Ext.refl _)).2.2.2.2.1
            have hwl := (HB.out _ (HX6.out.trans HX7.out)).2.2
            clear hel hrd0 h4 h42 hix
            go_upto_region 15 with fail
            go_cut [14] from 64 to 73 (fun s14 wx => s14 = .bool true ∧ Ext wr wx)
            case first =>
              go_region_held3 (fun W' => W'.cell? ⟨g, off + i * 4, none⟩ = some (.int .i64 k') ∧ W'.cell? ⟨g, off + i * 4 + 1, none⟩ = some (.int .i64 n') ∧ W'.cell? ⟨g, off + i * 4 + 2, none⟩ = some (.string x') ∧ W'.cell? ⟨g, off + i * 4 + 3, none⟩ = some (.slice a' l' c') ∧ W'.cell? ⟨g2, i * 4, none⟩ = some (.int .i64 k2) ∧ W'.cell? ⟨g2, i * 4 + 1, none⟩ = some (.int .i64 n2) ∧ W'.cell? ⟨g2, i * 4 + 2, none⟩ = some (.string x2) ∧ W'.cell? ⟨g2, i * 4 + 3, none⟩ = some (.slice a2 kt c2) ∧ W'.cell? ⟨w.heap.size, 1, none⟩ = some (.slice (some ⟨g, off, none⟩) j c))
                (first | with_reducible exact HSK.out _ (Ext.refl _) | with_reducible exact HSK.out _ (Ext.refl _).drew | with_reducible exact HSK.out _ Z1 | go_keep)
                (first
                  | (go_at_call 27; with_reducible refine (HKE.out _ (by repeat (first | with_reducible exact Ext.refl _ | with_reducible refine Ext.drew ?_))).mono ?_; rintro r u1 ⟨rfl, hy⟩; have Z1 : Ext wr u1 := Ext.trans (by repeat (first | with_reducible exact Ext.refl _ | with_reducible refine Ext.drew ?_)) hy))
              all_goals
                go_wp2_with fail
                go_meet
                case rel => exact ⟨rfl, Z1⟩
            case rest =>
              obtain ⟨rfl, hxc⟩ := hcut
              have XC := hid hxc
              clear hxc
              go_wp2_with fail
              go_roundw
              case rel => exact ⟨i + 1, hlt, by go_num, rfl, HX7.out.trans XC.out⟩
              case measure => simp [intOf]; omega
          · have hlt4 : ¬ (i : Int) < j := by omega
            go_wp2_with fail
            go_ret
            exact ⟨rfl, XM.out.trans (HX6.out.trans HX7.out)⟩
end Go.Proofs.YtaafcmmmkalgjaaGreatDoor.Nd
