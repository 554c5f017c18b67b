/-
  Numbers of 64 bits: what is over, powers.
-/
import Derived.WalkKit
import Derived.Test.YtecabbifkcnbeaaGreatDoorPlainIn
namespace Go.Proofs.YtecabbifkcnbeaaGreatDoor
open Go.RowKit
/-- A number of 64 bits. -/
def inR (x : Int) : Prop := -9223372036854775808 ≤ x ∧ x ≤ 9223372036854775807
instance (x : Int) : Decidable (inR x) := by unfold inR; infer_instance
theorem natAbs_two {x : Int} (h : ¬ inR x) : 9223372036854775808 ≤ x.natAbs := by unfold inR at h; omega
theorem out_of_abs {x : Int} (h : 9223372036854775809 ≤ x.natAbs) : ¬ inR x := by unfold inR; omega
theorem one_powI : ∀ n : Nat, (1 : Int) ^ n = 1
  | 0 => rfl
  | n + 1 => by rw [Int.pow_succ, one_powI n]; rfl
theorem small_pow (a : Int) (h1 : -1 ≤ a) (h2 : a ≤ 1) : ∀ n, inR (a ^ n)
  | 0 => by simp [inR]
  | n + 1 => by
    obtain rfl | rfl | rfl : a = -1 ∨ a = 0 ∨ a = 1 := by omega
    · have : ((-1 : Int) ^ (n + 1)).natAbs = 1 := by rw [Int.natAbs_pow]; simp
      unfold inR; omega
    · rw [Int.pow_succ]; simp [inR]
    · rw [one_powI]; simp [inR]
/-- Behind a power that is over all are. -/
theorem pow_out (a : Int) (j n : Nat) (h : j ≤ n) (ho : ¬ inR (a ^ j)) : ¬ inR (a ^ n) := by
  by_cases hs : -1 ≤ a ∧ a ≤ 1
  · exact absurd (small_pow a hs.1 hs.2 j) ho
  · by_cases hj : j = n
    · rw [← hj]; exact ho
    · have h2 : 2 ≤ a.natAbs := by omega
      have hb := natAbs_two ho
      rw [Int.natAbs_pow] at hb
      apply out_of_abs
      rw [Int.natAbs_pow]
      have e1 : a.natAbs ^ (j + 1) ≤ a.natAbs ^ n := Nat.pow_le_pow_right (by omega) (by omega)
      have e2 : a.natAbs ^ (j + 1) = a.natAbs ^ j * a.natAbs := Nat.pow_succ _ _
      have e3 : a.natAbs ^ j * 2 ≤ a.natAbs ^ j * a.natAbs := Nat.mul_le_mul_left _ h2
      omega
/-- Of -1, 0, 1 a power comes round again after two factors. -/
theorem pow_round (a : Int) (h1 : -1 ≤ a) (h2 : a ≤ 1) (n : Nat) (hn : 2 < n) : a ^ (2 - n % 2) = a ^ n := by
  obtain rfl | rfl | rfl : a = -1 ∨ a = 0 ∨ a = 1 := by omega
  · rcases Nat.mod_two_eq_zero_or_one n with h | h
    · obtain ⟨k, rfl⟩ : ∃ k, n = 2 * k := ⟨n / 2, by omega⟩
      rw [h, Int.pow_mul, show (-1 : Int) ^ 2 = 1 from rfl, one_powI]; done
    · obtain ⟨k, rfl⟩ : ∃ k, n = 2 * k + 1 := ⟨n / 2, by omega⟩
      rw [h, Int.pow_succ (n := 2 * k), Int.pow_mul, show (-1 : Int) ^ 2 = 1 from rfl, one_powI]; rfl
  · have e1 : 2 - n % 2 ≠ 0 := by omega
    have e2 : n ≠ 0 := by omega
    rw [Int.zero_pow e1, Int.zero_pow e2]
  · rw [one_powI, one_powI]
theorem abs_mul_div (a b : Int) (ha : inR a) (hb : inR b) : a.natAbs < 18446744073709551616 ∧ b.natAbs < 18446744073709551616 := by unfold inR at ha hb; omega
end Go.Proofs.YtecabbifkcnbeaaGreatDoor
/-
  Plain values whose numbers are of 64 bits.
-/
namespace Go.Proofs.YtecabbifkcnbeaaGreatDoor
mutual
/-- The numbers of a plain value are of 64 bits. -/
def T.fitN : T → Prop | .node k n _ ks => (k = 3 → inR n) ∧ T.fitNL ks
def T.fitNL : List T → Prop | [] => True | t :: r => T.fitN t ∧ T.fitNL r
end
end Go.Proofs.YtecabbifkcnbeaaGreatDoor
/-
  A plain value that comes in, opened; its numbers are ones of 64 bits.
-/
namespace Go.Proofs.YtecabbifkcnbeaaGreatDoor
open Go.ChangeShapes Go.WideShapes Go.ChangeAt Go.RowKit
set_option maxRecDepth 100000
theorem lit_fit {n : Int} (h : (Lit.int .i64 n).wf = true) : -9223372036854775808 ≤ n ∧ n ≤ 9223372036854775807 := by
  simp only [Lit.wf, Bool.and_eq_true, decide_eq_true_eq] at h
  exact h
theorem fitNL_of : ∀ (l : List T), (∀ j, (h : j < l.length) → l[j].fitN) → T.fitNL l
  | [], _ => trivial
  | t :: r, h => ⟨h 0 (by simp), fitNL_of r (fun j hj => h (j + 1) (by simp; omega))⟩
section
variable {H : Type} {enc : TypeId × Value → H} {W : World}
set_option maxHeartbeats 1000000 in
theorem plain_readF : ∀ (m : Nat) {b0 b1 b2 b3 : Value} {y : DataW H × List MemPlace}, DataW.trod enc Tryz.prog W 0 (fun _ => true) true m 34 [b0, b1, b2, b3] = some y →
    (DataW.weights Tryz.prog 34 y.1).all (· ≤ reachBytes) = true → ∃ t, Rd (fun _ => True) W m (.agg #[b0, b1, b2, b3]) t ∧ t.fitN := by
  intro m
  induction m using Nat.strongRecOn with
  | ind m ih =>
  intro b0 b1 b2 b3 y h hz
  obtain ⟨ys, k, hm, hx, _, hl, hfld⟩ := DataW.trod_struct Tryz.underlying34 h
  subst hm
  obtain ⟨y0, y1, y2, y3, rfl⟩ := list4 (hl.trans rfl)
  have g0 : DataW.trod enc Tryz.prog W 0 (fun _ => true) true k 3 [b0] = some y0 := by have := hfld 0 _ rfl; simpa [cells_3] using this
  have g1 : DataW.trod enc Tryz.prog W 0 (fun _ => true) true k 2 [b1] = some y1 := by have := hfld 1 _ rfl; simpa [cells_2] using this
  have g2 : DataW.trod enc Tryz.prog W 0 (fun _ => true) true k 9 [b2] = some y2 := by have := hfld 2 _ rfl; simpa [cells_9] using this
  have g3 : DataW.trod enc Tryz.prog W 0 (fun _ => true) true k 24 [b3] = some y3 := by have := hfld 3 _ rfl; simpa [cells_24] using this
  obtain ⟨kd, e0, rfl, _⟩ := DataW.trod_int Tryz.underlying3 g0
  obtain ⟨n, e1, rfl, hwf⟩ := DataW.trod_int Tryz.underlying2 g1
  have hfit : -9223372036854775808 ≤ n ∧ n ≤ 9223372036854775807 := lit_fit hwf
  obtain ⟨tx, e2, rfl, _⟩ := DataW.trod_string Tryz.underlying9 g2
  simp only [List.cons.injEq, and_true] at e0 e1 e2
  subst e0; subst e1; subst e2
  subst hx
  simp only [List.map_cons, List.map_nil, DataW.weights, Tryz.underlying34, DataW.weightsEach, List.nil_append, List.append_nil, List.cons_append, List.all_cons, Bool.and_eq_true, decide_eq_true_eq] at hz
  obtain ⟨z2, z3⟩ := hz
  have s2 := text_reach tx z2
  rcases DataW.trod_slice Tryz.underlying24 g3 with ⟨h0, _⟩ | ⟨a, len, cap, elems, rest, m, hm, h0, hx, _, hlc, _, hel, hat, _, _⟩
  · simp only [List.cons.injEq, and_true] at h0
    subst h0
    exact ⟨.node kd n tx [], ⟨none, 0, rfl, s2, by decide, .inl rfl⟩, fun _ => hfit, trivial⟩
  simp only [List.cons.injEq, and_true] at h0
  subst h0; subst hx; subst hm
  by_cases hl0 : len = 0
  · subst hl0
    exact ⟨.node kd n tx [], ⟨some a, cap, rfl, s2, by decide, .inl rfl⟩, fun _ => hfit, trivial⟩
  simp only [DataW.weights, Tryz.underlying24, List.all_cons, List.all_append, Bool.and_eq_true, List.length_map, bytes_34, reachBytes] at z3
  obtain ⟨z31, z32, _⟩ := z3
  have z30 : (elems.length + rest.length) * 56 ≤ 140737488351232 := of_decide_eq_true z31
  have kid : ∀ i, i < len → ∃ u0 u1 u2 u3, W.cell? (a.add (i * 4)) = some u0 ∧ W.cell? ((a.add (i * 4)).add 1) = some u1 ∧ W.cell? ((a.add (i * 4)).add 2) = some u2 ∧ W.cell? ((a.add (i * 4)).add 3) = some u3 ∧ ∃ t, Rd (fun _ => True) W m (.agg #[u0, u1, u2, u3]) t ∧ t.fitN := fun i hi => by
    have hi' : i < elems.length := by omega
    have h1 := hat i hi
    rw [cells_34, List.getElem?_eq_getElem hi'] at h1
    obtain ⟨cs, hcs, htr⟩ := Option.bind_eq_some_iff.1 h1
    unfold World.cells? at hcs
    rw [if_pos (Nat.zero_le _)] at hcs
    obtain ⟨x0, x1, x2, x3, rfl⟩ := list4 (by simpa using Lib.mapM_length hcs)
    have cell : ∀ (j : Nat) (b : Value), j < 4 → [x0, x1, x2, x3][j]? = some b → W.cell? ((a.add (i * 4)).add j) = some b := fun j b hj hb => by
      obtain ⟨b', h2, h3⟩ := Lib.mapM_at hcs j j (by rw [List.getElem?_range hj])
      rw [hb] at h2
      rw [h3, ← Option.some.inj h2]
    have c0 := cell 0 _ (by decide) rfl
    have ea : ∀ b : Addr, b.add 0 = b := fun b => by simp [Addr.add]
    rw [ea] at c0
    refine ⟨x0, x1, x2, x3, c0, cell 1 _ (by decide) rfl, cell 2 _ (by decide) rfl, cell 3 _ (by decide) rfl, ih m (by omega) htr (List.all_eq_true.2 fun n hn => ?_)⟩
    exact List.all_eq_true.1 z32 n (weightsAll_mem (List.mem_map.2 ⟨_, List.getElem_mem hi', rfl⟩) hn)
  obtain ⟨g, off, sp⟩ := a
  have hsp : sp = none := by
    obtain ⟨u0, _, _, _, h0, _⟩ := kid 0 (by omega)
    have e0 : Addr.add ⟨g, off, sp⟩ (0 * 4) = ⟨g, off, sp⟩ := by simp [Addr.add]
    rw [e0] at h0
    exact cell_spot h0
  subst hsp
  have ea : ∀ p j, Addr.add ⟨g, p, none⟩ j = ⟨g, p + j, none⟩ := fun p j => by
    by_cases hj : j = 0
    · subst hj; simp [Addr.add]
    · simp [Addr.add, hj]
  simp only [ea] at kid
  obtain ⟨ks, hkl, hks⟩ := ks_of (n := len) (P := fun i t => (∃ u0 u1 u2 u3, Four W g (off + i * 4) u0 u1 u2 u3 ∧ Rd (fun _ => True) W m (.agg #[u0, u1, u2, u3]) t) ∧ t.fitN) (fun i hi => by
    obtain ⟨u0, u1, u2, u3, h0, h1, h2, h3, t, ht, hft⟩ := kid i hi
    exact ⟨t, ⟨u0, u1, u2, u3, ⟨h0, h1, h2, h3⟩, ht⟩, hft⟩)
  refine ⟨.node kd n tx ks, Rd.deep (d := m + 1) ⟨some ⟨g, off, none⟩, cap, by rw [hkl], s2, by rw [hkl]; omega, .inr ⟨g, off, rfl, trivial, fun j hj => (hks j hj).1⟩⟩, fun _ => hfit, fitNL_of ks (fun j hj => (hks j hj).2)⟩
theorem plain_openF {r : Reach} {b0 : Nat} {v : Value} {d : DataW H} {p : List MemPlace} (hv : Value.okWide Tryz.prog W r b0 34 v) (h : DataW.Trod enc Tryz.prog W 0 (fun _ => true) true 34 v d p)
    (hz : (DataW.weights Tryz.prog 34 d).all (· ≤ reachBytes) = true) : ∃ m t, Rd (fun _ => True) W m v t ∧ t.fitN := by
  simp only [Value.okWide, Tryz.underlying34] at hv
  obtain ⟨cs, rfl, hs, _⟩ := hv
  obtain ⟨c0, c1, c2, c3, rfl⟩ := array4 (hs.trans cells_34)
  obtain ⟨fuel, hf⟩ := h
  obtain ⟨t, ht⟩ := plain_readF (y := (d, p)) fuel hf hz
  exact ⟨fuel, t, ht⟩
end
end Go.Proofs.YtecabbifkcnbeaaGreatDoor
/-
  What a value in memory stands for; values in memory of their own.
-/
namespace Go.Proofs.YtecabbifkcnbeaaGreatDoor
open Go.RowKit
/-- The plain value that the value v stands for, within d levels; its lists lie in blocks of K. -/
def VRd (K : Nat → Prop) (w : World) : Nat → Value → T → Prop
  | 0, _, _ => False
  | d + 1, v, .node k n x ks =>
    (k = 1 ∧ n = 0 ∧ x = ⟨#[]⟩ ∧ ks = [] ∧ v = .iface 137 (.agg #[])) ∨
    (k = 2 ∧ x = ⟨#[]⟩ ∧ ks = [] ∧ ∃ b : Bool, n = (if b then 1 else 0) ∧ v = .iface 138 (.bool b)) ∨
    (k = 3 ∧ x = ⟨#[]⟩ ∧ ks = [] ∧ v = .iface 51 (.int .i64 n)) ∨
    (k = 4 ∧ n = 0 ∧ ks = [] ∧ x.size ≤ 140737488351232 ∧ v = .iface 98 (.string x)) ∨
    (k = 5 ∧ n = 0 ∧ x = ⟨#[]⟩ ∧ ks.length * 16 ≤ 140737488351232 ∧ ∃ a c, v = .iface 139 (.slice a ks.length c) ∧
      (ks = [] ∨ ∃ g off, a = some ⟨g, off, none⟩ ∧ K g ∧ ∀ j, (h : j < ks.length) → ∃ u, w.cell? ⟨g, off + j, none⟩ = some u ∧ VRd K w d u ks[j]))
theorem VRd.keep {K : Nat → Prop} {w w' : World} (hk : Kp K w w') : ∀ {d : Nat} {v : Value} {t : T}, VRd K w d v t → VRd K w' d v t
  | 0, _, _, h => h
  | d + 1, v, .node k n x ks, h => by
    rcases h with h | h | h | h | ⟨h1, h2, h3, h4, a, c, h5, h6⟩
    · exact .inl h
    · exact .inr (.inl h)
    · exact .inr (.inr (.inl h))
    · exact .inr (.inr (.inr (.inl h)))
    · refine .inr (.inr (.inr (.inr ⟨h1, h2, h3, h4, a, c, h5, ?_⟩)))
      rcases h6 with h6 | ⟨g, off, ha, hg, hc⟩
      · exact .inl h6
      · refine .inr ⟨g, off, ha, hg, fun j hj => ?_⟩
        obtain ⟨u, hu, hr⟩ := hc j hj
        exact ⟨u, hk.cell hu hg, VRd.keep hk hr⟩
theorem VRd.mono {K L : Nat → Prop} {w : World} (hl : ∀ k, k < w.heap.size → K k → L k) : ∀ {d : Nat} {v : Value} {t : T}, VRd K w d v t → VRd L w d v t
  | 0, _, _, h => h
  | d + 1, v, .node k n x ks, h => by
    rcases h with h | h | h | h | ⟨h1, h2, h3, h4, a, c, h5, h6⟩
    · exact .inl h
    · exact .inr (.inl h)
    · exact .inr (.inr (.inl h))
    · exact .inr (.inr (.inr (.inl h)))
    · refine .inr (.inr (.inr (.inr ⟨h1, h2, h3, h4, a, c, h5, ?_⟩)))
      rcases h6 with h6 | ⟨g, off, ha, hg, hc⟩
      · exact .inl h6
      · by_cases h0 : 0 < ks.length
        · refine .inr ⟨g, off, ha, ?_, fun j hj => ?_⟩
          · obtain ⟨u, hu, _⟩ := hc 0 h0
            exact hl g (lt_of_cell hu) hg
          · obtain ⟨u, hu, hr⟩ := hc j hj
            exact ⟨u, hu, VRd.mono hl hr⟩
        · exact .inl (List.eq_nil_of_length_eq_zero (by omega))
theorem VRd.low {K : Nat → Prop} {w : World} {d : Nat} {v : Value} {t : T} (h : VRd K w d v t) : VRd (· < w.heap.size) w d v t := h.mono (fun _ hk _ => hk)
theorem VRd.later {K : Nat → Prop} {w w' : World} {d : Nat} {v : Value} {t : T} (h : VRd K w d v t) (hx : Ext w w') : VRd K w' d v t := h.keep (hx.kp K)
/-- The value v lies in memory of its own: its lists are the blocks bs. -/
def VOwn (w : World) : Nat → Value → T → List Nat → Prop
  | 0, _, _, _ => False
  | d + 1, v, .node k n x ks, bs =>
    (k = 1 ∧ n = 0 ∧ x = ⟨#[]⟩ ∧ ks = [] ∧ bs = [] ∧ v = .iface 137 (.agg #[])) ∨
    (k = 2 ∧ x = ⟨#[]⟩ ∧ ks = [] ∧ bs = [] ∧ ∃ b : Bool, n = (if b then 1 else 0) ∧ v = .iface 138 (.bool b)) ∨
    (k = 3 ∧ x = ⟨#[]⟩ ∧ ks = [] ∧ bs = [] ∧ v = .iface 51 (.int .i64 n)) ∨
    (k = 4 ∧ n = 0 ∧ ks = [] ∧ bs = [] ∧ x.size ≤ 140737488351232 ∧ v = .iface 98 (.string x)) ∨
    (k = 5 ∧ n = 0 ∧ x = ⟨#[]⟩ ∧ ks.length * 16 ≤ 140737488351232 ∧ ∃ (g c : Nat) (cs : Array Value) (bss : List (List Nat)), v = .iface 139 (.slice (some ⟨g, 0, none⟩) ks.length c) ∧ ks.length ≤ c ∧ w.heap[g]? = some (.cells cs 29) ∧ cs.size = c ∧ bs = g :: bss.flatten ∧ bss.length = ks.length ∧
      ∀ j, (h : j < ks.length) → ∃ u b, cs[j]? = some u ∧ bss[j]? = some b ∧ VOwn w d u ks[j] b)
theorem VOwn.rd {w : World} : ∀ {d : Nat} {v : Value} {t : T} {bs : List Nat}, VOwn w d v t bs → VRd (· ∈ bs) w d v t
  | 0, _, _, _, h => h
  | d + 1, v, .node k n x ks, bs, h => by
    rcases h with ⟨h1, h2, h3, h4, _, h5⟩ | ⟨h1, h2, h3, _, h4⟩ | ⟨h1, h2, h3, _, h4⟩ | ⟨h1, h2, h3, _, h4⟩ | ⟨h1, h2, h3, h4, g, c, cs, bss, h5, h6, h7, h8, rfl, h9, hc⟩
    · exact .inl ⟨h1, h2, h3, h4, h5⟩
    · exact .inr (.inl ⟨h1, h2, h3, h4⟩)
    · exact .inr (.inr (.inl ⟨h1, h2, h3, h4⟩))
    · exact .inr (.inr (.inr (.inl ⟨h1, h2, h3, h4⟩)))
    · refine .inr (.inr (.inr (.inr ⟨h1, h2, h3, h4, _, c, h5, .inr ⟨g, 0, rfl, by simp, fun j hj => ?_⟩⟩)))
      obtain ⟨u, b, hu, hb, ho⟩ := hc j hj
      exact ⟨u, by rw [Nat.zero_add]; exact cell_of h7 hu, (VOwn.rd ho).mono (fun k _ hk => List.mem_cons_of_mem _ (List.mem_flatten.2 ⟨b, List.mem_of_getElem? hb, hk⟩))⟩
theorem VOwn.keep {w w' : World} : ∀ {d : Nat} {v : Value} {t : T} {bs : List Nat}, VOwn w d v t bs → Kp (· ∈ bs) w w' → VOwn w' d v t bs
  | 0, _, _, _, h, _ => h
  | d + 1, v, .node k n x ks, bs, h, hk => by
    rcases h with h | h | h | h | ⟨h1, h2, h3, h4, g, c, cs, bss, h5, h6, h7, h8, rfl, h9, hc⟩
    · exact .inl h
    · exact .inr (.inl h)
    · exact .inr (.inr (.inl h))
    · exact .inr (.inr (.inr (.inl h)))
    · refine .inr (.inr (.inr (.inr ⟨h1, h2, h3, h4, g, c, cs, bss, h5, h6, hk.block' h7 (by simp), h8, rfl, h9, fun j hj => ?_⟩)))
      obtain ⟨u, b, hu, hb, ho⟩ := hc j hj
      exact ⟨u, b, hu, hb, VOwn.keep ho (hk.mono (fun k _ hk => List.mem_cons_of_mem _ (List.mem_flatten.2 ⟨b, List.mem_of_getElem? hb, hk⟩)))⟩
theorem VOwn.lt {w : World} : ∀ {d : Nat} {v : Value} {t : T} {bs : List Nat}, VOwn w d v t bs → ∀ b ∈ bs, b < w.heap.size
  | 0, _, _, _, h => h.elim
  | d + 1, v, .node k n x ks, bs, h => by
    rcases h with ⟨_, _, _, _, rfl, _⟩ | ⟨_, _, _, rfl, _⟩ | ⟨_, _, _, rfl, _⟩ | ⟨_, _, _, rfl, _⟩ | ⟨h1, h2, h3, h4, g, c, cs, bss, h5, h6, h7, h8, rfl, h9, hc⟩
    · intro b hb; cases hb
    · intro b hb; cases hb
    · intro b hb; cases hb
    · intro b hb; cases hb
    · intro b hb
      rcases List.mem_cons.1 hb with rfl | hb
      · exact lt_of_block h7
      · obtain ⟨l, hl, hbl⟩ := List.mem_flatten.1 hb
        obtain ⟨j, hj, rfl⟩ := List.getElem_of_mem hl
        obtain ⟨u, b', _, hb', ho⟩ := hc j (by omega)
        rw [List.getElem?_eq_getElem hj] at hb'
        cases hb'
        exact VOwn.lt ho b hbl
theorem VOwn.later {w w' : World} {d : Nat} {v : Value} {t : T} {bs : List Nat} (h : VOwn w d v t bs) (hx : Ext w w') : VOwn w' d v t bs := h.keep (hx.kp _)
theorem VRd.iface {K : Nat → Prop} {w : World} {d : Nat} {v : Value} {t : T} (h : VRd K w d v t) : ∃ τ p, v = .iface τ p := by
  obtain ⟨k, n, x, ks⟩ := t
  cases d with
  | zero => exact h.elim
  | succ d =>
    rcases h with ⟨_, _, _, _, rfl⟩ | ⟨_, _, _, _, _, rfl⟩ | ⟨_, _, _, rfl⟩ | ⟨_, _, _, _, rfl⟩ | ⟨_, _, _, _, _, _, rfl, _⟩
    all_goals exact ⟨_, _, rfl⟩
end Go.Proofs.YtecabbifkcnbeaaGreatDoor
