/-
  Proved: espalierlaw5.SortValues returns true for any two plain values and any sort, and what came in reads as it did. Condition: the library's three tables are laid as the program's text lays them; the card ties them to that text.
  Ahead of it: a sort that comes in, opened; the tables as they are laid; the walk put together.
-/
import Derived.Test.YtllbelglilkdpaaDoorSData
import Derived.ProofKit
import Derived.OpenShut
import Derived.ChangeSlices
import Derived.SizedLaws
import Derived.Lib.LaidTab
import Derived.Test.YtllbelglilkdpaaDoorRows
import Derived.ChangeSame
import Derived.ChangeVars
import Derived.JoinedOf
import Derived.RowKit
import Derived.RowKitTokens
import Derived.LaidLaws
import Derived.LaidHandle
import Derived.Stop.Joined
import Derived.Stop.LaidErr
import Derived.Lib.ItoaNum
import Derived.Test.YtllbelglilkdpaaDoorSValuesC
import Derived.Test.YtllbelglilkdpaaDoorPlainIn
import Derived.Test.YtllbelglilkdpaaDoorTie
import Derived.Test.YtllbelglilkdpaaDoorCards
import Derived.Carry
import Derived.SevenTiedAt
namespace Go.Proofs.YtllbelglilkdpaaDoor
open Go.ChangeShapes Go.WideShapes Go.ChangeAt Go.RowKit
set_option maxRecDepth 100000
theorem scells_9 : Tryd.prog.cellsOf 9 = 1 := by kernel_rfl
theorem scells_25 : Tryd.prog.cellsOf 25 = 1 := by kernel_rfl
theorem scells_27 : Tryd.prog.cellsOf 27 = 2 := by kernel_rfl
theorem sbytes_27 : Tryd.prog.bytesOf 27 = 40 := by kernel_rfl
theorem SRd.deep {K : Nat → Prop} {w : World} : ∀ {d : Nat} {v : Value} {t : S}, SRd K w d v t → SRd K w (d + 1) v t
  | 0, _, _, h => h.elim
  | d + 1, v, .node x ks, ⟨a, c, h1, h3, h4, h5⟩ => ⟨a, c, h1, h3, h4, h5.imp id fun ⟨g, off, ha, hg, hc⟩ => ⟨g, off, ha, hg, fun j hj => by
      obtain ⟨u0, u1, hf, hr⟩ := hc j hj
      exact ⟨u0, u1, hf, SRd.deep hr⟩⟩⟩
theorem slist2 {α : Type} {l : List α} (h : l.length = 2) : ∃ c0 c1, l = [c0, c1] := by
  rcases l with _ | ⟨c0, _ | ⟨c1, _ | ⟨c2, l⟩⟩⟩
  all_goals first
    | exact ⟨_, _, rfl⟩
    | (simp at h; done)
theorem sarray2 {cs : Array Value} (h : cs.size = 2) : ∃ c0 c1, cs = #[c0, c1] := by
  obtain ⟨l⟩ := cs
  obtain ⟨c0, c1, rfl⟩ := slist2 (l := l) (by simpa using h)
  exact ⟨_, _, rfl⟩
theorem sweightsAll_mem {H : Type} {P : Program} {e : TypeId} {d : DataW H} {l : List (DataW H)} (h : d ∈ l) {n : Nat} (hn : n ∈ DataW.weights P e d) : n ∈ DataW.weightsAll P e l := by
  induction l with
  | nil => cases h
  | cons x r ih =>
    simp only [DataW.weightsAll, List.mem_append]
    rcases List.mem_cons.1 h with rfl | h
    · exact .inl hn
    · exact .inr (ih h)
theorem stext_reach (s : ByteArray) (h : s.data.toList.length ≤ reachBytes) : s.size ≤ 140737488351232 := by
  have e : s.data.toList.length = s.size := by rw [Array.length_toList]; rfl
  rw [e] at h
  exact h
theorem scell_spot {w : World} {g off : Nat} {sp : Option _} {v : Value} (h : w.cell? ⟨g, off, sp⟩ = some v) : sp = none := by
  cases sp with
  | none => rfl
  | some s =>
    exfalso
    unfold World.cell? at h
    split at h <;> simp at h
theorem sks_of {α : Type} {n : Nat} {P : Nat → α → Prop} (h : ∀ j, j < n → ∃ t, P j t) : ∃ ks : List α, ks.length = n ∧ ∀ j, (hj : j < ks.length) → P j ks[j] := by
  induction n with
  | zero => exact ⟨[], rfl, fun j hj => absurd hj (Nat.not_lt_zero _)⟩
  | succ n ih =>
    obtain ⟨ks, hl, hp⟩ := ih (fun j hj => h j (by omega))
    obtain ⟨t, ht⟩ := h n (by omega)
    refine ⟨ks ++ [t], by simp [hl], fun j hj => ?_⟩
    by_cases hjn : j < ks.length
    · rw [List.getElem_append_left hjn]; exact hp j hjn
    · have : j = ks.length := by simp at hj; omega
      subst this
      simp [hl]
      exact ht
section
variable {H : Type} {enc : TypeId × Value → H} {W : World}
set_option maxHeartbeats 1000000 in
theorem sort_read : ∀ (m : Nat) {b0 b1 : Value} {y : DataW H × List MemPlace}, DataW.trod enc Tryd.prog W 0 (fun _ => true) true m 27 [b0, b1] = some y →
    (DataW.weights Tryd.prog 27 y.1).all (· ≤ reachBytes) = true → ∃ t, SRd (fun _ => True) W m (.agg #[b0, b1]) t := by
  intro m
  induction m using Nat.strongRecOn with
  | ind m ih =>
  intro b0 b1 y h hz
  obtain ⟨ys, k, hm, hx, _, hl, hfld⟩ := DataW.trod_struct Tryd.underlying27 h
  subst hm
  obtain ⟨y0, y1, rfl⟩ := slist2 (hl.trans rfl)
  have g0 : DataW.trod enc Tryd.prog W 0 (fun _ => true) true k 9 [b0] = some y0 := by have := hfld 0 _ rfl; simpa [scells_9] using this
  have g1 : DataW.trod enc Tryd.prog W 0 (fun _ => true) true k 25 [b1] = some y1 := by have := hfld 1 _ rfl; simpa [scells_25] using this
  obtain ⟨tx, e0, rfl, _⟩ := DataW.trod_string Tryd.underlying9 g0
  simp only [List.cons.injEq, and_true] at e0
  subst e0
  subst hx
  simp only [List.map_cons, List.map_nil, DataW.weights, Tryd.underlying27, DataW.weightsEach, List.nil_append, List.append_nil, List.cons_append, List.all_cons, Bool.and_eq_true, decide_eq_true_eq] at hz
  obtain ⟨z2, z3⟩ := hz
  have s2 := stext_reach tx z2
  rcases DataW.trod_slice Tryd.underlying25 g1 with ⟨h0, _⟩ | ⟨a, len, cap, elems, rest, m, hm, h0, hx, _, hlc, _, hel, hat, _, _⟩
  · simp only [List.cons.injEq, and_true] at h0
    subst h0
    exact ⟨.node tx [], none, 0, rfl, s2, by decide, .inl rfl⟩
  simp only [List.cons.injEq, and_true] at h0
  subst h0; subst hx; subst hm
  by_cases hl0 : len = 0
  · subst hl0
    exact ⟨.node tx [], some a, cap, rfl, s2, by decide, .inl rfl⟩
  simp only [DataW.weights, Tryd.underlying25, List.all_cons, List.all_append, Bool.and_eq_true, List.length_map, sbytes_27, reachBytes] at z3
  obtain ⟨z31, z32, _⟩ := z3
  have z30 : (elems.length + rest.length) * 40 ≤ 140737488351232 := of_decide_eq_true z31
  have kid : ∀ i, i < len → ∃ u0 u1, W.cell? (a.add (i * 2)) = some u0 ∧ W.cell? ((a.add (i * 2)).add 1) = some u1 ∧ ∃ t, SRd (fun _ => True) W m (.agg #[u0, u1]) t := fun i hi => by
    have hi' : i < elems.length := by omega
    have h1 := hat i hi
    rw [scells_27, List.getElem?_eq_getElem hi'] at h1
    obtain ⟨cs, hcs, htr⟩ := Option.bind_eq_some_iff.1 h1
    unfold World.cells? at hcs
    rw [if_pos (Nat.zero_le _)] at hcs
    obtain ⟨x0, x1, rfl⟩ := slist2 (by simpa using Lib.mapM_length hcs)
    have cell : ∀ (j : Nat) (b : Value), j < 2 → [x0, x1][j]? = some b → W.cell? ((a.add (i * 2)).add j) = some b := fun j b hj hb => by
      obtain ⟨b', h2, h3⟩ := Lib.mapM_at hcs j j (by rw [List.getElem?_range hj])
      rw [hb] at h2
      rw [h3, ← Option.some.inj h2]
    have c0 := cell 0 _ (by decide) rfl
    have ea : ∀ b : Addr, b.add 0 = b := fun b => by simp [Addr.add]
    rw [ea] at c0
    refine ⟨x0, x1, c0, cell 1 _ (by decide) rfl, ih m (by omega) htr (List.all_eq_true.2 fun n hn => ?_)⟩
    exact List.all_eq_true.1 z32 n (sweightsAll_mem (List.mem_map.2 ⟨_, List.getElem_mem hi', rfl⟩) hn)
  obtain ⟨g, off, sp⟩ := a
  have hsp : sp = none := by
    obtain ⟨u0, _, h0, _⟩ := kid 0 (by omega)
    have e0 : Addr.add ⟨g, off, sp⟩ (0 * 2) = ⟨g, off, sp⟩ := by simp [Addr.add]
    rw [e0] at h0
    exact scell_spot h0
  subst hsp
  have ea : ∀ p j, Addr.add ⟨g, p, none⟩ j = ⟨g, p + j, none⟩ := fun p j => by
    by_cases hj : j = 0
    · subst hj; simp [Addr.add]
    · simp [Addr.add, hj]
  simp only [ea] at kid
  obtain ⟨ks, hkl, hks⟩ := sks_of (n := len) (P := fun i t => ∃ u0 u1, Two W g (off + i * 2) u0 u1 ∧ SRd (fun _ => True) W m (.agg #[u0, u1]) t) (fun i hi => by
    obtain ⟨u0, u1, h0, h1, t, ht⟩ := kid i hi
    exact ⟨t, u0, u1, ⟨h0, h1⟩, ht⟩)
  refine ⟨.node tx ks, SRd.deep (d := m + 1) ⟨some ⟨g, off, none⟩, cap, by rw [hkl], s2, by rw [hkl]; omega, .inr ⟨g, off, rfl, trivial, hks⟩⟩⟩
theorem sort_open {r : Reach} {b0 : Nat} {v : Value} {d : DataW H} {p : List MemPlace} (hv : Value.okWide Tryd.prog W r b0 27 v) (h : DataW.Trod enc Tryd.prog W 0 (fun _ => true) true 27 v d p)
    (hz : (DataW.weights Tryd.prog 27 d).all (· ≤ reachBytes) = true) : ∃ m t, SRd (fun _ => True) W m v t := by
  simp only [Value.okWide, Tryd.underlying27] at hv
  obtain ⟨cs, rfl, hs, _⟩ := hv
  obtain ⟨c0, c1, rfl⟩ := sarray2 (hs.trans scells_27)
  obtain ⟨fuel, hf⟩ := h
  obtain ⟨t, ht⟩ := sort_read (y := (d, p)) fuel hf hz
  exact ⟨fuel, t, ht⟩
end
end Go.Proofs.YtllbelglilkdpaaDoor
/-
  The library's tables as they are laid: what the rows' condition gives a walk, and a world that meets it.
-/
namespace Go.Proofs.YtllbelglilkdpaaDoor
open Go.ChangeShapes Go.WideShapes Go.RowKit
theorem own : ownKnob Tryd.prog.godebug = none := by kernel_rfl
theorem laidOut : laidOutB Tryd.prog = true := by kernel_rfl
/-- The rows' list. -/
abbrev listed : List (String × DataW Unit) := [("math/bits.deBruijn32tab", Rows.laid_math_bits_deBruijn32tab), ("math/bits.deBruijn64tab", Rows.laid_math_bits_deBruijn64tab), ("internal/strconv.uint64pow10", Rows.laid_internal_strconv_uint64pow10)]
theorem tensNamed : Tryd.prog.globalNamed "internal/strconv.uint64pow10" = some 1 := by kernel_rfl
theorem tensType : (Tryd.prog.globals[1]?).map (·.type) = some 136 := by kernel_rfl
theorem tens_laid : (Rows.laid_internal_strconv_uint64pow10 : DataW Unit) = Lib.tabData .u64 Lib.pow10Tab := by kernel_rfl
theorem table_of_laid {W : World} (h : laidMetH Tryd.prog listed W) : Lib.TabIs Tryd.prog W "internal/strconv.uint64pow10" .u64 Lib.pow10Tab := by
  have h' : laidMet Tryd.prog listed W := h
  have h3 := h'.tail.tail
  rw [tens_laid] at h3
  exact Lib.tabIs_of_head tensNamed tensType Tryd.underlying136 Tryd.underlying117 (by kernel_rfl) (by kernel_rfl) h3
def litsOf (d : DataW Unit) : Array Value := match d with
  | .agg l => (l.map fun | .lit (.int k z) => Value.int k z | _ => .nilIface).toArray
  | _ => #[]
/-- A world in which they are laid. -/
noncomputable def laidWorld (os : Os) : World :=
  let w0 := World.holding Tryd.prog os ⟨#[], #[], []⟩
  { w0 with heap := ((w0.heap.setIfInBounds 1 (.cells (litsOf Rows.laid_internal_strconv_uint64pow10) 136)).setIfInBounds 2 (.cells (litsOf Rows.laid_math_bits_deBruijn32tab) 141)).setIfInBounds 3 (.cells (litsOf Rows.laid_math_bits_deBruijn64tab) 142) }
theorem laidWorld_met (os : Os) (args : Array Value) : laidMetH Tryd.prog listed ((laidWorld os).forCall (fun _ _ => 0) ⟨#[], args, []⟩).memory :=
  laidMetH_of_parts (laidMet_of_run' 8 (by kernel_rfl) (by kernel_rfl)) (by kernel_rfl)
end Go.Proofs.YtllbelglilkdpaaDoor
/-
  The walk of espalierlaw5.SortValues: it returns true.
-/
namespace Go.Proofs.YtllbelglilkdpaaDoor
open Go.RowKit
theorem values_walk {d1 d2 d' : Nat} {vp vq vs : Value} {p q : T} {s : S} {K' : Nat → Prop} (w : World) (hp : Rd (fun _ => True) w d1 vp p) (hq : Rd (fun _ => True) w d2 vq q) (hs : SRd K' w d' vs s) (hG : Laid w) : Calls Tryd.prog 6 #[vp, vq, vs] w fun e w' => e = .returned (.bool true) ∧ Ext w w' := by
  have hp' := hp.up d2
  have hq' := hq.up d1
  rw [Nat.add_comm] at hq'
  by_cases ha : (ofS p).1 = 0
  · cases hss : shp s with
    | none => exact values_none w hp' hq' hs hG ha hss
    | some b => exact values_some (wn := b.1) (wx := b.2) w hp' hq' hs hG ha hss
  · exact values_bad w hp' hq' hs hG ha
end Go.Proofs.YtllbelglilkdpaaDoor
namespace Go.Proofs.YtllbelglilkdpaaDoor.sortValues
open Go.ChangeShapes Go.WideShapes Go.ChangeAt Go.RowKit
set_option maxRecDepth 100000 in
theorem lifted (os : Os) (started : os.Started) (H : Type) (enc : TypeId × Value → H) :
    ReturnsInHanded {} Tryd.checked os 6 .any (fun w args => (Rows.sortValuesSpec.pre enc Tryd.prog Tryd.f6 [] false w args ∧ laidMetH Tryd.prog listed w) ∧ sizedMet enc Tryd.prog Tryd.f6 (OpenSpec.ofChange Rows.sortValuesSpec) false w args)
      (Rows.sortValuesSpec.post enc Tryd.prog Tryd.f6 false true false false) := by
  refine returnsInHanded_of_change_and (C := Tryd.checked) (X := fun w _ => laidMetH Tryd.prog listed w) (fun _ _ _ hh h => h.of_heap hh) own started (by kernel_rfl) Tryd.func6
    (ChangeSpec.witness_at (enc := enc) (C := Tryd.checked) (os := os) (X := fun w _ => laidMetH Tryd.prog listed w) false (laidWorld os) #[.agg #[.int .i64 0, .int .i64 0, .string ⟨#[]⟩, .slice none 0 0], .agg #[.int .i64 0, .int .i64 0, .string ⟨#[]⟩, .slice none 0 0], .agg #[.string ⟨#[]⟩, .slice none 0 0]] 8 rfl (by kernel_rfl) (by kernel_rfl) (by kernel_rfl) (by kernel_rfl) (by kernel_rfl) (laidWorld_met os _)) ?_
  intro W base args ds gs before hval0 hW _ hsz0 hLL _
  have hval : ∀ (j : Nat) t v, Tryd.f6.params[j]? = some t → args[j]? = some v → Value.okWide Tryd.prog W .any base t v := hval0
  have hsz : (DataW.weightsEach Tryd.prog (Tryd.f6.params.toList ++ Rows.sortValuesSpec.plain.varTypes Tryd.prog) (ds ++ gs)).all (· ≤ reachBytes) = true := hsz0
  have hW' := hW
  obtain ⟨p, q, hA0, hV0, rfl, hfz, hnd⟩ := hW
  have hA : DataW.TrodAll enc Tryd.prog W 0 (fun _ => true) true Tryd.f6.params.toList args.toList ds p := hA0
  have hV : DataW.TrodVars enc Tryd.prog W (fun _ => true) [] gs q := hV0
  rw [Tryd.params6] at hA hval hsz
  obtain ⟨v0, vs0, d0, ds0, p0, q0, hargs, rfl, rfl, h0, r0⟩ := trodAll_cons hA
  obtain ⟨v1, vs1, d1, ds1, p1, q1, rfl, rfl, rfl, h1, r1⟩ := trodAll_cons r0
  obtain ⟨v2, vs2, d2, ds2, p2, q2, rfl, rfl, rfl, h2, r2⟩ := trodAll_cons r1
  obtain ⟨rfl, rfl, rfl⟩ := trodAll_nil r2
  obtain rfl : args = #[v0, v1, v2] := by cases args; simp_all
  obtain ⟨rfl, rfl⟩ : gs = [] ∧ q = [] := by
    cases gs with
    | nil => exact ⟨rfl, hV⟩
    | cons g r => exact absurd hV (by intro h; cases h)
  have hz0 : (DataW.weights Tryd.prog 31 d0).all (· ≤ reachBytes) = true :=
    List.all_eq_true.2 (fun n hn => List.all_eq_true.1 hsz n (DataW.weights_mem_each (j := 0) (t := 31) (d := d0) rfl rfl n hn))
  have hz1 : (DataW.weights Tryd.prog 31 d1).all (· ≤ reachBytes) = true :=
    List.all_eq_true.2 (fun n hn => List.all_eq_true.1 hsz n (DataW.weights_mem_each (j := 1) (t := 31) (d := d1) rfl rfl n hn))
  have hz2 : (DataW.weights Tryd.prog 27 d2).all (· ≤ reachBytes) = true :=
    List.all_eq_true.2 (fun n hn => List.all_eq_true.1 hsz n (DataW.weights_mem_each (j := 2) (t := 27) (d := d2) rfl rfl n hn))
  obtain ⟨m0, t0, hr0⟩ := plain_open (hval 0 31 v0 rfl rfl) h0 hz0
  obtain ⟨m1, t1, hr1⟩ := plain_open (hval 1 31 v1 rfl rfl) h1 hz1
  obtain ⟨m2, l2, hr2⟩ := sort_open (hval 2 27 v2 rfl rfl) h2 hz2
  have e1 : Rows.sortValuesSpec.fn H ([d0, d1, d2] ++ []) = { results := [.lit (.bool true)], args := [d0, d1, d2] } := by simp [Rows.sortValuesSpec]
  have hlt0 : ∀ x ∈ p0, x.block < W.heap.size := fun x hx => hW'.lt x (by simp [hx])
  have hlt1 : ∀ x ∈ p1, x.block < W.heap.size := fun x hx => hW'.lt x (by simp [hx])
  have hlt2 : ∀ x ∈ p2, x.block < W.heap.size := fun x hx => hW'.lt x (by simp [hx])
  refine (values_walk W hr0 hr1 hr2 (table_of_laid hLL)).mono fun e W' ⟨he, hx⟩ => ?_
  subst he
  refine ⟨_, rfl, _, _, _, [], p0 ++ (p1 ++ (p2 ++ [])), [], hW', ?_, ?_, ?_, Below.frame hx _, fun h => by cases h⟩
  · rw [e1]; exact trodAll_cons_mk (shut_bool Tryd.underlying4 true) trodAll_mk0
  · rw [e1]; exact trodAll_cons_mk (Below.trod laidOut (by kernel_rfl) (of_decide_eq_true (by kernel_rfl)) h0 hx hlt0) (trodAll_cons_mk (Below.trod laidOut (by kernel_rfl) (of_decide_eq_true (by kernel_rfl)) h1 hx hlt1) (trodAll_cons_mk (Below.trod laidOut (by kernel_rfl) (of_decide_eq_true (by kernel_rfl)) h2 hx hlt2) trodAll_mk0))
  · rw [e1]; rfl
theorem over : Rows.sortValuesRow.holds Tryd.pinned (OpenSpec.ofChange Rows.sortValuesSpec) :=
  OpenClaim.holds_of_wide 6 Tryd.f6 rfl rfl rfl rfl rfl rfl rfl ⟨rfl, rfl, rfl, rfl, rfl⟩ rfl rfl rfl rfl rfl (by kernel_rfl) Tryd.func6 (by kernel_rfl)
    (of_decide_eq_true (by kernel_rfl)) (by unfold Func.isWrapper; rw [if_neg (of_decide_eq_false (by kernel_rfl))]; exact ⟨rfl, rfl⟩)
    (fun os started H enc _ => lifted os started H enc)
end Go.Proofs.YtllbelglilkdpaaDoor.sortValues
namespace Go.Proofs.YtllbelglilkdpaaDoor
open Go
/-- THE STATEMENT. -/
theorem sortValues_holds : Rows.SortValuesCardSaid :=
  Claim7.holds_tied_plain_at .later [] [.data, .data, .data] true (true, "0d6dc656acca132e63a2d40672bb8d912ff785b2ff7b2d1e7c04984c99560b1f") false
    sortValues.over (fun _ h => by cases h) (by kernel_rfl) (fun _ h => by cases h) sortValues_row_tie rfl ⟨rfl, rfl⟩ (by kernel_rfl) rfl
    (fun f fn hf hfn => by
      obtain rfl : f = 6 := Option.some.inj ((show Tryd.prog.funcNamed Rows.sortValuesRow.func = some 6 by kernel_rfl).symm.trans hf) |>.symm
      obtain rfl : fn = Tryd.f6 := (Option.some.inj (Tryd.func6.symm.trans hfn)).symm
      exact ⟨by kernel_rfl, fun j t ht => by
        rw [Tryd.params6] at ht
        rcases j with _ | _ | _ | j
        · obtain rfl : 31 = t := by simpa using ht
          exact (show Tryd.prog.wantsStandIn 31 = false by kernel_rfl)
        · obtain rfl : 31 = t := by simpa using ht
          exact (show Tryd.prog.wantsStandIn 31 = false by kernel_rfl)
        · obtain rfl : 27 = t := by simpa using ht
          exact (show Tryd.prog.wantsStandIn 27 = false by kernel_rfl)
        · simp at ht⟩)
    (by kernel_rfl)
#print axioms sortValues_holds
end Go.Proofs.YtllbelglilkdpaaDoor
