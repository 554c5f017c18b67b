/-
  node.Nodes of a list of handles that hold nodes: the nodes in a list of its own; by contracts.
-/
import Derived.Test.YtnmcmjgfnncdmaaGreatDoorBMake
import Derived.Maps.AppendAt
import Derived.Deep.LoopGhost
import Derived.Deep.CutRange
import Derived.Deep.CutBlock
import Derived.Deep.Cut
namespace Go.Proofs.YtnmcmjgfnncdmaaGreatDoor.Nd
open Go.RowKit
theorem node_cell (b : Nat) (n : Value) (w : World) (h : w.cell? ⟨b, 0, none⟩ = some n) : Calls Tryz.prog 63 #[.pointer (some ⟨b, 0, none⟩)] w fun e w' => e = .returned n ∧ w' = w := by
  go_enter Tryz.func63, Tryz.ntmps63
  go_wp2
  go_ret
  exact ⟨rfl, rfl⟩
theorem ndInfo : (Tryz.prog.info? 65).map (fun i => (i.zero, i.size, i.bytes)) = some (some .nilIface, 1, 16) := by kernel_rfl
/-- A list of handles in memory, each with its node. -/
def Hands (w : World) (a off n : Nat) (t : Nat → TypeId) (v : Nat → Value) : Prop := ∀ i, i < n → ∃ h, w.cell? ⟨a, off + i, none⟩ = some (.pointer (some ⟨h, 0, none⟩)) ∧ w.cell? ⟨h, 0, none⟩ = some (.iface (t i) (v i)) ∧ a < w.heap.size ∧ h < w.heap.size
theorem Hands.later {w w' : World} {a off n : Nat} {t : Nat → TypeId} {v : Nat → Value} (h : Hands w a off n t v) (hx : Ext w w') : Hands w' a off n t v := by
  intro i hi
  obtain ⟨k, h1, h2, h3, h4⟩ := h i hi
  exact ⟨k, (hx.kp (fun _ => True)).cell h1 trivial, (hx.kp (fun _ => True)).cell h2 trivial, Nat.lt_of_lt_of_le h3 hx.size, Nat.lt_of_lt_of_le h4 hx.size⟩
theorem new_one (w : World) (v : Value) (t : TypeId) : ∀ (j : Nat) (u : Value), [v][j]? = some u → (w.alloc (.cells #[v] t)).cell? (Addr.add ⟨w.heap.size, 0, none⟩ j) = some u := by
  intro j u hu
  have : Addr.add ⟨w.heap.size, 0, none⟩ j = ⟨w.heap.size, j, none⟩ := by unfold Addr.add; cases j <;> simp
  rw [this]
  exact cell_of (blk0 _ _) (by simpa using hu)
/-- A list of handles, or none. -/
def HandsO (w : World) (ao : Option Addr) (n : Nat) (t : Nat → TypeId) (v : Nat → Value) : Prop := n = 0 ∨ ∃ a off, ao = some ⟨a, off, none⟩ ∧ Hands w a off n t v
theorem HandsO.later {w w' : World} {ao : Option Addr} {n : Nat} {t : Nat → TypeId} {v : Nat → Value} (h : HandsO w ao n t v) (hx : Ext w w') : HandsO w' ao n t v := h.imp id fun ⟨a, off, e, hh⟩ => ⟨a, off, e, hh.later hx⟩
theorem nil_iface (t : TypeId) (v : Value) (w : World) : (binOp .eql 65 (.iface t v) .nilIface).run Tryz.prog w = .ok (.bool false) w := by kernel_rfl
set_option maxRecDepth 100000 in
set_option maxHeartbeats 2000000 in
theorem knodesOf_any (ao : Option Addr) (n c : Nat) (t : Nat → TypeId) (v : Nat → Value) (w : World) (hn : n ≤ 100000) (hh : HandsO w ao n t v) : Calls Tryz.prog 65 #[.slice ao n c] w fun e w' => ∃ q, e = .returned (.tuple #[q, .bool true]) ∧ w'.ownsRow w.heap.size 65 1 q n ((List.range n).map fun i => .iface (t i) (v i)) ∧ Ext w w' := by
  obtain ⟨i0, hi0, hz0, hz1, hz2⟩ := info_parts ndInfo
  have HH := hid hh
  clear hh
  go_enter Tryz.func65, Tryz.ntmps65
  go_wp2_with fail
  go_loopg [4, 10] n (fun g q3 q8 wr => ∃ j : Nat, j + g = n ∧ q8 = .int .i64 j ∧ wr.ownsRow w.heap.size 65 1 q3 j ((List.range j).map fun i => .iface (t i) (v i)) ∧ Ext w wr)
  case atStart => exact ⟨0, by omega, rfl, World.ownsRow_nil _ _ _ _, Ext.refl _⟩
  case round =>
    obtain ⟨j, hj, rfl, hown, hx⟩ := hrel
    obtain ⟨a3, c3, rfl⟩ := ownsRow_slice hown
    have HOW := hid hown
    have XR := hid hx
    clear hown hx
    by_cases hlt : j < n
    · have hlt' : (j : Int) < n := by omega
      rcases HH.out.later XR.out with h0 | ⟨a, off, rfl, hhs⟩
      · omega
      obtain ⟨h, p0, p1, hl1, hl2⟩ := hhs j hlt
      clear hhs
      generalize htj : t j = tj at *
      generalize hvj : v j = vj at *
      have HTJ := hid htj
      have HVJ := hid hvj
      clear htj hvj
      have HO2 := hid (row_ext HOW.out (Ext.alloc wr (.cells #[.iface tj vj] 65)))
      have HN := hid (new_one wr (.iface tj vj) 65)
      have HUS := hid XR.out.size
      have hnil := nil_iface tj vj
      go_wp2_with fail
      refine (node_cell h _ _ p1).mono ?_
      rintro e w7 ⟨rfl, hw7⟩
      rw [hw7]
      clear hw7 w7
      go_wp2_with (at_builtin; refine wpList_append_own_at _ rfl _ _ 131 rfl w.heap.size 65 i0 .nilIface 1 16 Tryz.underlying131 hi0 hz0 hz1 hz2 rfl (by decide) _ _ _ rfl HO2.out ⟨wr.heap.size, 0, none⟩ 1 1 [.iface tj vj] rfl rfl HN.out (by simp [Value.oneCell']) (by unfold maxLen; omega) (by omega) (by have := HUS.out; simp; omega) ?_; intro v9 w9 hown9 hgrow9 _ _; have HO9 := hid hown9; have HG9 := hid hgrow9; clear hown9 hgrow9)
      go_roundg (n - (j + 1))
      case measure => omega
      case rel =>
        refine ⟨j + 1, by omega, by go_num, ?_, (XR.out.more _).grown HG9.out (by have := XR.out.size; simp; omega) (fun k hk => (HO2.out.lt k hk).1)⟩
        rw [List.range_succ, List.map_append, List.map_cons, List.map_nil, HTJ.out, HVJ.out]
        exact HO9.out
    · have hje : j = n := by omega
      subst hje
      go_wp2_with fail
      go_ret2
      exact ⟨_, rfl, HOW.out, XR.out⟩
end Go.Proofs.YtnmcmjgfnncdmaaGreatDoor.Nd
/-
  slices.Clone of lists of nodes and of handles, part.New with kids; by contracts.
-/
namespace Go.Proofs.YtnmcmjgfnncdmaaGreatDoor.Nd
open Go.RowKit
theorem hpInfo : (Tryz.prog.info? 70).map (fun i => (i.zero, i.size, i.bytes)) = some (some (.pointer none), 1, 8) := by kernel_rfl
set_option maxRecDepth 100000 in
set_option maxHeartbeats 1000000 in
theorem cloneN_some (g off cap : Nat) (xs : List Value) (w : World) (hb : xs.length * 16 ≤ 140737488355328) (h1 : ∀ u ∈ xs, u.oneCell' = true) (hc : ∀ (j : Nat) (u : Value), xs[j]? = some u → w.cell? ⟨g, off + j, none⟩ = some u) :
    Calls Tryz.prog 179 #[.slice (some ⟨g, off, none⟩) xs.length cap] w fun r w' => ∃ v, r = .returned v ∧ w'.ownsRow w.heap.size 65 1 v xs.length xs ∧ Ext w w' := by
  obtain ⟨i0, hi0, hz0, hz1, hz2⟩ := info_parts ndInfo
  have hq : ∀ w : World, (binOp .eql 131 (.slice (some ⟨g, off, none⟩) xs.length cap) (.slice none 0 0)).run Tryz.prog w = .ok (.bool false) w := fun w => by
    exact Lib.run_eql_slice_nil w 131 65 (some ⟨g, off, none⟩) xs.length cap 0 0 Tryz.underlying131
  have hown : (w.alloc (.cells #[] 65)).ownsRow w.heap.size 65 1 (.slice (some ⟨w.heap.size, 0, none⟩) 0 0) 0 [] :=
    ⟨rfl, .inr ⟨w.heap.size, 0, #[], rfl, Nat.le_refl _, blk0 _ _, Nat.le_refl _, Nat.zero_le _, rfl, rfl⟩⟩
  have H1 := hid h1
  have HC := hid hc
  clear h1 hc
  go_enter Tryz.func179, Tryz.ntmps179
  go_wp2_with (at_builtin; refine wpList_append_own _ rfl _ _ 131 rfl w.heap.size 65 i0 .nilIface 1 16 Tryz.underlying131 hi0 hz0 hz1 hz2 rfl (by decide) _ _ _ rfl hown ⟨g, off, none⟩ xs.length cap xs rfl (by simp) ?hnews ?hone ?b1 ?b2 ?b3 ?_)
  case hnews =>
    intro j u hu
    have h2 := (Below.cell (Ext.alloc w (.cells #[] 65)) (p := ⟨g, off + j, none⟩) (lt_of_cell (HC.out j u hu))).trans (HC.out j u hu)
    have ea : Addr.add ⟨g, off, none⟩ j = ⟨g, off + j, none⟩ := by
      by_cases hj : j = 0
      · subst hj; simp [Addr.add]
      · simp [Addr.add, hj]
    rw [ea]; exact h2
  case hone => exact H1.out
  case b1 => unfold maxLen; omega
  case b2 => simpa using hb
  case b3 => simp
  intro v' w' hown' hgrow _
  go_wp2
  go_ret
  refine ⟨_, rfl, by simpa using hown', ?_⟩
  exact Below.grown (Ext.alloc w _) hgrow (by simp) (fun k hk => by simp [Value.ownBlock] at hk; omega)
set_option maxRecDepth 100000 in
set_option maxHeartbeats 1000000 in
theorem cloneH_some (g off cap : Nat) (xs : List Value) (w : World) (hb : xs.length * 8 ≤ 140737488355328) (h1 : ∀ u ∈ xs, u.oneCell' = true) (hc : ∀ (j : Nat) (u : Value), xs[j]? = some u → w.cell? ⟨g, off + j, none⟩ = some u) :
    Calls Tryz.prog 133 #[.slice (some ⟨g, off, none⟩) xs.length cap] w fun r w' => ∃ v, r = .returned v ∧ w'.ownsRow w.heap.size 70 1 v xs.length xs ∧ Ext w w' := by
  obtain ⟨i0, hi0, hz0, hz1, hz2⟩ := info_parts hpInfo
  have hq : ∀ w : World, (binOp .eql 121 (.slice (some ⟨g, off, none⟩) xs.length cap) (.slice none 0 0)).run Tryz.prog w = .ok (.bool false) w := fun w => by
    exact Lib.run_eql_slice_nil w 121 70 (some ⟨g, off, none⟩) xs.length cap 0 0 Tryz.underlying121
  have hown : (w.alloc (.cells #[] 70)).ownsRow w.heap.size 70 1 (.slice (some ⟨w.heap.size, 0, none⟩) 0 0) 0 [] :=
    ⟨rfl, .inr ⟨w.heap.size, 0, #[], rfl, Nat.le_refl _, blk0 _ _, Nat.le_refl _, Nat.zero_le _, rfl, rfl⟩⟩
  have H1 := hid h1
  have HC := hid hc
  clear h1 hc
  go_enter Tryz.func133, Tryz.ntmps133
  go_wp2_with (at_builtin; refine wpList_append_own _ rfl _ _ 121 rfl w.heap.size 70 i0 (.pointer none) 1 8 Tryz.underlying121 hi0 hz0 hz1 hz2 rfl (by decide) _ _ _ rfl hown ⟨g, off, none⟩ xs.length cap xs rfl (by simp) ?hnews ?hone ?b1 ?b2 ?b3 ?_)
  case hnews =>
    intro j u hu
    have h2 := (Below.cell (Ext.alloc w (.cells #[] 70)) (p := ⟨g, off + j, none⟩) (lt_of_cell (HC.out j u hu))).trans (HC.out j u hu)
    have ea : Addr.add ⟨g, off, none⟩ j = ⟨g, off + j, none⟩ := by
      by_cases hj : j = 0
      · subst hj; simp [Addr.add]
      · simp [Addr.add, hj]
    rw [ea]; exact h2
  case hone => exact H1.out
  case b1 => unfold maxLen; omega
  case b2 => simpa using hb
  case b3 => simp
  intro v' w' hown' hgrow _
  go_wp2
  go_ret
  refine ⟨_, rfl, by simpa using hown', ?_⟩
  exact Below.grown (Ext.alloc w _) hgrow (by simp) (fun k hk => by simp [Value.ownBlock] at hk; omega)
theorem cloneH_nil (w : World) : Calls Tryz.prog 133 #[.slice none 0 0] w fun e w' => e = .returned (.slice none 0 0) ∧ w' = w := by
  have hq : ∀ w : World, (binOp .eql 121 (.slice none 0 0) (.slice none 0 0)).run Tryz.prog w = .ok (.bool true) w := fun _ => by kernel_rfl
  go_enter Tryz.func133, Tryz.ntmps133
  go_wp2
  go_ret
  exact ⟨rfl, rfl⟩
theorem four_steps {w : World} {b : Nat} {v0 v1 v2 v3 : Value} {t : TypeId} (h : w.heap[b]? = some (.cells #[v0, v1, v2, v3] t)) (u0 u1 u2 : Value) : w.cell? ⟨b, 0, none⟩ = some v0 ∧ w.frozen? ⟨b, 0, none⟩ = false ∧ (w.setCell ⟨b, 0, none⟩ u0).cell? ⟨b, 1, none⟩ = some v1 ∧ (w.setCell ⟨b, 0, none⟩ u0).frozen? ⟨b, 1, none⟩ = false ∧ ((w.setCell ⟨b, 0, none⟩ u0).setCell ⟨b, 1, none⟩ u1).cell? ⟨b, 2, none⟩ = some v2 ∧ ((w.setCell ⟨b, 0, none⟩ u0).setCell ⟨b, 1, none⟩ u1).frozen? ⟨b, 2, none⟩ = false ∧ (((w.setCell ⟨b, 0, none⟩ u0).setCell ⟨b, 1, none⟩ u1).setCell ⟨b, 2, none⟩ u2).cell? ⟨b, 3, none⟩ = some v3 ∧ (((w.setCell ⟨b, 0, none⟩ u0).setCell ⟨b, 1, none⟩ u1).setCell ⟨b, 2, none⟩ u2).frozen? ⟨b, 3, none⟩ = false := by
  have h0 := h
  have h1 := set_at h0 0 u0
  simp at h1
  have h2 := set_at h1 1 u1
  simp at h2
  have h3 := set_at h2 2 u2
  simp at h3
  exact ⟨cell_of h0 rfl, frozen_of h0, cell_of h1 rfl, frozen_of h1, cell_of h2 rfl, frozen_of h2, cell_of h3 rfl, frozen_of h3⟩
set_option maxRecDepth 100000 in
set_option maxHeartbeats 400000 in
theorem new_some (k x : ByteArray) (n : Int) (kv : Value) (g off cap : Nat) (xs : List Value) (w : World) (hb : xs.length * 16 ≤ 140737488355328) (h1 : ∀ u ∈ xs, u.oneCell' = true) (hc : ∀ (j : Nat) (u : Value), xs[j]? = some u → w.cell? ⟨g, off + j, none⟩ = some u) : Calls Tryz.prog 126 #[.agg #[.string k, .int .i64 n, .string x, kv], .slice (some ⟨g, off, none⟩) xs.length cap] w fun e w' => ∃ a c, e = .returned (.agg #[.string k, .int .i64 n, .string x, .slice a xs.length c]) ∧ w'.ownsRow w.heap.size 65 1 (.slice a xs.length c) xs.length xs ∧ Ext w w' := by
  obtain ⟨V, hV⟩ : ∃ M, (w.alloc (.cells #[.string k, .int .i64 n, .string x, kv] 69)).alloc (.cells #[.string ⟨#[]⟩, .int .i64 0, .string ⟨#[]⟩, .slice none 0 0] 189) = M := ⟨_, rfl⟩
  have XV := hid (show Ext w V from hV ▸ Ext.alloc2 _ _ _)
  have HVS := hid (show V.heap.size = w.heap.size + 2 from hV ▸ (by simp))
  have HK := hid (show V.heap[w.heap.size]? = some (.cells #[.string k, .int .i64 n, .string x, kv] 69) from hV ▸ blkOld _ (blk0 _ _))
  have HR := hid (show V.heap[w.heap.size + 1]? = some (.cells #[.string ⟨#[]⟩, .int .i64 0, .string ⟨#[]⟩, .slice none 0 0] 189) from hV ▸ blk1 _ _ _)
  have HF := hid (fun (u : World) (hx : Ext w u) => cloneN_some g off cap xs u hb h1 (fun j v hv => (hx.kp (fun _ => True)).cell (hc j v hv) trivial))
  clear h1 hc
  go_enter Tryz.func126, Tryz.ntmps126
  go_upto_region 1 with fail
  first | rw [hV] | skip
  clear hV
  obtain ⟨kb, rb, hkb, hrb⟩ : ∃ kb rb, w.heap.size = kb ∧ w.heap.size + 1 = rb := ⟨_, _, rfl, rfl⟩
  rw [hrb, hkb]
  rw [hrb] at HR
  rw [hkb] at HK
  have HKB := hid hkb
  have HRB := hid hrb
  have hne : kb ≠ rb := by omega
  have HSK := hid (show ∀ W', Ext V W' → (W'.cell? ⟨kb, 0, none⟩ = some (.string k) ∧ W'.cell? ⟨kb, 1, none⟩ = some (.int .i64 n) ∧ W'.cell? ⟨kb, 2, none⟩ = some (.string x)) from fun W' X => by
    obtain ⟨s0, s1, s2, _⟩ := four_of (X.block HK.out)
    exact ⟨s0, s1, s2⟩)
  have HST := hid (show ∀ (W' : World) (v0 v1 v2 v3 : Value), Ext V W' → ((fun W' => W'.cell? ⟨kb, 0, none⟩ = some (.string k) ∧ W'.cell? ⟨kb, 1, none⟩ = some (.int .i64 n) ∧ W'.cell? ⟨kb, 2, none⟩ = some (.string x) : World → Prop) (((((W'.setCell ⟨rb, 0, none⟩ v0).setCell ⟨rb, 1, none⟩ v1).setCell ⟨rb, 2, none⟩ v2).setCell ⟨rb, 3, none⟩ v3))) from fun W' v0 v1 v2 v3 X => by
    have hk4 := Kp.set4 W' rb 0 v0 v1 v2 v3
    simp only [Nat.zero_add] at hk4
    obtain ⟨s0, s1, s2, _⟩ := four_of (hk4.block' (X.block HK.out) hne)
    exact ⟨s0, s1, s2⟩)
  dsimp only at HST
  clear hkb hrb hne
  go_region_held3 (fun W' => W'.cell? ⟨kb, 0, none⟩ = some (.string k) ∧ W'.cell? ⟨kb, 1, none⟩ = some (.int .i64 n) ∧ W'.cell? ⟨kb, 2, none⟩ = some (.string x))
    (first | with_reducible exact HST.out _ _ _ _ _ Z1.out | with_reducible exact HSK.out _ (Ext.refl _).drew | with_reducible exact HSK.out _ Z1.out | with_reducible exact HSK.out _ Z1.out.drew)
    (first
      | (go_at_call 179; refine (HF.out _ (XV.out.trans (by repeat (first | with_reducible exact Ext.refl _ | with_reducible refine Ext.drew ?_)))).mono ?_; rintro r u1 ⟨q, rfl, hq, hy⟩; obtain ⟨qa, qc, rfl⟩ := ownsRow_slice hq; have Z1 := hid (show Ext V u1 from Ext.trans (by repeat (first | with_reducible exact Ext.refl _ | with_reducible refine Ext.drew ?_)) hy); have HQ := hid hq; have HZ := hid (Z1.out.block HR.out); clear hq hy)
      | (obtain ⟨c0, f0, c1, f1, c2, f2, c3, f3⟩ := four_steps HZ.out (.string k) (.int .i64 n) (.string x); simp only [c0, f0, c1, f1, c2, f2, c3, f3, Bool.false_eq_true, if_false, Result.andThen_ok]; clear c0 f0 c1 f1 c2 f2 c3 f3; go_simp))
  all_goals
    have hz4 := set_at (set_at (set_at (set_at HZ.out 0 (.string k)) 1 (.int .i64 n)) 2 (.string x)) 3 (.slice qa xs.length qc)
    simp at hz4
    obtain ⟨z0, z1, z2, z3⟩ := four_of hz4
    have HKN := Kp.set4 u1 rb 0 (.string k) (.int .i64 n) (.string x) (.slice qa xs.length qc)
    simp only [Nat.zero_add] at HKN
    clear hz4
    generalize ((((u1.setCell ⟨rb, 0, none⟩ (.string k)).setCell ⟨rb, 1, none⟩ (.int .i64 n)).setCell ⟨rb, 2, none⟩ (.string x)).setCell ⟨rb, 3, none⟩ (.slice qa xs.length qc)) = U at *
    have HKU := hid HKN
    clear HKN
    go_wp2_with fail
    refine bodyPost_ret (v := .agg #[.string k, .int .i64 n, .string x, .slice qa xs.length qc]) (by simp [results, Tryz.results126, go_sem, z0, z1, z2, z3]) rfl ?_
    have := HVS.out
    have := HRB.out
    refine ⟨qa, qc, rfl, ?_, Kp.extOf (XV.out.trans Z1.out) HKU.out (by omega)⟩
    have hq := HQ.out
    refine ⟨hq.1, hq.2.imp id fun ⟨g', cap', cur, e1, e2, e3, e4⟩ => ⟨g', cap', cur, e1, ?_, HKU.out.block' e3 ?_, e4⟩⟩
    · have : V.heap.size ≤ g' := by simpa using e2
      omega
    · have : V.heap.size ≤ g' := by simpa using e2
      omega
end Go.Proofs.YtnmcmjgfnncdmaaGreatDoor.Nd
