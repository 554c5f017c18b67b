/-
  slices.Clone of lists of nodes and of handles, part.New with kids; by contracts.
-/
import Derived.Test.YtnmcmjgfnncdmaaGreatDoorZzBNodes
import Derived.Deep.CutRange
import Derived.Deep.CutBlock
import Derived.Deep.Cut
namespace Go.Proofs.YtnmcmjgfnncdmaaGreatDoor.Nd
open Go.RowKit
theorem hpInfo : (Tryz.prog.info? 70).map (fun i => (i.zero, i.size, i.bytes)) = some (some (.pointer none), 1, 8) := by kernel_rfl
set_option maxRecDepth 100000 in
set_option maxHeartbeats 1000000 in
theorem cloneN_some (g off cap : Nat) (xs : List Value) (w : World) (hb : xs.length * 16 ≤ 140737488355328) (h1 : ∀ u ∈ xs, u.oneCell' = true) (hc : ∀ (j : Nat) (u : Value), xs[j]? = some u → w.cell? ⟨g, off + j, none⟩ = some u) :
    Calls Tryz.prog 179 #[.slice (some ⟨g, off, none⟩) xs.length cap] w fun r w' => ∃ v, r = .returned v ∧ w'.ownsRow w.heap.size 65 1 v xs.length xs ∧ Ext w w' := by
  obtain ⟨i0, hi0, hz0, hz1, hz2⟩ := info_parts ndInfo
  have hq : ∀ w : World, (binOp .eql 131 (.slice (some ⟨g, off, none⟩) xs.length cap) (.slice none 0 0)).run Tryz.prog w = .ok (.bool false) w := fun w => by
    exact Lib.run_eql_slice_nil w 131 65 (some ⟨g, off, none⟩) xs.length cap 0 0 Tryz.underlying131
  have hown : (w.alloc (.cells #[] 65)).ownsRow w.heap.size 65 1 (.slice (some ⟨w.heap.size, 0, none⟩) 0 0) 0 [] :=
    ⟨rfl, .inr ⟨w.heap.size, 0, #[], rfl, Nat.le_refl _, blk0 _ _, Nat.le_refl _, Nat.zero_le _, rfl, rfl⟩⟩
  have H1 := hid h1
  have HC := hid hc
  clear h1 hc
  go_enter Tryz.func179, Tryz.ntmps179
  go_wp2_with (at_builtin; refine wpList_append_own _ rfl _ _ 131 rfl w.heap.size 65 i0 .nilIface 1 16 Tryz.underlying131 hi0 hz0 hz1 hz2 rfl (by decide) _ _ _ rfl hown ⟨g, off, none⟩ xs.length cap xs rfl (by simp) ?hnews ?hone ?b1 ?b2 ?b3 ?_)
  case hnews =>
    intro j u hu
    have h2 := (Below.cell (Ext.alloc w (.cells #[] 65)) (p := ⟨g, off + j, none⟩) (lt_of_cell (HC.out j u hu))).trans (HC.out j u hu)
    have ea : Addr.add ⟨g, off, none⟩ j = ⟨g, off + j, none⟩ := by
      by_cases hj : j = 0
      · subst hj; simp [Addr.add]
      · simp [Addr.add, hj]
    rw [ea]; exact h2
  case hone => exact H1.out
  case b1 => unfold maxLen; omega
  case b2 => simpa using hb
  case b3 => simp
  intro v' w' hown' hgrow _
  go_wp2
  go_ret
  refine ⟨_, rfl, by simpa using hown', ?_⟩
  exact Below.grown (Ext.alloc w _) hgrow (by simp) (fun k hk => by simp [Value.ownBlock] at hk; omega)
set_option maxRecDepth 100000 in
set_option maxHeartbeats 1000000 in
theorem cloneH_some (g off cap : Nat) (xs : List Value) (w : World) (hb : xs.length * 8 ≤ 140737488355328) (h1 : ∀ u ∈ xs, u.oneCell' = true) (hc : ∀ (j : Nat) (u : Value), xs[j]? = some u → w.cell? ⟨g, off + j, none⟩ = some u) :
    Calls Tryz.prog 133 #[.slice (some ⟨g, off, none⟩) xs.length cap] w fun r w' => ∃ v, r = .returned v ∧ w'.ownsRow w.heap.size 70 1 v xs.length xs ∧ Ext w w' := by
  obtain ⟨i0, hi0, hz0, hz1, hz2⟩ := info_parts hpInfo
  have hq : ∀ w : World, (binOp .eql 121 (.slice (some ⟨g, off, none⟩) xs.length cap) (.slice none 0 0)).run Tryz.prog w = .ok (.bool false) w := fun w => by
    exact Lib.run_eql_slice_nil w 121 70 (some ⟨g, off, none⟩) xs.length cap 0 0 Tryz.underlying121
  have hown : (w.alloc (.cells #[] 70)).ownsRow w.heap.size 70 1 (.slice (some ⟨w.heap.size, 0, none⟩) 0 0) 0 [] :=
    ⟨rfl, .inr ⟨w.heap.size, 0, #[], rfl, Nat.le_refl _, blk0 _ _, Nat.le_refl _, Nat.zero_le _, rfl, rfl⟩⟩
  have H1 := hid h1
  have HC := hid hc
  clear h1 hc
  go_enter Tryz.func133, Tryz.ntmps133
  go_wp2_with (at_builtin; refine wpList_append_own _ rfl _ _ 121 rfl w.heap.size 70 i0 (.pointer none) 1 8 Tryz.underlying121 hi0 hz0 hz1 hz2 rfl (by decide) _ _ _ rfl hown ⟨g, off, none⟩ xs.length cap xs rfl (by simp) ?hnews ?hone ?b1 ?b2 ?b3 ?_)
  case hnews =>
    intro j u hu
    have h2 := (Below.cell (Ext.alloc w (.cells #[] 70)) (p := ⟨g, off + j, none⟩) (lt_of_cell (HC.out j u hu))).trans (HC.out j u hu)
    have ea : Addr.add ⟨g, off, none⟩ j = ⟨g, off + j, none⟩ := by
      by_cases hj : j = 0
      · subst hj; simp [Addr.add]
      · simp [Addr.add, hj]
    rw [ea]; exact h2
  case hone => exact H1.out
  case b1 => unfold maxLen; omega
  case b2 => simpa using hb
  case b3 => simp
  intro v' w' hown' hgrow _
  go_wp2
  go_ret
  refine ⟨_, rfl, by simpa using hown', ?_⟩
  exact Below.grown (Ext.alloc w _) hgrow (by simp) (fun k hk => by simp [Value.ownBlock] at hk; omega)
theorem cloneH_nil (w : World) : Calls Tryz.prog 133 #[.slice none 0 0] w fun e w' => e = .returned (.slice none 0 0) ∧ w' = w := by
  have hq : ∀ w : World, (binOp .eql 121 (.slice none 0 0) (.slice none 0 0)).run Tryz.prog w = .ok (.bool true) w := fun _ => by kernel_rfl
  go_enter Tryz.func133, Tryz.ntmps133
  go_wp2
  go_ret
  exact ⟨rfl, rfl⟩
theorem four_steps {w : World} {b : Nat} {v0 v1 v2 v3 : Value} {t : TypeId} (h : w.heap[b]? = some (.cells #[v0, v1, v2, v3] t)) (u0 u1 u2 : Value) : w.cell? ⟨b, 0, none⟩ = some v0 ∧ w.frozen? ⟨b, 0, none⟩ = false ∧ (w.setCell ⟨b, 0, none⟩ u0).cell? ⟨b, 1, none⟩ = some v1 ∧ (w.setCell ⟨b, 0, none⟩ u0).frozen? ⟨b, 1, none⟩ = false ∧ ((w.setCell ⟨b, 0, none⟩ u0).setCell ⟨b, 1, none⟩ u1).cell? ⟨b, 2, none⟩ = some v2 ∧ ((w.setCell ⟨b, 0, none⟩ u0).setCell ⟨b, 1, none⟩ u1).frozen? ⟨b, 2, none⟩ = false ∧ (((w.setCell ⟨b, 0, none⟩ u0).setCell ⟨b, 1, none⟩ u1).setCell ⟨b, 2, none⟩ u2).cell? ⟨b, 3, none⟩ = some v3 ∧ (((w.setCell ⟨b, 0, none⟩ u0).setCell ⟨b, 1, none⟩ u1).setCell ⟨b, 2, none⟩ u2).frozen? ⟨b, 3, none⟩ = false := by
  have h0 := h
  have h1 := set_at h0 0 u0
  simp at h1
  have h2 := set_at h1 1 u1
  simp at h2
  have h3 := set_at h2 2 u2
  simp at h3
  exact ⟨cell_of h0 rfl, frozen_of h0, cell_of h1 rfl, frozen_of h1, cell_of h2 rfl, frozen_of h2, cell_of h3 rfl, frozen_of h3⟩
set_option maxRecDepth 100000 in
set_option maxHeartbeats 400000 in
theorem new_some (k x : ByteArray) (n : Int) (kv : Value) (g off cap : Nat) (xs : List Value) (w : World) (hb : xs.length * 16 ≤ 140737488355328) (h1 : ∀ u ∈ xs, u.oneCell' = true) (hc : ∀ (j : Nat) (u : Value), xs[j]? = some u → w.cell? ⟨g, off + j, none⟩ = some u) : Calls Tryz.prog 126 #[.agg #[.string k, .int .i64 n, .string x, kv], .slice (some ⟨g, off, none⟩) xs.length cap] w fun e w' => ∃ a c, e = .returned (.agg #[.string k, .int .i64 n, .string x, .slice a xs.length c]) ∧ w'.ownsRow w.heap.size 65 1 (.slice a xs.length c) xs.length xs ∧ Ext w w' := by
  obtain ⟨V, hV⟩ : ∃ M, (w.alloc (.cells #[.string k, .int .i64 n, .string x, kv] 69)).alloc (.cells #[.string ⟨#[]⟩, .int .i64 0, .string ⟨#[]⟩, .slice none 0 0] 189) = M := ⟨_, rfl⟩
  have XV := hid (show Ext w V from hV ▸ Ext.alloc2 _ _ _)
  have HVS := hid (show V.heap.size = w.heap.size + 2 from hV ▸ (by simp))
  have HK := hid (show V.heap[w.heap.size]? = some (.cells #[.string k, .int .i64 n, .string x, kv] 69) from hV ▸ blkOld _ (blk0 _ _))
  have HR := hid (show V.heap[w.heap.size + 1]? = some (.cells #[.string ⟨#[]⟩, .int .i64 0, .string ⟨#[]⟩, .slice none 0 0] 189) from hV ▸ blk1 _ _ _)
  have HF := hid (fun (u : World) (hx : Ext w u) => cloneN_some g off cap xs u hb h1 (fun j v hv => (hx.kp (fun _ => True)).cell (hc j v hv) trivial))
  clear h1 hc
  go_enter Tryz.func126, Tryz.ntmps126
  go_upto_region 1 with fail
  first | rw [hV] | skip
  clear hV
  obtain ⟨kb, rb, hkb, hrb⟩ : ∃ kb rb, w.heap.size = kb ∧ w.heap.size + 1 = rb := ⟨_, _, rfl, rfl⟩
  rw [hrb, hkb]
  rw [hrb] at HR
  rw [hkb] at HK
  have HKB := hid hkb
  have HRB := hid hrb
  have hne : kb ≠ rb := by omega
  have HSK := hid (show ∀ W', Ext V W' → (W'.cell? ⟨kb, 0, none⟩ = some (.string k) ∧ W'.cell? ⟨kb, 1, none⟩ = some (.int .i64 n) ∧ W'.cell? ⟨kb, 2, none⟩ = some (.string x)) from fun W' X => by
    obtain ⟨s0, s1, s2, _⟩ := four_of (X.block HK.out)
    exact ⟨s0, s1, s2⟩)
  have HST := hid (show ∀ (W' : World) (v0 v1 v2 v3 : Value), Ext V W' → ((fun W' => W'.cell? ⟨kb, 0, none⟩ = some (.string k) ∧ W'.cell? ⟨kb, 1, none⟩ = some (.int .i64 n) ∧ W'.cell? ⟨kb, 2, none⟩ = some (.string x) : World → Prop) (((((W'.setCell ⟨rb, 0, none⟩ v0).setCell ⟨rb, 1, none⟩ v1).setCell ⟨rb, 2, none⟩ v2).setCell ⟨rb, 3, none⟩ v3))) from fun W' v0 v1 v2 v3 X => by
    have hk4 := Kp.set4 W' rb 0 v0 v1 v2 v3
    simp only [Nat.zero_add] at hk4
    obtain ⟨s0, s1, s2, _⟩ := four_of (hk4.block' (X.block HK.out) hne)
    exact ⟨s0, s1, s2⟩)
  dsimp only at HST
  clear hkb hrb hne
  go_region_held3 (fun W' => W'.cell? ⟨kb, 0, none⟩ = some (.string k) ∧ W'.cell? ⟨kb, 1, none⟩ = some (.int .i64 n) ∧ W'.cell? ⟨kb, 2, none⟩ = some (.string x))
    (first | with_reducible exact HST.out _ _ _ _ _ Z1.out | with_reducible exact HSK.out _ (Ext.refl _).drew | with_reducible exact HSK.out _ Z1.out | with_reducible exact HSK.out _ Z1.out.drew)
    (first
      | (go_at_call 179; refine (HF.out _ (XV.out.trans (by repeat (first | with_reducible exact Ext.refl _ | with_reducible refine Ext.drew ?_)))).mono ?_; rintro r u1 ⟨q, rfl, hq, hy⟩; obtain ⟨qa, qc, rfl⟩ := ownsRow_slice hq; have Z1 := hid (show Ext V u1 from Ext.trans (by repeat (first | with_reducible exact Ext.refl _ | with_reducible refine Ext.drew ?_)) hy); have HQ := hid hq; have HZ := hid (Z1.out.block HR.out); clear hq hy)
      | (obtain ⟨c0, f0, c1, f1, c2, f2, c3, f3⟩ := four_steps HZ.out (.string k) (.int .i64 n) (.string x); simp only [c0, f0, c1, f1, c2, f2, c3, f3, Bool.false_eq_true, if_false, Result.andThen_ok]; clear c0 f0 c1 f1 c2 f2 c3 f3; go_simp))
  all_goals
    have hz4 := set_at (set_at (set_at (set_at HZ.out 0 (.string k)) 1 (.int .i64 n)) 2 (.string x)) 3 (.slice qa xs.length qc)
    simp at hz4
    obtain ⟨z0, z1, z2, z3⟩ := four_of hz4
    have HKN := Kp.set4 u1 rb 0 (.string k) (.int .i64 n) (.string x) (.slice qa xs.length qc)
    simp only [Nat.zero_add] at HKN
    clear hz4
    generalize ((((u1.setCell ⟨rb, 0, none⟩ (.string k)).setCell ⟨rb, 1, none⟩ (.int .i64 n)).setCell ⟨rb, 2, none⟩ (.string x)).setCell ⟨rb, 3, none⟩ (.slice qa xs.length qc)) = U at *
    have HKU := hid HKN
    clear HKN
    go_wp2_with fail
    refine bodyPost_ret (v := .agg #[.string k, .int .i64 n, .string x, .slice qa xs.length qc]) (by simp [results, Tryz.results126, go_sem, z0, z1, z2, z3]) rfl ?_
    have := HVS.out
    have := HRB.out
    refine ⟨qa, qc, rfl, ?_, Kp.extOf (XV.out.trans Z1.out) HKU.out (by omega)⟩
    have hq := HQ.out
    refine ⟨hq.1, hq.2.imp id fun ⟨g', cap', cur, e1, e2, e3, e4⟩ => ⟨g', cap', cur, e1, ?_, HKU.out.block' e3 ?_, e4⟩⟩
    · have : V.heap.size ≤ g' := by simpa using e2
      omega
    · have : V.heap.size ≤ g' := by simpa using e2
      omega
end Go.Proofs.YtnmcmjgfnncdmaaGreatDoor.Nd
