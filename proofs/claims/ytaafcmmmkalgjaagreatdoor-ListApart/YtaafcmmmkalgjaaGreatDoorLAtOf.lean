/-
  slices.Clone of lists of values, by contracts: own new memory with the same cells.
-/
import Derived.Test.YtaafcmmmkalgjaaGreatDoorTFit
import Derived.Deep.CutRange
import Derived.Deep.CutBlock
import Derived.Deep.Cut
namespace Go.Proofs.YtaafcmmmkalgjaaGreatDoor
open Go.RowKit
theorem lvInfo : (Tryz.prog.info? 35).map (fun i => (i.zero, i.size, i.bytes)) = some (some .nilIface, 1, 16) := by kernel_rfl
set_option maxRecDepth 100000 in
set_option maxHeartbeats 1000000 in
theorem cloneV_some (g off cap : Nat) (xs : List Value) (w : World) (hb : xs.length * 16 ≤ 140737488355328) (h1 : ∀ u ∈ xs, u.oneCell' = true) (hc : ∀ (j : Nat) (u : Value), xs[j]? = some u → w.cell? ⟨g, off + j, none⟩ = some u) :
    Calls Tryz.prog 74 #[.slice (some ⟨g, off, none⟩) xs.length cap] w fun r w' => ∃ v, r = .returned v ∧ w'.ownsRow w.heap.size 35 1 v xs.length xs ∧ Ext w w' := by
  obtain ⟨i0, hi0, hz0, hz1, hz2⟩ := info_parts lvInfo
  have hq : ∀ w : World, (binOp .eql 24 (.slice (some ⟨g, off, none⟩) xs.length cap) (.slice none 0 0)).run Tryz.prog w = .ok (.bool false) w := fun w => by
    exact Lib.run_eql_slice_nil w 24 35 (some ⟨g, off, none⟩) xs.length cap 0 0 Tryz.underlying24
  have hown : (w.alloc (.cells #[] 35)).ownsRow w.heap.size 35 1 (.slice (some ⟨w.heap.size, 0, none⟩) 0 0) 0 [] :=
    ⟨rfl, .inr ⟨w.heap.size, 0, #[], rfl, Nat.le_refl _, blk0 _ _, Nat.le_refl _, Nat.zero_le _, rfl, rfl⟩⟩
  have H1 := hid h1
  have HC := hid hc
  clear h1 hc
  go_enter Tryz.func74, Tryz.ntmps74
  go_wp2_with (at_builtin; refine wpList_append_own _ rfl _ _ 24 rfl w.heap.size 35 i0 .nilIface 1 16 Tryz.underlying24 hi0 hz0 hz1 hz2 rfl (by decide) _ _ _ rfl hown ⟨g, off, none⟩ xs.length cap xs rfl (by simp) ?hnews ?hone ?b1 ?b2 ?b3 ?_)
  case hnews =>
    intro j u hu
    have h2 := (Below.cell (Ext.alloc w (.cells #[] 35)) (p := ⟨g, off + j, none⟩) (lt_of_cell (HC.out j u hu))).trans (HC.out j u hu)
    have ea : Addr.add ⟨g, off, none⟩ j = ⟨g, off + j, none⟩ := by
      by_cases hj : j = 0
      · subst hj; simp [Addr.add]
      · simp [Addr.add, hj]
    rw [ea]; exact h2
  case hone => exact H1.out
  case b1 => unfold maxLen; omega
  case b2 => simpa using hb
  case b3 => simp
  intro v' w' hown' hgrow _
  go_wp2
  go_ret
  refine ⟨_, rfl, by simpa using hown', ?_⟩
  exact Below.grown (Ext.alloc w _) hgrow (by simp) (fun k hk => by simp [Value.ownBlock] at hk; omega)
theorem cloneV_nil (w : World) : Calls Tryz.prog 74 #[.slice none 0 0] w fun e w' => e = .returned (.slice none 0 0) ∧ w' = w := by
  have hq : ∀ w : World, (binOp .eql 24 (.slice none 0 0) (.slice none 0 0)).run Tryz.prog w = .ok (.bool true) w := fun _ => by kernel_rfl
  go_enter Tryz.func74, Tryz.ntmps74
  go_wp2
  go_ret
  exact ⟨rfl, rfl⟩
set_option maxRecDepth 100000 in
set_option maxHeartbeats 1000000 in
theorem cloneL_some (g off cap : Nat) (xs : List Value) (w : World) (hb : xs.length * 16 ≤ 140737488355328) (h1 : ∀ u ∈ xs, u.oneCell' = true) (hc : ∀ (j : Nat) (u : Value), xs[j]? = some u → w.cell? ⟨g, off + j, none⟩ = some u) :
    Calls Tryz.prog 79 #[.slice (some ⟨g, off, none⟩) xs.length cap] w fun r w' => ∃ v, r = .returned v ∧ w'.ownsRow w.heap.size 35 1 v xs.length xs ∧ Ext w w' := by
  obtain ⟨i0, hi0, hz0, hz1, hz2⟩ := info_parts lvInfo
  have hq : ∀ w : World, (binOp .eql 81 (.slice (some ⟨g, off, none⟩) xs.length cap) (.slice none 0 0)).run Tryz.prog w = .ok (.bool false) w := fun w => by
    exact Lib.run_eql_slice_nil w 81 35 (some ⟨g, off, none⟩) xs.length cap 0 0 Tryz.underlying81
  have hown : (w.alloc (.cells #[] 35)).ownsRow w.heap.size 35 1 (.slice (some ⟨w.heap.size, 0, none⟩) 0 0) 0 [] :=
    ⟨rfl, .inr ⟨w.heap.size, 0, #[], rfl, Nat.le_refl _, blk0 _ _, Nat.le_refl _, Nat.zero_le _, rfl, rfl⟩⟩
  have H1 := hid h1
  have HC := hid hc
  clear h1 hc
  go_enter Tryz.func79, Tryz.ntmps79
  go_wp2_with (at_builtin; refine wpList_append_own _ rfl _ _ 81 rfl w.heap.size 35 i0 .nilIface 1 16 Tryz.underlying81 hi0 hz0 hz1 hz2 rfl (by decide) _ _ _ rfl hown ⟨g, off, none⟩ xs.length cap xs rfl (by simp) ?hnews ?hone ?b1 ?b2 ?b3 ?_)
  case hnews =>
    intro j u hu
    have h2 := (Below.cell (Ext.alloc w (.cells #[] 35)) (p := ⟨g, off + j, none⟩) (lt_of_cell (HC.out j u hu))).trans (HC.out j u hu)
    have ea : Addr.add ⟨g, off, none⟩ j = ⟨g, off + j, none⟩ := by
      by_cases hj : j = 0
      · subst hj; simp [Addr.add]
      · simp [Addr.add, hj]
    rw [ea]; exact h2
  case hone => exact H1.out
  case b1 => unfold maxLen; omega
  case b2 => simpa using hb
  case b3 => simp
  intro v' w' hown' hgrow _
  go_wp2
  go_ret
  refine ⟨_, rfl, by simpa using hown', ?_⟩
  exact Below.grown (Ext.alloc w _) hgrow (by simp) (fun k hk => by simp [Value.ownBlock] at hk; omega)
theorem cloneL_nil (w : World) : Calls Tryz.prog 79 #[.slice none 0 0] w fun e w' => e = .returned (.slice none 0 0) ∧ w' = w := by
  have hq : ∀ w : World, (binOp .eql 81 (.slice none 0 0) (.slice none 0 0)).run Tryz.prog w = .ok (.bool true) w := fun _ => by kernel_rfl
  go_enter Tryz.func79, Tryz.ntmps79
  go_wp2
  go_ret
  exact ⟨rfl, rfl⟩
end Go.Proofs.YtaafcmmmkalgjaaGreatDoor
/-
  list.at within its list, list.of, list.cut of what lies in its list, by contracts.
-/
namespace Go.Proofs.YtaafcmmmkalgjaaGreatDoor
open Go.RowKit
set_option maxRecDepth 100000 in
set_option maxHeartbeats 1000000 in
theorem at_ok (g b off l c j : Nat) (v : Value) (w : World) (h0 : w.cell? ⟨g, 0, none⟩ = some (.iface 81 (.slice (some ⟨b, off, none⟩) l c))) (h1 : w.cell? ⟨g, 1, none⟩ = some (.iface 83 (.int .i64 (j : Int)))) (hj : j < l) (hl : l ≤ 140737488355328) (hv : w.cell? ⟨b, off + j, none⟩ = some v) : Calls Tryz.prog 41 #[.slice (some ⟨g, 0, none⟩) 2 2] w fun e w' => e = .returned (.tuple #[v, .int .i64 0, .string ⟨#[]⟩]) ∧ w' = w := by
  have HI := hid (items0_any g 2 (by decide) (some ⟨b, off, none⟩) l c w h0)
  have HN := hid (number1_any g 2 (by decide) (j : Int) w h1)
  have HC := hid (lcame_any v w)
  have hj2 : (j : Int) < (l : Int) := by omega
  have hj3 : ¬ (j : Int) < 0 := by omega
  have hj4 : ¬ (l : Int) ≤ (j : Int) := by omega
  have hl2 : (l : Int) ≤ 140737488355328 := by omega
  have hbl := lt_of_cell hv
  clear h0 h1
  go_enter Tryz.func41, Tryz.ntmps41
  go_wp2_with fail
  refine HI.out.mono ?_
  rintro e w1 ⟨rfl, hw1⟩
  rw [hw1]
  clear hw1 w1
  go_wp2_with fail
  refine HN.out.mono ?_
  rintro e w1 ⟨rfl, hw1⟩
  rw [hw1]
  clear hw1 w1
  go_wp2_with fail
  refine HC.out.mono ?_
  rintro e w1 ⟨rfl, hw1⟩
  rw [hw1]
  clear hw1 w1
  go_wp2_with fail
  go_ret3
  exact ⟨rfl, rfl⟩
/-- A list that was made anew: of the values xs. -/
def ListR (w : World) (xs : List Value) (e : Ending) (w' : World) : Prop := ∃ v, e = .returned (.tuple #[.iface 81 v, .int .i64 0, .string ⟨#[]⟩]) ∧ w'.ownsRow w.heap.size 35 1 v xs.length xs ∧ Ext w w'
set_option maxRecDepth 100000 in
theorem lofV_any (g off cap : Nat) (xs : List Value) (w : World) (hb : xs.length * 16 ≤ 140737488355328) (h1 : ∀ u ∈ xs, u.oneCell' = true) (hc : ∀ (j : Nat) (u : Value), xs[j]? = some u → w.cell? ⟨g, off + j, none⟩ = some u) : Calls Tryz.prog 38 #[.slice (some ⟨g, off, none⟩) xs.length cap] w (ListR w xs) := by
  have HC := hid (cloneV_some g off cap xs w hb h1 hc)
  obtain ⟨n, hne⟩ : ∃ n, xs.length = n := ⟨_, rfl⟩
  have HNE := hid hne
  rw [hne] at HC ⊢
  clear h1 hc hb hne
  go_enter Tryz.func38, Tryz.ntmps38
  go_wp2_with fail
  refine HC.out.mono ?_
  rintro e w1 ⟨v, rfl, ho, hx⟩
  have HO := hid ho
  have HX := hid hx
  clear ho hx
  go_wp2_with fail
  refine (lcame_any _ _).mono ?_
  rintro e w2 ⟨rfl, hw2⟩
  rw [hw2]
  clear hw2 w2
  go_wp2_with fail
  go_ret3
  exact ⟨v, rfl, by rw [HNE.out]; exact HO.out, HX.out⟩
set_option maxRecDepth 100000 in
set_option maxHeartbeats 1000000 in
theorem cut_ok (g b off l c i k : Nat) (xs : List Value) (w : World) (h0 : w.cell? ⟨g, 0, none⟩ = some (.iface 81 (.slice (some ⟨b, off, none⟩) l c))) (h1 : w.cell? ⟨g, 1, none⟩ = some (.iface 83 (.int .i64 (i : Int)))) (h2 : w.cell? ⟨g, 2, none⟩ = some (.iface 83 (.int .i64 (k : Int)))) (hik : i ≤ k) (hkl : k ≤ l) (hlc : l ≤ c) (hl : l * 16 ≤ 140737488355328) (hxs : xs.length = k - i) (h1c : ∀ u ∈ xs, u.oneCell' = true) (hc : ∀ (j : Nat) (u : Value), xs[j]? = some u → w.cell? ⟨b, off + i + j, none⟩ = some u) : Calls Tryz.prog 44 #[.slice (some ⟨g, 0, none⟩) 3 3] w (ListR w xs) := by
  have HI := hid (items0_any g 3 (by decide) (some ⟨b, off, none⟩) l c w h0)
  have HN := hid (number1_any g 3 (by decide) (i : Int) w h1)
  have HM := hid (number2_any g 3 (by decide) (k : Int) w h2)
  have HC := hid (fun cp => cloneL_some b (off + i) cp xs w (by omega) h1c hc)
  have HC0 := hid (fun (hci : c = i) cp => show Calls Tryz.prog 79 #[.slice (some ⟨b, off, none⟩) (k - i) cp] w _ from hxs ▸ cloneL_some b off cp xs w (by omega) h1c (fun j u hu => by
    have := (List.getElem?_eq_some_iff.1 hu).1
    omega))
  have HNE := hid hxs
  rw [hxs] at HC
  have i1 : ¬ (i : Int) < 0 := by omega
  have i2 : ¬ (k : Int) < (i : Int) := by omega
  have i3 : ¬ (l : Int) < (k : Int) := by omega
  have i4 : (l : Int) ≤ 140737488355328 := by omega
  have i5 : (i : Int) ≤ (k : Int) := by omega
  have i6 : (k : Int) ≤ (l : Int) := by omega
  have i7 : (l : Int) ≤ (c : Int) := by omega
  have j1 : ¬ k < i := by omega
  have j2 : ¬ l < k := by omega
  clear h0 h1 h2 hxs h1c hc hl hik hkl
  go_enter Tryz.func44, Tryz.ntmps44
  go_wp2_with fail
  refine HI.out.mono ?_
  rintro e w1 ⟨rfl, hw1⟩
  rw [hw1]
  clear hw1 w1
  go_wp2_with fail
  refine HN.out.mono ?_
  rintro e w1 ⟨rfl, hw1⟩
  rw [hw1]
  clear hw1 w1
  go_wp2_with fail
  refine HM.out.mono ?_
  rintro e w1 ⟨rfl, hw1⟩
  rw [hw1]
  clear hw1 w1
  go_wp2_with fail
  all_goals
    first
      | with_reducible refine (HC0.out (by omega) _).mono ?_
      | with_reducible refine (HC.out _).mono ?_
    rintro e w1 ⟨v, rfl, ho, hx⟩
    have HO := hid ho
    have HX := hid hx
    clear ho hx
    go_wp2_with fail
    refine (lcame_any _ _).mono ?_
    rintro e w2 ⟨rfl, hw2⟩
    rw [hw2]
    clear hw2 w2
    go_wp2_with fail
    go_ret3
    exact ⟨v, rfl, by rw [HNE.out]; first | exact HO.out | (rw [← HNE.out]; exact HO.out), HX.out⟩
theorem lrefused_any (c : Int) (w : World) : Calls Tryz.prog 77 #[.int .i64 c] w fun e w' => e = .returned (.tuple #[.nilIface, .int .i64 c, .string ⟨#[]⟩]) ∧ w' = w := by
  go_enter Tryz.func77, Tryz.ntmps77
  go_wp2_with fail
  go_ret3
  exact ⟨rfl, rfl⟩
set_option maxRecDepth 100000 in
set_option maxHeartbeats 1000000 in
theorem cut_bad (g : Nat) (a : Option Addr) (l c : Nat) (i k : Int) (w : World) (h0 : w.cell? ⟨g, 0, none⟩ = some (.iface 81 (.slice a l c))) (h1 : w.cell? ⟨g, 1, none⟩ = some (.iface 83 (.int .i64 i))) (h2 : w.cell? ⟨g, 2, none⟩ = some (.iface 83 (.int .i64 k))) (hb : i < 0 ∨ k < i ∨ (l : Int) < k) : Calls Tryz.prog 44 #[.slice (some ⟨g, 0, none⟩) 3 3] w fun e w' => e = .returned (.tuple #[.nilIface, .int .i64 23, .string ⟨#[]⟩]) ∧ w' = w := by
  have HI := hid (items0_any g 3 (by decide) a l c w h0)
  have HN := hid (number1_any g 3 (by decide) i w h1)
  have HM := hid (number2_any g 3 (by decide) k w h2)
  clear h0 h1 h2
  by_cases b1 : i < 0
  · clear hb
    go_enter Tryz.func44, Tryz.ntmps44
    go_wp2_with fail
    refine HI.out.mono ?_
    rintro e w1 ⟨rfl, hw1⟩
    rw [hw1]
    clear hw1 w1
    go_wp2_with fail
    refine HN.out.mono ?_
    rintro e w1 ⟨rfl, hw1⟩
    rw [hw1]
    clear hw1 w1
    go_wp2_with fail
    refine HM.out.mono ?_
    rintro e w1 ⟨rfl, hw1⟩
    rw [hw1]
    clear hw1 w1
    go_wp2_with fail
    refine (lrefused_any 23 w).mono ?_
    rintro e w1 ⟨rfl, hw1⟩
    rw [hw1]
    clear hw1 w1
    go_wp2_with fail
    go_ret3
    exact ⟨rfl, rfl⟩
  by_cases b2 : k < i
  · clear hb
    go_enter Tryz.func44, Tryz.ntmps44
    go_wp2_with fail
    refine HI.out.mono ?_
    rintro e w1 ⟨rfl, hw1⟩
    rw [hw1]
    clear hw1 w1
    go_wp2_with fail
    refine HN.out.mono ?_
    rintro e w1 ⟨rfl, hw1⟩
    rw [hw1]
    clear hw1 w1
    go_wp2_with fail
    refine HM.out.mono ?_
    rintro e w1 ⟨rfl, hw1⟩
    rw [hw1]
    clear hw1 w1
    go_wp2_with fail
    refine (lrefused_any 23 w).mono ?_
    rintro e w1 ⟨rfl, hw1⟩
    rw [hw1]
    clear hw1 w1
    go_wp2_with fail
    go_ret3
    exact ⟨rfl, rfl⟩
  · have b3 : (l : Int) < k := by omega
    clear hb
    go_enter Tryz.func44, Tryz.ntmps44
    go_wp2_with fail
    refine HI.out.mono ?_
    rintro e w1 ⟨rfl, hw1⟩
    rw [hw1]
    clear hw1 w1
    go_wp2_with fail
    refine HN.out.mono ?_
    rintro e w1 ⟨rfl, hw1⟩
    rw [hw1]
    clear hw1 w1
    go_wp2_with fail
    refine HM.out.mono ?_
    rintro e w1 ⟨rfl, hw1⟩
    rw [hw1]
    clear hw1 w1
    go_wp2_with fail
    refine (lrefused_any 23 w).mono ?_
    rintro e w1 ⟨rfl, hw1⟩
    rw [hw1]
    clear hw1 w1
    go_wp2_with fail
    go_ret3
    exact ⟨rfl, rfl⟩
set_option maxRecDepth 100000 in
theorem of_none (w : World) : Calls Tryz.prog 38 #[.slice none 0 0] w (ListR w []) := by
  go_enter Tryz.func38, Tryz.ntmps38
  go_wp2_with fail
  refine (cloneV_nil _).mono ?_
  rintro e w1 ⟨rfl, hw1⟩
  rw [hw1]
  clear hw1 w1
  go_wp2_with fail
  refine (lcame_any _ _).mono ?_
  rintro e w1 ⟨rfl, hw1⟩
  rw [hw1]
  clear hw1 w1
  go_wp2_with fail
  go_ret3
  exact ⟨_, rfl, ⟨rfl, .inl ⟨rfl, rfl⟩⟩, Ext.refl _⟩
end Go.Proofs.YtaafcmmmkalgjaaGreatDoor
