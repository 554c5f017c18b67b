/-
  slices.Clone of lists of values, by contracts: own new memory with the same cells.
-/
import Derived.Test.YtaafcmmmkalgjaaGreatDoorBase
import Derived.Deep.CutRange
import Derived.Deep.CutBlock
import Derived.Deep.Cut
import Derived.Test.YtaafcmmmkalgjaaGreatDoorLOps
import Derived.Shelf.RegionOpenPlain
import Derived.WalkKit
import Derived.Deep.LoopGhost
import Derived.Lib.Walk
import Derived.Sort.WalkB12
import Derived.Lib.SlicesMore
import Derived.Lib.OwnBridge
namespace Go.Proofs.YtaafcmmmkalgjaaGreatDoor
open Go.RowKit
theorem lvInfo : (Tryz.prog.info? 35).map (fun i => (i.zero, i.size, i.bytes)) = some (some .nilIface, 1, 16) := by kernel_rfl
set_option maxRecDepth 100000 in
set_option maxHeartbeats 1000000 in
theorem cloneV_some (g off cap : Nat) (xs : List Value) (w : World) (hb : xs.length * 16 ≤ 140737488355328) (h1 : ∀ u ∈ xs, u.oneCell' = true) (hc : ∀ (j : Nat) (u : Value), xs[j]? = some u → w.cell? ⟨g, off + j, none⟩ = some u) :
    Calls Tryz.prog 74 #[.slice (some ⟨g, off, none⟩) xs.length cap] w fun r w' => ∃ v, r = .returned v ∧ w'.ownsRow w.heap.size 35 1 v xs.length xs ∧ Ext w w' := by
  obtain ⟨i0, hi0, hz0, hz1, hz2⟩ := info_parts lvInfo
  have hq : ∀ w : World, (binOp .eql 24 (.slice (some ⟨g, off, none⟩) xs.length cap) (.slice none 0 0)).run Tryz.prog w = .ok (.bool false) w := fun w => by
    exact Lib.run_eql_slice_nil w 24 35 (some ⟨g, off, none⟩) xs.length cap 0 0 Tryz.underlying24
  have hown : (w.alloc (.cells #[] 35)).ownsRow w.heap.size 35 1 (.slice (some ⟨w.heap.size, 0, none⟩) 0 0) 0 [] :=
    ⟨rfl, .inr ⟨w.heap.size, 0, #[], rfl, Nat.le_refl _, blk0 _ _, Nat.le_refl _, Nat.zero_le _, rfl, rfl⟩⟩
  have H1 := hid h1
  have HC := hid hc
  clear h1 hc
  go_enter Tryz.func74, Tryz.ntmps74
  go_wp2_with (at_builtin; refine wpList_append_own _ rfl _ _ 24 rfl w.heap.size 35 i0 .nilIface 1 16 Tryz.underlying24 hi0 hz0 hz1 hz2 rfl (by decide) _ _ _ rfl hown ⟨g, off, none⟩ xs.length cap xs rfl (by simp) ?hnews ?hone ?b1 ?b2 ?b3 ?_)
  case hnews =>
    intro j u hu
    have h2 := (Below.cell (Ext.alloc w (.cells #[] 35)) (p := ⟨g, off + j, none⟩) (lt_of_cell (HC.out j u hu))).trans (HC.out j u hu)
    have ea : Addr.add ⟨g, off, none⟩ j = ⟨g, off + j, none⟩ := by
      by_cases hj : j = 0
      · subst hj; simp [Addr.add]
      · simp [Addr.add, hj]
    rw [ea]; exact h2
  case hone => exact H1.out
  case b1 => unfold maxLen; omega
  case b2 => simpa using hb
  case b3 => simp
  intro v' w' hown' hgrow _
  go_wp2
  go_ret
  refine ⟨_, rfl, by simpa using hown', ?_⟩
  exact Below.grown (Ext.alloc w _) hgrow (by simp) (fun k hk => by simp [Value.ownBlock] at hk; omega)
theorem cloneV_nil (w : World) : Calls Tryz.prog 74 #[.slice none 0 0] w fun e w' => e = .returned (.slice none 0 0) ∧ w' = w := by
  have hq : ∀ w : World, (binOp .eql 24 (.slice none 0 0) (.slice none 0 0)).run Tryz.prog w = .ok (.bool true) w := fun _ => by kernel_rfl
  go_enter Tryz.func74, Tryz.ntmps74
  go_wp2
  go_ret
  exact ⟨rfl, rfl⟩
set_option maxRecDepth 100000 in
set_option maxHeartbeats 1000000 in
theorem cloneL_some (g off cap : Nat) (xs : List Value) (w : World) (hb : xs.length * 16 ≤ 140737488355328) (h1 : ∀ u ∈ xs, u.oneCell' = true) (hc : ∀ (j : Nat) (u : Value), xs[j]? = some u → w.cell? ⟨g, off + j, none⟩ = some u) :
    Calls Tryz.prog 79 #[.slice (some ⟨g, off, none⟩) xs.length cap] w fun r w' => ∃ v, r = .returned v ∧ w'.ownsRow w.heap.size 35 1 v xs.length xs ∧ Ext w w' := by
  obtain ⟨i0, hi0, hz0, hz1, hz2⟩ := info_parts lvInfo
  have hq : ∀ w : World, (binOp .eql 81 (.slice (some ⟨g, off, none⟩) xs.length cap) (.slice none 0 0)).run Tryz.prog w = .ok (.bool false) w := fun w => by
    exact Lib.run_eql_slice_nil w 81 35 (some ⟨g, off, none⟩) xs.length cap 0 0 Tryz.underlying81
  have hown : (w.alloc (.cells #[] 35)).ownsRow w.heap.size 35 1 (.slice (some ⟨w.heap.size, 0, none⟩) 0 0) 0 [] :=
    ⟨rfl, .inr ⟨w.heap.size, 0, #[], rfl, Nat.le_refl _, blk0 _ _, Nat.le_refl _, Nat.zero_le _, rfl, rfl⟩⟩
  have H1 := hid h1
  have HC := hid hc
  clear h1 hc
  go_enter Tryz.func79, Tryz.ntmps79
  go_wp2_with (at_builtin; refine wpList_append_own _ rfl _ _ 81 rfl w.heap.size 35 i0 .nilIface 1 16 Tryz.underlying81 hi0 hz0 hz1 hz2 rfl (by decide) _ _ _ rfl hown ⟨g, off, none⟩ xs.length cap xs rfl (by simp) ?hnews ?hone ?b1 ?b2 ?b3 ?_)
  case hnews =>
    intro j u hu
    have h2 := (Below.cell (Ext.alloc w (.cells #[] 35)) (p := ⟨g, off + j, none⟩) (lt_of_cell (HC.out j u hu))).trans (HC.out j u hu)
    have ea : Addr.add ⟨g, off, none⟩ j = ⟨g, off + j, none⟩ := by
      by_cases hj : j = 0
      · subst hj; simp [Addr.add]
      · simp [Addr.add, hj]
    rw [ea]; exact h2
  case hone => exact H1.out
  case b1 => unfold maxLen; omega
  case b2 => simpa using hb
  case b3 => simp
  intro v' w' hown' hgrow _
  go_wp2
  go_ret
  refine ⟨_, rfl, by simpa using hown', ?_⟩
  exact Below.grown (Ext.alloc w _) hgrow (by simp) (fun k hk => by simp [Value.ownBlock] at hk; omega)
theorem cloneL_nil (w : World) : Calls Tryz.prog 79 #[.slice none 0 0] w fun e w' => e = .returned (.slice none 0 0) ∧ w' = w := by
  have hq : ∀ w : World, (binOp .eql 81 (.slice none 0 0) (.slice none 0 0)).run Tryz.prog w = .ok (.bool true) w := fun _ => by kernel_rfl
  go_enter Tryz.func79, Tryz.ntmps79
  go_wp2
  go_ret
  exact ⟨rfl, rfl⟩
end Go.Proofs.YtaafcmmmkalgjaaGreatDoor
/-
  list.at within its list, list.of, list.cut of what lies in its list, by contracts.
-/
namespace Go.Proofs.YtaafcmmmkalgjaaGreatDoor
open Go.RowKit
set_option maxRecDepth 100000 in
set_option maxHeartbeats 1000000 in
theorem at_ok (g b off l c j : Nat) (v : Value) (w : World) (h0 : w.cell? ⟨g, 0, none⟩ = some (.iface 81 (.slice (some ⟨b, off, none⟩) l c))) (h1 : w.cell? ⟨g, 1, none⟩ = some (.iface 83 (.int .i64 (j : Int)))) (hj : j < l) (hl : l ≤ 140737488355328) (hv : w.cell? ⟨b, off + j, none⟩ = some v) : Calls Tryz.prog 41 #[.slice (some ⟨g, 0, none⟩) 2 2] w fun e w' => e = .returned (.tuple #[v, .int .i64 0, .string ⟨#[]⟩]) ∧ w' = w := by
  have HI := hid (items0_any g 2 (by decide) (some ⟨b, off, none⟩) l c w h0)
  have HN := hid (number1_any g 2 (by decide) (j : Int) w h1)
  have HC := hid (lcame_any v w)
  have hj2 : (j : Int) < (l : Int) := by omega
  have hj3 : ¬ (j : Int) < 0 := by omega
  have hj4 : ¬ (l : Int) ≤ (j : Int) := by omega
  have hl2 : (l : Int) ≤ 140737488355328 := by omega
  have hbl := lt_of_cell hv
  clear h0 h1
  go_enter Tryz.func41, Tryz.ntmps41
  go_wp2_with fail
  refine HI.out.mono ?_
  rintro e w1 ⟨rfl, hw1⟩
  rw [hw1]
  clear hw1 w1
  go_wp2_with fail
  refine HN.out.mono ?_
  rintro e w1 ⟨rfl, hw1⟩
  rw [hw1]
  clear hw1 w1
  go_wp2_with fail
  refine HC.out.mono ?_
  rintro e w1 ⟨rfl, hw1⟩
  rw [hw1]
  clear hw1 w1
  go_wp2_with fail
  go_ret3
  exact ⟨rfl, rfl⟩
/-- A list that was made anew: of the values xs. -/
def ListR (w : World) (xs : List Value) (e : Ending) (w' : World) : Prop := ∃ v, e = .returned (.tuple #[.iface 81 v, .int .i64 0, .string ⟨#[]⟩]) ∧ w'.ownsRow w.heap.size 35 1 v xs.length xs ∧ Ext w w'
set_option maxRecDepth 100000 in
theorem lofV_any (g off cap : Nat) (xs : List Value) (w : World) (hb : xs.length * 16 ≤ 140737488355328) (h1 : ∀ u ∈ xs, u.oneCell' = true) (hc : ∀ (j : Nat) (u : Value), xs[j]? = some u → w.cell? ⟨g, off + j, none⟩ = some u) : Calls Tryz.prog 38 #[.slice (some ⟨g, off, none⟩) xs.length cap] w (ListR w xs) := by
  have HC := hid (cloneV_some g off cap xs w hb h1 hc)
  obtain ⟨n, hne⟩ : ∃ n, xs.length = n := ⟨_, rfl⟩
  have HNE := hid hne
  rw [hne] at HC ⊢
  clear h1 hc hb hne
  go_enter Tryz.func38, Tryz.ntmps38
  go_wp2_with fail
  refine HC.out.mono ?_
  rintro e w1 ⟨v, rfl, ho, hx⟩
  have HO := hid ho
  have HX := hid hx
  clear ho hx
  go_wp2_with fail
  refine (lcame_any _ _).mono ?_
  rintro e w2 ⟨rfl, hw2⟩
  rw [hw2]
  clear hw2 w2
  go_wp2_with fail
  go_ret3
  exact ⟨v, rfl, by rw [HNE.out]; exact HO.out, HX.out⟩
set_option maxRecDepth 100000 in
set_option maxHeartbeats 1000000 in
theorem cut_ok (g b off l c i k : Nat) (xs : List Value) (w : World) (h0 : w.cell? ⟨g, 0, none⟩ = some (.iface 81 (.slice (some ⟨b, off, none⟩) l c))) (h1 : w.cell? ⟨g, 1, none⟩ = some (.iface 83 (.int .i64 (i : Int)))) (h2 : w.cell? ⟨g, 2, none⟩ = some (.iface 83 (.int .i64 (k : Int)))) (hik : i ≤ k) (hkl : k ≤ l) (hlc : l ≤ c) (hl : l * 16 ≤ 140737488355328) (hxs : xs.length = k - i) (h1c : ∀ u ∈ xs, u.oneCell' = true) (hc : ∀ (j : Nat) (u : Value), xs[j]? = some u → w.cell? ⟨b, off + i + j, none⟩ = some u) : Calls Tryz.prog 44 #[.slice (some ⟨g, 0, none⟩) 3 3] w (ListR w xs) := by
  have HI := hid (items0_any g 3 (by decide) (some ⟨b, off, none⟩) l c w h0)
  have HN := hid (number1_any g 3 (by decide) (i : Int) w h1)
  have HM := hid (number2_any g 3 (by decide) (k : Int) w h2)
  have HC := hid (fun cp => cloneL_some b (off + i) cp xs w (by omega) h1c hc)
  have HC0 := hid (fun (hci : c = i) cp => show Calls Tryz.prog 79 #[.slice (some ⟨b, off, none⟩) (k - i) cp] w _ from hxs ▸ cloneL_some b off cp xs w (by omega) h1c (fun j u hu => by
    have := (List.getElem?_eq_some_iff.1 hu).1
    omega))
  have HNE := hid hxs
  rw [hxs] at HC
  have i1 : ¬ (i : Int) < 0 := by omega
  have i2 : ¬ (k : Int) < (i : Int) := by omega
  have i3 : ¬ (l : Int) < (k : Int) := by omega
  have i4 : (l : Int) ≤ 140737488355328 := by omega
  have i5 : (i : Int) ≤ (k : Int) := by omega
  have i6 : (k : Int) ≤ (l : Int) := by omega
  have i7 : (l : Int) ≤ (c : Int) := by omega
  have j1 : ¬ k < i := by omega
  have j2 : ¬ l < k := by omega
  clear h0 h1 h2 hxs h1c hc hl hik hkl
  go_enter Tryz.func44, Tryz.ntmps44
  go_wp2_with fail
  refine HI.out.mono ?_
  rintro e w1 ⟨rfl, hw1⟩
  rw [hw1]
  clear hw1 w1
  go_wp2_with fail
  refine HN.out.mono ?_
  rintro e w1 ⟨rfl, hw1⟩
  rw [hw1]
  clear hw1 w1
  go_wp2_with fail
  refine HM.out.mono ?_
  rintro e w1 ⟨rfl, hw1⟩
  rw [hw1]
  clear hw1 w1
  go_wp2_with fail
  all_goals
    first
      | with_reducible refine (HC0.out (by omega) _).mono ?_
      | with_reducible refine (HC.out _).mono ?_
    rintro e w1 ⟨v, rfl, ho, hx⟩
    have HO := hid ho
    have HX := hid hx
    clear ho hx
    go_wp2_with fail
    refine (lcame_any _ _).mono ?_
    rintro e w2 ⟨rfl, hw2⟩
    rw [hw2]
    clear hw2 w2
    go_wp2_with fail
    go_ret3
    exact ⟨v, rfl, by rw [HNE.out]; first | exact HO.out | (rw [← HNE.out]; exact HO.out), HX.out⟩
theorem lrefused_any (c : Int) (w : World) : Calls Tryz.prog 77 #[.int .i64 c] w fun e w' => e = .returned (.tuple #[.nilIface, .int .i64 c, .string ⟨#[]⟩]) ∧ w' = w := by
  go_enter Tryz.func77, Tryz.ntmps77
  go_wp2_with fail
  go_ret3
  exact ⟨rfl, rfl⟩
set_option maxRecDepth 100000 in
set_option maxHeartbeats 1000000 in
theorem cut_bad (g : Nat) (a : Option Addr) (l c : Nat) (i k : Int) (w : World) (h0 : w.cell? ⟨g, 0, none⟩ = some (.iface 81 (.slice a l c))) (h1 : w.cell? ⟨g, 1, none⟩ = some (.iface 83 (.int .i64 i))) (h2 : w.cell? ⟨g, 2, none⟩ = some (.iface 83 (.int .i64 k))) (hb : i < 0 ∨ k < i ∨ (l : Int) < k) : Calls Tryz.prog 44 #[.slice (some ⟨g, 0, none⟩) 3 3] w fun e w' => e = .returned (.tuple #[.nilIface, .int .i64 23, .string ⟨#[]⟩]) ∧ w' = w := by
  have HI := hid (items0_any g 3 (by decide) a l c w h0)
  have HN := hid (number1_any g 3 (by decide) i w h1)
  have HM := hid (number2_any g 3 (by decide) k w h2)
  clear h0 h1 h2
  by_cases b1 : i < 0
  · clear hb
    go_enter Tryz.func44, Tryz.ntmps44
    go_wp2_with fail
    refine HI.out.mono ?_
    rintro e w1 ⟨rfl, hw1⟩
    rw [hw1]
    clear hw1 w1
    go_wp2_with fail
    refine HN.out.mono ?_
    rintro e w1 ⟨rfl, hw1⟩
    rw [hw1]
    clear hw1 w1
    go_wp2_with fail
    refine HM.out.mono ?_
    rintro e w1 ⟨rfl, hw1⟩
    rw [hw1]
    clear hw1 w1
    go_wp2_with fail
    refine (lrefused_any 23 w).mono ?_
    rintro e w1 ⟨rfl, hw1⟩
    rw [hw1]
    clear hw1 w1
    go_wp2_with fail
    go_ret3
    exact ⟨rfl, rfl⟩
  by_cases b2 : k < i
  · clear hb
    go_enter Tryz.func44, Tryz.ntmps44
    go_wp2_with fail
    refine HI.out.mono ?_
    rintro e w1 ⟨rfl, hw1⟩
    rw [hw1]
    clear hw1 w1
    go_wp2_with fail
    refine HN.out.mono ?_
    rintro e w1 ⟨rfl, hw1⟩
    rw [hw1]
    clear hw1 w1
    go_wp2_with fail
    refine HM.out.mono ?_
    rintro e w1 ⟨rfl, hw1⟩
    rw [hw1]
    clear hw1 w1
    go_wp2_with fail
    refine (lrefused_any 23 w).mono ?_
    rintro e w1 ⟨rfl, hw1⟩
    rw [hw1]
    clear hw1 w1
    go_wp2_with fail
    go_ret3
    exact ⟨rfl, rfl⟩
  · have b3 : (l : Int) < k := by omega
    clear hb
    go_enter Tryz.func44, Tryz.ntmps44
    go_wp2_with fail
    refine HI.out.mono ?_
    rintro e w1 ⟨rfl, hw1⟩
    rw [hw1]
    clear hw1 w1
    go_wp2_with fail
    refine HN.out.mono ?_
    rintro e w1 ⟨rfl, hw1⟩
    rw [hw1]
    clear hw1 w1
    go_wp2_with fail
    refine HM.out.mono ?_
    rintro e w1 ⟨rfl, hw1⟩
    rw [hw1]
    clear hw1 w1
    go_wp2_with fail
    refine (lrefused_any 23 w).mono ?_
    rintro e w1 ⟨rfl, hw1⟩
    rw [hw1]
    clear hw1 w1
    go_wp2_with fail
    go_ret3
    exact ⟨rfl, rfl⟩
set_option maxRecDepth 100000 in
theorem of_none (w : World) : Calls Tryz.prog 38 #[.slice none 0 0] w (ListR w []) := by
  go_enter Tryz.func38, Tryz.ntmps38
  go_wp2_with fail
  refine (cloneV_nil _).mono ?_
  rintro e w1 ⟨rfl, hw1⟩
  rw [hw1]
  clear hw1 w1
  go_wp2_with fail
  refine (lcame_any _ _).mono ?_
  rintro e w1 ⟨rfl, hw1⟩
  rw [hw1]
  clear hw1 w1
  go_wp2_with fail
  go_ret3
  exact ⟨_, rfl, ⟨rfl, .inl ⟨rfl, rfl⟩⟩, Ext.refl _⟩
end Go.Proofs.YtaafcmmmkalgjaaGreatDoor
/-
  slices.Reverse of a list of values (after the shelf's own walk at []int), list.turn, by contracts.
-/
namespace Go.Proofs.YtaafcmmmkalgjaaGreatDoor
open Go.RowKit Go.Lib Go.Sort Go.Shelf
def encV (p : TypeId × Value) : Value := .iface p.1 p.2
set_option maxHeartbeats 1600000 in
set_option maxRecDepth 1000000 in
theorem rev_any (blk off cap : Nat) (d : Array (TypeId × Value)) (w : World) (hH : Holds encV w blk off d) (hsz : d.size ≤ 9223372036854775807) :
    Calls Tryz.prog 80 #[.slice (some ⟨blk, off, none⟩) d.size cap] w fun e w' => e = .returned (.tuple #[]) ∧ ∃ n, w' = putRow encV (Sort.ahead w n) blk off d.reverse := by
  have mixed : Tryz.prog.follows Departure.mixedOrders = true := by kernel_rfl
  go_enter Tryz.func80, Tryz.ntmps80
  go_wp2
  go_loopg [2, 3] d.size (fun k s2 s3 wr => ∃ (i jn : Nat) (jz : Int) (dk : Array (TypeId × Value)) (n : Nat), s2 = .int .i64 i ∧ s3 = .int .i64 jz ∧ ((i : Int) < jz → jz = jn ∧ jn < d.size) ∧ (¬ (i : Int) < jz → ¬ i < jn) ∧ jn - i ≤ k ∧
    dk.size = d.size ∧ wr = putRow encV (Sort.ahead w n) blk off dk ∧ reverseLoop i jn dk = reverseLoop 0 (d.size - 1) d)
  case atStart => exact ⟨0, d.size - 1, (d.size : Int) - 1, d, 0, rfl, rfl, fun h => ⟨by omega, by omega⟩, fun h => by omega, by omega, rfl, (putRow_self encV w blk off d hH).symm, rfl⟩
  case round =>
    obtain ⟨i, jn, jz, dk, n, rfl, rfl, h1, h2, hk, hds, hwr, heq⟩ := hrel
    by_cases hlt : (i : Int) < jz
    · obtain ⟨rfl, hjn⟩ := h1 hlt
      have hij : i < jn := by omega
      have hHk : Holds encV wr blk off dk := by rw [hwr]; exact holds_putRow encV _ blk off d dk (holds_ahead encV w n blk off d hH) hds
      obtain ⟨ci, fi⟩ := hHk i (by omega)
      obtain ⟨cj, fj⟩ := hHk jn (by omega)
      have ci' : wr.cell? ⟨blk, off + i, none⟩ = some (.iface dk[i]!.1 dk[i]!.2) := ci
      have cj' : wr.cell? ⟨blk, off + jn, none⟩ = some (.iface dk[jn]!.1 dk[jn]!.2) := cj
      have A : Aside (wr = putRow encV (Sort.ahead w n) blk off dk) := hwr
      clear hwr hHk hH h1 h2 ci cj
      go_wp2_with fail
      go_region_o
      go_wp2
      go_roundg (jn - 1 - (i + 1))
      case measure => omega
      case rel =>
        rw [reverseLoop, if_pos hij] at heq
        exact ⟨i + 1, jn - 1, (jn : Int) - 1, swp dk i jn, n + 1, by simp, rfl, fun h => ⟨by omega, by omega⟩, fun h => by omega, Nat.le_refl _, by rw [size_swp]; exact hds,
          swap_world encV (by omega) (by omega) A.out (by first | rfl | simp [encV, getElem!_pos, show jn < dk.size by omega] | (trace_state; fail)) (by first | rfl | simp [encV, getElem!_pos, show i < dk.size by omega]), heq⟩
    · have hnot := h2 hlt
      go_wp2
      go_end0
      refine ⟨rfl, n, ?_⟩
      rw [reverseLoop, if_neg hnot] at heq
      rw [← Lib.reverseLoop_reverse, ← heq]
set_option maxHeartbeats 1000000 in
theorem rev_empty (a : Option Addr) (cap : Nat) (w : World) : Calls Tryz.prog 80 #[.slice a 0 cap] w fun e w' => e = .returned (.tuple #[]) ∧ w' = w := by
  go_enter Tryz.func80, Tryz.ntmps80
  go_wp2
  go_loopg [2, 3] 0 (fun _ s2 s3 wr => s2 = .int .i64 0 ∧ s3 = .int .i64 (-1) ∧ wr = w)
  case atStart => exact ⟨rfl, rfl, rfl⟩
  case round =>
    obtain ⟨rfl, rfl, rfl⟩ := hrel
    go_wp2
    go_end0
    exact ⟨rfl, rfl⟩
theorem ownsRow_some {w : World} {base n : Nat} {e : TypeId} {v : Value} {zs : List Value} (h : w.ownsRow base e 1 v n zs) (hn : 0 < n) : v ≠ .slice none 0 0 := by
  rintro rfl
  rcases h.2 with ⟨_, h0⟩ | ⟨g, cap, cur, e0, _⟩
  · omega
  · cases e0
set_option maxRecDepth 100000 in
set_option maxHeartbeats 1000000 in
theorem turn_ok (g b off c n : Nat) (ps : List (TypeId × Value)) (w : World) (hn : ps.length = n) (hp : 0 < n) (hb : n * 16 ≤ 140737488355328) (h0 : w.cell? ⟨g, 0, none⟩ = some (.iface 81 (.slice (some ⟨b, off, none⟩) n c))) (hc : ∀ (j : Nat) (p : TypeId × Value), ps[j]? = some p → w.cell? ⟨b, off + j, none⟩ = some (encV p)) :
    Calls Tryz.prog 45 #[.slice (some ⟨g, 0, none⟩) 1 1] w (ListR w (ps.reverse.map encV)) := by
  have HI := hid (items0_any g 1 (by decide) (some ⟨b, off, none⟩) n c w h0)
  have hcl := cloneL_some b off c (ps.map encV) w (by rw [List.length_map, hn]; exact hb) (fun u hu => by
    obtain ⟨p, _, rfl⟩ := List.mem_map.1 hu
    rfl) (fun j u hu => by
    rw [List.getElem?_map] at hu
    obtain ⟨p, hp', rfl⟩ := Option.map_eq_some_iff.1 hu
    exact hc j p hp')
  rw [List.length_map, hn] at hcl
  have HCL := hid hcl
  have HN := hid hn
  have HP := hid hp
  clear h0 hc hcl hn hp hb
  go_enter Tryz.func45, Tryz.ntmps45
  go_wp2_with fail
  refine HI.out.mono ?_
  rintro e w1 ⟨rfl, hw1⟩
  rw [hw1]
  clear hw1 w1
  go_wp2_with fail
  refine HCL.out.mono ?_
  rintro e w1 ⟨v1, rfl, hown, hbel⟩
  obtain ⟨gg, cap, rfl, hbg, _, _, hcm, hlen, hH⟩ := Lib.holds_of_ownsRow hown (ownsRow_some hown HP.out)
  have hrev := rev_any gg 0 cap ps.toArray w1 hH (by unfold maxLen at hcm; simp; omega)
  rw [show ps.toArray.size = n by simpa using hlen] at hrev
  have HREV := hid hrev
  have HOWN := hid hown
  have HBEL := hid hbel
  have HBG := hid hbg
  clear hown hbel hbg hrev hH hcm hlen
  go_wp2_with fail
  refine HREV.out.mono ?_
  rintro e w2 ⟨rfl, q, hw2⟩
  have h1 := Lib.ownsRow_putRow (q := q) (ys := ps.reverse) HOWN.out (by rw [List.length_reverse]; exact HN.out) (Nat.le_refl n)
  rw [List.take_of_length_le (by rw [List.length_reverse, HN.out]; exact Nat.le_refl n)] at h1
  have hx2 : Ext w w2 := by rw [hw2]; exact Lib.below_putRow HBEL.out HBG.out
  rw [show ps.reverse.toArray = ps.toArray.reverse by simp, ← hw2] at h1
  have HO2 := hid h1
  have HX2 := hid hx2
  clear h1 hx2 hw2
  go_wp2_with fail
  refine (lcame_any _ _).mono ?_
  rintro e w3 ⟨rfl, hw3⟩
  rw [hw3]
  clear hw3 w3
  go_wp2_with fail
  go_ret3
  exact ⟨_, rfl, by rw [List.length_map, List.length_reverse, HN.out]; exact HO2.out, HX2.out⟩
set_option maxRecDepth 100000 in
theorem turn_none (g : Nat) (w : World) (h0 : w.cell? ⟨g, 0, none⟩ = some (.iface 81 (.slice none 0 0))) : Calls Tryz.prog 45 #[.slice (some ⟨g, 0, none⟩) 1 1] w (ListR w []) := by
  have HI := hid (items0_any g 1 (by decide) none 0 0 w h0)
  clear h0
  go_enter Tryz.func45, Tryz.ntmps45
  go_wp2_with fail
  refine HI.out.mono ?_
  rintro e w1 ⟨rfl, hw1⟩
  rw [hw1]
  clear hw1 w1
  go_wp2_with fail
  refine (cloneL_nil _).mono ?_
  rintro e w1 ⟨rfl, hw1⟩
  rw [hw1]
  clear hw1 w1
  go_wp2_with fail
  refine (rev_empty none 0 _).mono ?_
  rintro e w1 ⟨rfl, hw1⟩
  rw [hw1]
  clear hw1 w1
  go_wp2_with fail
  refine (lcame_any _ _).mono ?_
  rintro e w1 ⟨rfl, hw1⟩
  rw [hw1]
  clear hw1 w1
  go_wp2_with fail
  go_ret3
  exact ⟨_, rfl, ⟨rfl, .inl ⟨rfl, rfl⟩⟩, Ext.refl _⟩
end Go.Proofs.YtaafcmmmkalgjaaGreatDoor
/-
  list.turn of a list of no values in memory, list.size, by contracts.
-/
namespace Go.Proofs.YtaafcmmmkalgjaaGreatDoor
open Go.RowKit
set_option maxRecDepth 100000 in
theorem turn_zero (g b off c : Nat) (w : World) (h0 : w.cell? ⟨g, 0, none⟩ = some (.iface 81 (.slice (some ⟨b, off, none⟩) 0 c))) : Calls Tryz.prog 45 #[.slice (some ⟨g, 0, none⟩) 1 1] w (ListR w []) := by
  have HI := hid (items0_any g 1 (by decide) (some ⟨b, off, none⟩) 0 c w h0)
  have HC := hid (cloneL_some b off c [] w (by decide) (fun u hu => by cases hu) (fun j u hu => by simp at hu))
  clear h0
  go_enter Tryz.func45, Tryz.ntmps45
  go_wp2_with fail
  refine HI.out.mono ?_
  rintro e w1 ⟨rfl, hw1⟩
  rw [hw1]
  clear hw1 w1
  go_wp2_with fail
  refine HC.out.mono ?_
  rintro e w1 ⟨v, rfl, ho, hx⟩
  have HO := hid ho
  have HX := hid hx
  obtain ⟨a2, c2, rfl⟩ : ∃ a2 c2, v = .slice a2 0 c2 := by
    rcases ho.2 with ⟨h, _⟩ | ⟨g2, cap, _, h, _⟩
    · exact ⟨none, 0, h⟩
    · exact ⟨_, _, h⟩
  clear ho hx
  go_wp2_with fail
  refine (rev_empty a2 c2 _).mono ?_
  rintro e w2 ⟨rfl, hw2⟩
  rw [hw2]
  clear hw2 w2
  go_wp2_with fail
  refine (lcame_any _ _).mono ?_
  rintro e w2 ⟨rfl, hw2⟩
  rw [hw2]
  clear hw2 w2
  go_wp2_with fail
  go_ret3
  exact ⟨_, rfl, HO.out, HX.out⟩
set_option maxRecDepth 100000 in
theorem size_ok (g : Nat) (a : Option Addr) (l c : Nat) (hl : l ≤ 140737488355328) (w : World) (h0 : w.cell? ⟨g, 0, none⟩ = some (.iface 81 (.slice a l c))) : Calls Tryz.prog 40 #[.slice (some ⟨g, 0, none⟩) 1 1] w fun e w' => e = .returned (.tuple #[.iface 83 (.int .i64 (l : Int)), .int .i64 0, .string ⟨#[]⟩]) ∧ w' = w := by
  have HI := hid (items0_any g 1 (by decide) a l c w h0)
  have hl2 : (l : Int) ≤ 140737488355328 := by omega
  clear h0 hl
  go_enter Tryz.func40, Tryz.ntmps40
  go_wp2_with fail
  refine HI.out.mono ?_
  rintro e w1 ⟨rfl, hw1⟩
  rw [hw1]
  clear hw1 w1
  go_wp2_with fail
  refine (lcame_any _ _).mono ?_
  rintro e w2 ⟨rfl, hw2⟩
  rw [hw2]
  clear hw2 w2
  go_wp2_with fail
  go_ret3
  exact ⟨rfl, rfl⟩
end Go.Proofs.YtaafcmmmkalgjaaGreatDoor
