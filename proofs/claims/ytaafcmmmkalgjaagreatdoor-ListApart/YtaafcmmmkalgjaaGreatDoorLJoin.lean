/-
  slices.Grow of none, by a contract: new memory without values in it (after the shelf's own walk).
-/
import Derived.Test.YtaafcmmmkalgjaaGreatDoorLAtOf
import Derived.Shelf.RegionOpenPlain
import Derived.WalkKit
import Derived.Lib.Walk
import Derived.Lib.SliceRun
import Derived.Lib.AppendZerosOnto
import Derived.Deep.LoopGhost
namespace Go.Proofs.YtaafcmmmkalgjaaGreatDoor
open Go.RowKit Go.Lib
set_option maxHeartbeats 1000000 in
theorem grow_nil (n : Nat) (hp : 0 < n) (hb : n * 16 ≤ 140737488355328) (w : World) : Calls Tryz.prog 99 #[.slice none 0 0, .int .i64 (n : Int)] w fun e w' => ∃ v, e = .returned v ∧ w'.ownsRow w.heap.size 35 1 v 0 [] ∧ Ext w w' := by
  obtain ⟨i0, hi0, hz0, hz1, hz2⟩ := info_parts lvInfo
  have mixed : Tryz.prog.follows Departure.mixedOrders = true := by kernel_rfl
  have hrz : ∀ ty, (Builtin.append_ #[81, 3] ty #[.slice none 0 0, .int .i64 (n : Int)]).run Tryz.prog w = .ok (.slice (some ⟨w.heap.size, 0, none⟩) n (grownCap w n 0 35)) (w.drew.alloc (.cells (Builtin.zeroCells #[.nilIface] n ++ Builtin.zeroCells #[.nilIface] (grownCap w n 0 35 - n)) 35)) := fun ty => by
    have h := Lib.run_append_grow_zeros w 81 3 ty 35 i0 .nilIface .i64 .i64 Tryz.underlying81 Tryz.underlying3 hi0 hz0 none 0 0 [] (run_firstCells_none _ _ _ _ _) n hp (by rw [hz1]; decide) (by omega) (by omega) (by rw [hz2]; omega) (by rw [hz2, Nat.zero_add]; exact growslice_fits hp hb)
    simpa [Value.cells] using h
  have hGn : n ≤ grownCap w n 0 35 := grownCap_ge w _ _ _
  have hGm : grownCap w n 0 35 ≤ maxLen := grownCap_le_maxLen w n 0 35 (by unfold maxLen; omega)
  generalize grownCap w n 0 35 = G at *
  have hGx : (G : Int) ≤ 9223372036854775807 := by unfold maxLen at hGm; omega
  have hn1 : ¬ (n : Int) < 0 := by omega
  have hn2 : (n : Int) ≤ 140737488355328 := by omega
  have hn3 : (n : Int) > 0 := by omega
  have HGM := hid hGm
  have HGN := hid hGn
  clear hi0 hz0 hz1 hz2 hGm hb
  go_enter Tryz.func99, Tryz.ntmps99
  go_wp2_with (at_builtin; refine Lib.wpList_append_run _ rfl _ _ _ _ rfl _ _ rfl rfl _ _ (hrz _) ?_)
  all_goals
    go_ret
    refine ⟨_, rfl, ⟨rfl, .inr ⟨w.heap.size, G, _, rfl, Nat.le_refl _, blk0 _ _, Nat.zero_le _, HGM.out, ?_, rfl⟩⟩, (Ext.refl w).drew.more _⟩
    have := HGN.out
    simp [Builtin.zeroCells]
    omega
theorem grow_zero (w : World) : Calls Tryz.prog 99 #[.slice none 0 0, .int .i64 0] w fun e w' => e = .returned (.slice none 0 0) ∧ w' = w := by
  go_enter Tryz.func99, Tryz.ntmps99
  go_wp2_with fail
  go_ret
  exact ⟨rfl, rfl⟩
theorem grow_any (n : Nat) (hb : n * 16 ≤ 140737488355328) (w : World) : Calls Tryz.prog 99 #[.slice none 0 0, .int .i64 (n : Int)] w fun e w' => ∃ v, e = .returned v ∧ w'.ownsRow w.heap.size 35 1 v 0 [] ∧ Ext w w' := by
  rcases Nat.eq_zero_or_pos n with rfl | hp
  · exact (grow_zero w).mono fun e w' ⟨he, hw⟩ => ⟨_, he, World.ownsRow_nil _ _ _ _, hw ▸ Ext.refl _⟩
  · exact grow_nil n hp hb w
end Go.Proofs.YtaafcmmmkalgjaaGreatDoor
/-
  slices.Concat of two lists of values, by a contract.
-/
namespace Go.Proofs.YtaafcmmmkalgjaaGreatDoor
open Go.RowKit
set_option maxRecDepth 100000 in
set_option maxHeartbeats 2000000 in
theorem concat2 (q b1 o1 c1 b2 o2 c2 n1 n2 : Nat) (xs1 xs2 : List Value) (w : World) (hq0 : w.cell? ⟨q, 0, none⟩ = some (.slice (some ⟨b1, o1, none⟩) n1 c1)) (hq1 : w.cell? ⟨q, 1, none⟩ = some (.slice (some ⟨b2, o2, none⟩) n2 c2)) (hl1 : xs1.length = n1) (hl2 : xs2.length = n2) (hb : (n1 + n2) * 16 ≤ 140737488355328)
    (h11 : ∀ u ∈ xs1, u.oneCell' = true) (h12 : ∀ u ∈ xs2, u.oneCell' = true) (hc1 : ∀ (j : Nat) (u : Value), xs1[j]? = some u → w.cell? ⟨b1, o1 + j, none⟩ = some u) (hc2 : ∀ (j : Nat) (u : Value), xs2[j]? = some u → w.cell? ⟨b2, o2 + j, none⟩ = some u) :
    Calls Tryz.prog 78 #[.slice (some ⟨q, 0, none⟩) 2 2] w fun e w' => ∃ v, e = .returned v ∧ w'.ownsRow w.heap.size 35 1 v (n1 + n2) (xs1 ++ xs2) ∧ Ext w w' := by
  obtain ⟨i0, hi0, hz0, hz1, hz2⟩ := info_parts lvInfo
  have HQ0 := hid hq0
  have HQ1 := hid hq1
  have HC1 := hid (show ∀ W, Ext w W → ∀ (j : Nat) (u : Value), xs1[j]? = some u → W.cell? (Addr.add ⟨b1, o1, none⟩ j) = some u from fun W hW j u hu => by
    have ea : Addr.add ⟨b1, o1, none⟩ j = ⟨b1, o1 + j, none⟩ := by
      by_cases hj : j = 0
      · subst hj; simp [Addr.add]
      · simp [Addr.add, hj]
    rw [ea]; exact (hW.kp (fun _ => True)).cell (hc1 j u hu) trivial)
  have HC2 := hid (show ∀ W, Ext w W → ∀ (j : Nat) (u : Value), xs2[j]? = some u → W.cell? (Addr.add ⟨b2, o2, none⟩ j) = some u from fun W hW j u hu => by
    have ea : Addr.add ⟨b2, o2, none⟩ j = ⟨b2, o2 + j, none⟩ := by
      by_cases hj : j = 0
      · subst hj; simp [Addr.add]
      · simp [Addr.add, hj]
    rw [ea]; exact (hW.kp (fun _ => True)).cell (hc2 j u hu) trivial)
  have H11 := hid h11
  have H12 := hid h12
  have HL1 := hid hl1
  have HL2 := hid hl2
  have HB := hid hb
  have hn1 : (n1 : Int) ≤ 140737488355328 := by omega
  have hn2 : (n2 : Int) ≤ 140737488355328 := by omega
  have hp' : ¬ (n1 : Int) + (n2 : Int) < 0 := by omega
  have hp2 : ¬ (n1 : Int) < 0 := by omega
  clear hq0 hq1 hc1 hc2 h11 h12 hl1 hl2 hb
  go_enter Tryz.func78, Tryz.ntmps78
  go_wp2_with fail
  go_loopw [3, 11] (fun s3 s11 wr => ∃ (j : Nat) (z : Int), s11 = .int .i64 j ∧ s3 = .int .i64 z ∧ ((j = 0 ∧ z = 0) ∨ (j = 1 ∧ z = n1) ∨ (j = 2 ∧ z = ((n1 + n2 : Nat) : Int))) ∧ wr = w) (fun _ s11 _ => 2 - (intOf s11).toNat)
  case atStart => exact ⟨0, 0, rfl, rfl, .inl ⟨rfl, rfl⟩, rfl⟩
  case round =>
    obtain ⟨j, z, rfl, rfl, hz, hw⟩ := hrel
    rw [hw]
    clear hw
    rcases hz with ⟨rfl, rfl⟩ | ⟨rfl, rfl⟩ | ⟨rfl, rfl⟩
    · have e0 := HQ0.out
      go_wp2_with fail
      go_roundw
      case rel => exact ⟨1, n1, rfl, by go_num, .inr (.inl ⟨rfl, rfl⟩), by trivial⟩
      case measure => simp [intOf]
    · have e1 := HQ1.out
      go_wp2_with fail
      go_roundw
      case rel => exact ⟨2, ((n1 + n2 : Nat) : Int), rfl, by go_num, .inr (.inr ⟨rfl, rfl⟩), by trivial⟩
      case measure => simp [intOf]
    · go_wp2_with fail
      refine (grow_any (n1 + n2) HB.out _).mono ?_
      rintro e w1 ⟨v1, rfl, ho1, hx1⟩
      have HO1 := hid ho1
      have HX1 := hid hx1
      clear ho1 hx1
      go_wp2_with fail
      go_loopw [6, 27] (fun s6 s27 wr => ∃ (j m : Nat) (zs : List Value), s27 = .int .i64 j ∧ ((j = 0 ∧ m = 0 ∧ zs = []) ∨ (j = 1 ∧ n1 = m ∧ xs1 = zs) ∨ (j = 2 ∧ n1 + n2 = m ∧ xs1 ++ xs2 = zs)) ∧ wr.ownsRow w.heap.size 35 1 s6 m zs ∧ Ext w wr) (fun _ s27 _ => 2 - (intOf s27).toNat)
      case atStart => exact ⟨0, 0, [], rfl, .inl ⟨rfl, rfl, rfl⟩, HO1.out, HX1.out⟩
      case round =>
        obtain ⟨j, m, zs, rfl, hz, ho, hx⟩ := hrel
        have HO := hid ho
        have HX := hid hx
        clear ho hx
        rcases hz with ⟨rfl, rfl, rfl⟩ | ⟨rfl, rfl, rfl⟩ | ⟨rfl, rfl, rfl⟩
        · have e0 := (HX.out.kp (fun _ => True)).cell HQ0.out trivial
          go_wp2_with (at_builtin; refine wpList_append_own _ rfl _ _ 81 rfl w.heap.size 35 i0 .nilIface 1 16 Tryz.underlying81 hi0 hz0 hz1 hz2 rfl (by decide) _ _ _ rfl HO.out ⟨b1, o1, none⟩ n1 c1 xs1 rfl (by rw [HL1.out]; omega) (HC1.out _ HX.out) H11.out (by have := HB.out; unfold maxLen; omega) (by have := HB.out; omega) HX.out.size ?_; intro v2 w2 ho2 hg2 _; have HO2 := hid ho2; have HG2 := hid hg2; clear ho2 hg2)
          go_roundw
          case rel => exact ⟨1, n1, xs1, rfl, .inr (.inl ⟨rfl, rfl, rfl⟩), by simpa using HO2.out, HX.out.grown HG2.out HX.out.size (fun k hk => (HO.out.lt k hk).1)⟩
          case measure => simp [intOf]
        · have e1 := (HX.out.kp (fun _ => True)).cell HQ1.out trivial
          go_wp2_with (at_builtin; refine wpList_append_own _ rfl _ _ 81 rfl w.heap.size 35 i0 .nilIface 1 16 Tryz.underlying81 hi0 hz0 hz1 hz2 rfl (by decide) _ _ _ rfl HO.out ⟨b2, o2, none⟩ n2 c2 xs2 rfl (by rw [HL2.out]; omega) (HC2.out _ HX.out) H12.out (by have := HB.out; unfold maxLen; omega) (by have := HB.out; omega) HX.out.size ?_; intro v2 w2 ho2 hg2 _; have HO2 := hid ho2; have HG2 := hid hg2; clear ho2 hg2)
          go_roundw
          case rel => exact ⟨2, n1 + n2, xs1 ++ xs2, rfl, .inr (.inr ⟨rfl, rfl, rfl⟩), HO2.out, HX.out.grown HG2.out HX.out.size (fun k hk => (HO.out.lt k hk).1)⟩
          case measure => simp [intOf]
        · go_wp2_with fail
          go_ret
          exact ⟨_, rfl, HO.out, HX.out⟩
end Go.Proofs.YtaafcmmmkalgjaaGreatDoor
/-
  list.join of two lists in memory, by a contract.
-/
namespace Go.Proofs.YtaafcmmmkalgjaaGreatDoor
open Go.RowKit
theorem own_base {w : World} {base base' n : Nat} {e : TypeId} {v : Value} {xs : List Value} (h : w.ownsRow base' e 1 v n xs) (hb : base ≤ base') : w.ownsRow base e 1 v n xs :=
  ⟨h.1, h.2.imp id fun ⟨g, cap, cur, a, b, c⟩ => ⟨g, cap, cur, a, Nat.le_trans hb b, c⟩⟩
set_option maxRecDepth 100000 in
set_option maxHeartbeats 2000000 in
theorem join_ok (g b1 o1 c1 b2 o2 c2 n1 n2 : Nat) (xs1 xs2 : List Value) (w : World) (h0 : w.cell? ⟨g, 0, none⟩ = some (.iface 81 (.slice (some ⟨b1, o1, none⟩) n1 c1))) (h1 : w.cell? ⟨g, 1, none⟩ = some (.iface 81 (.slice (some ⟨b2, o2, none⟩) n2 c2))) (hl1 : xs1.length = n1) (hl2 : xs2.length = n2) (hb : (n1 + n2) * 16 ≤ 140737488355328)
    (h11 : ∀ u ∈ xs1, u.oneCell' = true) (h12 : ∀ u ∈ xs2, u.oneCell' = true) (hc1 : ∀ (j : Nat) (u : Value), xs1[j]? = some u → w.cell? ⟨b1, o1 + j, none⟩ = some u) (hc2 : ∀ (j : Nat) (u : Value), xs2[j]? = some u → w.cell? ⟨b2, o2 + j, none⟩ = some u) :
    Calls Tryz.prog 42 #[.slice (some ⟨g, 0, none⟩) 2 2] w (ListR w (xs1 ++ xs2)) := by
  have HI := hid (items0_any g 2 (by decide) (some ⟨b1, o1, none⟩) n1 c1 w h0)
  have HJ := hid (items1_any g 2 (by decide) (some ⟨b2, o2, none⟩) n2 c2 w h1)
  have HC := hid (show ∀ ty, Calls Tryz.prog _ #[.slice (some ⟨w.heap.size, 0, none⟩) 2 2] (w.alloc (.cells #[.slice (some ⟨b1, o1, none⟩) n1 c1, .slice (some ⟨b2, o2, none⟩) n2 c2] ty)) _ from fun ty => concat2 w.heap.size b1 o1 c1 b2 o2 c2 n1 n2 xs1 xs2 (w.alloc (.cells #[.slice (some ⟨b1, o1, none⟩) n1 c1, .slice (some ⟨b2, o2, none⟩) n2 c2] ty)) (cell_of (blk0 _ _) rfl) (cell_of (blk0 _ _) rfl) hl1 hl2 hb h11 h12
    (fun j u hu => ((Ext.alloc w _).kp (fun _ => True)).cell (hc1 j u hu) trivial) (fun j u hu => ((Ext.alloc w _).kp (fun _ => True)).cell (hc2 j u hu) trivial))
  have HL := hid (show (xs1 ++ xs2).length = n1 + n2 by rw [List.length_append, hl1, hl2])
  clear h0 h1 hl1 hl2 hb h11 h12 hc1 hc2
  go_enter Tryz.func42, Tryz.ntmps42
  go_wp2_with fail
  refine HI.out.mono ?_
  rintro e w1 ⟨rfl, hw1⟩
  rw [hw1]
  clear hw1 w1
  go_wp2_with fail
  refine HJ.out.mono ?_
  rintro e w1 ⟨rfl, hw1⟩
  rw [hw1]
  clear hw1 w1
  go_wp2_with fail
  refine (HC.out _).mono ?_
  rintro e w1 ⟨v, rfl, ho, hx⟩
  have HO := hid (own_base ho (Ext.alloc w _).size)
  have HX := hid ((Ext.alloc w _).trans hx)
  clear ho hx
  go_wp2_with fail
  refine (lcame_any _ _).mono ?_
  rintro e w2 ⟨rfl, hw2⟩
  rw [hw2]
  clear hw2 w2
  go_wp2_with fail
  go_ret3
  exact ⟨v, rfl, by rw [HL.out]; exact HO.out, HX.out⟩
end Go.Proofs.YtaafcmmmkalgjaaGreatDoor
