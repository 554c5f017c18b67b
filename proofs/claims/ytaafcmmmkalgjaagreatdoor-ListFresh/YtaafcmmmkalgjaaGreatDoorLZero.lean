/-
  slices.Reverse of a list of values (after the shelf's own walk at []int), list.turn, by contracts.
-/
import Derived.Test.YtaafcmmmkalgjaaGreatDoorLAtOf
import Derived.Shelf.RegionOpenPlain
import Derived.WalkKit
import Derived.Deep.LoopGhost
import Derived.Lib.Walk
import Derived.Sort.WalkB12
import Derived.Lib.SlicesMore
import Derived.Lib.OwnBridge
namespace Go.Proofs.YtaafcmmmkalgjaaGreatDoor
open Go.RowKit Go.Lib Go.Sort Go.Shelf
def encV (p : TypeId × Value) : Value := .iface p.1 p.2
set_option maxHeartbeats 1600000 in
set_option maxRecDepth 1000000 in
theorem rev_any (blk off cap : Nat) (d : Array (TypeId × Value)) (w : World) (hH : Holds encV w blk off d) (hsz : d.size ≤ 9223372036854775807) :
    Calls Tryz.prog 80 #[.slice (some ⟨blk, off, none⟩) d.size cap] w fun e w' => e = .returned (.tuple #[]) ∧ ∃ n, w' = putRow encV (Sort.ahead w n) blk off d.reverse := by
  have mixed : Tryz.prog.follows Departure.mixedOrders = true := by kernel_rfl
  go_enter Tryz.func80, Tryz.ntmps80
  go_wp2
  go_loopg [2, 3] d.size (fun k s2 s3 wr => ∃ (i jn : Nat) (jz : Int) (dk : Array (TypeId × Value)) (n : Nat), s2 = .int .i64 i ∧ s3 = .int .i64 jz ∧ ((i : Int) < jz → jz = jn ∧ jn < d.size) ∧ (¬ (i : Int) < jz → ¬ i < jn) ∧ jn - i ≤ k ∧
    dk.size = d.size ∧ wr = putRow encV (Sort.ahead w n) blk off dk ∧ reverseLoop i jn dk = reverseLoop 0 (d.size - 1) d)
  case atStart => exact ⟨0, d.size - 1, (d.size : Int) - 1, d, 0, rfl, rfl, fun h => ⟨by omega, by omega⟩, fun h => by omega, by omega, rfl, (putRow_self encV w blk off d hH).symm, rfl⟩
  case round =>
    obtain ⟨i, jn, jz, dk, n, rfl, rfl, h1, h2, hk, hds, hwr, heq⟩ := hrel
    by_cases hlt : (i : Int) < jz
    · obtain ⟨rfl, hjn⟩ := h1 hlt
      have hij : i < jn := by omega
      have hHk : Holds encV wr blk off dk := by rw [hwr]; exact holds_putRow encV _ blk off d dk (holds_ahead encV w n blk off d hH) hds
      obtain ⟨ci, fi⟩ := hHk i (by omega)
      obtain ⟨cj, fj⟩ := hHk jn (by omega)
      have ci' : wr.cell? ⟨blk, off + i, none⟩ = some (.iface dk[i]!.1 dk[i]!.2) := ci
      have cj' : wr.cell? ⟨blk, off + jn, none⟩ = some (.iface dk[jn]!.1 dk[jn]!.2) := cj
      have A : Aside (wr = putRow encV (Sort.ahead w n) blk off dk) := hwr
      clear hwr hHk hH h1 h2 ci cj
      go_wp2_with fail
      go_region_o
      go_wp2
      go_roundg (jn - 1 - (i + 1))
      case measure => omega
      case rel =>
        rw [reverseLoop, if_pos hij] at heq
        exact ⟨i + 1, jn - 1, (jn : Int) - 1, swp dk i jn, n + 1, by simp, rfl, fun h => ⟨by omega, by omega⟩, fun h => by omega, Nat.le_refl _, by rw [size_swp]; exact hds,
          swap_world encV (by omega) (by omega) A.out (by first | rfl | simp [encV, getElem!_pos, show jn < dk.size by omega] | (trace_state; fail)) (by first | rfl | simp [encV, getElem!_pos, show i < dk.size by omega]), heq⟩
    · have hnot := h2 hlt
      go_wp2
      go_end0
      refine ⟨rfl, n, ?_⟩
      rw [reverseLoop, if_neg hnot] at heq
      rw [← Lib.reverseLoop_reverse, ← heq]
set_option maxHeartbeats 1000000 in
theorem rev_empty (a : Option Addr) (cap : Nat) (w : World) : Calls Tryz.prog 80 #[.slice a 0 cap] w fun e w' => e = .returned (.tuple #[]) ∧ w' = w := by
  go_enter Tryz.func80, Tryz.ntmps80
  go_wp2
  go_loopg [2, 3] 0 (fun _ s2 s3 wr => s2 = .int .i64 0 ∧ s3 = .int .i64 (-1) ∧ wr = w)
  case atStart => exact ⟨rfl, rfl, rfl⟩
  case round =>
    obtain ⟨rfl, rfl, rfl⟩ := hrel
    go_wp2
    go_end0
    exact ⟨rfl, rfl⟩
theorem ownsRow_some {w : World} {base n : Nat} {e : TypeId} {v : Value} {zs : List Value} (h : w.ownsRow base e 1 v n zs) (hn : 0 < n) : v ≠ .slice none 0 0 := by
  rintro rfl
  rcases h.2 with ⟨_, h0⟩ | ⟨g, cap, cur, e0, _⟩
  · omega
  · cases e0
set_option maxRecDepth 100000 in
set_option maxHeartbeats 1000000 in
theorem turn_ok (g b off c n : Nat) (ps : List (TypeId × Value)) (w : World) (hn : ps.length = n) (hp : 0 < n) (hb : n * 16 ≤ 140737488355328) (h0 : w.cell? ⟨g, 0, none⟩ = some (.iface 81 (.slice (some ⟨b, off, none⟩) n c))) (hc : ∀ (j : Nat) (p : TypeId × Value), ps[j]? = some p → w.cell? ⟨b, off + j, none⟩ = some (encV p)) :
    Calls Tryz.prog 45 #[.slice (some ⟨g, 0, none⟩) 1 1] w (ListR w (ps.reverse.map encV)) := by
  have HI := hid (items0_any g 1 (by decide) (some ⟨b, off, none⟩) n c w h0)
  have hcl := cloneL_some b off c (ps.map encV) w (by rw [List.length_map, hn]; exact hb) (fun u hu => by
    obtain ⟨p, _, rfl⟩ := List.mem_map.1 hu
    rfl) (fun j u hu => by
    rw [List.getElem?_map] at hu
    obtain ⟨p, hp', rfl⟩ := Option.map_eq_some_iff.1 hu
    exact hc j p hp')
  rw [List.length_map, hn] at hcl
  have HCL := hid hcl
  have HN := hid hn
  have HP := hid hp
  clear h0 hc hcl hn hp hb
  go_enter Tryz.func45, Tryz.ntmps45
  go_wp2_with fail
  refine HI.out.mono ?_
  rintro e w1 ⟨rfl, hw1⟩
  rw [hw1]
  clear hw1 w1
  go_wp2_with fail
  refine HCL.out.mono ?_
  rintro e w1 ⟨v1, rfl, hown, hbel⟩
  obtain ⟨gg, cap, rfl, hbg, _, _, hcm, hlen, hH⟩ := Lib.holds_of_ownsRow hown (ownsRow_some hown HP.out)
  have hrev := rev_any gg 0 cap ps.toArray w1 hH (by unfold maxLen at hcm; simp; omega)
  rw [show ps.toArray.size = n by simpa using hlen] at hrev
  have HREV := hid hrev
  have HOWN := hid hown
  have HBEL := hid hbel
  have HBG := hid hbg
  clear hown hbel hbg hrev hH hcm hlen
  go_wp2_with fail
  refine HREV.out.mono ?_
  rintro e w2 ⟨rfl, q, hw2⟩
  have h1 := Lib.ownsRow_putRow (q := q) (ys := ps.reverse) HOWN.out (by rw [List.length_reverse]; exact HN.out) (Nat.le_refl n)
  rw [List.take_of_length_le (by rw [List.length_reverse, HN.out]; exact Nat.le_refl n)] at h1
  have hx2 : Ext w w2 := by rw [hw2]; exact Lib.below_putRow HBEL.out HBG.out
  rw [show ps.reverse.toArray = ps.toArray.reverse by simp, ← hw2] at h1
  have HO2 := hid h1
  have HX2 := hid hx2
  clear h1 hx2 hw2
  go_wp2_with fail
  refine (lcame_any _ _).mono ?_
  rintro e w3 ⟨rfl, hw3⟩
  rw [hw3]
  clear hw3 w3
  go_wp2_with fail
  go_ret3
  exact ⟨_, rfl, by rw [List.length_map, List.length_reverse, HN.out]; exact HO2.out, HX2.out⟩
set_option maxRecDepth 100000 in
theorem turn_none (g : Nat) (w : World) (h0 : w.cell? ⟨g, 0, none⟩ = some (.iface 81 (.slice none 0 0))) : Calls Tryz.prog 45 #[.slice (some ⟨g, 0, none⟩) 1 1] w (ListR w []) := by
  have HI := hid (items0_any g 1 (by decide) none 0 0 w h0)
  clear h0
  go_enter Tryz.func45, Tryz.ntmps45
  go_wp2_with fail
  refine HI.out.mono ?_
  rintro e w1 ⟨rfl, hw1⟩
  rw [hw1]
  clear hw1 w1
  go_wp2_with fail
  refine (cloneL_nil _).mono ?_
  rintro e w1 ⟨rfl, hw1⟩
  rw [hw1]
  clear hw1 w1
  go_wp2_with fail
  refine (rev_empty none 0 _).mono ?_
  rintro e w1 ⟨rfl, hw1⟩
  rw [hw1]
  clear hw1 w1
  go_wp2_with fail
  refine (lcame_any _ _).mono ?_
  rintro e w1 ⟨rfl, hw1⟩
  rw [hw1]
  clear hw1 w1
  go_wp2_with fail
  go_ret3
  exact ⟨_, rfl, ⟨rfl, .inl ⟨rfl, rfl⟩⟩, Ext.refl _⟩
end Go.Proofs.YtaafcmmmkalgjaaGreatDoor
/-
  list.turn of a list of no values in memory, list.size, by contracts.
-/
namespace Go.Proofs.YtaafcmmmkalgjaaGreatDoor
open Go.RowKit
set_option maxRecDepth 100000 in
theorem turn_zero (g b off c : Nat) (w : World) (h0 : w.cell? ⟨g, 0, none⟩ = some (.iface 81 (.slice (some ⟨b, off, none⟩) 0 c))) : Calls Tryz.prog 45 #[.slice (some ⟨g, 0, none⟩) 1 1] w (ListR w []) := by
  have HI := hid (items0_any g 1 (by decide) (some ⟨b, off, none⟩) 0 c w h0)
  have HC := hid (cloneL_some b off c [] w (by decide) (fun u hu => by cases hu) (fun j u hu => by simp at hu))
  clear h0
  go_enter Tryz.func45, Tryz.ntmps45
  go_wp2_with fail
  refine HI.out.mono ?_
  rintro e w1 ⟨rfl, hw1⟩
  rw [hw1]
  clear hw1 w1
  go_wp2_with fail
  refine HC.out.mono ?_
  rintro e w1 ⟨v, rfl, ho, hx⟩
  have HO := hid ho
  have HX := hid hx
  obtain ⟨a2, c2, rfl⟩ : ∃ a2 c2, v = .slice a2 0 c2 := by
    rcases ho.2 with ⟨h, _⟩ | ⟨g2, cap, _, h, _⟩
    · exact ⟨none, 0, h⟩
    · exact ⟨_, _, h⟩
  clear ho hx
  go_wp2_with fail
  refine (rev_empty a2 c2 _).mono ?_
  rintro e w2 ⟨rfl, hw2⟩
  rw [hw2]
  clear hw2 w2
  go_wp2_with fail
  refine (lcame_any _ _).mono ?_
  rintro e w2 ⟨rfl, hw2⟩
  rw [hw2]
  clear hw2 w2
  go_wp2_with fail
  go_ret3
  exact ⟨_, rfl, HO.out, HX.out⟩
set_option maxRecDepth 100000 in
theorem size_ok (g : Nat) (a : Option Addr) (l c : Nat) (hl : l ≤ 140737488355328) (w : World) (h0 : w.cell? ⟨g, 0, none⟩ = some (.iface 81 (.slice a l c))) : Calls Tryz.prog 40 #[.slice (some ⟨g, 0, none⟩) 1 1] w fun e w' => e = .returned (.tuple #[.iface 83 (.int .i64 (l : Int)), .int .i64 0, .string ⟨#[]⟩]) ∧ w' = w := by
  have HI := hid (items0_any g 1 (by decide) a l c w h0)
  have hl2 : (l : Int) ≤ 140737488355328 := by omega
  clear h0 hl
  go_enter Tryz.func40, Tryz.ntmps40
  go_wp2_with fail
  refine HI.out.mono ?_
  rintro e w1 ⟨rfl, hw1⟩
  rw [hw1]
  clear hw1 w1
  go_wp2_with fail
  refine (lcame_any _ _).mono ?_
  rintro e w2 ⟨rfl, hw2⟩
  rw [hw2]
  clear hw2 w2
  go_wp2_with fail
  go_ret3
  exact ⟨rfl, rfl⟩
end Go.Proofs.YtaafcmmmkalgjaaGreatDoor
