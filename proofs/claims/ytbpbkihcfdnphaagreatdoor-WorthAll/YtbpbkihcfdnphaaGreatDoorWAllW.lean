/-
  The walk of espalierlaw2.WorthAll: it returns true, whatever the calls.
-/
import Derived.Test.YtbpbkihcfdnphaaGreatDoorWPlaysOf
import Derived.Test.YtbpbkihcfdnphaaGreatDoorWOpsIn
import Derived.Test.YtbpbkihcfdnphaaGreatDoorBegun
namespace Go.Proofs.YtbpbkihcfdnphaaGreatDoor
open Go.RowKit
theorem plays_any (p : OpV) (w : World) (hp : p.Ok w) (hE : LaidE w) (hT : LaidT w) : Calls Tryz.prog 5 #[.agg p.cells] w (PlayR w) := by
  obtain ⟨kd, k, n, k', n', x, x', s, a, a', la, kl, c, kl', c', lc, ks, t, u, m, m', ml⟩ := p
  obtain ⟨⟨ht, hft⟩, ⟨hu, hfu⟩, ⟨hl, _⟩, hs⟩ := hp
  have h0 : 0 < w.heap.size := Nat.lt_of_le_of_lt (Nat.zero_le _) hE.size
  by_cases k1 : kd = 1
  · subst k1; exact plays_may w k n x a kl c k' n' x' a' kl' c' la ks.length lc s ht
  by_cases k2 : kd = 2
  · subst k2; exact plays_of w k n x a kl c k' n' x' a' kl' c' la ks.length lc s ht
  by_cases k3 : kd = 3
  · subst k3; exact plays_same w k n x a kl c k' n' x' a' kl' c' la ks.length lc s ht hu
  by_cases k4 : kd = 4
  · subst k4; exact plays_compare w k n x a kl c k' n' x' a' kl' c' la ks.length lc s ht hu
  by_cases k5 : kd = 5
  · subst k5; exact plays_size w k n x a kl c k' n' x' a' kl' c' la ks.length lc s ht
  by_cases k6 : kd = 6
  · subst k6; exact plays_text w k n x a kl c k' n' x' a' kl' c' la ks.length lc s ht hft hT h0
  by_cases k7 : kd = 7
  · subst k7; exact plays_read w k n x a kl c k' n' x' a' kl' c' la ks.length lc s hs hE
  by_cases k8 : kd = 8
  · subst k8; exact plays_join w k n x a kl c k' n' x' a' kl' c' la lc s ks hl
  exact plays_none w k n x a kl c k' n' x' a' kl' c' la ks.length lc s kd (fun i h1 h2 => by omega)
theorem OpV.Ok.later {p : OpV} {w w' : World} (h : p.Ok w) (hx : Ext w w') : p.Ok w' := by
  obtain ⟨⟨h1, h2⟩, ⟨h3, h4⟩, ⟨h5, h6⟩, h7⟩ := h
  exact ⟨⟨h1.later hx, h2⟩, ⟨h3.later hx, h4⟩, ⟨h5.keep (hx.kp _), h6⟩, h7⟩
set_option maxRecDepth 100000 in
set_option maxHeartbeats 2000000 in
theorem all_true (a : Option Addr) (n c : Nat) (w : World) (hS : Ops w a n) (hn : n * 160 ≤ 140737488351232) (hE : LaidE w) (hT : LaidT w) : Calls Tryz.prog 3 #[.slice a n c] w fun e w' => e = .returned (.bool true) ∧ Ext w w' := by
  have HS := hid hS
  have HE := hid hE
  have HT := hid hT
  have h0 : 0 < w.heap.size := Nat.lt_of_le_of_lt (Nat.zero_le _) hE.size
  have H0 := hid h0
  have hn' : (n : Int) ≤ 140737488351232 := by omega
  clear hS hE hT h0
  go_enter Tryz.func3, Tryz.ntmps3
  go_wp2_with fail
  refine (begun_any _).mono ?_
  rintro e V0 ⟨rfl, hx0⟩
  have HX0 := hid hx0
  clear hx0
  go_wp2_with fail
  go_loopw [3] (fun i wr => ∃ j : Nat, j ≤ n ∧ i = .int .i64 j ∧ Ext w wr) (fun i _ => n - (intOf i).toNat)
  case atStart => exact ⟨0, Nat.zero_le _, rfl, HX0.out⟩
  case round =>
    obtain ⟨j, hj, rfl, hx⟩ := hrel
    have HX := hid hx
    clear hx
    by_cases hlt : j < n
    · have hlt' : (j : Int) < n := by omega
      by_cases h5 : (j : Int) < 2000
      · obtain ⟨g, off, rfl, p, hc, hp⟩ := HS.out j hlt
        have HC := hid (plays_any p wr (hp.later HX.out) (HE.out.keep (HX.out.kp (fun _ => True)) trivial trivial) (HT.out.below HX.out H0.out))
        have hcc : ∀ i v, p.cells[i]? = some v → wr.cell? ⟨g, off + j * 11 + i, none⟩ = some v := fun i v h => (HX.out.kp (fun _ => True)).cell (hc i v h) trivial
        obtain ⟨kd, k, nn, k', n', x, x', s, aa, a', la, kl, cc, kl', c', lc, ks, t, u, m, m', ml⟩ := p
        have e0 : wr.cell? ⟨g, off + j * 11, none⟩ = _ := hcc 0 _ rfl
        have e1 := hcc 1 _ rfl
        have e2 := hcc 2 _ rfl
        have e3 := hcc 3 _ rfl
        have e4 := hcc 4 _ rfl
        have e5 := hcc 5 _ rfl
        have e6 := hcc 6 _ rfl
        have e7 := hcc 7 _ rfl
        have e8 := hcc 8 _ rfl
        have e9 := hcc 9 _ rfl
        have e10 := hcc 10 _ rfl
        have hgl := lt_of_cell e0
        clear hc hp hcc
        simp only [OpV.cells] at HC e0 e1 e2 e3 e4 e5 e6 e7 e8 e9 e10
        go_wp2_with fail
        refine HC.out.mono ?_
        rintro e w1 ⟨rfl, hx1⟩
        have HX1 := hid (HX.out.trans hx1)
        clear hx1 e0 e1 e2 e3 e4 e5 e6 e7 e8 e9 e10
        go_wp2_with fail
        go_roundw
        case rel => exact ⟨j + 1, hlt, by go_num, HX1.out⟩
        case measure => simp [intOf]; omega
      · go_wp2_with fail
        go_ret
        exact ⟨rfl, HX.out⟩
    · have hlt' : ¬ (j : Int) < n := by omega
      go_wp2_with fail
      go_ret
      exact ⟨rfl, HX.out⟩
end Go.Proofs.YtbpbkihcfdnphaaGreatDoor
