/-
  The walk of espalierlaw3.SignAll: it returns true, in whatever memory in which the table of tens is laid.
-/
import Derived.Test.YtfafnmfgiclanaaDoorLawP
namespace Go.Proofs.YtfafnmfgiclanaaDoor
open Go.RowKit Go.Shelf
/-- An Op lies at this place. -/
def OpAt (W : World) (g off : Nat) : Prop := ∃ (kd : Int) (S f1 : ByteArray) (a1 : Option Addr) (c1 : Nat) (xs : List Int) (f2 : ByteArray) (a2 : Option Addr) (c2 : Nat) (ys : List Int),
  W.cell? ⟨g, off, none⟩ = some (.int .i64 kd) ∧ W.cell? ⟨g, off + 1, none⟩ = some (.string S) ∧ W.cell? ⟨g, off + 2, none⟩ = some (.string f1) ∧ W.cell? ⟨g, off + 3, none⟩ = some (.slice a1 xs.length c1) ∧ W.cell? ⟨g, off + 4, none⟩ = some (.string f2) ∧ W.cell? ⟨g, off + 5, none⟩ = some (.slice a2 ys.length c2) ∧
  S.size ≤ 1099511627776 ∧ xs.length * 8 ≤ 140737488351232 ∧ ys.length * 8 ≤ 140737488351232 ∧ Ints W (.slice a1 xs.length c1) xs ∧ Ints W (.slice a2 ys.length c2) ys
/-- A script of Ops. -/
def Script (W : World) (a : Option Addr) (n : Nat) : Prop := ∀ i, i < n → ∃ g off, a = some ⟨g, off, none⟩ ∧ OpAt W g (off + i * 6)
set_option maxRecDepth 100000 in
set_option maxHeartbeats 4000000 in
theorem all_true (a : Option Addr) (n c : Nat) (w : World) (hG : Laid w) (hn : n ≤ 1099511627776) (hS : Script w a n) :
    Calls Tryd.prog 3 #[.slice a n c] w fun r w' => r = .returned (.bool true) ∧ Ext w w' := by
  have HG := hid hG
  have HS := hid hS
  have hn' : (n : Int) ≤ 1099511627776 := by omega
  clear hG hS
  go_enter Tryd.func3, Tryd.ntmps3
  go_wp2_with fail
  refine (begun_true _ HG.out).mono ?_
  rintro r V ⟨rfl, hx⟩
  have HV := hid hx
  clear hx
  go_wp2_with fail
  go_loopw [3, 4] (fun t3 _ wr => ∃ k : Nat, k ≤ n ∧ t3 = .int .i64 k ∧ Ext w wr) (fun t3 _ _ => n - (intOf t3).toNat)
  case atStart => exact ⟨0, Nat.zero_le _, rfl, HV.out⟩
  case round =>
    obtain ⟨k, hk, rfl, hx⟩ := hrel
    have HX := hid hx
    clear hx
    by_cases hlt : k < n
    · have hlt' : (k : Int) < n := by omega
      obtain ⟨g, off, rfl, kd, S, f1, a1, c1, xs, f2, a2, c2, ys, z0, z1, z2, z3, z4, z5, hb, hb1, hb2, hI1, hI2⟩ := HS.out k hlt
      have y0 := (Below.cell HX.out (lt_of_cell z0)).trans z0
      have y1 := (Below.cell HX.out (lt_of_cell z1)).trans z1
      have y2 := (Below.cell HX.out (lt_of_cell z2)).trans z2
      have y3 := (Below.cell HX.out (lt_of_cell z3)).trans z3
      have y4 := (Below.cell HX.out (lt_of_cell z4)).trans z4
      have y5 := (Below.cell HX.out (lt_of_cell z5)).trans z5
      have HP := hid (fun W (h : Ext w W) => plays_true kd S f1 a1 c1 xs f2 a2 c2 ys W (HG.out.later h) hb hb1 hb2 (hI1.later h) (hI2.later h))
      clear z0 z1 z2 z3 z4 z5 hI1 hI2 hb hb1 hb2
      go_wp2_with fail
      refine (HP.out _ HX.out).mono ?_
      rintro r w2 ⟨rfl, hx2⟩
      have HX2 := hid (HX.out.trans hx2)
      clear hx2 y0 y1 y2 y3 y4 y5
      go_wp2
      go_roundw
      case rel => exact ⟨k + 1, hlt, by go_num, HX2.out⟩
      case measure => simp [intOf]; omega
    · go_wp2
      go_ret
      exact ⟨rfl, HX.out⟩
end Go.Proofs.YtfafnmfgiclanaaDoor
