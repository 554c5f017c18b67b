/-
  ListCount tells true.
-/
import Derived.Test.YtnmcmjgfnncdmaaGreatDoorLBeg
namespace Go.Proofs.YtnmcmjgfnncdmaaGreatDoor.Nd
open Go.RowKit
theorem neIn (a b : Int) (w : World) : (binOp .neq 33 (.iface 55 (.int .i64 a)) (.iface 55 (.int .i64 b))).run Tryz.prog w = .ok (.bool (!(a == b))) w := by kernel_rfl
theorem eqNn (w : World) : (binOp .eql 33 .nilIface .nilIface).run Tryz.prog w = .ok (.bool true) w := by kernel_rfl
theorem liLi (v : Value) (w : World) : (Instr.typeAssert (.iface 59 v) 33 59 true).run Tryz.prog w = .ok (.tuple #[v, .bool true]) w := by kernel_rfl
attribute [local go_sem] eqNn
set_option maxRecDepth 100000 in
set_option maxHeartbeats 4000000 in
theorem countL_true (n : Int) (w : World) (hl : Laid w) (hm : MaxAt w) : Calls Tryz.prog 7 #[.int .i64 n] w fun e w' => e = .returned (.bool true) ∧ Ext w w' := by
  have HM := hid hm
  have HBE := hid (begunL_any w hl hm)
  have HLI := hid liLi
  have HNE := hid neIn
  clear hl hm
  go_enter Tryz.func7, Tryz.ntmps7
  go_wp2_with fail
  refine HBE.out.mono ?_
  rintro e w1 ⟨rfl, hx1⟩
  have X1 := hid hx1
  clear hx1
  go_wp2_with fail
  refine (lnum_any n _).mono ?_
  rintro e w2 ⟨rfl, hx2⟩
  have X2 := hid (X1.out.trans hx2)
  clear hx2
  go_wp2_with fail
  refine (lwCount n _ _ _ (HM.out.later (X2.out.trans (Ext.alloc _ _))) (prowR1 (blk0 w2 _) (intRd (fun _ => True) _ n))).mono ?_
  rintro e w3 ⟨V, rfl, hv, hx3⟩
  have X3 := hid (X2.out.trans ((Ext.alloc _ _).trans hx3))
  clear hx3
  by_cases h0 : n < 0
  · obtain rfl : V = refX 23 ⟨#[]⟩ := by
      rcases hv with ⟨c0, h, hv⟩ | ⟨m, bb, hm, h, _⟩
      · unfold countF at h
        rw [if_pos h0] at h
        injection h with h1 h2
        subst h1
        exact hv
      · omega
    clear hv
    unfold refX
    go_wp2_with fail
    go_ret
    exact ⟨rfl, X3.out⟩
  by_cases h1 : 65535 < n
  · obtain rfl : V = refX 2 ⟨#[]⟩ := by
      rcases hv with ⟨c0, h, hv⟩ | ⟨m, bb, hm, h, _⟩
      · unfold countF at h
        rw [if_neg h0, if_pos h1] at h
        injection h with h3 h2
        subst h3
        exact hv
      · omega
    clear hv
    unfold refX
    go_wp2_with fail
    go_ret
    exact ⟨rfl, X3.out⟩
  obtain ⟨m, bb, hm, rfl, rfl, hN⟩ : ∃ (m b : Nat), m ≤ 65535 ∧ n = (m : Int) ∧ V = .tuple #[.iface 59 (.slice (some ⟨b, 0, none⟩) m m), .int .i64 0, .string ⟨#[]⟩] ∧ NumsAt w3 b m := by
    rcases hv with ⟨c0, h, _⟩ | h
    · unfold countF at h
      rw [if_neg h0, if_neg h1] at h
      cases h
    · exact h
  have HN := hid hN
  have hm4 : (m : Int) ≤ 65535 := by omega
  have hm5 : ¬ (65535 : Int) < (m : Int) := by omega
  have h2 := liLi (.slice (some ⟨bb, 0, none⟩) m m)
  clear hv hN h0 h1
  go_wp2_with fail
  clear h2
  go_loopw [8] (fun q8 wr => ∃ j : Nat, j ≤ m ∧ q8 = .int .i64 j ∧ wr = w3) (fun q8 _ => m - (intOf q8).toNat)
  case atStart => exact ⟨0, Nat.zero_le _, rfl, rfl⟩
  case round =>
    obtain ⟨j, hj, rfl, rfl⟩ := hrel
    by_cases hlt : j < m
    · have hlt' : (j : Int) < m := by omega
      obtain ⟨cs, h5, h6, h7⟩ := HN.out
      have c0 := cell_of h5 (h7 j hlt)
      have hgl := lt_of_cell c0
      have h8 := HNE.out (j : Int) (j : Int)
      rw [show ((j : Int) == (j : Int)) = true from beq_self_eq_true _] at h8
      clear h5 h6 h7
      go_wp2_with fail
      go_roundw
      case rel => exact ⟨j + 1, hlt, by go_num, by trivial⟩
      case measure => simp [intOf]; omega
    · have hlt3 : ¬ (j : Int) < m := by omega
      go_wp2_with fail
      go_ret
      exact ⟨rfl, X3.out⟩
end Go.Proofs.YtnmcmjgfnncdmaaGreatDoor.Nd
