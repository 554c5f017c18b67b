/-
  Frames of a frame: one less than its kids; by a contract.
-/
import Derived.Test.YtdikcdefpoolfaaNMakeF
namespace Go.Proofs.Ytdikcdefpoolfaa
open Go.RowKit
theorem len_of (b : Nat) (a : Option Addr) (m c : Nat) (w : World) (h : w.cell? ⟨b, 3, none⟩ = some (.slice a m c)) : Calls Try.prog 98 #[.pointer (some ⟨b, 0, none⟩)] w fun e w' => e = .returned (.int .i64 m) ∧ w' = w := by
  go_enter Try.func98, Try.ntmps98
  go_wp2
  go_ret
  exact ⟨rfl, rfl⟩
theorem frames_of (b : Nat) (k x : ByteArray) (n : Int) (a : Option Addr) (m c : Nat) (w : World) (hm : m ≤ 65) (h : FrameAt w b k n x (.slice a m c)) : Calls Try.prog 107 #[.pointer (some ⟨b, 0, none⟩)] w fun e w' => e = .returned (.int .i64 ((m : Int) - 1)) ∧ w' = w := by
  have h3 : w.cell? ⟨b, 3, none⟩ = some (.slice a m c) := cell_of h rfl
  clear h
  go_enter Try.func107, Try.ntmps107
  go_wp2_with fail
  go_at_call 98
  refine (len_of b a m c w h3).mono ?_
  rintro e w1 ⟨rfl, rfl⟩
  go_wp2_with fail
  go_ret
  exact ⟨by go_num, rfl⟩
end Go.Proofs.Ytdikcdefpoolfaa
