/-
  (*Kit).Name by a contract.
-/
import Derived.Test.YtgpggkepgoelfaaGreatDoorKKitW
namespace Go.Proofs.YtgpggkepgoelfaaGreatDoor
open Go.RowKit
theorem name_any {w : World} {base kb mb : Nat} {nm : ByteArray} {mk lv : Value} {acc : List Rw} (h : KitM w base kb mb nm mk lv acc) : Calls Tryz.prog 28 #[.pointer (some ⟨kb, 0, none⟩)] w fun e w' => e = .returned (.string nm) ∧ w' = w := by
  obtain ⟨k0, k1, k2, k3⟩ := h.four
  clear h
  go_enter Tryz.func28, Tryz.ntmps28
  go_wp2_with fail
  go_ret
  exact ⟨rfl, rfl⟩
end Go.Proofs.YtgpggkepgoelfaaGreatDoor
