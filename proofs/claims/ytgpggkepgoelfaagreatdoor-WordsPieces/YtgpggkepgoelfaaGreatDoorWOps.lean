/-
  The operations on texts (package words), each by a contract.
-/
import Derived.Test.YtgpggkepgoelfaaGreatDoorCMay
import Derived.Test.YtgpggkepgoelfaaGreatDoorCRight
import Derived.Test.YtgpggkepgoelfaaGreatDoorShelf
import Derived.Laws.Concat
import Derived.Deep.RegionHeld3
import Derived.WalkMore
namespace Go.Proofs.YtgpggkepgoelfaaGreatDoor
open Go.RowKit
theorem to_tx (v : Value) (w : World) : (Instr.typeAssert (.iface 89 v) 29 89 false).run Tryz.prog w = .ok v w := by kernel_rfl
theorem wcame_any (n : Int) (w : World) : Calls Tryz.prog 126 #[.int .i64 n] w fun e w' => e = .returned (cameV n) ∧ w' = w := by
  go_enter Tryz.func126, Tryz.ntmps126
  go_wp2_with fail
  go_ret3
  exact ⟨rfl, rfl⟩
theorem wrote_any (s : ByteArray) (w : World) : Calls Tryz.prog 125 #[.string s] w fun e w' => e = .returned (wroteV s) ∧ w' = w := by
  go_enter Tryz.func125, Tryz.ntmps125
  go_wp2_with fail
  go_ret3
  exact ⟨rfl, rfl⟩
theorem wref_any (c : Int) (w : World) : Calls Tryz.prog 124 #[.int .i64 c] w fun e w' => e = .returned (refV c) ∧ w' = w := by
  go_enter Tryz.func124, Tryz.ntmps124
  go_wp2_with fail
  go_ret3
  exact ⟨rfl, rfl⟩
theorem wtext0 (g n c : Nat) (s : ByteArray) (w : World) (hn : 0 < n) (h : w.cell? ⟨g, 0, none⟩ = some (.iface 89 (.string s))) : Calls Tryz.prog 123 #[.slice (some ⟨g, 0, none⟩) n c, .int .i64 0] w fun e w' => e = .returned (.string s) ∧ w' = w := by
  have hta := fun (v : Value) (w : World) => to_tx v w
  have hn' : (0 : Int) < n := by omega
  go_enter Tryz.func123, Tryz.ntmps123
  go_wp2_with fail
  go_ret
  exact ⟨rfl, rfl⟩
theorem wnum0 (g n c : Nat) (s : Int) (w : World) (hn : 0 < n) (h : w.cell? ⟨g, 0, none⟩ = some (.iface 87 (.int .i64 s))) : Calls Tryz.prog 127 #[.slice (some ⟨g, 0, none⟩) n c, .int .i64 0] w fun e w' => e = .returned (.int .i64 s) ∧ w' = w := by
  have hta := fun (v : Value) (w : World) => to_in v w
  have hn' : (0 : Int) < n := by omega
  go_enter Tryz.func127, Tryz.ntmps127
  go_wp2_with fail
  go_ret
  exact ⟨rfl, rfl⟩
theorem wtext1 (g n c : Nat) (s : ByteArray) (w : World) (hn : 1 < n) (h : w.cell? ⟨g, 1, none⟩ = some (.iface 89 (.string s))) : Calls Tryz.prog 123 #[.slice (some ⟨g, 0, none⟩) n c, .int .i64 1] w fun e w' => e = .returned (.string s) ∧ w' = w := by
  have hta := fun (v : Value) (w : World) => to_tx v w
  have hn' : (1 : Int) < n := by omega
  go_enter Tryz.func123, Tryz.ntmps123
  go_wp2_with fail
  go_ret
  exact ⟨rfl, rfl⟩
theorem wnum1 (g n c : Nat) (s : Int) (w : World) (hn : 1 < n) (h : w.cell? ⟨g, 1, none⟩ = some (.iface 87 (.int .i64 s))) : Calls Tryz.prog 127 #[.slice (some ⟨g, 0, none⟩) n c, .int .i64 1] w fun e w' => e = .returned (.int .i64 s) ∧ w' = w := by
  have hta := fun (v : Value) (w : World) => to_in v w
  have hn' : (1 : Int) < n := by omega
  go_enter Tryz.func127, Tryz.ntmps127
  go_wp2_with fail
  go_ret
  exact ⟨rfl, rfl⟩
theorem wtext2 (g n c : Nat) (s : ByteArray) (w : World) (hn : 2 < n) (h : w.cell? ⟨g, 2, none⟩ = some (.iface 89 (.string s))) : Calls Tryz.prog 123 #[.slice (some ⟨g, 0, none⟩) n c, .int .i64 2] w fun e w' => e = .returned (.string s) ∧ w' = w := by
  have hta := fun (v : Value) (w : World) => to_tx v w
  have hn' : (2 : Int) < n := by omega
  go_enter Tryz.func123, Tryz.ntmps123
  go_wp2_with fail
  go_ret
  exact ⟨rfl, rfl⟩
theorem wnum2 (g n c : Nat) (s : Int) (w : World) (hn : 2 < n) (h : w.cell? ⟨g, 2, none⟩ = some (.iface 87 (.int .i64 s))) : Calls Tryz.prog 127 #[.slice (some ⟨g, 0, none⟩) n c, .int .i64 2] w fun e w' => e = .returned (.int .i64 s) ∧ w' = w := by
  have hta := fun (v : Value) (w : World) => to_in v w
  have hn' : (2 : Int) < n := by omega
  go_enter Tryz.func127, Tryz.ntmps127
  go_wp2_with fail
  go_ret
  exact ⟨rfl, rfl⟩

/-- Cell i holds a text; a number. -/
def TxA (w : World) (g i : Nat) (s : ByteArray) : Prop := w.cell? ⟨g, i, none⟩ = some (.iface 89 (.string s))
def InA (w : World) (g i : Nat) (n : Int) : Prop := w.cell? ⟨g, i, none⟩ = some (.iface 87 (.int .i64 n))
def joinV (s t : ByteArray) : Value := if s.size + t.size ≤ 65535 then wroteV (s ++ t) else refV 2
def sizeV (s : ByteArray) : Value := cameV s.size
def lessV (s t : ByteArray) : Value := toldV (Op.bytesLess s.toList t.toList)
theorem ret_eq {V V' : Value} (h : V' = V) : Ending.returned V = Ending.returned V' := by rw [h]
set_option maxRecDepth 100000 in
set_option maxHeartbeats 1000000 in
theorem wsize_any (g : Nat) (s : ByteArray) (w : World) (h0 : TxA w g 0 s)  : Calls Tryz.prog 86 #[.slice (some ⟨g, 0, none⟩) 1 1] w fun e w' => e = .returned (sizeV s) ∧ Ext w w' := by
  unfold TxA at h0
  have HV := hid (show sizeV s = cameV s.size from rfl)
  go_enter Tryz.func86, Tryz.ntmps86
  go_wp2_with fail
  refine (wtext0 g 1 1 s _ (by decide) h0).mono ?_
  rintro e w1 ⟨rfl, rfl⟩
  go_wp2_with fail
  refine (wcame_any _ _).mono ?_
  rintro e w1 ⟨rfl, rfl⟩
  unfold cameV
  go_wp2_with fail
  go_ret3
  exact ⟨ret_eq (by rw [HV.out]; rfl), Ext.refl _⟩
set_option maxRecDepth 100000 in
set_option maxHeartbeats 1000000 in
theorem wjoin_any (g : Nat) (s : ByteArray) (t : ByteArray) (w : World) (h0 : TxA w g 0 s) (h1 : TxA w g 1 t) (hs : s.size ≤ 65535) (ht : t.size ≤ 65535) : Calls Tryz.prog 84 #[.slice (some ⟨g, 0, none⟩) 2 2] w fun e w' => e = .returned (joinV s t) ∧ Ext w w' := by
  unfold TxA at h0
  unfold TxA at h1
  have hs' : (s.size : Int) ≤ 65535 := by omega
  have ht' : (t.size : Int) ≤ 65535 := by omega
  have hadd := fun W => run_string_add_sum (P := Tryz.prog) (w := W) s t (by omega)
  go_enter Tryz.func84, Tryz.ntmps84
  go_wp2_with fail
  refine (wtext0 g 2 2 s _ (by decide) h0).mono ?_
  rintro e w1 ⟨rfl, rfl⟩
  go_wp2_with fail
  refine (wtext1 g 2 2 t _ (by decide) h1).mono ?_
  rintro e w1 ⟨rfl, rfl⟩
  by_cases hc : s.size + t.size ≤ 65535
  · have hc' : ¬ (65535 : Int) < (s.size : Int) + t.size := by omega
    have HV := hid (show joinV s t = wroteV (s ++ t) from if_pos hc)
    clear hc
    go_wp2_with fail
    refine (wrote_any _ _).mono ?_
    rintro e w1 ⟨rfl, rfl⟩
    unfold wroteV
    go_wp2_with fail
    go_ret3
    exact ⟨ret_eq (by rw [HV.out]; rfl), Ext.refl _⟩
  · have hc' : (65535 : Int) < (s.size : Int) + t.size := by omega
    have HV := hid (show joinV s t = refV 2 from if_neg hc)
    clear hc
    go_wp2_with fail
    refine (wref_any _ _).mono ?_
    rintro e w1 ⟨rfl, rfl⟩
    unfold refV
    go_wp2_with fail
    go_ret3
    exact ⟨ret_eq (by rw [HV.out]; rfl), Ext.refl _⟩

end Go.Proofs.YtgpggkepgoelfaaGreatDoor
