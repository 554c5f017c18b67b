/-
  espalierlaw1.Told of an error that is a number, and of none; espalierlaw7.is; by contracts.
-/
import Derived.Test.YtaodkfchmaendaaGreatDoorJMake
import Derived.Test.YtaodkfchmaendaaGreatDoorCFNew
namespace Go.Proofs.YtaodkfchmaendaaGreatDoor.Nd
open Go.RowKit
theorem code_of (b : Nat) (c : Int) (w : World) (h : w.cell? ⟨b, 0, none⟩ = some (.int .i64 c)) : Calls Tryz.prog 176 #[.pointer (some ⟨b, 0, none⟩)] w fun e w' => e = .returned (.int .i64 c) ∧ w' = w := by
  go_enter Tryz.func176, Tryz.ntmps176
  go_wp2
  go_ret
  exact ⟨rfl, rfl⟩
theorem ten_set {w : World} {b : Nat} {v0 v1 v2 v3 v4 v5 v6 v7 v8 v9 u0 u1 u2 u3 u4 u5 u6 u7 u8 u9 : Value} {t : TypeId} (h : w.heap[b]? = some (.cells #[v0, v1, v2, v3, v4, v5, v6, v7, v8, v9] t)) : ((((((((((w.setCell ⟨b, 0, none⟩ u0).setCell ⟨b, 1, none⟩ u1).setCell ⟨b, 2, none⟩ u2).setCell ⟨b, 3, none⟩ u3).setCell ⟨b, 4, none⟩ u4).setCell ⟨b, 5, none⟩ u5).setCell ⟨b, 6, none⟩ u6).setCell ⟨b, 7, none⟩ u7).setCell ⟨b, 8, none⟩ u8).setCell ⟨b, 9, none⟩ u9).heap[b]? = some (.cells #[u0, u1, u2, u3, u4, u5, u6, u7, u8, u9] t) := (set_at (set_at (set_at (set_at (set_at (set_at (set_at (set_at (set_at (set_at h 0 u0) 1 u1) 2 u2) 3 u3) 4 u4) 5 u5) 6 u6) 7 u7) 8 u8) 9 u9).trans (by simp)
theorem ten_of {w : World} {b : Nat} {v0 v1 v2 v3 v4 v5 v6 v7 v8 v9 : Value} {t : TypeId} (h : w.heap[b]? = some (.cells #[v0, v1, v2, v3, v4, v5, v6, v7, v8, v9] t)) : w.cell? ⟨b, 0, none⟩ = some v0 ∧ w.cell? ⟨b, 1, none⟩ = some v1 ∧ w.cell? ⟨b, 2, none⟩ = some v2 ∧ w.cell? ⟨b, 3, none⟩ = some v3 ∧ w.cell? ⟨b, 4, none⟩ = some v4 ∧ w.cell? ⟨b, 5, none⟩ = some v5 ∧ w.cell? ⟨b, 6, none⟩ = some v6 ∧ w.cell? ⟨b, 7, none⟩ = some v7 ∧ w.cell? ⟨b, 8, none⟩ = some v8 ∧ w.cell? ⟨b, 9, none⟩ = some v9 := ⟨cell_of h rfl, cell_of h rfl, cell_of h rfl, cell_of h rfl, cell_of h rfl, cell_of h rfl, cell_of h rfl, cell_of h rfl, cell_of h rfl, cell_of h rfl⟩
theorem Kp.set10 (w : World) (b : Nat) (v0 v1 v2 v3 v4 v5 v6 v7 v8 v9 : Value) : Kp (· ≠ b) w ((((((((((w.setCell ⟨b, 0, none⟩ v0).setCell ⟨b, 1, none⟩ v1).setCell ⟨b, 2, none⟩ v2).setCell ⟨b, 3, none⟩ v3).setCell ⟨b, 4, none⟩ v4).setCell ⟨b, 5, none⟩ v5).setCell ⟨b, 6, none⟩ v6).setCell ⟨b, 7, none⟩ v7).setCell ⟨b, 8, none⟩ v8).setCell ⟨b, 9, none⟩ v9) :=
  ((((((((((Kp.set w b 0 v0 (fun h => h rfl)).trans (Kp.set _ b 1 v1 (fun h => h rfl))).trans (Kp.set _ b 2 v2 (fun h => h rfl))).trans (Kp.set _ b 3 v3 (fun h => h rfl))).trans (Kp.set _ b 4 v4 (fun h => h rfl))).trans (Kp.set _ b 5 v5 (fun h => h rfl))).trans (Kp.set _ b 6 v6 (fun h => h rfl))).trans (Kp.set _ b 7 v7 (fun h => h rfl))).trans (Kp.set _ b 8 v8 (fun h => h rfl))).trans (Kp.set _ b 9 v9 (fun h => h rfl)))
def toldNo : Value := .agg #[.bool true, .int .i64 0, .bool false, .string ⟨#[]⟩, .slice none 0 0, .bool false, .string ⟨#[]⟩, .bool false, .string ⟨#[]⟩, .string ⟨#[]⟩]
def toldC (c : Int) : Value := .agg #[.bool false, .int .i64 c, .bool false, .string ⟨#[]⟩, .slice none 0 0, .bool false, .string ⟨#[]⟩, .bool false, .string ⟨#[]⟩, .string ⟨#[]⟩]
set_option maxRecDepth 100000 in
theorem told_nil (w : World) : Calls Tryz.prog 44 #[.nilIface] w fun e w' => e = .returned toldNo ∧ Ext w w' := by
  go_enter Tryz.func44, Tryz.ntmps44
  go_wp2_with fail
  obtain ⟨z0, z1, z2, z3, z4, z5, z6, z7, z8, z9⟩ := ten_of (blk0 w (.cells #[.bool true, .int .i64 0, .bool false, .string ⟨#[]⟩, .slice none 0 0, .bool false, .string ⟨#[]⟩, .bool false, .string ⟨#[]⟩, .string ⟨#[]⟩] 102))
  refine bodyPost_ret (v := toldNo) (by simp [results, Tryz.results44, go_sem, toldNo, z0, z1, z2, z3, z4, z5, z6, z7, z8, z9]) rfl ?_
  exact ⟨rfl, Ext.alloc _ _⟩
attribute [local go_sem] Er.isCCoded Er.isCLocated Er.isCRaised Er.isCLacking Er.mCCode
set_option maxRecDepth 100000 in
theorem told_coded (b : Nat) (c : Int) (w : World) (h : w.cell? ⟨b, 0, none⟩ = some (.int .i64 c)) : Calls Tryz.prog 44 #[.iface 137 (.pointer (some ⟨b, 0, none⟩))] w fun e w' => e = .returned (toldC c) ∧ Ext w w' := by
  have hbl := lt_of_cell h
  go_enter Tryz.func44, Tryz.ntmps44
  go_wp2_with fail
  refine (code_of b c _ (((Ext.alloc2 w _ _).kp (fun _ => True)).cell h trivial)).mono ?_
  rintro e w1 ⟨rfl, rfl⟩
  go_wp2_with fail
  obtain ⟨z0, z1, z2, z3, z4, z5, z6, z7, z8, z9⟩ := ten_of (blkOld (.cells #[.bool false, .int .i64 c, .bool false, .string ⟨#[]⟩, .slice none 0 0, .bool false, .string ⟨#[]⟩, .bool false, .string ⟨#[]⟩, .string ⟨#[]⟩] 102) (blk0 w (.cells #[.bool false, .int .i64 c, .bool false, .string ⟨#[]⟩, .slice none 0 0, .bool false, .string ⟨#[]⟩, .bool false, .string ⟨#[]⟩, .string ⟨#[]⟩] 102)))
  refine bodyPost_ret (v := toldC c) (by simp [results, Tryz.results44, go_sem, toldC, z0, z1, z2, z3, z4, z5, z6, z7, z8, z9]) rfl ?_
  exact ⟨rfl, Ext.alloc2 _ _ _⟩

set_option maxRecDepth 100000 in
theorem is_nil (w : World) : Calls Tryz.prog 14 #[.nilIface, .int .i64 0] w fun e w' => e = .returned (.bool true) ∧ Ext w w' := by
  have HT := hid (told_nil w)
  unfold toldNo at HT
  go_enter Tryz.func14, Tryz.ntmps14
  go_wp2_with fail
  refine HT.out.mono ?_
  rintro e w1 ⟨rfl, hx1⟩
  have X1 := hid hx1
  clear hx1
  go_wp2_with fail
  go_ret
  exact ⟨rfl, X1.out.trans (Ext.alloc _ _)⟩
set_option maxRecDepth 100000 in
theorem is_coded (b : Nat) (c : Int) (w : World) (hc : (c == 0) = false) (h : w.cell? ⟨b, 0, none⟩ = some (.int .i64 c)) : Calls Tryz.prog 14 #[.iface 137 (.pointer (some ⟨b, 0, none⟩)), .int .i64 c] w fun e w' => e = .returned (.bool true) ∧ Ext w w' := by
  have HT := hid (told_coded b c w h)
  unfold toldC at HT
  clear h
  go_enter Tryz.func14, Tryz.ntmps14
  go_wp2_with fail
  refine HT.out.mono ?_
  rintro e w1 ⟨rfl, hx1⟩
  have X1 := hid hx1
  clear hx1
  go_wp2_with fail
  go_ret
  exact ⟨rfl, X1.out.trans (Ext.alloc _ _)⟩
end Go.Proofs.YtaodkfchmaendaaGreatDoor.Nd
