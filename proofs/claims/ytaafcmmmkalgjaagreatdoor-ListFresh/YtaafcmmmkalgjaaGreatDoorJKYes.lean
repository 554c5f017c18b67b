/-
  (*Kit).Make of any kit: why there is no node; the node that was made; by contracts.
-/
import Derived.Test.YtaafcmmmkalgjaaGreatDoorJMade
import Derived.Test.YtaafcmmmkalgjaaGreatDoorJFitR
import Derived.Test.YtaafcmmmkalgjaaGreatDoorBOdd
namespace Go.Proofs.YtaafcmmmkalgjaaGreatDoor.Nd
open Go.RowKit
theorem node_eq (t : TypeId) (v : Value) (w : World) : (binOp .eql 50 (.iface t v) .nilIface).run Tryz.prog w = .ok (.bool false) w := by kernel_rfl
set_option maxRecDepth 100000 in
set_option maxHeartbeats 4000000 in
theorem kmake_kind {base kb mb : Nat} {nme : ByteArray} {lv : Value} {acc : List Rw} (mf : Nat) (mc : Array Value) (k x : ByteArray) (n : Int) (ao ka : Option Addr) (kl kc nk c : Nat) (w : World) (hkm : KitM w base kb mb nme (.func (.func mf) #[] mc) lv acc) (hks : k.size ≤ 140737488351232) (hix : kIx acc k = none) :
    Calls Tryz.prog 32 #[.pointer (some ⟨kb, 0, none⟩), .agg #[.string k, .int .i64 n, .string x, .slice ka kl kc], .slice ao nk c] w (MakeNo w 3) := by
  have HLOOK := hid (show ∀ w1, Ext w w1 → (Instr.lookup 130 (.map (some mb)) (.string k) true).run Tryz.prog w1 = .ok (.tuple #[.int .i64 0, .bool false]) w1 from fun w1 hx => by
    have := (hkm.map.later hx).look k hks
    rw [hix] at this
    exact this)
  obtain ⟨k0, k1', k2, k3⟩ := hkm.four
  have hMKNE : ∀ (w : World), (binOp .eql 131 (.func (.func mf) #[] mc) .nilFunc).run Tryz.prog w = .ok (.bool false) w := fun _ => by kernel_rfl
  obtain ⟨M, hM⟩ : ∃ M, w.alloc (.cells #[.string k, .int .i64 n, .string x, .slice ka kl kc] 54) = M := ⟨_, rfl⟩
  have XM := hid (show Ext w M from hM ▸ Ext.alloc _ _)
  have HM0 := hid (show M.heap[w.heap.size]? = some (.cells #[.string k, .int .i64 n, .string x, .slice ka kl kc] 54) from hM ▸ blk0 _ _)
  have hkbl := lt_of_cell k0
  have HS3 := hid (show ∀ W', Ext M W' → (W'.cell? ⟨kb, 2, none⟩ = some (.map (some mb)) ∧ W'.cell? ⟨w.heap.size, 0, none⟩ = some (.string k) ∧ (Instr.lookup 130 (.map (some mb)) (.string k) true).run Tryz.prog W' = .ok (.tuple #[.int .i64 0, .bool false]) W') from fun W' X => by
    obtain ⟨s0, s1, s2, s3⟩ := four_of (X.block HM0.out)
    exact ⟨((XM.out.trans X).kp (fun _ => True)).cell k2 trivial, s0, HLOOK.out _ (XM.out.trans X)⟩)
  have k3M : M.cell? ⟨kb, 3, none⟩ = some (.func (.func mf) #[] mc) := (XM.out.kp (fun _ => True)).cell k3 trivial
  clear hkm hks hix k0 k1' k2 k3
  go_enter Tryz.func32, Tryz.ntmps32
  go_upto_region 3 with fail
  first | rw [hM] | skip
  clear hM k3M
  go_cut [8, 9] from 25 to 34 (fun s8 s9 wx => s8 = .int .i64 0 ∧ s9 = .bool false ∧ Ext M wx)
  case first =>
    go_region_held3 (fun W' => W'.cell? ⟨kb, 2, none⟩ = some (.map (some mb)) ∧ W'.cell? ⟨w.heap.size, 0, none⟩ = some (.string k) ∧ (Instr.lookup 130 (.map (some mb)) (.string k) true).run Tryz.prog W' = .ok (.tuple #[.int .i64 0, .bool false]) W') (first | with_reducible exact HS3.out _ (Ext.refl _) | with_reducible exact HS3.out _ (Ext.refl _).drew | with_reducible exact HS3.out _ Z1 | go_keep) (first | fail)
    all_goals
      go_wp2_with fail
      go_meet
      case rel => exact ⟨rfl, rfl, (by repeat (first | with_reducible exact Ext.refl _ | with_reducible refine Ext.drew ?_))⟩
  case rest =>
    obtain ⟨rfl, rfl, hx1⟩ := hcut
    have X1 := hid hx1
    clear hx1
    go_wp2_with fail
    refine (fnew_j 3 (by decide) _).mono ?_
    rintro e w4 ⟨rfl, hw4⟩
    have HC4 := hid (show w4.cell? ⟨_, 0, none⟩ = some (.int .i64 3) from hw4 ▸ cell_of (blk0 _ _) rfl)
    have X4 := hid (show Ext w w4 from hw4 ▸ (XM.out.trans X1.out).trans (Ext.alloc _ _))
    clear hw4
    go_wp2_with fail
    go_ret2
    exact ⟨_, rfl, by simpa using HC4.out, X4.out⟩
set_option maxRecDepth 100000 in
set_option maxHeartbeats 4000000 in
theorem kmake_kids {base kb mb : Nat} {nme : ByteArray} {lv : Value} {acc : List Rw} (mf : Nat) (mc : Array Value) (k x : ByteArray) (n : Int) (ao ka : Option Addr) (kl kc nk c ix : Nat) (w : World) (hkm : KitM w base kb mb nme (.func (.func mf) #[] mc) lv acc) (hks : k.size ≤ 140737488351232) (hix : kIx acc k = some ix) (hno : ∀ w1, Ext w w1 → Calls Tryz.prog 59 #[.slice ao nk c] w1 fun e w' => e = .returned (.tuple #[.slice none 0 0, .bool false]) ∧ Ext w1 w') :
    Calls Tryz.prog 32 #[.pointer (some ⟨kb, 0, none⟩), .agg #[.string k, .int .i64 n, .string x, .slice ka kl kc], .slice ao nk c] w (MakeNo w 1) := by
  have HLOOK := hid (show ∀ w1, Ext w w1 → (Instr.lookup 130 (.map (some mb)) (.string k) true).run Tryz.prog w1 = .ok (.tuple #[.int .i64 (ix : Int), .bool true]) w1 from fun w1 hx => by
    have := (hkm.map.later hx).look k hks
    rw [hix] at this
    exact this)
  obtain ⟨k0, k1', k2, k3⟩ := hkm.four
  have hMKNE : ∀ (w : World), (binOp .eql 131 (.func (.func mf) #[] mc) .nilFunc).run Tryz.prog w = .ok (.bool false) w := fun _ => by kernel_rfl
  obtain ⟨M, hM⟩ : ∃ M, w.alloc (.cells #[.string k, .int .i64 n, .string x, .slice ka kl kc] 54) = M := ⟨_, rfl⟩
  have XM := hid (show Ext w M from hM ▸ Ext.alloc _ _)
  have HM0 := hid (show M.heap[w.heap.size]? = some (.cells #[.string k, .int .i64 n, .string x, .slice ka kl kc] 54) from hM ▸ blk0 _ _)
  have hkbl := lt_of_cell k0
  have HS3 := hid (show ∀ W', Ext M W' → (W'.cell? ⟨kb, 2, none⟩ = some (.map (some mb)) ∧ W'.cell? ⟨w.heap.size, 0, none⟩ = some (.string k) ∧ (Instr.lookup 130 (.map (some mb)) (.string k) true).run Tryz.prog W' = .ok (.tuple #[.int .i64 (ix : Int), .bool true]) W') from fun W' X => by
    obtain ⟨s0, s1, s2, s3⟩ := four_of (X.block HM0.out)
    exact ⟨((XM.out.trans X).kp (fun _ => True)).cell k2 trivial, s0, HLOOK.out _ (XM.out.trans X)⟩)
  have k3M : M.cell? ⟨kb, 3, none⟩ = some (.func (.func mf) #[] mc) := (XM.out.kp (fun _ => True)).cell k3 trivial
  have HNO := hid hno
  clear hkm hks hix k0 k1' k2 k3 hno
  go_enter Tryz.func32, Tryz.ntmps32
  go_upto_region 3 with fail
  first | rw [hM] | skip
  clear hM k3M
  go_cut [8, 9] from 25 to 34 (fun s8 s9 wx => s8 = .int .i64 (ix : Int) ∧ s9 = .bool true ∧ Ext M wx)
  case first =>
    go_region_held3 (fun W' => W'.cell? ⟨kb, 2, none⟩ = some (.map (some mb)) ∧ W'.cell? ⟨w.heap.size, 0, none⟩ = some (.string k) ∧ (Instr.lookup 130 (.map (some mb)) (.string k) true).run Tryz.prog W' = .ok (.tuple #[.int .i64 (ix : Int), .bool true]) W') (first | with_reducible exact HS3.out _ (Ext.refl _) | with_reducible exact HS3.out _ (Ext.refl _).drew | with_reducible exact HS3.out _ Z1 | go_keep) (first | fail)
    all_goals
      go_wp2_with fail
      go_meet
      case rel => exact ⟨rfl, rfl, (by repeat (first | with_reducible exact Ext.refl _ | with_reducible refine Ext.drew ?_))⟩
  case rest =>
    obtain ⟨rfl, rfl, hx1⟩ := hcut
    have X1 := hid hx1
    clear hx1
    go_wp2_with fail
    refine (HNO.out _ (XM.out.trans X1.out)).mono ?_
    rintro e w2 ⟨rfl, hx2⟩
    have X2 := hid (X1.out.trans hx2)
    clear hx2
    go_wp2_with fail
    refine (fnew_j 1 (by decide) _).mono ?_
    rintro e w4 ⟨rfl, hw4⟩
    have HC4 := hid (show w4.cell? ⟨_, 0, none⟩ = some (.int .i64 1) from hw4 ▸ cell_of (blk0 _ _) rfl)
    have X4 := hid (show Ext w w4 from hw4 ▸ (XM.out.trans X2.out).trans (Ext.alloc _ _))
    clear hw4
    go_wp2_with fail
    go_ret2
    exact ⟨_, rfl, by simpa using HC4.out, X4.out⟩
set_option maxRecDepth 100000 in
set_option maxHeartbeats 8000000 in
theorem kmake_bad {base kb mb : Nat} {nme : ByteArray} {lv : Value} {acc : List Rw} (mf : Nat) (mc : Array Value) (k x : ByteArray) (n : Int) (ao ka : Option Addr) (kl kc nk c : Nat) (bs : Nat → Nat) (w : World) (hkm : KitM w base kb mb nme (.func (.func mf) #[] mc) lv acc) (hks : k.size ≤ 140737488351232) (hxs : x.size ≤ 140737488351232) (ix : Nat) (hix : kIx acc k = some ix) (hil : ix < acc.length) (hn : nk ≤ 100000) (hh : HandsO w ao nk (fun _ => 226) (fun i => .pointer (some ⟨bs i, 0, none⟩))) (ev : Int) (hev : (ev == 0) = false) (hfq : fitsR acc[ix] k n x nk = ev) :
    Calls Tryz.prog 32 #[.pointer (some ⟨kb, 0, none⟩), .agg #[.string k, .int .i64 n, .string x, .slice ka kl kc], .slice ao nk c] w (MakeNo w ev) := by
  obtain ⟨rg, rcap, ra, rc, hlv, ⟨p0, p1, p2, p3, p4, p5⟩, htb⟩ := hkm.rows.read ix hil
  subst hlv
  have hnk : (nk : Int) ≤ 100000 := by omega
  have hil' : (ix : Int) < acc.length := by omega
  have HLOOK := hid (show ∀ w1, Ext w w1 → (Instr.lookup 130 (.map (some mb)) (.string k) true).run Tryz.prog w1 = .ok (.tuple #[.int .i64 (ix : Int), .bool true]) w1 from fun w1 hx => by
    have := (hkm.map.later hx).look k hks
    rw [hix] at this
    exact this)
  obtain ⟨k0, k1', k2, k3⟩ := hkm.four
  have hMKNE : ∀ (w : World), (binOp .eql 131 (.func (.func mf) #[] mc) .nilFunc).run Tryz.prog w = .ok (.bool false) w := fun _ => by kernel_rfl
  obtain ⟨M, hM⟩ : ∃ M, w.alloc (.cells #[.string k, .int .i64 n, .string x, .slice ka kl kc] 54) = M := ⟨_, rfl⟩
  have XM := hid (show Ext w M from hM ▸ Ext.alloc _ _)
  have HM0 := hid (show M.heap[w.heap.size]? = some (.cells #[.string k, .int .i64 n, .string x, .slice ka kl kc] 54) from hM ▸ blk0 _ _)
  have hkbl := lt_of_cell k0
  have HNO := hid (fun w1 (hx : Ext w w1) => knodesOf_any ao nk c (fun _ => 226) (fun i => .pointer (some ⟨bs i, 0, none⟩)) w1 hn (hh.later hx))
  have HFIT := hid (fun w1 => rfits_any acc[ix] ra rc k x n ka kl kc nk w1 (by omega) (by omega))
  rw [hfq] at HFIT
  have hev2 : (ev != 0) = true := by unfold bne; rw [hev]; rfl
  have HEV := hid hev
  have HS3 := hid (show ∀ W', Ext M W' → (W'.cell? ⟨kb, 2, none⟩ = some (.map (some mb)) ∧ W'.cell? ⟨w.heap.size, 0, none⟩ = some (.string k) ∧ (Instr.lookup 130 (.map (some mb)) (.string k) true).run Tryz.prog W' = .ok (.tuple #[.int .i64 (ix : Int), .bool true]) W') from fun W' X => by
    obtain ⟨s0, s1, s2, s3⟩ := four_of (X.block HM0.out)
    exact ⟨((XM.out.trans X).kp (fun _ => True)).cell k2 trivial, s0, HLOOK.out _ (XM.out.trans X)⟩)
  have k3M : M.cell? ⟨kb, 3, none⟩ = some (.func (.func mf) #[] mc) := (XM.out.kp (fun _ => True)).cell k3 trivial
  clear hkm hn hh hix hfq htb hev hks hxs
  unfold Rw.val at HFIT
  generalize acc[ix].kind = rk at *
  generalize acc[ix].min = rmin at *
  generalize acc[ix].max = rmax at *
  generalize acc[ix].num = rnum at *
  generalize acc[ix].text = rtx at *
  generalize acc[ix].abs.length = rl at *
  generalize acc.length = rn at *
  have HS9 := hid (show ∀ W', Ext M W' → (W'.cell? ⟨kb, 1, none⟩ = some (.slice (some ⟨rg, 0, none⟩) rn rcap) ∧ W'.cell? ⟨rg, ix * 6, none⟩ = some (.string rk) ∧ W'.cell? ⟨rg, ix * 6 + 1, none⟩ = some (.int .i64 rmin) ∧ W'.cell? ⟨rg, ix * 6 + 2, none⟩ = some (.int .i64 rmax) ∧ W'.cell? ⟨rg, ix * 6 + 3, none⟩ = some (.bool rnum) ∧ W'.cell? ⟨rg, ix * 6 + 4, none⟩ = some (.int .i64 rtx) ∧ W'.cell? ⟨rg, ix * 6 + 5, none⟩ = some (.slice ra rl rc) ∧ W'.cell? ⟨w.heap.size, 0, none⟩ = some (.string k) ∧ W'.cell? ⟨w.heap.size, 1, none⟩ = some (.int .i64 n) ∧ W'.cell? ⟨w.heap.size, 2, none⟩ = some (.string x) ∧ W'.cell? ⟨w.heap.size, 3, none⟩ = some (.slice ka kl kc)) from fun W' X => by
    obtain ⟨s0, s1, s2, s3⟩ := four_of (X.block HM0.out)
    have Y : ∀ {q : Addr} {v : Value}, w.cell? q = some v → W'.cell? q = some v := fun e => ((XM.out.trans X).kp (fun _ => True)).cell e trivial
    exact ⟨Y k1', Y p0, Y p1, Y p2, Y p3, Y p4, Y p5, s0, s1, s2, s3⟩)
  clear k0 k1' k2 k3 p0 p1 p2 p3 p4 p5
  go_enter Tryz.func32, Tryz.ntmps32
  go_upto_region 3 with fail
  first | rw [hM] | skip
  clear hM k3M
  go_cut [8, 9] from 25 to 34 (fun s8 s9 wx => s8 = .int .i64 (ix : Int) ∧ s9 = .bool true ∧ Ext M wx)
  case first =>
    go_region_held3 (fun W' => W'.cell? ⟨kb, 2, none⟩ = some (.map (some mb)) ∧ W'.cell? ⟨w.heap.size, 0, none⟩ = some (.string k) ∧ (Instr.lookup 130 (.map (some mb)) (.string k) true).run Tryz.prog W' = .ok (.tuple #[.int .i64 (ix : Int), .bool true]) W') (first | with_reducible exact HS3.out _ (Ext.refl _) | with_reducible exact HS3.out _ (Ext.refl _).drew | with_reducible exact HS3.out _ Z1 | go_keep) (first | fail)
    all_goals
      go_wp2_with fail
      go_meet
      case rel => exact ⟨rfl, rfl, (by repeat (first | with_reducible exact Ext.refl _ | with_reducible refine Ext.drew ?_))⟩
  case rest =>
    obtain ⟨rfl, rfl, hx1⟩ := hcut
    have X1 := hid hx1
    clear hx1
    go_wp2_with fail
    refine (HNO.out _ (XM.out.trans X1.out)).mono ?_
    rintro e w2 ⟨q, rfl, hq, hx2⟩
    obtain ⟨qa, cq, rfl⟩ := ownsRow_slice hq
    have HQ := hid hq
    have X2 := hid (X1.out.trans hx2)
    clear hq hx2
    go_upto_region 9 with fail
    have HS9b := hid (show ∀ W', Ext w2 W' → (W'.cell? ⟨kb, 1, none⟩ = some (.slice (some ⟨rg, 0, none⟩) rn rcap) ∧ W'.cell? ⟨rg, ix * 6, none⟩ = some (.string rk) ∧ W'.cell? ⟨rg, ix * 6 + 1, none⟩ = some (.int .i64 rmin) ∧ W'.cell? ⟨rg, ix * 6 + 2, none⟩ = some (.int .i64 rmax) ∧ W'.cell? ⟨rg, ix * 6 + 3, none⟩ = some (.bool rnum) ∧ W'.cell? ⟨rg, ix * 6 + 4, none⟩ = some (.int .i64 rtx) ∧ W'.cell? ⟨rg, ix * 6 + 5, none⟩ = some (.slice ra rl rc) ∧ W'.cell? ⟨w.heap.size, 0, none⟩ = some (.string k) ∧ W'.cell? ⟨w.heap.size, 1, none⟩ = some (.int .i64 n) ∧ W'.cell? ⟨w.heap.size, 2, none⟩ = some (.string x) ∧ W'.cell? ⟨w.heap.size, 3, none⟩ = some (.slice ka kl kc)) from fun W' X => HS9.out W' (X2.out.trans X))
    go_cut [11] from 46 to 56 (fun s11 wx => s11 = .int .i64 ev ∧ Ext w2 wx)
    case first =>
      go_region_held3 (fun W' => W'.cell? ⟨kb, 1, none⟩ = some (.slice (some ⟨rg, 0, none⟩) rn rcap) ∧ W'.cell? ⟨rg, ix * 6, none⟩ = some (.string rk) ∧ W'.cell? ⟨rg, ix * 6 + 1, none⟩ = some (.int .i64 rmin) ∧ W'.cell? ⟨rg, ix * 6 + 2, none⟩ = some (.int .i64 rmax) ∧ W'.cell? ⟨rg, ix * 6 + 3, none⟩ = some (.bool rnum) ∧ W'.cell? ⟨rg, ix * 6 + 4, none⟩ = some (.int .i64 rtx) ∧ W'.cell? ⟨rg, ix * 6 + 5, none⟩ = some (.slice ra rl rc) ∧ W'.cell? ⟨w.heap.size, 0, none⟩ = some (.string k) ∧ W'.cell? ⟨w.heap.size, 1, none⟩ = some (.int .i64 n) ∧ W'.cell? ⟨w.heap.size, 2, none⟩ = some (.string x) ∧ W'.cell? ⟨w.heap.size, 3, none⟩ = some (.slice ka kl kc)) (first | with_reducible exact HS9b.out _ (Ext.refl _) | with_reducible exact HS9b.out _ (Ext.refl _).drew | with_reducible exact HS9b.out _ Z1 | go_keep)
        (first
          | (go_at_call 67; refine (HFIT.out _).mono ?_; rintro r u1 ⟨rfl, hy⟩; have Z1 : Ext w2 u1 := Ext.trans (by repeat (first | with_reducible exact Ext.refl _ | with_reducible refine Ext.drew ?_)) hy))
      all_goals
        go_wp2_with fail
        go_meet
        case rel => exact ⟨rfl, Z1⟩
    case rest =>
      obtain ⟨rfl, hx3⟩ := hcut
      have X3 := hid (X2.out.trans hx3)
      have X23 := hid hx3
      clear hx3 HS9b
      go_wp2_with fail
      refine (fnew_j ev HEV.out _).mono ?_
      rintro e w4 ⟨rfl, hw4⟩
      have HC4 := hid (show w4.cell? ⟨_, 0, none⟩ = some (.int .i64 ev) from hw4 ▸ cell_of (blk0 _ _) rfl)
      have X4 := hid (show Ext w w4 from hw4 ▸ (XM.out.trans X3.out).trans (Ext.alloc _ _))
      clear hw4
      go_wp2_with fail
      go_ret2
      exact ⟨_, rfl, by simpa using HC4.out, X4.out⟩

end Go.Proofs.YtaafcmmmkalgjaaGreatDoor.Nd
/-
  (*Kit).Make of any kit whose maker gives a node: it is told where it is what was asked; by contracts.
-/
namespace Go.Proofs.YtaafcmmmkalgjaaGreatDoor.Nd
open Go.RowKit
/-- A handle that holds the node. -/
def GotR (w : World) (Q : Nat → Value → World → Prop) (e : Ending) (w' : World) : Prop := ∃ q v, e = .returned (.tuple #[.pointer (some ⟨q, 0, none⟩), .nilIface]) ∧ Q q v w' ∧ Ext w w'
set_option maxRecDepth 100000 in
set_option maxHeartbeats 8000000 in
theorem kmake_yes {base kb mb : Nat} {nme : ByteArray} {lv : Value} {acc : List Rw} (mf : Nat) (mc : Array Value) (k x : ByteArray) (n : Int) (ao ka : Option Addr) (kl kc nk c : Nat) (bs : Nat → Nat) (w : World) (hkm : KitM w base kb mb nme (.func (.func mf) #[] mc) lv acc) (hks : k.size ≤ 140737488351232) (hxs : x.size ≤ 140737488351232) (ix : Nat) (hix : kIx acc k = some ix) (hil : ix < acc.length) (hn : nk ≤ 100000) (hh : HandsO w ao nk (fun _ => 226) (fun i => .pointer (some ⟨bs i, 0, none⟩))) (hfq : fitsR acc[ix] k n x nk = 0) (τ : TypeId) (hs : Nat → Bool) (hof : OfQ τ hs) (hodd : oddF hs acc[ix].abs = none) (hal : acc[ix].abs.length ≤ 1000) (Q : Nat → Value → World → Prop) (hql : ∀ q v w1 w2, Q q v w1 → Ext w1 w2 → Q q v w2)
    (HM0 : ∀ w1, Ext w w1 → Calls Tryz.prog 68 #[.pointer (some ⟨kb, 0, none⟩), .agg #[.string k, .int .i64 n, .string x, .slice ka kl kc], .slice ao nk c] w1 fun e w' => ∃ h, e = .returned (.pointer h) ∧ (∃ q v, h = some ⟨q, 0, none⟩ ∧ w'.cell? ⟨q, 0, none⟩ = some (.iface τ v) ∧ Q q v w') ∧ Ext w1 w')
    (HT0 : ∀ q v w1 qa cq B, Q q v w1 → w1.ownsRow B 50 1 (.slice qa nk cq) nk ((List.range nk).map fun i => .iface 226 (.pointer (some ⟨bs i, 0, none⟩))) → Calls Tryz.prog 69 #[.iface τ v, .agg #[.string k, .int .i64 n, .string x, .slice ka kl kc], .slice qa nk cq] w1 fun e w' => e = .returned (.bool true) ∧ Ext w1 w') :
    Calls Tryz.prog 32 #[.pointer (some ⟨kb, 0, none⟩), .agg #[.string k, .int .i64 n, .string x, .slice ka kl kc], .slice ao nk c] w (GotR w Q) := by
  have HMADE := hid HM0
  have HMAT := hid HT0
  have HQL := hid hql
  clear HM0 HT0 hql
  obtain ⟨rg, rcap, ra, rc, hlv, ⟨p0, p1, p2, p3, p4, p5⟩, htb⟩ := hkm.rows.read ix hil
  subst hlv
  have hnk : (nk : Int) ≤ 100000 := by omega
  have hil' : (ix : Int) < acc.length := by omega
  have HLOOK := hid (show ∀ w1, Ext w w1 → (Instr.lookup 130 (.map (some mb)) (.string k) true).run Tryz.prog w1 = .ok (.tuple #[.int .i64 (ix : Int), .bool true]) w1 from fun w1 hx => by
    have := (hkm.map.later hx).look k hks
    rw [hix] at this
    exact this)
  obtain ⟨k0, k1', k2, k3⟩ := hkm.four
  have hMKNE : ∀ (w : World), (binOp .eql 131 (.func (.func mf) #[] mc) .nilFunc).run Tryz.prog w = .ok (.bool false) w := fun _ => by kernel_rfl
  obtain ⟨M, hM⟩ : ∃ M, w.alloc (.cells #[.string k, .int .i64 n, .string x, .slice ka kl kc] 54) = M := ⟨_, rfl⟩
  have XM := hid (show Ext w M from hM ▸ Ext.alloc _ _)
  have HM0 := hid (show M.heap[w.heap.size]? = some (.cells #[.string k, .int .i64 n, .string x, .slice ka kl kc] 54) from hM ▸ blk0 _ _)
  have hkbl := lt_of_cell k0
  have HNO := hid (fun w1 (hx : Ext w w1) => knodesOf_any ao nk c (fun _ => 226) (fun i => .pointer (some ⟨bs i, 0, none⟩)) w1 hn (hh.later hx))
  have HFIT := hid (fun w1 => rfits_any acc[ix] ra rc k x n ka kl kc nk w1 (by omega) (by omega))
  rw [hfq] at HFIT
  have HODD := hid (fun v w1 (hx : Ext w w1) => odd_gen τ hs hof ra rc acc[ix].abs v w1 hal (htb.row.later hx))
  rw [hodd] at HODD
  have HOV := hid (show oddV none = .tuple #[.string ⟨#[]⟩, .bool false] from rfl)
  rw [HOV.out] at HODD
  clear HOV hof hodd hal
  have HS3 := hid (show ∀ W', Ext M W' → (W'.cell? ⟨kb, 2, none⟩ = some (.map (some mb)) ∧ W'.cell? ⟨w.heap.size, 0, none⟩ = some (.string k) ∧ (Instr.lookup 130 (.map (some mb)) (.string k) true).run Tryz.prog W' = .ok (.tuple #[.int .i64 (ix : Int), .bool true]) W') from fun W' X => by
    obtain ⟨s0, s1, s2, s3⟩ := four_of (X.block HM0.out)
    exact ⟨((XM.out.trans X).kp (fun _ => True)).cell k2 trivial, s0, HLOOK.out _ (XM.out.trans X)⟩)
  have k3M : M.cell? ⟨kb, 3, none⟩ = some (.func (.func mf) #[] mc) := (XM.out.kp (fun _ => True)).cell k3 trivial
  clear hkm hn hh hix hfq htb hks hxs
  unfold Rw.val at HFIT
  generalize acc[ix].kind = rk at *
  generalize acc[ix].min = rmin at *
  generalize acc[ix].max = rmax at *
  generalize acc[ix].num = rnum at *
  generalize acc[ix].text = rtx at *
  generalize acc[ix].abs.length = rl at *
  generalize acc.length = rn at *
  have HS9 := hid (show ∀ W', Ext M W' → (W'.cell? ⟨kb, 1, none⟩ = some (.slice (some ⟨rg, 0, none⟩) rn rcap) ∧ W'.cell? ⟨rg, ix * 6, none⟩ = some (.string rk) ∧ W'.cell? ⟨rg, ix * 6 + 1, none⟩ = some (.int .i64 rmin) ∧ W'.cell? ⟨rg, ix * 6 + 2, none⟩ = some (.int .i64 rmax) ∧ W'.cell? ⟨rg, ix * 6 + 3, none⟩ = some (.bool rnum) ∧ W'.cell? ⟨rg, ix * 6 + 4, none⟩ = some (.int .i64 rtx) ∧ W'.cell? ⟨rg, ix * 6 + 5, none⟩ = some (.slice ra rl rc) ∧ W'.cell? ⟨w.heap.size, 0, none⟩ = some (.string k) ∧ W'.cell? ⟨w.heap.size, 1, none⟩ = some (.int .i64 n) ∧ W'.cell? ⟨w.heap.size, 2, none⟩ = some (.string x) ∧ W'.cell? ⟨w.heap.size, 3, none⟩ = some (.slice ka kl kc)) from fun W' X => by
    obtain ⟨s0, s1, s2, s3⟩ := four_of (X.block HM0.out)
    have Y : ∀ {q : Addr} {v : Value}, w.cell? q = some v → W'.cell? q = some v := fun e => ((XM.out.trans X).kp (fun _ => True)).cell e trivial
    exact ⟨Y k1', Y p0, Y p1, Y p2, Y p3, Y p4, Y p5, s0, s1, s2, s3⟩)
  clear k0 k1' k2 k3 p0 p1 p2 p3 p4 p5
  go_enter Tryz.func32, Tryz.ntmps32
  go_upto_region 3 with fail
  first | rw [hM] | skip
  clear hM k3M
  go_cut [8, 9] from 25 to 34 (fun s8 s9 wx => s8 = .int .i64 (ix : Int) ∧ s9 = .bool true ∧ Ext M wx)
  case first =>
    go_region_held3 (fun W' => W'.cell? ⟨kb, 2, none⟩ = some (.map (some mb)) ∧ W'.cell? ⟨w.heap.size, 0, none⟩ = some (.string k) ∧ (Instr.lookup 130 (.map (some mb)) (.string k) true).run Tryz.prog W' = .ok (.tuple #[.int .i64 (ix : Int), .bool true]) W') (first | with_reducible exact HS3.out _ (Ext.refl _) | with_reducible exact HS3.out _ (Ext.refl _).drew | with_reducible exact HS3.out _ Z1 | go_keep) (first | fail)
    all_goals
      go_wp2_with fail
      go_meet
      case rel => exact ⟨rfl, rfl, (by repeat (first | with_reducible exact Ext.refl _ | with_reducible refine Ext.drew ?_))⟩
  case rest =>
    obtain ⟨rfl, rfl, hx1⟩ := hcut
    have X1 := hid hx1
    clear hx1
    go_wp2_with fail
    refine (HNO.out _ (XM.out.trans X1.out)).mono ?_
    rintro e w2 ⟨q, rfl, hq, hx2⟩
    obtain ⟨qa, cq, rfl⟩ := ownsRow_slice hq
    have HQ := hid hq
    have X2 := hid (X1.out.trans hx2)
    clear hq hx2
    go_upto_region 9 with fail
    have HS9b := hid (show ∀ W', Ext w2 W' → (W'.cell? ⟨kb, 1, none⟩ = some (.slice (some ⟨rg, 0, none⟩) rn rcap) ∧ W'.cell? ⟨rg, ix * 6, none⟩ = some (.string rk) ∧ W'.cell? ⟨rg, ix * 6 + 1, none⟩ = some (.int .i64 rmin) ∧ W'.cell? ⟨rg, ix * 6 + 2, none⟩ = some (.int .i64 rmax) ∧ W'.cell? ⟨rg, ix * 6 + 3, none⟩ = some (.bool rnum) ∧ W'.cell? ⟨rg, ix * 6 + 4, none⟩ = some (.int .i64 rtx) ∧ W'.cell? ⟨rg, ix * 6 + 5, none⟩ = some (.slice ra rl rc) ∧ W'.cell? ⟨w.heap.size, 0, none⟩ = some (.string k) ∧ W'.cell? ⟨w.heap.size, 1, none⟩ = some (.int .i64 n) ∧ W'.cell? ⟨w.heap.size, 2, none⟩ = some (.string x) ∧ W'.cell? ⟨w.heap.size, 3, none⟩ = some (.slice ka kl kc)) from fun W' X => HS9.out W' (X2.out.trans X))
    go_cut [11] from 46 to 56 (fun s11 wx => s11 = .int .i64 0 ∧ Ext w2 wx)
    case first =>
      go_region_held3 (fun W' => W'.cell? ⟨kb, 1, none⟩ = some (.slice (some ⟨rg, 0, none⟩) rn rcap) ∧ W'.cell? ⟨rg, ix * 6, none⟩ = some (.string rk) ∧ W'.cell? ⟨rg, ix * 6 + 1, none⟩ = some (.int .i64 rmin) ∧ W'.cell? ⟨rg, ix * 6 + 2, none⟩ = some (.int .i64 rmax) ∧ W'.cell? ⟨rg, ix * 6 + 3, none⟩ = some (.bool rnum) ∧ W'.cell? ⟨rg, ix * 6 + 4, none⟩ = some (.int .i64 rtx) ∧ W'.cell? ⟨rg, ix * 6 + 5, none⟩ = some (.slice ra rl rc) ∧ W'.cell? ⟨w.heap.size, 0, none⟩ = some (.string k) ∧ W'.cell? ⟨w.heap.size, 1, none⟩ = some (.int .i64 n) ∧ W'.cell? ⟨w.heap.size, 2, none⟩ = some (.string x) ∧ W'.cell? ⟨w.heap.size, 3, none⟩ = some (.slice ka kl kc)) (first | with_reducible exact HS9b.out _ (Ext.refl _) | with_reducible exact HS9b.out _ (Ext.refl _).drew | with_reducible exact HS9b.out _ Z1 | go_keep)
        (first
          | (go_at_call 67; refine (HFIT.out _).mono ?_; rintro r u1 ⟨rfl, hy⟩; have Z1 : Ext w2 u1 := Ext.trans (by repeat (first | with_reducible exact Ext.refl _ | with_reducible refine Ext.drew ?_)) hy))
      all_goals
        go_wp2_with fail
        go_meet
        case rel => exact ⟨rfl, Z1⟩
    case rest =>
      obtain ⟨rfl, hx3⟩ := hcut
      have X3 := hid (X2.out.trans hx3)
      have X23 := hid hx3
      clear hx3 HS9b
      obtain ⟨_, _, _, _, _, _, _, t0, t1, t2, t3⟩ := HS9.out _ X3.out
      have hwl := lt_of_cell t0
      go_wp2_with fail
      refine (HMADE.out _ (XM.out.trans X3.out)).mono ?_
      rintro e w4 ⟨_, rfl, ⟨h, v, rfl, hhc, hqq⟩, hx4⟩
      have HQQ := hid hqq
      have X4 := hid (X3.out.trans hx4)
      have X34 := hid (X23.out.trans hx4)
      have hneq := node_eq τ v
      clear hx4 hqq t0 t1 t2 t3 hwl
      go_wp2_with fail
      refine (node_cell h _ _ hhc).mono ?_
      rintro e w5 ⟨rfl, hw5⟩
      rw [hw5]
      clear hw5 w5
      have HS15 := hid (show ∀ W', Ext w4 W' → (W'.cell? ⟨h, 0, none⟩ = some (.iface τ v) ∧ W'.cell? ⟨w.heap.size, 0, none⟩ = some (.string k) ∧ W'.cell? ⟨w.heap.size, 1, none⟩ = some (.int .i64 n) ∧ W'.cell? ⟨w.heap.size, 2, none⟩ = some (.string x) ∧ W'.cell? ⟨w.heap.size, 3, none⟩ = some (.slice ka kl kc)) from fun W' X => by
        obtain ⟨_, _, _, _, _, _, _, s0, s1, s2, s3⟩ := HS9.out W' (X4.out.trans X)
        exact ⟨(X.kp (fun _ => True)).cell hhc trivial, s0, s1, s2, s3⟩)
      have HS17 := hid (show ∀ W', Ext w4 W' → (W'.cell? ⟨h, 0, none⟩ = some (.iface τ v) ∧ W'.cell? ⟨kb, 1, none⟩ = some (.slice (some ⟨rg, 0, none⟩) rn rcap) ∧ W'.cell? ⟨rg, ix * 6 + 5, none⟩ = some (.slice ra rl rc)) from fun W' X => by
        obtain ⟨q1, _, _, _, _, _, q7, _, _, _, _⟩ := HS9.out W' (X4.out.trans X)
        exact ⟨(X.kp (fun _ => True)).cell hhc trivial, q1, q7⟩)
      have HNC := hid (fun W' X => node_cell h _ W' (HS15.out W' X).1)
      have HMT := hid (fun W' (X : Ext w4 W') => HMAT.out h v W' qa cq _ (HQL.out _ _ _ _ HQQ.out X) (row_ext HQ.out (X34.out.trans X)))
      clear hhc
      go_upto_region 15 with fail
      go_cut [74] from 69 to 74 (fun s74 wx => s74 = .bool false ∧ Ext w4 wx)
      case first =>
        go_region_held3 (fun W' => W'.cell? ⟨h, 0, none⟩ = some (.iface τ v) ∧ W'.cell? ⟨w.heap.size, 0, none⟩ = some (.string k) ∧ W'.cell? ⟨w.heap.size, 1, none⟩ = some (.int .i64 n) ∧ W'.cell? ⟨w.heap.size, 2, none⟩ = some (.string x) ∧ W'.cell? ⟨w.heap.size, 3, none⟩ = some (.slice ka kl kc)) (first | with_reducible exact HS15.out _ (Ext.refl _) | with_reducible exact HS15.out _ (Ext.refl _).drew | with_reducible exact HS15.out _ Z1 | go_keep)
          (first
            | (go_at_call 33; refine (HNC.out _ (by repeat (first | with_reducible exact Ext.refl _ | with_reducible refine Ext.drew ?_))).mono ?_; rintro r u1 ⟨rfl, rfl⟩)
            | (go_at_call 69; refine (HMT.out _ (by repeat (first | with_reducible exact Ext.refl _ | with_reducible refine Ext.drew ?_))).mono ?_; rintro r u1 ⟨rfl, hy⟩; have Z1 : Ext w4 u1 := Ext.trans (by repeat (first | with_reducible exact Ext.refl _ | with_reducible refine Ext.drew ?_)) hy))
        all_goals
          go_wp2_with fail
          go_meet
          case rel => exact ⟨rfl, Z1⟩
      case rest =>
        obtain ⟨rfl, hx6⟩ := hcut
        have X6 := hid hx6
        clear hx6
        go_upto_region 17 with fail
        have HS17b := hid (show ∀ W', Ext wc W' → (W'.cell? ⟨h, 0, none⟩ = some (.iface τ v) ∧ W'.cell? ⟨kb, 1, none⟩ = some (.slice (some ⟨rg, 0, none⟩) rn rcap) ∧ W'.cell? ⟨rg, ix * 6 + 5, none⟩ = some (.slice ra rl rc)) from fun W' X => HS17.out W' (X6.out.trans X))
        have HNC2 := hid (fun W' (X : Ext wc W') => HNC.out W' (X6.out.trans X))
        have HOD2 := hid (fun W' (X : Ext wc W') => HODD.out v W' (XM.out.trans (X4.out.trans (X6.out.trans X))))
        go_cut [13, 14] from 76 to 89 (fun s13 s14 wx => s13 = .string ⟨#[]⟩ ∧ s14 = .bool false ∧ Ext wc wx)
        case first =>
          go_region_held3 (fun W' => W'.cell? ⟨h, 0, none⟩ = some (.iface τ v) ∧ W'.cell? ⟨kb, 1, none⟩ = some (.slice (some ⟨rg, 0, none⟩) rn rcap) ∧ W'.cell? ⟨rg, ix * 6 + 5, none⟩ = some (.slice ra rl rc)) (first | with_reducible exact HS17b.out _ (Ext.refl _) | with_reducible exact HS17b.out _ (Ext.refl _).drew | with_reducible exact HS17b.out _ Z1 | go_keep)
            (first
              | (go_at_call 33; refine (HNC2.out _ (by repeat (first | with_reducible exact Ext.refl _ | with_reducible refine Ext.drew ?_))).mono ?_; rintro r u1 ⟨rfl, rfl⟩)
              | (go_at_call 70; refine (HOD2.out _ (by repeat (first | with_reducible exact Ext.refl _ | with_reducible refine Ext.drew ?_))).mono ?_; rintro r u1 ⟨rfl, hy⟩; have Z1 : Ext wc u1 := Ext.trans (by repeat (first | with_reducible exact Ext.refl _ | with_reducible refine Ext.drew ?_)) hy))
          all_goals
            go_wp2_with fail
            go_meet
            case rel => exact ⟨rfl, rfl, Z1⟩
        case rest =>
          obtain ⟨rfl, rfl, hx8⟩ := hcut
          have X8 := hid (X6.out.trans hx8)
          clear hx8
          go_wp2_with fail
          go_ret2
          exact ⟨h, v, rfl, HQL.out _ _ _ _ HQQ.out X8.out, XM.out.trans (X4.out.trans X8.out)⟩
set_option maxRecDepth 100000 in
set_option maxHeartbeats 8000000 in
theorem kmake_fit {base kb mb : Nat} {nme : ByteArray} {lv : Value} {acc : List Rw} (mf : Nat) (mc : Array Value) (k x : ByteArray) (n : Int) (ao ka : Option Addr) (kl kc nk c : Nat) (bs : Nat → Nat) (w : World) (hkm : KitM w base kb mb nme (.func (.func mf) #[] mc) lv acc) (hks : k.size ≤ 140737488351232) (hxs : x.size ≤ 140737488351232) (ix : Nat) (hix : kIx acc k = some ix) (hil : ix < acc.length) (hn : nk ≤ 100000) (hh : HandsO w ao nk (fun _ => 226) (fun i => .pointer (some ⟨bs i, 0, none⟩))) (hfq : fitsR acc[ix] k n x nk = 0) (τ : TypeId) (Q : Nat → Value → World → Prop) (hql : ∀ q v w1 w2, Q q v w1 → Ext w1 w2 → Q q v w2)
    (HM0 : ∀ w1, Ext w w1 → Calls Tryz.prog 68 #[.pointer (some ⟨kb, 0, none⟩), .agg #[.string k, .int .i64 n, .string x, .slice ka kl kc], .slice ao nk c] w1 fun e w' => ∃ h, e = .returned (.pointer h) ∧ (∃ q v, h = some ⟨q, 0, none⟩ ∧ w'.cell? ⟨q, 0, none⟩ = some (.iface τ v) ∧ Q q v w') ∧ Ext w1 w')
    (HT0 : ∀ q v w1 qa cq B, Q q v w1 → w1.ownsRow B 50 1 (.slice qa nk cq) nk ((List.range nk).map fun i => .iface 226 (.pointer (some ⟨bs i, 0, none⟩))) → Calls Tryz.prog 69 #[.iface τ v, .agg #[.string k, .int .i64 n, .string x, .slice ka kl kc], .slice qa nk cq] w1 fun e w' => e = .returned (.bool false) ∧ Ext w1 w') :
    Calls Tryz.prog 32 #[.pointer (some ⟨kb, 0, none⟩), .agg #[.string k, .int .i64 n, .string x, .slice ka kl kc], .slice ao nk c] w (MakeNo w 12) := by
  have HMADE := hid HM0
  have HMAT := hid HT0
  have HQL := hid hql
  clear HM0 HT0 hql
  obtain ⟨rg, rcap, ra, rc, hlv, ⟨p0, p1, p2, p3, p4, p5⟩, htb⟩ := hkm.rows.read ix hil
  subst hlv
  have hnk : (nk : Int) ≤ 100000 := by omega
  have hil' : (ix : Int) < acc.length := by omega
  have HLOOK := hid (show ∀ w1, Ext w w1 → (Instr.lookup 130 (.map (some mb)) (.string k) true).run Tryz.prog w1 = .ok (.tuple #[.int .i64 (ix : Int), .bool true]) w1 from fun w1 hx => by
    have := (hkm.map.later hx).look k hks
    rw [hix] at this
    exact this)
  obtain ⟨k0, k1', k2, k3⟩ := hkm.four
  have hMKNE : ∀ (w : World), (binOp .eql 131 (.func (.func mf) #[] mc) .nilFunc).run Tryz.prog w = .ok (.bool false) w := fun _ => by kernel_rfl
  obtain ⟨M, hM⟩ : ∃ M, w.alloc (.cells #[.string k, .int .i64 n, .string x, .slice ka kl kc] 54) = M := ⟨_, rfl⟩
  have XM := hid (show Ext w M from hM ▸ Ext.alloc _ _)
  have HM0 := hid (show M.heap[w.heap.size]? = some (.cells #[.string k, .int .i64 n, .string x, .slice ka kl kc] 54) from hM ▸ blk0 _ _)
  have hkbl := lt_of_cell k0
  have HNO := hid (fun w1 (hx : Ext w w1) => knodesOf_any ao nk c (fun _ => 226) (fun i => .pointer (some ⟨bs i, 0, none⟩)) w1 hn (hh.later hx))
  have HFIT := hid (fun w1 => rfits_any acc[ix] ra rc k x n ka kl kc nk w1 (by omega) (by omega))
  rw [hfq] at HFIT
  have HS3 := hid (show ∀ W', Ext M W' → (W'.cell? ⟨kb, 2, none⟩ = some (.map (some mb)) ∧ W'.cell? ⟨w.heap.size, 0, none⟩ = some (.string k) ∧ (Instr.lookup 130 (.map (some mb)) (.string k) true).run Tryz.prog W' = .ok (.tuple #[.int .i64 (ix : Int), .bool true]) W') from fun W' X => by
    obtain ⟨s0, s1, s2, s3⟩ := four_of (X.block HM0.out)
    exact ⟨((XM.out.trans X).kp (fun _ => True)).cell k2 trivial, s0, HLOOK.out _ (XM.out.trans X)⟩)
  have k3M : M.cell? ⟨kb, 3, none⟩ = some (.func (.func mf) #[] mc) := (XM.out.kp (fun _ => True)).cell k3 trivial
  clear hkm hn hh hix hfq htb hks hxs
  unfold Rw.val at HFIT
  generalize acc[ix].kind = rk at *
  generalize acc[ix].min = rmin at *
  generalize acc[ix].max = rmax at *
  generalize acc[ix].num = rnum at *
  generalize acc[ix].text = rtx at *
  generalize acc[ix].abs.length = rl at *
  generalize acc.length = rn at *
  have HS9 := hid (show ∀ W', Ext M W' → (W'.cell? ⟨kb, 1, none⟩ = some (.slice (some ⟨rg, 0, none⟩) rn rcap) ∧ W'.cell? ⟨rg, ix * 6, none⟩ = some (.string rk) ∧ W'.cell? ⟨rg, ix * 6 + 1, none⟩ = some (.int .i64 rmin) ∧ W'.cell? ⟨rg, ix * 6 + 2, none⟩ = some (.int .i64 rmax) ∧ W'.cell? ⟨rg, ix * 6 + 3, none⟩ = some (.bool rnum) ∧ W'.cell? ⟨rg, ix * 6 + 4, none⟩ = some (.int .i64 rtx) ∧ W'.cell? ⟨rg, ix * 6 + 5, none⟩ = some (.slice ra rl rc) ∧ W'.cell? ⟨w.heap.size, 0, none⟩ = some (.string k) ∧ W'.cell? ⟨w.heap.size, 1, none⟩ = some (.int .i64 n) ∧ W'.cell? ⟨w.heap.size, 2, none⟩ = some (.string x) ∧ W'.cell? ⟨w.heap.size, 3, none⟩ = some (.slice ka kl kc)) from fun W' X => by
    obtain ⟨s0, s1, s2, s3⟩ := four_of (X.block HM0.out)
    have Y : ∀ {q : Addr} {v : Value}, w.cell? q = some v → W'.cell? q = some v := fun e => ((XM.out.trans X).kp (fun _ => True)).cell e trivial
    exact ⟨Y k1', Y p0, Y p1, Y p2, Y p3, Y p4, Y p5, s0, s1, s2, s3⟩)
  clear k0 k1' k2 k3 p0 p1 p2 p3 p4 p5
  go_enter Tryz.func32, Tryz.ntmps32
  go_upto_region 3 with fail
  first | rw [hM] | skip
  clear hM k3M
  go_cut [8, 9] from 25 to 34 (fun s8 s9 wx => s8 = .int .i64 (ix : Int) ∧ s9 = .bool true ∧ Ext M wx)
  case first =>
    go_region_held3 (fun W' => W'.cell? ⟨kb, 2, none⟩ = some (.map (some mb)) ∧ W'.cell? ⟨w.heap.size, 0, none⟩ = some (.string k) ∧ (Instr.lookup 130 (.map (some mb)) (.string k) true).run Tryz.prog W' = .ok (.tuple #[.int .i64 (ix : Int), .bool true]) W') (first | with_reducible exact HS3.out _ (Ext.refl _) | with_reducible exact HS3.out _ (Ext.refl _).drew | with_reducible exact HS3.out _ Z1 | go_keep) (first | fail)
    all_goals
      go_wp2_with fail
      go_meet
      case rel => exact ⟨rfl, rfl, (by repeat (first | with_reducible exact Ext.refl _ | with_reducible refine Ext.drew ?_))⟩
  case rest =>
    obtain ⟨rfl, rfl, hx1⟩ := hcut
    have X1 := hid hx1
    clear hx1
    go_wp2_with fail
    refine (HNO.out _ (XM.out.trans X1.out)).mono ?_
    rintro e w2 ⟨q, rfl, hq, hx2⟩
    obtain ⟨qa, cq, rfl⟩ := ownsRow_slice hq
    have HQ := hid hq
    have X2 := hid (X1.out.trans hx2)
    clear hq hx2
    go_upto_region 9 with fail
    have HS9b := hid (show ∀ W', Ext w2 W' → (W'.cell? ⟨kb, 1, none⟩ = some (.slice (some ⟨rg, 0, none⟩) rn rcap) ∧ W'.cell? ⟨rg, ix * 6, none⟩ = some (.string rk) ∧ W'.cell? ⟨rg, ix * 6 + 1, none⟩ = some (.int .i64 rmin) ∧ W'.cell? ⟨rg, ix * 6 + 2, none⟩ = some (.int .i64 rmax) ∧ W'.cell? ⟨rg, ix * 6 + 3, none⟩ = some (.bool rnum) ∧ W'.cell? ⟨rg, ix * 6 + 4, none⟩ = some (.int .i64 rtx) ∧ W'.cell? ⟨rg, ix * 6 + 5, none⟩ = some (.slice ra rl rc) ∧ W'.cell? ⟨w.heap.size, 0, none⟩ = some (.string k) ∧ W'.cell? ⟨w.heap.size, 1, none⟩ = some (.int .i64 n) ∧ W'.cell? ⟨w.heap.size, 2, none⟩ = some (.string x) ∧ W'.cell? ⟨w.heap.size, 3, none⟩ = some (.slice ka kl kc)) from fun W' X => HS9.out W' (X2.out.trans X))
    go_cut [11] from 46 to 56 (fun s11 wx => s11 = .int .i64 0 ∧ Ext w2 wx)
    case first =>
      go_region_held3 (fun W' => W'.cell? ⟨kb, 1, none⟩ = some (.slice (some ⟨rg, 0, none⟩) rn rcap) ∧ W'.cell? ⟨rg, ix * 6, none⟩ = some (.string rk) ∧ W'.cell? ⟨rg, ix * 6 + 1, none⟩ = some (.int .i64 rmin) ∧ W'.cell? ⟨rg, ix * 6 + 2, none⟩ = some (.int .i64 rmax) ∧ W'.cell? ⟨rg, ix * 6 + 3, none⟩ = some (.bool rnum) ∧ W'.cell? ⟨rg, ix * 6 + 4, none⟩ = some (.int .i64 rtx) ∧ W'.cell? ⟨rg, ix * 6 + 5, none⟩ = some (.slice ra rl rc) ∧ W'.cell? ⟨w.heap.size, 0, none⟩ = some (.string k) ∧ W'.cell? ⟨w.heap.size, 1, none⟩ = some (.int .i64 n) ∧ W'.cell? ⟨w.heap.size, 2, none⟩ = some (.string x) ∧ W'.cell? ⟨w.heap.size, 3, none⟩ = some (.slice ka kl kc)) (first | with_reducible exact HS9b.out _ (Ext.refl _) | with_reducible exact HS9b.out _ (Ext.refl _).drew | with_reducible exact HS9b.out _ Z1 | go_keep)
        (first
          | (go_at_call 67; refine (HFIT.out _).mono ?_; rintro r u1 ⟨rfl, hy⟩; have Z1 : Ext w2 u1 := Ext.trans (by repeat (first | with_reducible exact Ext.refl _ | with_reducible refine Ext.drew ?_)) hy))
      all_goals
        go_wp2_with fail
        go_meet
        case rel => exact ⟨rfl, Z1⟩
    case rest =>
      obtain ⟨rfl, hx3⟩ := hcut
      have X3 := hid (X2.out.trans hx3)
      have X23 := hid hx3
      clear hx3 HS9b
      obtain ⟨_, _, _, _, _, _, _, t0, t1, t2, t3⟩ := HS9.out _ X3.out
      have hwl := lt_of_cell t0
      go_wp2_with fail
      refine (HMADE.out _ (XM.out.trans X3.out)).mono ?_
      rintro e w4 ⟨_, rfl, ⟨h, v, rfl, hhc, hqq⟩, hx4⟩
      have HQQ := hid hqq
      have X4 := hid (X3.out.trans hx4)
      have X34 := hid (X23.out.trans hx4)
      have hneq := node_eq τ v
      clear hx4 hqq t0 t1 t2 t3 hwl
      go_wp2_with fail
      refine (node_cell h _ _ hhc).mono ?_
      rintro e w5 ⟨rfl, hw5⟩
      rw [hw5]
      clear hw5 w5
      have HS15 := hid (show ∀ W', Ext w4 W' → (W'.cell? ⟨h, 0, none⟩ = some (.iface τ v) ∧ W'.cell? ⟨w.heap.size, 0, none⟩ = some (.string k) ∧ W'.cell? ⟨w.heap.size, 1, none⟩ = some (.int .i64 n) ∧ W'.cell? ⟨w.heap.size, 2, none⟩ = some (.string x) ∧ W'.cell? ⟨w.heap.size, 3, none⟩ = some (.slice ka kl kc)) from fun W' X => by
        obtain ⟨_, _, _, _, _, _, _, s0, s1, s2, s3⟩ := HS9.out W' (X4.out.trans X)
        exact ⟨(X.kp (fun _ => True)).cell hhc trivial, s0, s1, s2, s3⟩)
      have HS17 := hid (show ∀ W', Ext w4 W' → (W'.cell? ⟨h, 0, none⟩ = some (.iface τ v) ∧ W'.cell? ⟨kb, 1, none⟩ = some (.slice (some ⟨rg, 0, none⟩) rn rcap) ∧ W'.cell? ⟨rg, ix * 6 + 5, none⟩ = some (.slice ra rl rc)) from fun W' X => by
        obtain ⟨q1, _, _, _, _, _, q7, _, _, _, _⟩ := HS9.out W' (X4.out.trans X)
        exact ⟨(X.kp (fun _ => True)).cell hhc trivial, q1, q7⟩)
      have HNC := hid (fun W' X => node_cell h _ W' (HS15.out W' X).1)
      have HMT := hid (fun W' (X : Ext w4 W') => HMAT.out h v W' qa cq _ (HQL.out _ _ _ _ HQQ.out X) (row_ext HQ.out (X34.out.trans X)))
      clear hhc
      go_upto_region 15 with fail
      go_cut [74] from 69 to 74 (fun s74 wx => s74 = .bool true ∧ Ext w4 wx)
      case first =>
        go_region_held3 (fun W' => W'.cell? ⟨h, 0, none⟩ = some (.iface τ v) ∧ W'.cell? ⟨w.heap.size, 0, none⟩ = some (.string k) ∧ W'.cell? ⟨w.heap.size, 1, none⟩ = some (.int .i64 n) ∧ W'.cell? ⟨w.heap.size, 2, none⟩ = some (.string x) ∧ W'.cell? ⟨w.heap.size, 3, none⟩ = some (.slice ka kl kc)) (first | with_reducible exact HS15.out _ (Ext.refl _) | with_reducible exact HS15.out _ (Ext.refl _).drew | with_reducible exact HS15.out _ Z1 | go_keep)
          (first
            | (go_at_call 33; refine (HNC.out _ (by repeat (first | with_reducible exact Ext.refl _ | with_reducible refine Ext.drew ?_))).mono ?_; rintro r u1 ⟨rfl, rfl⟩)
            | (go_at_call 69; refine (HMT.out _ (by repeat (first | with_reducible exact Ext.refl _ | with_reducible refine Ext.drew ?_))).mono ?_; rintro r u1 ⟨rfl, hy⟩; have Z1 : Ext w4 u1 := Ext.trans (by repeat (first | with_reducible exact Ext.refl _ | with_reducible refine Ext.drew ?_)) hy))
        all_goals
          go_wp2_with fail
          go_meet
          case rel => exact ⟨rfl, Z1⟩
      case rest =>
        obtain ⟨rfl, hx6⟩ := hcut
        have X6 := hid hx6
        clear hx6
        go_wp2_with fail
        refine (fnew_j 12 (by decide) _).mono ?_
        rintro e w4 ⟨rfl, hw4⟩
        have HC4 := hid (show w4.cell? ⟨_, 0, none⟩ = some (.int .i64 12) from hw4 ▸ cell_of (blk0 _ _) rfl)
        have X4 := hid (show Ext w w4 from hw4 ▸ (XM.out.trans (X4.out.trans X6.out)).trans (Ext.alloc _ _))
        clear hw4
        go_wp2_with fail
        go_ret2
        exact ⟨_, rfl, by simpa using HC4.out, X4.out⟩

end Go.Proofs.YtaafcmmmkalgjaaGreatDoor.Nd
