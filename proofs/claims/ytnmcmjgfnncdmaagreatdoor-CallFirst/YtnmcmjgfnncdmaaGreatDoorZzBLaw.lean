/-
  (*Kit).Make of a kit by a table, where the node fits its row; by contracts.
-/
import Derived.Test.YtnmcmjgfnncdmaaGreatDoorZzBMatch
import Derived.Test.YtnmcmjgfnncdmaaGreatDoorZzBOdd
import Derived.Test.YtnmcmjgfnncdmaaGreatDoorZzBFits
namespace Go.Proofs.YtnmcmjgfnncdmaaGreatDoor.Nd
open Go.RowKit
def MakeR (w : World) (τ : TypeId) (k x : ByteArray) (nk : Nat) (bs : Nat → Nat) (e : Ending) (w' : World) : Prop := ∃ h, e = .returned (.tuple #[.pointer (some ⟨h, 0, none⟩), .nilIface]) ∧ MadeN w τ k 0 x nk (fun _ => 388) (fun i => .pointer (some ⟨bs i, 0, none⟩)) h w' ∧ Ext w w'
theorem node_eq (t : TypeId) (v : Value) (w : World) : (binOp .eql 65 (.iface t v) .nilIface).run Tryz.prog w = .ok (.bool false) w := nil_iface t v w
theorem MadeN.later {w w1 w' : World} {τ : TypeId} {k x : ByteArray} {n : Int} {nk h : Nat} {t : Nat → TypeId} {v : Nat → Value} (hm : MadeN w τ k n x nk t v h w1) (hx : Ext w1 w') : MadeN w τ k n x nk t v h w' := by
  obtain ⟨b, a, c, h1, h2, h3, h4, h5⟩ := hm
  exact ⟨b, a, c, hx.block h1, h2.later hx, row_ext h3 hx, h4, h5⟩
set_option maxRecDepth 100000 in
set_option maxHeartbeats 8000000 in
theorem makeK_By {base kb mb : Nat} {nme : ByteArray} {lv : Value} {acc : List Rw} (ks : List Kd) (g cp bx : Nat) (k x : ByteArray) (ao ka : Option Addr) (kl kc nk c : Nat) (bs : Nat → Nat) (kd : Kd) (w : World) (hkm : KitM w base kb mb nme (.func (.func 124) #[] #[.pointer (some ⟨bx, 0, none⟩)]) lv acc) (hl : ks.length ≤ 1000) (hb : w.heap[bx]? = some (.cells #[.slice (some ⟨g, 0, none⟩) ks.length cp] 104)) (hk : KRow w g ks) (hf : Go.Proofs.YtnmcmjgfnncdmaaGreatDoor.kdFind ks k = some kd) (hm : kd.make = 128) (hd : kd.does = none) (hn : nk ≤ 100000) (hh : HandsP w ao nk c (fun _ => 388) (fun i => .pointer (some ⟨bs i, 0, none⟩)))
    (hks : k.size ≤ 4000) (hxs : x.size ≤ 140737488351232) (ix : Nat) (hix : kIx acc k = some ix) (hil : ix < acc.length) (hrk : acc[ix].kind = k) (hrn : acc[ix].num = false) (hrt : acc[ix].text = 0 ∨ acc[ix].text = 2) (hmn : acc[ix].min ≤ nk) (hmx : acc[ix].max = -1 ∨ (nk : Int) ≤ acc[ix].max) (hfq : fitQ acc[ix].text x = 0) (hal : acc[ix].abs.length ≤ 1000) (hall : ∀ j, j < 14 → hasBy j = inS (nmQ j) acc[ix].abs) :
    Calls Tryz.prog 29 #[.pointer (some ⟨kb, 0, none⟩), .agg #[.string k, .int .i64 0, .string x, .slice ka kl kc], .slice ao nk c] w (MakeR w 289 k x nk bs) := by
  obtain ⟨rg, rcap, ra, rc, hlv, ⟨p0, p1, p2, p3, p4, p5⟩, htb⟩ := hkm.rows.read ix hil
  subst hlv
  obtain ⟨k0, k1', k2, k3⟩ := hkm.four
  have hnk : (nk : Int) ≤ 100000 := by omega
  have hil' : (ix : Int) < acc.length := by omega
  have HMADE := hid (show ∀ w1, Ext w w1 → Calls Tryz.prog 67 #[.pointer (some ⟨kb, 0, none⟩), .agg #[.string k, .int .i64 0, .string x, .slice ka kl kc], .slice ao nk c] w1 (Kit1R w1 289 k 0 x nk (fun _ => 388) (fun i => .pointer (some ⟨bs i, 0, none⟩))) from fun w1 hx => made_By ks g cp bx k x 0 ao nk c _ _ kd w1 (hkm.later hx) hl (hx.block hb) (hk.later hx) hf hm hd hn (hh.later hx) ⟨_, _, _, rfl⟩)
  have HNO := hid (fun w1 (hx : Ext w w1) => knodesOf_any ao nk c (fun _ => 388) (fun i => .pointer (some ⟨bs i, 0, none⟩)) w1 hn (hh.o.later hx))
  have HLOOK := hid (show ∀ w1, Ext w w1 → (Instr.lookup 124 (.map (some mb)) (.string k) true).run Tryz.prog w1 = .ok (.tuple #[.int .i64 (ix : Int), .bool true]) w1 from fun w1 hx => by
    have := (hkm.map.later hx).look k (by omega)
    rw [hix] at this
    exact this)
  have HFIT := hid (fun w1 => fits_gen k x acc[ix].min acc[ix].max acc[ix].text hrt ra acc[ix].abs.length rc ka kl kc nk w1 hmn hmx hxs)
  rw [hfq] at HFIT
  have HODD := hid (fun v w1 (hx : Ext w w1) => odd_By ra rc acc[ix].abs v w1 hal (htb.row.later hx) hall)
  have HMAT := hid (fun b a cc qa cq B B2 w1 h1 h2 h3 => matches_By (B := B) (B2 := B2) b nk cc cq a qa ka kl kc k x 0 bs w1 h1 hn h2 h3)
  rw [hrk] at p0
  rw [hrn] at p3
  clear hkm hl hb hk hf hm hd hn hh hix hrk hrn hrt hmn hmx hfq hal hall htb
  generalize acc[ix].min = rmin at *
  generalize acc[ix].max = rmax at *
  generalize acc[ix].text = rtx at *
  generalize acc[ix].abs.length = rl at *
  generalize acc.length = rn at *
  have hMKNE : ∀ (w : World), (binOp .eql 126 (.func (.func 124) #[] #[.pointer (some ⟨bx, 0, none⟩)]) .nilFunc).run Tryz.prog w = .ok (.bool false) w := fun _ => by kernel_rfl
  obtain ⟨M, hM⟩ : ∃ M, w.alloc (.cells #[.string k, .int .i64 0, .string x, .slice ka kl kc] 69) = M := ⟨_, rfl⟩
  have XM := hid (show Ext w M from hM ▸ Ext.alloc _ _)
  have HM0 := hid (show M.heap[w.heap.size]? = some (.cells #[.string k, .int .i64 0, .string x, .slice ka kl kc] 69) from hM ▸ blk0 _ _)
  have hkbl := lt_of_cell k0
  have HS3 := hid (show ∀ W', Ext M W' → (W'.cell? ⟨kb, 2, none⟩ = some (.map (some mb)) ∧ W'.cell? ⟨w.heap.size, 0, none⟩ = some (.string k) ∧ (Instr.lookup 124 (.map (some mb)) (.string k) true).run Tryz.prog W' = .ok (.tuple #[.int .i64 (ix : Int), .bool true]) W') from fun W' X => by
    obtain ⟨s0, s1, s2, s3⟩ := four_of (X.block HM0.out)
    exact ⟨((XM.out.trans X).kp (fun _ => True)).cell k2 trivial, s0, HLOOK.out _ (XM.out.trans X)⟩)
  have HS9 := hid (show ∀ W', Ext M W' → (W'.cell? ⟨kb, 1, none⟩ = some (.slice (some ⟨rg, 0, none⟩) rn rcap) ∧ W'.cell? ⟨rg, ix * 6, none⟩ = some (.string k) ∧ W'.cell? ⟨rg, ix * 6 + 1, none⟩ = some (.int .i64 rmin) ∧ W'.cell? ⟨rg, ix * 6 + 2, none⟩ = some (.int .i64 rmax) ∧ W'.cell? ⟨rg, ix * 6 + 3, none⟩ = some (.bool false) ∧ W'.cell? ⟨rg, ix * 6 + 4, none⟩ = some (.int .i64 rtx) ∧ W'.cell? ⟨rg, ix * 6 + 5, none⟩ = some (.slice ra rl rc) ∧ W'.cell? ⟨w.heap.size, 0, none⟩ = some (.string k) ∧ W'.cell? ⟨w.heap.size, 1, none⟩ = some (.int .i64 0) ∧ W'.cell? ⟨w.heap.size, 2, none⟩ = some (.string x) ∧ W'.cell? ⟨w.heap.size, 3, none⟩ = some (.slice ka kl kc)) from fun W' X => by
    obtain ⟨s0, s1, s2, s3⟩ := four_of (X.block HM0.out)
    have Y : ∀ {q : Addr} {v : Value}, w.cell? q = some v → W'.cell? q = some v := fun e => ((XM.out.trans X).kp (fun _ => True)).cell e trivial
    exact ⟨Y k1', Y p0, Y p1, Y p2, Y p3, Y p4, Y p5, s0, s1, s2, s3⟩)
  have k3M : M.cell? ⟨kb, 3, none⟩ = some (.func (.func 124) #[] #[.pointer (some ⟨bx, 0, none⟩)]) := (XM.out.kp (fun _ => True)).cell k3 trivial
  clear k0 k1' k2 k3 p0 p1 p2 p3 p4 p5
  go_enter Tryz.func29, Tryz.ntmps29
  go_upto_region 3 with fail
  first | rw [hM] | skip
  clear hM k3M
  go_cut [8, 9] from 25 to 34 (fun s8 s9 wx => s8 = .int .i64 (ix : Int) ∧ s9 = .bool true ∧ Ext M wx)
  case first =>
    go_region_held3 (fun W' => W'.cell? ⟨kb, 2, none⟩ = some (.map (some mb)) ∧ W'.cell? ⟨w.heap.size, 0, none⟩ = some (.string k) ∧ (Instr.lookup 124 (.map (some mb)) (.string k) true).run Tryz.prog W' = .ok (.tuple #[.int .i64 (ix : Int), .bool true]) W') (first | with_reducible exact HS3.out _ (Ext.refl _) | with_reducible exact HS3.out _ (Ext.refl _).drew | with_reducible exact HS3.out _ Z1 | go_keep) (first | fail)
    all_goals
      go_wp2_with fail
      go_meet
      case rel => exact ⟨rfl, rfl, (by repeat (first | with_reducible exact Ext.refl _ | with_reducible refine Ext.drew ?_))⟩
  case rest =>
    obtain ⟨rfl, rfl, hx1⟩ := hcut
    have X1 := hid hx1
    clear hx1
    go_wp2_with fail
    refine (HNO.out _ (XM.out.trans X1.out)).mono ?_
    rintro e w2 ⟨q, rfl, hq, hx2⟩
    obtain ⟨qa, cq, rfl⟩ := ownsRow_slice hq
    have HQ := hid hq
    have X2 := hid (X1.out.trans hx2)
    clear hq hx2
    go_upto_region 9 with fail
    have HS9b := hid (show ∀ W', Ext w2 W' → (W'.cell? ⟨kb, 1, none⟩ = some (.slice (some ⟨rg, 0, none⟩) rn rcap) ∧ W'.cell? ⟨rg, ix * 6, none⟩ = some (.string k) ∧ W'.cell? ⟨rg, ix * 6 + 1, none⟩ = some (.int .i64 rmin) ∧ W'.cell? ⟨rg, ix * 6 + 2, none⟩ = some (.int .i64 rmax) ∧ W'.cell? ⟨rg, ix * 6 + 3, none⟩ = some (.bool false) ∧ W'.cell? ⟨rg, ix * 6 + 4, none⟩ = some (.int .i64 rtx) ∧ W'.cell? ⟨rg, ix * 6 + 5, none⟩ = some (.slice ra rl rc) ∧ W'.cell? ⟨w.heap.size, 0, none⟩ = some (.string k) ∧ W'.cell? ⟨w.heap.size, 1, none⟩ = some (.int .i64 0) ∧ W'.cell? ⟨w.heap.size, 2, none⟩ = some (.string x) ∧ W'.cell? ⟨w.heap.size, 3, none⟩ = some (.slice ka kl kc)) from fun W' X => HS9.out W' (X2.out.trans X))
    go_cut [11] from 46 to 56 (fun s11 wx => s11 = .int .i64 0 ∧ Ext w2 wx)
    case first =>
      go_region_held3 (fun W' => W'.cell? ⟨kb, 1, none⟩ = some (.slice (some ⟨rg, 0, none⟩) rn rcap) ∧ W'.cell? ⟨rg, ix * 6, none⟩ = some (.string k) ∧ W'.cell? ⟨rg, ix * 6 + 1, none⟩ = some (.int .i64 rmin) ∧ W'.cell? ⟨rg, ix * 6 + 2, none⟩ = some (.int .i64 rmax) ∧ W'.cell? ⟨rg, ix * 6 + 3, none⟩ = some (.bool false) ∧ W'.cell? ⟨rg, ix * 6 + 4, none⟩ = some (.int .i64 rtx) ∧ W'.cell? ⟨rg, ix * 6 + 5, none⟩ = some (.slice ra rl rc) ∧ W'.cell? ⟨w.heap.size, 0, none⟩ = some (.string k) ∧ W'.cell? ⟨w.heap.size, 1, none⟩ = some (.int .i64 0) ∧ W'.cell? ⟨w.heap.size, 2, none⟩ = some (.string x) ∧ W'.cell? ⟨w.heap.size, 3, none⟩ = some (.slice ka kl kc)) (first | with_reducible exact HS9b.out _ (Ext.refl _) | with_reducible exact HS9b.out _ (Ext.refl _).drew | with_reducible exact HS9b.out _ Z1 | go_keep)
        (first
          | (go_at_call 66; refine (HFIT.out _).mono ?_; rintro r u1 ⟨rfl, hy⟩; have Z1 : Ext w2 u1 := Ext.trans (by repeat (first | with_reducible exact Ext.refl _ | with_reducible refine Ext.drew ?_)) hy))
      all_goals
        go_wp2_with fail
        go_meet
        case rel => exact ⟨rfl, Z1⟩
    case rest =>
      obtain ⟨rfl, hx3⟩ := hcut
      have X3 := hid (X2.out.trans hx3)
      have X23 := hid hx3
      clear hx3 HS9b
      obtain ⟨_, _, _, _, _, _, _, t0, t1, t2, t3⟩ := HS9.out _ X3.out
      have hwl := lt_of_cell t0
      go_wp2_with fail
      refine (HMADE.out _ (XM.out.trans X3.out)).mono ?_
      rintro e w4 ⟨h, rfl, hmade, hx4⟩
      obtain ⟨b, ma, mc, hhd, hnb, hrow, hbb, hhh⟩ := hmade
      have HMN := hid (show MadeN w 289 k 0 x nk (fun _ => 388) (fun i => .pointer (some ⟨bs i, 0, none⟩)) h w4 from ⟨b, ma, mc, hhd, hnb, row_base hrow (XM.out.trans X3.out).size, Nat.le_trans (XM.out.trans X3.out).size hbb, Nat.le_trans (XM.out.trans X3.out).size hhh⟩)
      have HNB := hid hnb
      have HROW := hid hrow
      have X4 := hid (X3.out.trans hx4)
      have X34 := hid (X23.out.trans hx4)
      have hhc : w4.cell? ⟨h, 0, none⟩ = some (.iface 289 (.pointer (some ⟨b, 0, none⟩))) := cell_of hhd rfl
      have hneq := node_eq 289 (.pointer (some ⟨b, 0, none⟩))
      clear hx4 hhd hnb hrow hbb hhh t0 t1 t2 t3 hwl
      go_wp2_with fail
      refine (node_cell h _ _ hhc).mono ?_
      rintro e w5 ⟨rfl, hw5⟩
      rw [hw5]
      clear hw5 w5
      have HS15 := hid (show ∀ W', Ext w4 W' → (W'.cell? ⟨h, 0, none⟩ = some (.iface 289 (.pointer (some ⟨b, 0, none⟩))) ∧ W'.cell? ⟨w.heap.size, 0, none⟩ = some (.string k) ∧ W'.cell? ⟨w.heap.size, 1, none⟩ = some (.int .i64 0) ∧ W'.cell? ⟨w.heap.size, 2, none⟩ = some (.string x) ∧ W'.cell? ⟨w.heap.size, 3, none⟩ = some (.slice ka kl kc)) from fun W' X => by
        obtain ⟨_, _, _, _, _, _, _, s0, s1, s2, s3⟩ := HS9.out W' (X4.out.trans X)
        exact ⟨(X.kp (fun _ => True)).cell hhc trivial, s0, s1, s2, s3⟩)
      have HS17 := hid (show ∀ W', Ext w4 W' → (W'.cell? ⟨h, 0, none⟩ = some (.iface 289 (.pointer (some ⟨b, 0, none⟩))) ∧ W'.cell? ⟨kb, 1, none⟩ = some (.slice (some ⟨rg, 0, none⟩) rn rcap) ∧ W'.cell? ⟨rg, ix * 6 + 5, none⟩ = some (.slice ra rl rc)) from fun W' X => by
        obtain ⟨q1, _, _, _, _, _, q7, _, _, _, _⟩ := HS9.out W' (X4.out.trans X)
        exact ⟨(X.kp (fun _ => True)).cell hhc trivial, q1, q7⟩)
      have HNC := hid (fun W' X => node_cell h _ W' (HS15.out W' X).1)
      have HMT := hid (fun W' (X : Ext w4 W') => HMAT.out b ma mc qa cq _ _ W' (HNB.out.later X) (row_ext HROW.out X) (row_ext HQ.out (X34.out.trans X)))
      clear hhc
      go_upto_region 15 with fail
      go_cut [74] from 69 to 74 (fun s74 wx => s74 = .bool false ∧ Ext w4 wx)
      case first =>
        go_region_held3 (fun W' => W'.cell? ⟨h, 0, none⟩ = some (.iface 289 (.pointer (some ⟨b, 0, none⟩))) ∧ W'.cell? ⟨w.heap.size, 0, none⟩ = some (.string k) ∧ W'.cell? ⟨w.heap.size, 1, none⟩ = some (.int .i64 0) ∧ W'.cell? ⟨w.heap.size, 2, none⟩ = some (.string x) ∧ W'.cell? ⟨w.heap.size, 3, none⟩ = some (.slice ka kl kc)) (first | with_reducible exact HS15.out _ (Ext.refl _) | with_reducible exact HS15.out _ (Ext.refl _).drew | with_reducible exact HS15.out _ Z1 | go_keep)
          (first
            | (go_at_call 63; refine (HNC.out _ (by repeat (first | with_reducible exact Ext.refl _ | with_reducible refine Ext.drew ?_))).mono ?_; rintro r u1 ⟨rfl, rfl⟩)
            | (go_at_call 68; refine (HMT.out _ (by repeat (first | with_reducible exact Ext.refl _ | with_reducible refine Ext.drew ?_))).mono ?_; rintro r u1 ⟨rfl, hy⟩; have Z1 : Ext w4 u1 := Ext.trans (by repeat (first | with_reducible exact Ext.refl _ | with_reducible refine Ext.drew ?_)) hy))
        all_goals
          go_wp2_with fail
          go_meet
          case rel => exact ⟨rfl, Z1⟩
      case rest =>
        obtain ⟨rfl, hx6⟩ := hcut
        have X6 := hid hx6
        clear hx6
        go_upto_region 17 with fail
        have HS17b := hid (show ∀ W', Ext wc W' → (W'.cell? ⟨h, 0, none⟩ = some (.iface 289 (.pointer (some ⟨b, 0, none⟩))) ∧ W'.cell? ⟨kb, 1, none⟩ = some (.slice (some ⟨rg, 0, none⟩) rn rcap) ∧ W'.cell? ⟨rg, ix * 6 + 5, none⟩ = some (.slice ra rl rc)) from fun W' X => HS17.out W' (X6.out.trans X))
        have HNC2 := hid (fun W' (X : Ext wc W') => HNC.out W' (X6.out.trans X))
        have HOD2 := hid (fun W' (X : Ext wc W') => HODD.out (.pointer (some ⟨b, 0, none⟩)) W' (XM.out.trans (X4.out.trans (X6.out.trans X))))
        go_cut [13, 14] from 76 to 89 (fun s13 s14 wx => s13 = .string ⟨#[]⟩ ∧ s14 = .bool false ∧ Ext wc wx)
        case first =>
          go_region_held3 (fun W' => W'.cell? ⟨h, 0, none⟩ = some (.iface 289 (.pointer (some ⟨b, 0, none⟩))) ∧ W'.cell? ⟨kb, 1, none⟩ = some (.slice (some ⟨rg, 0, none⟩) rn rcap) ∧ W'.cell? ⟨rg, ix * 6 + 5, none⟩ = some (.slice ra rl rc)) (first | with_reducible exact HS17b.out _ (Ext.refl _) | with_reducible exact HS17b.out _ (Ext.refl _).drew | with_reducible exact HS17b.out _ Z1 | go_keep)
            (first
              | (go_at_call 63; refine (HNC2.out _ (by repeat (first | with_reducible exact Ext.refl _ | with_reducible refine Ext.drew ?_))).mono ?_; rintro r u1 ⟨rfl, rfl⟩)
              | (go_at_call 69; refine (HOD2.out _ (by repeat (first | with_reducible exact Ext.refl _ | with_reducible refine Ext.drew ?_))).mono ?_; rintro r u1 ⟨rfl, hy⟩; have Z1 : Ext wc u1 := Ext.trans (by repeat (first | with_reducible exact Ext.refl _ | with_reducible refine Ext.drew ?_)) hy))
          all_goals
            go_wp2_with fail
            go_meet
            case rel => exact ⟨rfl, rfl, Z1⟩
        case rest =>
          obtain ⟨rfl, rfl, hx8⟩ := hcut
          have X8 := hid (X6.out.trans hx8)
          clear hx8
          go_wp2_with fail
          go_ret2
          exact ⟨h, rfl, HMN.out.later X8.out, XM.out.trans (X4.out.trans X8.out)⟩
set_option maxRecDepth 100000 in
set_option maxHeartbeats 8000000 in
theorem makeK_To {base kb mb : Nat} {nme : ByteArray} {lv : Value} {acc : List Rw} (ks : List Kd) (g cp bx : Nat) (k x : ByteArray) (ao ka : Option Addr) (kl kc nk c : Nat) (bs : Nat → Nat) (kd : Kd) (w : World) (hkm : KitM w base kb mb nme (.func (.func 124) #[] #[.pointer (some ⟨bx, 0, none⟩)]) lv acc) (hl : ks.length ≤ 1000) (hb : w.heap[bx]? = some (.cells #[.slice (some ⟨g, 0, none⟩) ks.length cp] 104)) (hk : KRow w g ks) (hf : Go.Proofs.YtnmcmjgfnncdmaaGreatDoor.kdFind ks k = some kd) (hm : kd.make = 127) (hd : kd.does = none) (hn : nk ≤ 100000) (hh : HandsP w ao nk c (fun _ => 388) (fun i => .pointer (some ⟨bs i, 0, none⟩)))
    (hks : k.size ≤ 4000) (hxs : x.size ≤ 140737488351232) (ix : Nat) (hix : kIx acc k = some ix) (hil : ix < acc.length) (hrk : acc[ix].kind = k) (hrn : acc[ix].num = false) (hrt : acc[ix].text = 0 ∨ acc[ix].text = 2) (hmn : acc[ix].min ≤ nk) (hmx : acc[ix].max = -1 ∨ (nk : Int) ≤ acc[ix].max) (hfq : fitQ acc[ix].text x = 0) (hal : acc[ix].abs.length ≤ 1000) (hall : ∀ j, j < 14 → hasTo j = inS (nmQ j) acc[ix].abs) :
    Calls Tryz.prog 29 #[.pointer (some ⟨kb, 0, none⟩), .agg #[.string k, .int .i64 0, .string x, .slice ka kl kc], .slice ao nk c] w (MakeR w 286 k x nk bs) := by
  obtain ⟨rg, rcap, ra, rc, hlv, ⟨p0, p1, p2, p3, p4, p5⟩, htb⟩ := hkm.rows.read ix hil
  subst hlv
  obtain ⟨k0, k1', k2, k3⟩ := hkm.four
  have hnk : (nk : Int) ≤ 100000 := by omega
  have hil' : (ix : Int) < acc.length := by omega
  have HMADE := hid (show ∀ w1, Ext w w1 → Calls Tryz.prog 67 #[.pointer (some ⟨kb, 0, none⟩), .agg #[.string k, .int .i64 0, .string x, .slice ka kl kc], .slice ao nk c] w1 (Kit1R w1 286 k 0 x nk (fun _ => 388) (fun i => .pointer (some ⟨bs i, 0, none⟩))) from fun w1 hx => made_To ks g cp bx k x 0 ao nk c _ _ kd w1 (hkm.later hx) hl (hx.block hb) (hk.later hx) hf hm hd hn (hh.later hx) ⟨_, _, _, rfl⟩)
  have HNO := hid (fun w1 (hx : Ext w w1) => knodesOf_any ao nk c (fun _ => 388) (fun i => .pointer (some ⟨bs i, 0, none⟩)) w1 hn (hh.o.later hx))
  have HLOOK := hid (show ∀ w1, Ext w w1 → (Instr.lookup 124 (.map (some mb)) (.string k) true).run Tryz.prog w1 = .ok (.tuple #[.int .i64 (ix : Int), .bool true]) w1 from fun w1 hx => by
    have := (hkm.map.later hx).look k (by omega)
    rw [hix] at this
    exact this)
  have HFIT := hid (fun w1 => fits_gen k x acc[ix].min acc[ix].max acc[ix].text hrt ra acc[ix].abs.length rc ka kl kc nk w1 hmn hmx hxs)
  rw [hfq] at HFIT
  have HODD := hid (fun v w1 (hx : Ext w w1) => odd_To ra rc acc[ix].abs v w1 hal (htb.row.later hx) hall)
  have HMAT := hid (fun b a cc qa cq B B2 w1 h1 h2 h3 => matches_To (B := B) (B2 := B2) b nk cc cq a qa ka kl kc k x 0 bs w1 h1 hn h2 h3)
  rw [hrk] at p0
  rw [hrn] at p3
  clear hkm hl hb hk hf hm hd hn hh hix hrk hrn hrt hmn hmx hfq hal hall htb
  generalize acc[ix].min = rmin at *
  generalize acc[ix].max = rmax at *
  generalize acc[ix].text = rtx at *
  generalize acc[ix].abs.length = rl at *
  generalize acc.length = rn at *
  have hMKNE : ∀ (w : World), (binOp .eql 126 (.func (.func 124) #[] #[.pointer (some ⟨bx, 0, none⟩)]) .nilFunc).run Tryz.prog w = .ok (.bool false) w := fun _ => by kernel_rfl
  obtain ⟨M, hM⟩ : ∃ M, w.alloc (.cells #[.string k, .int .i64 0, .string x, .slice ka kl kc] 69) = M := ⟨_, rfl⟩
  have XM := hid (show Ext w M from hM ▸ Ext.alloc _ _)
  have HM0 := hid (show M.heap[w.heap.size]? = some (.cells #[.string k, .int .i64 0, .string x, .slice ka kl kc] 69) from hM ▸ blk0 _ _)
  have hkbl := lt_of_cell k0
  have HS3 := hid (show ∀ W', Ext M W' → (W'.cell? ⟨kb, 2, none⟩ = some (.map (some mb)) ∧ W'.cell? ⟨w.heap.size, 0, none⟩ = some (.string k) ∧ (Instr.lookup 124 (.map (some mb)) (.string k) true).run Tryz.prog W' = .ok (.tuple #[.int .i64 (ix : Int), .bool true]) W') from fun W' X => by
    obtain ⟨s0, s1, s2, s3⟩ := four_of (X.block HM0.out)
    exact ⟨((XM.out.trans X).kp (fun _ => True)).cell k2 trivial, s0, HLOOK.out _ (XM.out.trans X)⟩)
  have HS9 := hid (show ∀ W', Ext M W' → (W'.cell? ⟨kb, 1, none⟩ = some (.slice (some ⟨rg, 0, none⟩) rn rcap) ∧ W'.cell? ⟨rg, ix * 6, none⟩ = some (.string k) ∧ W'.cell? ⟨rg, ix * 6 + 1, none⟩ = some (.int .i64 rmin) ∧ W'.cell? ⟨rg, ix * 6 + 2, none⟩ = some (.int .i64 rmax) ∧ W'.cell? ⟨rg, ix * 6 + 3, none⟩ = some (.bool false) ∧ W'.cell? ⟨rg, ix * 6 + 4, none⟩ = some (.int .i64 rtx) ∧ W'.cell? ⟨rg, ix * 6 + 5, none⟩ = some (.slice ra rl rc) ∧ W'.cell? ⟨w.heap.size, 0, none⟩ = some (.string k) ∧ W'.cell? ⟨w.heap.size, 1, none⟩ = some (.int .i64 0) ∧ W'.cell? ⟨w.heap.size, 2, none⟩ = some (.string x) ∧ W'.cell? ⟨w.heap.size, 3, none⟩ = some (.slice ka kl kc)) from fun W' X => by
    obtain ⟨s0, s1, s2, s3⟩ := four_of (X.block HM0.out)
    have Y : ∀ {q : Addr} {v : Value}, w.cell? q = some v → W'.cell? q = some v := fun e => ((XM.out.trans X).kp (fun _ => True)).cell e trivial
    exact ⟨Y k1', Y p0, Y p1, Y p2, Y p3, Y p4, Y p5, s0, s1, s2, s3⟩)
  have k3M : M.cell? ⟨kb, 3, none⟩ = some (.func (.func 124) #[] #[.pointer (some ⟨bx, 0, none⟩)]) := (XM.out.kp (fun _ => True)).cell k3 trivial
  clear k0 k1' k2 k3 p0 p1 p2 p3 p4 p5
  go_enter Tryz.func29, Tryz.ntmps29
  go_upto_region 3 with fail
  first | rw [hM] | skip
  clear hM k3M
  go_cut [8, 9] from 25 to 34 (fun s8 s9 wx => s8 = .int .i64 (ix : Int) ∧ s9 = .bool true ∧ Ext M wx)
  case first =>
    go_region_held3 (fun W' => W'.cell? ⟨kb, 2, none⟩ = some (.map (some mb)) ∧ W'.cell? ⟨w.heap.size, 0, none⟩ = some (.string k) ∧ (Instr.lookup 124 (.map (some mb)) (.string k) true).run Tryz.prog W' = .ok (.tuple #[.int .i64 (ix : Int), .bool true]) W') (first | with_reducible exact HS3.out _ (Ext.refl _) | with_reducible exact HS3.out _ (Ext.refl _).drew | with_reducible exact HS3.out _ Z1 | go_keep) (first | fail)
    all_goals
      go_wp2_with fail
      go_meet
      case rel => exact ⟨rfl, rfl, (by repeat (first | with_reducible exact Ext.refl _ | with_reducible refine Ext.drew ?_))⟩
  case rest =>
    obtain ⟨rfl, rfl, hx1⟩ := hcut
    have X1 := hid hx1
    clear hx1
    go_wp2_with fail
    refine (HNO.out _ (XM.out.trans X1.out)).mono ?_
    rintro e w2 ⟨q, rfl, hq, hx2⟩
    obtain ⟨qa, cq, rfl⟩ := ownsRow_slice hq
    have HQ := hid hq
    have X2 := hid (X1.out.trans hx2)
    clear hq hx2
    go_upto_region 9 with fail
    have HS9b := hid (show ∀ W', Ext w2 W' → (W'.cell? ⟨kb, 1, none⟩ = some (.slice (some ⟨rg, 0, none⟩) rn rcap) ∧ W'.cell? ⟨rg, ix * 6, none⟩ = some (.string k) ∧ W'.cell? ⟨rg, ix * 6 + 1, none⟩ = some (.int .i64 rmin) ∧ W'.cell? ⟨rg, ix * 6 + 2, none⟩ = some (.int .i64 rmax) ∧ W'.cell? ⟨rg, ix * 6 + 3, none⟩ = some (.bool false) ∧ W'.cell? ⟨rg, ix * 6 + 4, none⟩ = some (.int .i64 rtx) ∧ W'.cell? ⟨rg, ix * 6 + 5, none⟩ = some (.slice ra rl rc) ∧ W'.cell? ⟨w.heap.size, 0, none⟩ = some (.string k) ∧ W'.cell? ⟨w.heap.size, 1, none⟩ = some (.int .i64 0) ∧ W'.cell? ⟨w.heap.size, 2, none⟩ = some (.string x) ∧ W'.cell? ⟨w.heap.size, 3, none⟩ = some (.slice ka kl kc)) from fun W' X => HS9.out W' (X2.out.trans X))
    go_cut [11] from 46 to 56 (fun s11 wx => s11 = .int .i64 0 ∧ Ext w2 wx)
    case first =>
      go_region_held3 (fun W' => W'.cell? ⟨kb, 1, none⟩ = some (.slice (some ⟨rg, 0, none⟩) rn rcap) ∧ W'.cell? ⟨rg, ix * 6, none⟩ = some (.string k) ∧ W'.cell? ⟨rg, ix * 6 + 1, none⟩ = some (.int .i64 rmin) ∧ W'.cell? ⟨rg, ix * 6 + 2, none⟩ = some (.int .i64 rmax) ∧ W'.cell? ⟨rg, ix * 6 + 3, none⟩ = some (.bool false) ∧ W'.cell? ⟨rg, ix * 6 + 4, none⟩ = some (.int .i64 rtx) ∧ W'.cell? ⟨rg, ix * 6 + 5, none⟩ = some (.slice ra rl rc) ∧ W'.cell? ⟨w.heap.size, 0, none⟩ = some (.string k) ∧ W'.cell? ⟨w.heap.size, 1, none⟩ = some (.int .i64 0) ∧ W'.cell? ⟨w.heap.size, 2, none⟩ = some (.string x) ∧ W'.cell? ⟨w.heap.size, 3, none⟩ = some (.slice ka kl kc)) (first | with_reducible exact HS9b.out _ (Ext.refl _) | with_reducible exact HS9b.out _ (Ext.refl _).drew | with_reducible exact HS9b.out _ Z1 | go_keep)
        (first
          | (go_at_call 66; refine (HFIT.out _).mono ?_; rintro r u1 ⟨rfl, hy⟩; have Z1 : Ext w2 u1 := Ext.trans (by repeat (first | with_reducible exact Ext.refl _ | with_reducible refine Ext.drew ?_)) hy))
      all_goals
        go_wp2_with fail
        go_meet
        case rel => exact ⟨rfl, Z1⟩
    case rest =>
      obtain ⟨rfl, hx3⟩ := hcut
      have X3 := hid (X2.out.trans hx3)
      have X23 := hid hx3
      clear hx3 HS9b
      obtain ⟨_, _, _, _, _, _, _, t0, t1, t2, t3⟩ := HS9.out _ X3.out
      have hwl := lt_of_cell t0
      go_wp2_with fail
      refine (HMADE.out _ (XM.out.trans X3.out)).mono ?_
      rintro e w4 ⟨h, rfl, hmade, hx4⟩
      obtain ⟨b, ma, mc, hhd, hnb, hrow, hbb, hhh⟩ := hmade
      have HMN := hid (show MadeN w 286 k 0 x nk (fun _ => 388) (fun i => .pointer (some ⟨bs i, 0, none⟩)) h w4 from ⟨b, ma, mc, hhd, hnb, row_base hrow (XM.out.trans X3.out).size, Nat.le_trans (XM.out.trans X3.out).size hbb, Nat.le_trans (XM.out.trans X3.out).size hhh⟩)
      have HNB := hid hnb
      have HROW := hid hrow
      have X4 := hid (X3.out.trans hx4)
      have X34 := hid (X23.out.trans hx4)
      have hhc : w4.cell? ⟨h, 0, none⟩ = some (.iface 286 (.pointer (some ⟨b, 0, none⟩))) := cell_of hhd rfl
      have hneq := node_eq 286 (.pointer (some ⟨b, 0, none⟩))
      clear hx4 hhd hnb hrow hbb hhh t0 t1 t2 t3 hwl
      go_wp2_with fail
      refine (node_cell h _ _ hhc).mono ?_
      rintro e w5 ⟨rfl, hw5⟩
      rw [hw5]
      clear hw5 w5
      have HS15 := hid (show ∀ W', Ext w4 W' → (W'.cell? ⟨h, 0, none⟩ = some (.iface 286 (.pointer (some ⟨b, 0, none⟩))) ∧ W'.cell? ⟨w.heap.size, 0, none⟩ = some (.string k) ∧ W'.cell? ⟨w.heap.size, 1, none⟩ = some (.int .i64 0) ∧ W'.cell? ⟨w.heap.size, 2, none⟩ = some (.string x) ∧ W'.cell? ⟨w.heap.size, 3, none⟩ = some (.slice ka kl kc)) from fun W' X => by
        obtain ⟨_, _, _, _, _, _, _, s0, s1, s2, s3⟩ := HS9.out W' (X4.out.trans X)
        exact ⟨(X.kp (fun _ => True)).cell hhc trivial, s0, s1, s2, s3⟩)
      have HS17 := hid (show ∀ W', Ext w4 W' → (W'.cell? ⟨h, 0, none⟩ = some (.iface 286 (.pointer (some ⟨b, 0, none⟩))) ∧ W'.cell? ⟨kb, 1, none⟩ = some (.slice (some ⟨rg, 0, none⟩) rn rcap) ∧ W'.cell? ⟨rg, ix * 6 + 5, none⟩ = some (.slice ra rl rc)) from fun W' X => by
        obtain ⟨q1, _, _, _, _, _, q7, _, _, _, _⟩ := HS9.out W' (X4.out.trans X)
        exact ⟨(X.kp (fun _ => True)).cell hhc trivial, q1, q7⟩)
      have HNC := hid (fun W' X => node_cell h _ W' (HS15.out W' X).1)
      have HMT := hid (fun W' (X : Ext w4 W') => HMAT.out b ma mc qa cq _ _ W' (HNB.out.later X) (row_ext HROW.out X) (row_ext HQ.out (X34.out.trans X)))
      clear hhc
      go_upto_region 15 with fail
      go_cut [74] from 69 to 74 (fun s74 wx => s74 = .bool false ∧ Ext w4 wx)
      case first =>
        go_region_held3 (fun W' => W'.cell? ⟨h, 0, none⟩ = some (.iface 286 (.pointer (some ⟨b, 0, none⟩))) ∧ W'.cell? ⟨w.heap.size, 0, none⟩ = some (.string k) ∧ W'.cell? ⟨w.heap.size, 1, none⟩ = some (.int .i64 0) ∧ W'.cell? ⟨w.heap.size, 2, none⟩ = some (.string x) ∧ W'.cell? ⟨w.heap.size, 3, none⟩ = some (.slice ka kl kc)) (first | with_reducible exact HS15.out _ (Ext.refl _) | with_reducible exact HS15.out _ (Ext.refl _).drew | with_reducible exact HS15.out _ Z1 | go_keep)
          (first
            | (go_at_call 63; refine (HNC.out _ (by repeat (first | with_reducible exact Ext.refl _ | with_reducible refine Ext.drew ?_))).mono ?_; rintro r u1 ⟨rfl, rfl⟩)
            | (go_at_call 68; refine (HMT.out _ (by repeat (first | with_reducible exact Ext.refl _ | with_reducible refine Ext.drew ?_))).mono ?_; rintro r u1 ⟨rfl, hy⟩; have Z1 : Ext w4 u1 := Ext.trans (by repeat (first | with_reducible exact Ext.refl _ | with_reducible refine Ext.drew ?_)) hy))
        all_goals
          go_wp2_with fail
          go_meet
          case rel => exact ⟨rfl, Z1⟩
      case rest =>
        obtain ⟨rfl, hx6⟩ := hcut
        have X6 := hid hx6
        clear hx6
        go_upto_region 17 with fail
        have HS17b := hid (show ∀ W', Ext wc W' → (W'.cell? ⟨h, 0, none⟩ = some (.iface 286 (.pointer (some ⟨b, 0, none⟩))) ∧ W'.cell? ⟨kb, 1, none⟩ = some (.slice (some ⟨rg, 0, none⟩) rn rcap) ∧ W'.cell? ⟨rg, ix * 6 + 5, none⟩ = some (.slice ra rl rc)) from fun W' X => HS17.out W' (X6.out.trans X))
        have HNC2 := hid (fun W' (X : Ext wc W') => HNC.out W' (X6.out.trans X))
        have HOD2 := hid (fun W' (X : Ext wc W') => HODD.out (.pointer (some ⟨b, 0, none⟩)) W' (XM.out.trans (X4.out.trans (X6.out.trans X))))
        go_cut [13, 14] from 76 to 89 (fun s13 s14 wx => s13 = .string ⟨#[]⟩ ∧ s14 = .bool false ∧ Ext wc wx)
        case first =>
          go_region_held3 (fun W' => W'.cell? ⟨h, 0, none⟩ = some (.iface 286 (.pointer (some ⟨b, 0, none⟩))) ∧ W'.cell? ⟨kb, 1, none⟩ = some (.slice (some ⟨rg, 0, none⟩) rn rcap) ∧ W'.cell? ⟨rg, ix * 6 + 5, none⟩ = some (.slice ra rl rc)) (first | with_reducible exact HS17b.out _ (Ext.refl _) | with_reducible exact HS17b.out _ (Ext.refl _).drew | with_reducible exact HS17b.out _ Z1 | go_keep)
            (first
              | (go_at_call 63; refine (HNC2.out _ (by repeat (first | with_reducible exact Ext.refl _ | with_reducible refine Ext.drew ?_))).mono ?_; rintro r u1 ⟨rfl, rfl⟩)
              | (go_at_call 69; refine (HOD2.out _ (by repeat (first | with_reducible exact Ext.refl _ | with_reducible refine Ext.drew ?_))).mono ?_; rintro r u1 ⟨rfl, hy⟩; have Z1 : Ext wc u1 := Ext.trans (by repeat (first | with_reducible exact Ext.refl _ | with_reducible refine Ext.drew ?_)) hy))
          all_goals
            go_wp2_with fail
            go_meet
            case rel => exact ⟨rfl, rfl, Z1⟩
        case rest =>
          obtain ⟨rfl, rfl, hx8⟩ := hcut
          have X8 := hid (X6.out.trans hx8)
          clear hx8
          go_wp2_with fail
          go_ret2
          exact ⟨h, rfl, HMN.out.later X8.out, XM.out.trans (X4.out.trans X8.out)⟩
set_option maxRecDepth 100000 in
set_option maxHeartbeats 8000000 in
theorem makeK_Lz {base kb mb : Nat} {nme : ByteArray} {lv : Value} {acc : List Rw} (ks : List Kd) (g cp bx : Nat) (k x : ByteArray) (ao ka : Option Addr) (kl kc nk c : Nat) (bs : Nat → Nat) (kd : Kd) (w : World) (hkm : KitM w base kb mb nme (.func (.func 124) #[] #[.pointer (some ⟨bx, 0, none⟩)]) lv acc) (hl : ks.length ≤ 1000) (hb : w.heap[bx]? = some (.cells #[.slice (some ⟨g, 0, none⟩) ks.length cp] 104)) (hk : KRow w g ks) (hf : Go.Proofs.YtnmcmjgfnncdmaaGreatDoor.kdFind ks k = some kd) (hm : kd.make = 145) (hd : kd.does = none) (hn : nk ≤ 100000) (hh : HandsP w ao nk c (fun _ => 388) (fun i => .pointer (some ⟨bs i, 0, none⟩)))
    (hks : k.size ≤ 4000) (hxs : x.size ≤ 140737488351232) (ix : Nat) (hix : kIx acc k = some ix) (hil : ix < acc.length) (hrk : acc[ix].kind = k) (hrn : acc[ix].num = false) (hrt : acc[ix].text = 0 ∨ acc[ix].text = 2) (hmn : acc[ix].min ≤ nk) (hmx : acc[ix].max = -1 ∨ (nk : Int) ≤ acc[ix].max) (hfq : fitQ acc[ix].text x = 0) (hal : acc[ix].abs.length ≤ 1000) (hall : ∀ j, j < 14 → hasLz j = inS (nmQ j) acc[ix].abs) :
    Calls Tryz.prog 29 #[.pointer (some ⟨kb, 0, none⟩), .agg #[.string k, .int .i64 0, .string x, .slice ka kl kc], .slice ao nk c] w (MakeR w 351 k x nk bs) := by
  obtain ⟨rg, rcap, ra, rc, hlv, ⟨p0, p1, p2, p3, p4, p5⟩, htb⟩ := hkm.rows.read ix hil
  subst hlv
  obtain ⟨k0, k1', k2, k3⟩ := hkm.four
  have hnk : (nk : Int) ≤ 100000 := by omega
  have hil' : (ix : Int) < acc.length := by omega
  have HMADE := hid (show ∀ w1, Ext w w1 → Calls Tryz.prog 67 #[.pointer (some ⟨kb, 0, none⟩), .agg #[.string k, .int .i64 0, .string x, .slice ka kl kc], .slice ao nk c] w1 (Kit1R w1 351 k 0 x nk (fun _ => 388) (fun i => .pointer (some ⟨bs i, 0, none⟩))) from fun w1 hx => made_Lz ks g cp bx k x 0 ao nk c _ _ kd w1 (hkm.later hx) hl (hx.block hb) (hk.later hx) hf hm hd hn (hh.later hx) ⟨_, _, _, rfl⟩)
  have HNO := hid (fun w1 (hx : Ext w w1) => knodesOf_any ao nk c (fun _ => 388) (fun i => .pointer (some ⟨bs i, 0, none⟩)) w1 hn (hh.o.later hx))
  have HLOOK := hid (show ∀ w1, Ext w w1 → (Instr.lookup 124 (.map (some mb)) (.string k) true).run Tryz.prog w1 = .ok (.tuple #[.int .i64 (ix : Int), .bool true]) w1 from fun w1 hx => by
    have := (hkm.map.later hx).look k (by omega)
    rw [hix] at this
    exact this)
  have HFIT := hid (fun w1 => fits_gen k x acc[ix].min acc[ix].max acc[ix].text hrt ra acc[ix].abs.length rc ka kl kc nk w1 hmn hmx hxs)
  rw [hfq] at HFIT
  have HODD := hid (fun v w1 (hx : Ext w w1) => odd_Lz ra rc acc[ix].abs v w1 hal (htb.row.later hx) hall)
  have HMAT := hid (fun b a cc qa cq B B2 w1 h1 h2 h3 => matches_Lz (B := B) (B2 := B2) b nk cc cq a qa ka kl kc k x 0 bs w1 h1 hn h2 h3)
  rw [hrk] at p0
  rw [hrn] at p3
  clear hkm hl hb hk hf hm hd hn hh hix hrk hrn hrt hmn hmx hfq hal hall htb
  generalize acc[ix].min = rmin at *
  generalize acc[ix].max = rmax at *
  generalize acc[ix].text = rtx at *
  generalize acc[ix].abs.length = rl at *
  generalize acc.length = rn at *
  have hMKNE : ∀ (w : World), (binOp .eql 126 (.func (.func 124) #[] #[.pointer (some ⟨bx, 0, none⟩)]) .nilFunc).run Tryz.prog w = .ok (.bool false) w := fun _ => by kernel_rfl
  obtain ⟨M, hM⟩ : ∃ M, w.alloc (.cells #[.string k, .int .i64 0, .string x, .slice ka kl kc] 69) = M := ⟨_, rfl⟩
  have XM := hid (show Ext w M from hM ▸ Ext.alloc _ _)
  have HM0 := hid (show M.heap[w.heap.size]? = some (.cells #[.string k, .int .i64 0, .string x, .slice ka kl kc] 69) from hM ▸ blk0 _ _)
  have hkbl := lt_of_cell k0
  have HS3 := hid (show ∀ W', Ext M W' → (W'.cell? ⟨kb, 2, none⟩ = some (.map (some mb)) ∧ W'.cell? ⟨w.heap.size, 0, none⟩ = some (.string k) ∧ (Instr.lookup 124 (.map (some mb)) (.string k) true).run Tryz.prog W' = .ok (.tuple #[.int .i64 (ix : Int), .bool true]) W') from fun W' X => by
    obtain ⟨s0, s1, s2, s3⟩ := four_of (X.block HM0.out)
    exact ⟨((XM.out.trans X).kp (fun _ => True)).cell k2 trivial, s0, HLOOK.out _ (XM.out.trans X)⟩)
  have HS9 := hid (show ∀ W', Ext M W' → (W'.cell? ⟨kb, 1, none⟩ = some (.slice (some ⟨rg, 0, none⟩) rn rcap) ∧ W'.cell? ⟨rg, ix * 6, none⟩ = some (.string k) ∧ W'.cell? ⟨rg, ix * 6 + 1, none⟩ = some (.int .i64 rmin) ∧ W'.cell? ⟨rg, ix * 6 + 2, none⟩ = some (.int .i64 rmax) ∧ W'.cell? ⟨rg, ix * 6 + 3, none⟩ = some (.bool false) ∧ W'.cell? ⟨rg, ix * 6 + 4, none⟩ = some (.int .i64 rtx) ∧ W'.cell? ⟨rg, ix * 6 + 5, none⟩ = some (.slice ra rl rc) ∧ W'.cell? ⟨w.heap.size, 0, none⟩ = some (.string k) ∧ W'.cell? ⟨w.heap.size, 1, none⟩ = some (.int .i64 0) ∧ W'.cell? ⟨w.heap.size, 2, none⟩ = some (.string x) ∧ W'.cell? ⟨w.heap.size, 3, none⟩ = some (.slice ka kl kc)) from fun W' X => by
    obtain ⟨s0, s1, s2, s3⟩ := four_of (X.block HM0.out)
    have Y : ∀ {q : Addr} {v : Value}, w.cell? q = some v → W'.cell? q = some v := fun e => ((XM.out.trans X).kp (fun _ => True)).cell e trivial
    exact ⟨Y k1', Y p0, Y p1, Y p2, Y p3, Y p4, Y p5, s0, s1, s2, s3⟩)
  have k3M : M.cell? ⟨kb, 3, none⟩ = some (.func (.func 124) #[] #[.pointer (some ⟨bx, 0, none⟩)]) := (XM.out.kp (fun _ => True)).cell k3 trivial
  clear k0 k1' k2 k3 p0 p1 p2 p3 p4 p5
  go_enter Tryz.func29, Tryz.ntmps29
  go_upto_region 3 with fail
  first | rw [hM] | skip
  clear hM k3M
  go_cut [8, 9] from 25 to 34 (fun s8 s9 wx => s8 = .int .i64 (ix : Int) ∧ s9 = .bool true ∧ Ext M wx)
  case first =>
    go_region_held3 (fun W' => W'.cell? ⟨kb, 2, none⟩ = some (.map (some mb)) ∧ W'.cell? ⟨w.heap.size, 0, none⟩ = some (.string k) ∧ (Instr.lookup 124 (.map (some mb)) (.string k) true).run Tryz.prog W' = .ok (.tuple #[.int .i64 (ix : Int), .bool true]) W') (first | with_reducible exact HS3.out _ (Ext.refl _) | with_reducible exact HS3.out _ (Ext.refl _).drew | with_reducible exact HS3.out _ Z1 | go_keep) (first | fail)
    all_goals
      go_wp2_with fail
      go_meet
      case rel => exact ⟨rfl, rfl, (by repeat (first | with_reducible exact Ext.refl _ | with_reducible refine Ext.drew ?_))⟩
  case rest =>
    obtain ⟨rfl, rfl, hx1⟩ := hcut
    have X1 := hid hx1
    clear hx1
    go_wp2_with fail
    refine (HNO.out _ (XM.out.trans X1.out)).mono ?_
    rintro e w2 ⟨q, rfl, hq, hx2⟩
    obtain ⟨qa, cq, rfl⟩ := ownsRow_slice hq
    have HQ := hid hq
    have X2 := hid (X1.out.trans hx2)
    clear hq hx2
    go_upto_region 9 with fail
    have HS9b := hid (show ∀ W', Ext w2 W' → (W'.cell? ⟨kb, 1, none⟩ = some (.slice (some ⟨rg, 0, none⟩) rn rcap) ∧ W'.cell? ⟨rg, ix * 6, none⟩ = some (.string k) ∧ W'.cell? ⟨rg, ix * 6 + 1, none⟩ = some (.int .i64 rmin) ∧ W'.cell? ⟨rg, ix * 6 + 2, none⟩ = some (.int .i64 rmax) ∧ W'.cell? ⟨rg, ix * 6 + 3, none⟩ = some (.bool false) ∧ W'.cell? ⟨rg, ix * 6 + 4, none⟩ = some (.int .i64 rtx) ∧ W'.cell? ⟨rg, ix * 6 + 5, none⟩ = some (.slice ra rl rc) ∧ W'.cell? ⟨w.heap.size, 0, none⟩ = some (.string k) ∧ W'.cell? ⟨w.heap.size, 1, none⟩ = some (.int .i64 0) ∧ W'.cell? ⟨w.heap.size, 2, none⟩ = some (.string x) ∧ W'.cell? ⟨w.heap.size, 3, none⟩ = some (.slice ka kl kc)) from fun W' X => HS9.out W' (X2.out.trans X))
    go_cut [11] from 46 to 56 (fun s11 wx => s11 = .int .i64 0 ∧ Ext w2 wx)
    case first =>
      go_region_held3 (fun W' => W'.cell? ⟨kb, 1, none⟩ = some (.slice (some ⟨rg, 0, none⟩) rn rcap) ∧ W'.cell? ⟨rg, ix * 6, none⟩ = some (.string k) ∧ W'.cell? ⟨rg, ix * 6 + 1, none⟩ = some (.int .i64 rmin) ∧ W'.cell? ⟨rg, ix * 6 + 2, none⟩ = some (.int .i64 rmax) ∧ W'.cell? ⟨rg, ix * 6 + 3, none⟩ = some (.bool false) ∧ W'.cell? ⟨rg, ix * 6 + 4, none⟩ = some (.int .i64 rtx) ∧ W'.cell? ⟨rg, ix * 6 + 5, none⟩ = some (.slice ra rl rc) ∧ W'.cell? ⟨w.heap.size, 0, none⟩ = some (.string k) ∧ W'.cell? ⟨w.heap.size, 1, none⟩ = some (.int .i64 0) ∧ W'.cell? ⟨w.heap.size, 2, none⟩ = some (.string x) ∧ W'.cell? ⟨w.heap.size, 3, none⟩ = some (.slice ka kl kc)) (first | with_reducible exact HS9b.out _ (Ext.refl _) | with_reducible exact HS9b.out _ (Ext.refl _).drew | with_reducible exact HS9b.out _ Z1 | go_keep)
        (first
          | (go_at_call 66; refine (HFIT.out _).mono ?_; rintro r u1 ⟨rfl, hy⟩; have Z1 : Ext w2 u1 := Ext.trans (by repeat (first | with_reducible exact Ext.refl _ | with_reducible refine Ext.drew ?_)) hy))
      all_goals
        go_wp2_with fail
        go_meet
        case rel => exact ⟨rfl, Z1⟩
    case rest =>
      obtain ⟨rfl, hx3⟩ := hcut
      have X3 := hid (X2.out.trans hx3)
      have X23 := hid hx3
      clear hx3 HS9b
      obtain ⟨_, _, _, _, _, _, _, t0, t1, t2, t3⟩ := HS9.out _ X3.out
      have hwl := lt_of_cell t0
      go_wp2_with fail
      refine (HMADE.out _ (XM.out.trans X3.out)).mono ?_
      rintro e w4 ⟨h, rfl, hmade, hx4⟩
      obtain ⟨b, ma, mc, hhd, hnb, hrow, hbb, hhh⟩ := hmade
      have HMN := hid (show MadeN w 351 k 0 x nk (fun _ => 388) (fun i => .pointer (some ⟨bs i, 0, none⟩)) h w4 from ⟨b, ma, mc, hhd, hnb, row_base hrow (XM.out.trans X3.out).size, Nat.le_trans (XM.out.trans X3.out).size hbb, Nat.le_trans (XM.out.trans X3.out).size hhh⟩)
      have HNB := hid hnb
      have HROW := hid hrow
      have X4 := hid (X3.out.trans hx4)
      have X34 := hid (X23.out.trans hx4)
      have hhc : w4.cell? ⟨h, 0, none⟩ = some (.iface 351 (.pointer (some ⟨b, 0, none⟩))) := cell_of hhd rfl
      have hneq := node_eq 351 (.pointer (some ⟨b, 0, none⟩))
      clear hx4 hhd hnb hrow hbb hhh t0 t1 t2 t3 hwl
      go_wp2_with fail
      refine (node_cell h _ _ hhc).mono ?_
      rintro e w5 ⟨rfl, hw5⟩
      rw [hw5]
      clear hw5 w5
      have HS15 := hid (show ∀ W', Ext w4 W' → (W'.cell? ⟨h, 0, none⟩ = some (.iface 351 (.pointer (some ⟨b, 0, none⟩))) ∧ W'.cell? ⟨w.heap.size, 0, none⟩ = some (.string k) ∧ W'.cell? ⟨w.heap.size, 1, none⟩ = some (.int .i64 0) ∧ W'.cell? ⟨w.heap.size, 2, none⟩ = some (.string x) ∧ W'.cell? ⟨w.heap.size, 3, none⟩ = some (.slice ka kl kc)) from fun W' X => by
        obtain ⟨_, _, _, _, _, _, _, s0, s1, s2, s3⟩ := HS9.out W' (X4.out.trans X)
        exact ⟨(X.kp (fun _ => True)).cell hhc trivial, s0, s1, s2, s3⟩)
      have HS17 := hid (show ∀ W', Ext w4 W' → (W'.cell? ⟨h, 0, none⟩ = some (.iface 351 (.pointer (some ⟨b, 0, none⟩))) ∧ W'.cell? ⟨kb, 1, none⟩ = some (.slice (some ⟨rg, 0, none⟩) rn rcap) ∧ W'.cell? ⟨rg, ix * 6 + 5, none⟩ = some (.slice ra rl rc)) from fun W' X => by
        obtain ⟨q1, _, _, _, _, _, q7, _, _, _, _⟩ := HS9.out W' (X4.out.trans X)
        exact ⟨(X.kp (fun _ => True)).cell hhc trivial, q1, q7⟩)
      have HNC := hid (fun W' X => node_cell h _ W' (HS15.out W' X).1)
      have HMT := hid (fun W' (X : Ext w4 W') => HMAT.out b ma mc qa cq _ _ W' (HNB.out.later X) (row_ext HROW.out X) (row_ext HQ.out (X34.out.trans X)))
      clear hhc
      go_upto_region 15 with fail
      go_cut [74] from 69 to 74 (fun s74 wx => s74 = .bool false ∧ Ext w4 wx)
      case first =>
        go_region_held3 (fun W' => W'.cell? ⟨h, 0, none⟩ = some (.iface 351 (.pointer (some ⟨b, 0, none⟩))) ∧ W'.cell? ⟨w.heap.size, 0, none⟩ = some (.string k) ∧ W'.cell? ⟨w.heap.size, 1, none⟩ = some (.int .i64 0) ∧ W'.cell? ⟨w.heap.size, 2, none⟩ = some (.string x) ∧ W'.cell? ⟨w.heap.size, 3, none⟩ = some (.slice ka kl kc)) (first | with_reducible exact HS15.out _ (Ext.refl _) | with_reducible exact HS15.out _ (Ext.refl _).drew | with_reducible exact HS15.out _ Z1 | go_keep)
          (first
            | (go_at_call 63; refine (HNC.out _ (by repeat (first | with_reducible exact Ext.refl _ | with_reducible refine Ext.drew ?_))).mono ?_; rintro r u1 ⟨rfl, rfl⟩)
            | (go_at_call 68; refine (HMT.out _ (by repeat (first | with_reducible exact Ext.refl _ | with_reducible refine Ext.drew ?_))).mono ?_; rintro r u1 ⟨rfl, hy⟩; have Z1 : Ext w4 u1 := Ext.trans (by repeat (first | with_reducible exact Ext.refl _ | with_reducible refine Ext.drew ?_)) hy))
        all_goals
          go_wp2_with fail
          go_meet
          case rel => exact ⟨rfl, Z1⟩
      case rest =>
        obtain ⟨rfl, hx6⟩ := hcut
        have X6 := hid hx6
        clear hx6
        go_upto_region 17 with fail
        have HS17b := hid (show ∀ W', Ext wc W' → (W'.cell? ⟨h, 0, none⟩ = some (.iface 351 (.pointer (some ⟨b, 0, none⟩))) ∧ W'.cell? ⟨kb, 1, none⟩ = some (.slice (some ⟨rg, 0, none⟩) rn rcap) ∧ W'.cell? ⟨rg, ix * 6 + 5, none⟩ = some (.slice ra rl rc)) from fun W' X => HS17.out W' (X6.out.trans X))
        have HNC2 := hid (fun W' (X : Ext wc W') => HNC.out W' (X6.out.trans X))
        have HOD2 := hid (fun W' (X : Ext wc W') => HODD.out (.pointer (some ⟨b, 0, none⟩)) W' (XM.out.trans (X4.out.trans (X6.out.trans X))))
        go_cut [13, 14] from 76 to 89 (fun s13 s14 wx => s13 = .string ⟨#[]⟩ ∧ s14 = .bool false ∧ Ext wc wx)
        case first =>
          go_region_held3 (fun W' => W'.cell? ⟨h, 0, none⟩ = some (.iface 351 (.pointer (some ⟨b, 0, none⟩))) ∧ W'.cell? ⟨kb, 1, none⟩ = some (.slice (some ⟨rg, 0, none⟩) rn rcap) ∧ W'.cell? ⟨rg, ix * 6 + 5, none⟩ = some (.slice ra rl rc)) (first | with_reducible exact HS17b.out _ (Ext.refl _) | with_reducible exact HS17b.out _ (Ext.refl _).drew | with_reducible exact HS17b.out _ Z1 | go_keep)
            (first
              | (go_at_call 63; refine (HNC2.out _ (by repeat (first | with_reducible exact Ext.refl _ | with_reducible refine Ext.drew ?_))).mono ?_; rintro r u1 ⟨rfl, rfl⟩)
              | (go_at_call 69; refine (HOD2.out _ (by repeat (first | with_reducible exact Ext.refl _ | with_reducible refine Ext.drew ?_))).mono ?_; rintro r u1 ⟨rfl, hy⟩; have Z1 : Ext wc u1 := Ext.trans (by repeat (first | with_reducible exact Ext.refl _ | with_reducible refine Ext.drew ?_)) hy))
          all_goals
            go_wp2_with fail
            go_meet
            case rel => exact ⟨rfl, rfl, Z1⟩
        case rest =>
          obtain ⟨rfl, rfl, hx8⟩ := hcut
          have X8 := hid (X6.out.trans hx8)
          clear hx8
          go_wp2_with fail
          go_ret2
          exact ⟨h, rfl, HMN.out.later X8.out, XM.out.trans (X4.out.trans X8.out)⟩
set_option maxRecDepth 100000 in
set_option maxHeartbeats 8000000 in
theorem makeK_Ec {base kb mb : Nat} {nme : ByteArray} {lv : Value} {acc : List Rw} (ks : List Kd) (g cp bx : Nat) (k x : ByteArray) (ao ka : Option Addr) (kl kc nk c : Nat) (bs : Nat → Nat) (kd : Kd) (w : World) (hkm : KitM w base kb mb nme (.func (.func 124) #[] #[.pointer (some ⟨bx, 0, none⟩)]) lv acc) (hl : ks.length ≤ 1000) (hb : w.heap[bx]? = some (.cells #[.slice (some ⟨g, 0, none⟩) ks.length cp] 104)) (hk : KRow w g ks) (hf : Go.Proofs.YtnmcmjgfnncdmaaGreatDoor.kdFind ks k = some kd) (hm : kd.make = 119) (hd : kd.does = none) (hn : nk ≤ 100000) (hh : HandsP w ao nk c (fun _ => 388) (fun i => .pointer (some ⟨bs i, 0, none⟩)))
    (hks : k.size ≤ 4000) (hxs : x.size ≤ 140737488351232) (ix : Nat) (hix : kIx acc k = some ix) (hil : ix < acc.length) (hrk : acc[ix].kind = k) (hrn : acc[ix].num = false) (hrt : acc[ix].text = 0 ∨ acc[ix].text = 2) (hmn : acc[ix].min ≤ nk) (hmx : acc[ix].max = -1 ∨ (nk : Int) ≤ acc[ix].max) (hfq : fitQ acc[ix].text x = 0) (hal : acc[ix].abs.length ≤ 1000) (hall : ∀ j, j < 14 → hasEc j = inS (nmQ j) acc[ix].abs) :
    Calls Tryz.prog 29 #[.pointer (some ⟨kb, 0, none⟩), .agg #[.string k, .int .i64 0, .string x, .slice ka kl kc], .slice ao nk c] w (MakeR w 275 k x nk bs) := by
  obtain ⟨rg, rcap, ra, rc, hlv, ⟨p0, p1, p2, p3, p4, p5⟩, htb⟩ := hkm.rows.read ix hil
  subst hlv
  obtain ⟨k0, k1', k2, k3⟩ := hkm.four
  have hnk : (nk : Int) ≤ 100000 := by omega
  have hil' : (ix : Int) < acc.length := by omega
  have HMADE := hid (show ∀ w1, Ext w w1 → Calls Tryz.prog 67 #[.pointer (some ⟨kb, 0, none⟩), .agg #[.string k, .int .i64 0, .string x, .slice ka kl kc], .slice ao nk c] w1 (Kit1R w1 275 k 0 x nk (fun _ => 388) (fun i => .pointer (some ⟨bs i, 0, none⟩))) from fun w1 hx => made_Ec ks g cp bx k x 0 ao nk c _ _ kd w1 (hkm.later hx) hl (hx.block hb) (hk.later hx) hf hm hd hn (hh.later hx) ⟨_, _, _, rfl⟩)
  have HNO := hid (fun w1 (hx : Ext w w1) => knodesOf_any ao nk c (fun _ => 388) (fun i => .pointer (some ⟨bs i, 0, none⟩)) w1 hn (hh.o.later hx))
  have HLOOK := hid (show ∀ w1, Ext w w1 → (Instr.lookup 124 (.map (some mb)) (.string k) true).run Tryz.prog w1 = .ok (.tuple #[.int .i64 (ix : Int), .bool true]) w1 from fun w1 hx => by
    have := (hkm.map.later hx).look k (by omega)
    rw [hix] at this
    exact this)
  have HFIT := hid (fun w1 => fits_gen k x acc[ix].min acc[ix].max acc[ix].text hrt ra acc[ix].abs.length rc ka kl kc nk w1 hmn hmx hxs)
  rw [hfq] at HFIT
  have HODD := hid (fun v w1 (hx : Ext w w1) => odd_Ec ra rc acc[ix].abs v w1 hal (htb.row.later hx) hall)
  have HMAT := hid (fun b a cc qa cq B B2 w1 h1 h2 h3 => matches_Ec (B := B) (B2 := B2) b nk cc cq a qa ka kl kc k x 0 bs w1 h1 hn h2 h3)
  rw [hrk] at p0
  rw [hrn] at p3
  clear hkm hl hb hk hf hm hd hn hh hix hrk hrn hrt hmn hmx hfq hal hall htb
  generalize acc[ix].min = rmin at *
  generalize acc[ix].max = rmax at *
  generalize acc[ix].text = rtx at *
  generalize acc[ix].abs.length = rl at *
  generalize acc.length = rn at *
  have hMKNE : ∀ (w : World), (binOp .eql 126 (.func (.func 124) #[] #[.pointer (some ⟨bx, 0, none⟩)]) .nilFunc).run Tryz.prog w = .ok (.bool false) w := fun _ => by kernel_rfl
  obtain ⟨M, hM⟩ : ∃ M, w.alloc (.cells #[.string k, .int .i64 0, .string x, .slice ka kl kc] 69) = M := ⟨_, rfl⟩
  have XM := hid (show Ext w M from hM ▸ Ext.alloc _ _)
  have HM0 := hid (show M.heap[w.heap.size]? = some (.cells #[.string k, .int .i64 0, .string x, .slice ka kl kc] 69) from hM ▸ blk0 _ _)
  have hkbl := lt_of_cell k0
  have HS3 := hid (show ∀ W', Ext M W' → (W'.cell? ⟨kb, 2, none⟩ = some (.map (some mb)) ∧ W'.cell? ⟨w.heap.size, 0, none⟩ = some (.string k) ∧ (Instr.lookup 124 (.map (some mb)) (.string k) true).run Tryz.prog W' = .ok (.tuple #[.int .i64 (ix : Int), .bool true]) W') from fun W' X => by
    obtain ⟨s0, s1, s2, s3⟩ := four_of (X.block HM0.out)
    exact ⟨((XM.out.trans X).kp (fun _ => True)).cell k2 trivial, s0, HLOOK.out _ (XM.out.trans X)⟩)
  have HS9 := hid (show ∀ W', Ext M W' → (W'.cell? ⟨kb, 1, none⟩ = some (.slice (some ⟨rg, 0, none⟩) rn rcap) ∧ W'.cell? ⟨rg, ix * 6, none⟩ = some (.string k) ∧ W'.cell? ⟨rg, ix * 6 + 1, none⟩ = some (.int .i64 rmin) ∧ W'.cell? ⟨rg, ix * 6 + 2, none⟩ = some (.int .i64 rmax) ∧ W'.cell? ⟨rg, ix * 6 + 3, none⟩ = some (.bool false) ∧ W'.cell? ⟨rg, ix * 6 + 4, none⟩ = some (.int .i64 rtx) ∧ W'.cell? ⟨rg, ix * 6 + 5, none⟩ = some (.slice ra rl rc) ∧ W'.cell? ⟨w.heap.size, 0, none⟩ = some (.string k) ∧ W'.cell? ⟨w.heap.size, 1, none⟩ = some (.int .i64 0) ∧ W'.cell? ⟨w.heap.size, 2, none⟩ = some (.string x) ∧ W'.cell? ⟨w.heap.size, 3, none⟩ = some (.slice ka kl kc)) from fun W' X => by
    obtain ⟨s0, s1, s2, s3⟩ := four_of (X.block HM0.out)
    have Y : ∀ {q : Addr} {v : Value}, w.cell? q = some v → W'.cell? q = some v := fun e => ((XM.out.trans X).kp (fun _ => True)).cell e trivial
    exact ⟨Y k1', Y p0, Y p1, Y p2, Y p3, Y p4, Y p5, s0, s1, s2, s3⟩)
  have k3M : M.cell? ⟨kb, 3, none⟩ = some (.func (.func 124) #[] #[.pointer (some ⟨bx, 0, none⟩)]) := (XM.out.kp (fun _ => True)).cell k3 trivial
  clear k0 k1' k2 k3 p0 p1 p2 p3 p4 p5
  go_enter Tryz.func29, Tryz.ntmps29
  go_upto_region 3 with fail
  first | rw [hM] | skip
  clear hM k3M
  go_cut [8, 9] from 25 to 34 (fun s8 s9 wx => s8 = .int .i64 (ix : Int) ∧ s9 = .bool true ∧ Ext M wx)
  case first =>
    go_region_held3 (fun W' => W'.cell? ⟨kb, 2, none⟩ = some (.map (some mb)) ∧ W'.cell? ⟨w.heap.size, 0, none⟩ = some (.string k) ∧ (Instr.lookup 124 (.map (some mb)) (.string k) true).run Tryz.prog W' = .ok (.tuple #[.int .i64 (ix : Int), .bool true]) W') (first | with_reducible exact HS3.out _ (Ext.refl _) | with_reducible exact HS3.out _ (Ext.refl _).drew | with_reducible exact HS3.out _ Z1 | go_keep) (first | fail)
    all_goals
      go_wp2_with fail
      go_meet
      case rel => exact ⟨rfl, rfl, (by repeat (first | with_reducible exact Ext.refl _ | with_reducible refine Ext.drew ?_))⟩
  case rest =>
    obtain ⟨rfl, rfl, hx1⟩ := hcut
    have X1 := hid hx1
    clear hx1
    go_wp2_with fail
    refine (HNO.out _ (XM.out.trans X1.out)).mono ?_
    rintro e w2 ⟨q, rfl, hq, hx2⟩
    obtain ⟨qa, cq, rfl⟩ := ownsRow_slice hq
    have HQ := hid hq
    have X2 := hid (X1.out.trans hx2)
    clear hq hx2
    go_upto_region 9 with fail
    have HS9b := hid (show ∀ W', Ext w2 W' → (W'.cell? ⟨kb, 1, none⟩ = some (.slice (some ⟨rg, 0, none⟩) rn rcap) ∧ W'.cell? ⟨rg, ix * 6, none⟩ = some (.string k) ∧ W'.cell? ⟨rg, ix * 6 + 1, none⟩ = some (.int .i64 rmin) ∧ W'.cell? ⟨rg, ix * 6 + 2, none⟩ = some (.int .i64 rmax) ∧ W'.cell? ⟨rg, ix * 6 + 3, none⟩ = some (.bool false) ∧ W'.cell? ⟨rg, ix * 6 + 4, none⟩ = some (.int .i64 rtx) ∧ W'.cell? ⟨rg, ix * 6 + 5, none⟩ = some (.slice ra rl rc) ∧ W'.cell? ⟨w.heap.size, 0, none⟩ = some (.string k) ∧ W'.cell? ⟨w.heap.size, 1, none⟩ = some (.int .i64 0) ∧ W'.cell? ⟨w.heap.size, 2, none⟩ = some (.string x) ∧ W'.cell? ⟨w.heap.size, 3, none⟩ = some (.slice ka kl kc)) from fun W' X => HS9.out W' (X2.out.trans X))
    go_cut [11] from 46 to 56 (fun s11 wx => s11 = .int .i64 0 ∧ Ext w2 wx)
    case first =>
      go_region_held3 (fun W' => W'.cell? ⟨kb, 1, none⟩ = some (.slice (some ⟨rg, 0, none⟩) rn rcap) ∧ W'.cell? ⟨rg, ix * 6, none⟩ = some (.string k) ∧ W'.cell? ⟨rg, ix * 6 + 1, none⟩ = some (.int .i64 rmin) ∧ W'.cell? ⟨rg, ix * 6 + 2, none⟩ = some (.int .i64 rmax) ∧ W'.cell? ⟨rg, ix * 6 + 3, none⟩ = some (.bool false) ∧ W'.cell? ⟨rg, ix * 6 + 4, none⟩ = some (.int .i64 rtx) ∧ W'.cell? ⟨rg, ix * 6 + 5, none⟩ = some (.slice ra rl rc) ∧ W'.cell? ⟨w.heap.size, 0, none⟩ = some (.string k) ∧ W'.cell? ⟨w.heap.size, 1, none⟩ = some (.int .i64 0) ∧ W'.cell? ⟨w.heap.size, 2, none⟩ = some (.string x) ∧ W'.cell? ⟨w.heap.size, 3, none⟩ = some (.slice ka kl kc)) (first | with_reducible exact HS9b.out _ (Ext.refl _) | with_reducible exact HS9b.out _ (Ext.refl _).drew | with_reducible exact HS9b.out _ Z1 | go_keep)
        (first
          | (go_at_call 66; refine (HFIT.out _).mono ?_; rintro r u1 ⟨rfl, hy⟩; have Z1 : Ext w2 u1 := Ext.trans (by repeat (first | with_reducible exact Ext.refl _ | with_reducible refine Ext.drew ?_)) hy))
      all_goals
        go_wp2_with fail
        go_meet
        case rel => exact ⟨rfl, Z1⟩
    case rest =>
      obtain ⟨rfl, hx3⟩ := hcut
      have X3 := hid (X2.out.trans hx3)
      have X23 := hid hx3
      clear hx3 HS9b
      obtain ⟨_, _, _, _, _, _, _, t0, t1, t2, t3⟩ := HS9.out _ X3.out
      have hwl := lt_of_cell t0
      go_wp2_with fail
      refine (HMADE.out _ (XM.out.trans X3.out)).mono ?_
      rintro e w4 ⟨h, rfl, hmade, hx4⟩
      obtain ⟨b, ma, mc, hhd, hnb, hrow, hbb, hhh⟩ := hmade
      have HMN := hid (show MadeN w 275 k 0 x nk (fun _ => 388) (fun i => .pointer (some ⟨bs i, 0, none⟩)) h w4 from ⟨b, ma, mc, hhd, hnb, row_base hrow (XM.out.trans X3.out).size, Nat.le_trans (XM.out.trans X3.out).size hbb, Nat.le_trans (XM.out.trans X3.out).size hhh⟩)
      have HNB := hid hnb
      have HROW := hid hrow
      have X4 := hid (X3.out.trans hx4)
      have X34 := hid (X23.out.trans hx4)
      have hhc : w4.cell? ⟨h, 0, none⟩ = some (.iface 275 (.pointer (some ⟨b, 0, none⟩))) := cell_of hhd rfl
      have hneq := node_eq 275 (.pointer (some ⟨b, 0, none⟩))
      clear hx4 hhd hnb hrow hbb hhh t0 t1 t2 t3 hwl
      go_wp2_with fail
      refine (node_cell h _ _ hhc).mono ?_
      rintro e w5 ⟨rfl, hw5⟩
      rw [hw5]
      clear hw5 w5
      have HS15 := hid (show ∀ W', Ext w4 W' → (W'.cell? ⟨h, 0, none⟩ = some (.iface 275 (.pointer (some ⟨b, 0, none⟩))) ∧ W'.cell? ⟨w.heap.size, 0, none⟩ = some (.string k) ∧ W'.cell? ⟨w.heap.size, 1, none⟩ = some (.int .i64 0) ∧ W'.cell? ⟨w.heap.size, 2, none⟩ = some (.string x) ∧ W'.cell? ⟨w.heap.size, 3, none⟩ = some (.slice ka kl kc)) from fun W' X => by
        obtain ⟨_, _, _, _, _, _, _, s0, s1, s2, s3⟩ := HS9.out W' (X4.out.trans X)
        exact ⟨(X.kp (fun _ => True)).cell hhc trivial, s0, s1, s2, s3⟩)
      have HS17 := hid (show ∀ W', Ext w4 W' → (W'.cell? ⟨h, 0, none⟩ = some (.iface 275 (.pointer (some ⟨b, 0, none⟩))) ∧ W'.cell? ⟨kb, 1, none⟩ = some (.slice (some ⟨rg, 0, none⟩) rn rcap) ∧ W'.cell? ⟨rg, ix * 6 + 5, none⟩ = some (.slice ra rl rc)) from fun W' X => by
        obtain ⟨q1, _, _, _, _, _, q7, _, _, _, _⟩ := HS9.out W' (X4.out.trans X)
        exact ⟨(X.kp (fun _ => True)).cell hhc trivial, q1, q7⟩)
      have HNC := hid (fun W' X => node_cell h _ W' (HS15.out W' X).1)
      have HMT := hid (fun W' (X : Ext w4 W') => HMAT.out b ma mc qa cq _ _ W' (HNB.out.later X) (row_ext HROW.out X) (row_ext HQ.out (X34.out.trans X)))
      clear hhc
      go_upto_region 15 with fail
      go_cut [74] from 69 to 74 (fun s74 wx => s74 = .bool false ∧ Ext w4 wx)
      case first =>
        go_region_held3 (fun W' => W'.cell? ⟨h, 0, none⟩ = some (.iface 275 (.pointer (some ⟨b, 0, none⟩))) ∧ W'.cell? ⟨w.heap.size, 0, none⟩ = some (.string k) ∧ W'.cell? ⟨w.heap.size, 1, none⟩ = some (.int .i64 0) ∧ W'.cell? ⟨w.heap.size, 2, none⟩ = some (.string x) ∧ W'.cell? ⟨w.heap.size, 3, none⟩ = some (.slice ka kl kc)) (first | with_reducible exact HS15.out _ (Ext.refl _) | with_reducible exact HS15.out _ (Ext.refl _).drew | with_reducible exact HS15.out _ Z1 | go_keep)
          (first
            | (go_at_call 63; refine (HNC.out _ (by repeat (first | with_reducible exact Ext.refl _ | with_reducible refine Ext.drew ?_))).mono ?_; rintro r u1 ⟨rfl, rfl⟩)
            | (go_at_call 68; refine (HMT.out _ (by repeat (first | with_reducible exact Ext.refl _ | with_reducible refine Ext.drew ?_))).mono ?_; rintro r u1 ⟨rfl, hy⟩; have Z1 : Ext w4 u1 := Ext.trans (by repeat (first | with_reducible exact Ext.refl _ | with_reducible refine Ext.drew ?_)) hy))
        all_goals
          go_wp2_with fail
          go_meet
          case rel => exact ⟨rfl, Z1⟩
      case rest =>
        obtain ⟨rfl, hx6⟩ := hcut
        have X6 := hid hx6
        clear hx6
        go_upto_region 17 with fail
        have HS17b := hid (show ∀ W', Ext wc W' → (W'.cell? ⟨h, 0, none⟩ = some (.iface 275 (.pointer (some ⟨b, 0, none⟩))) ∧ W'.cell? ⟨kb, 1, none⟩ = some (.slice (some ⟨rg, 0, none⟩) rn rcap) ∧ W'.cell? ⟨rg, ix * 6 + 5, none⟩ = some (.slice ra rl rc)) from fun W' X => HS17.out W' (X6.out.trans X))
        have HNC2 := hid (fun W' (X : Ext wc W') => HNC.out W' (X6.out.trans X))
        have HOD2 := hid (fun W' (X : Ext wc W') => HODD.out (.pointer (some ⟨b, 0, none⟩)) W' (XM.out.trans (X4.out.trans (X6.out.trans X))))
        go_cut [13, 14] from 76 to 89 (fun s13 s14 wx => s13 = .string ⟨#[]⟩ ∧ s14 = .bool false ∧ Ext wc wx)
        case first =>
          go_region_held3 (fun W' => W'.cell? ⟨h, 0, none⟩ = some (.iface 275 (.pointer (some ⟨b, 0, none⟩))) ∧ W'.cell? ⟨kb, 1, none⟩ = some (.slice (some ⟨rg, 0, none⟩) rn rcap) ∧ W'.cell? ⟨rg, ix * 6 + 5, none⟩ = some (.slice ra rl rc)) (first | with_reducible exact HS17b.out _ (Ext.refl _) | with_reducible exact HS17b.out _ (Ext.refl _).drew | with_reducible exact HS17b.out _ Z1 | go_keep)
            (first
              | (go_at_call 63; refine (HNC2.out _ (by repeat (first | with_reducible exact Ext.refl _ | with_reducible refine Ext.drew ?_))).mono ?_; rintro r u1 ⟨rfl, rfl⟩)
              | (go_at_call 69; refine (HOD2.out _ (by repeat (first | with_reducible exact Ext.refl _ | with_reducible refine Ext.drew ?_))).mono ?_; rintro r u1 ⟨rfl, hy⟩; have Z1 : Ext wc u1 := Ext.trans (by repeat (first | with_reducible exact Ext.refl _ | with_reducible refine Ext.drew ?_)) hy))
          all_goals
            go_wp2_with fail
            go_meet
            case rel => exact ⟨rfl, rfl, Z1⟩
        case rest =>
          obtain ⟨rfl, rfl, hx8⟩ := hcut
          have X8 := hid (X6.out.trans hx8)
          clear hx8
          go_wp2_with fail
          go_ret2
          exact ⟨h, rfl, HMN.out.later X8.out, XM.out.trans (X4.out.trans X8.out)⟩

end Go.Proofs.YtnmcmjgfnncdmaaGreatDoor.Nd
/-
  made of the statements: a node of a kit over some truths; by contracts.
-/
namespace Go.Proofs.YtnmcmjgfnncdmaaGreatDoor.Nd
open Go.RowKit
/-- The handles that were made so far. -/
def KidsLp (w : World) (j : Nat) (q : Value) (wr : World) : Prop := ∃ hs bs : List Nat, hs.length = j ∧ bs.length = j ∧ wr.ownsRow w.heap.size 70 1 q j (hs.map fun h => .pointer (some ⟨h, 0, none⟩)) ∧ (∀ i, (h1 : i < hs.length) → (h2 : i < bs.length) → HandAt wr hs[i] (.iface 388 (.pointer (some ⟨bs[i], 0, none⟩))) (.iface 388 (.pointer (some ⟨bs[i], 0, none⟩)))) ∧ Ext w wr
theorem KidsLp.slice {w wr : World} {j : Nat} {q : Value} (h : KidsLp w j q wr) : ∃ a c, q = .slice a j c := by
  obtain ⟨hs, bs, _, _, ho, _⟩ := h
  exact ownsRow_slice ho
theorem KidsLp.hands {w wr : World} {j c : Nat} {a : Option Addr} (h : KidsLp w j (.slice a j c) wr) : ∃ bs : Nat → Nat, HandsP wr a j c (fun _ => 388) (fun i => .pointer (some ⟨bs i, 0, none⟩)) := by
  obtain ⟨hs, bs, h1, h2, ho, hc, hx⟩ := h
  refine ⟨fun i => bs.getD i 0, ?_⟩
  rcases ho.2 with ⟨hv, h0⟩ | ⟨gg, cap, cur, hv, hbg, hbk, h3, h4, h5, h6⟩
  · injection hv with e1 e2 e3
    exact .inl ⟨e1, h0, e3⟩
  · injection hv with e1 _ _
    subst e1
    refine .inr ⟨gg, 0, rfl, fun i hi => ?_⟩
    have i1 : i < hs.length := by omega
    have i2 : i < bs.length := by omega
    have hb := hc i i1 i2
    have hcur : cur[i]? = some (.pointer (some ⟨hs[i], 0, none⟩)) := by
      have e : (hs.map fun h => Value.pointer (some ⟨h, 0, none⟩))[i]? = some (.pointer (some ⟨hs[i], 0, none⟩)) := by
        rw [List.getElem?_map, List.getElem?_eq_getElem i1]; rfl
      rw [← h6, List.getElem?_take_of_lt (by omega)] at e
      simpa using e
    refine ⟨hs[i], by rw [Nat.zero_add]; exact cell_of hbk hcur, ?_, lt_of_block hbk, lt_of_block hb⟩
    show wr.cell? ⟨hs[i], 0, none⟩ = some (Value.iface 388 (.pointer (some ⟨bs.getD i 0, 0, none⟩)))
    rw [List.getD_eq_getElem?_getD, List.getElem?_eq_getElem i2]
    exact cell_of hb rfl
set_option maxRecDepth 100000 in
set_option maxHeartbeats 4000000 in
theorem lawMadeC (τ : TypeId) (kb : Nat) (k x : ByteArray) (n : Nat) (w : World) (hn : n ≤ 1000)
    (hmk : ∀ w1 a c bs, Ext w w1 → HandsP w1 a n c (fun _ => 388) (fun i => .pointer (some ⟨bs i, 0, none⟩)) → Calls Tryz.prog 29 #[.pointer (some ⟨kb, 0, none⟩), .agg #[.string k, .int .i64 0, .string x, .slice none 0 0], .slice a n c] w1 (MakeR w1 τ k x n bs)) :
    Calls Tryz.prog 28 #[.pointer (some ⟨kb, 0, none⟩), .agg #[.string k, .int .i64 0, .string x, .slice none 0 0], .int .i64 n] w fun e w' => ∃ b a c, e = .returned (.iface τ (.pointer (some ⟨b, 0, none⟩))) ∧ NodeB w' b k 0 x (.slice a n c) ∧ Ext w w' := by
  obtain ⟨i0, hi0, hz0, hz1, hz2⟩ := info_parts hpInfo
  have HMK := hid hmk
  have hn' : (n : Int) ≤ 1000 := by omega
  clear hmk
  obtain ⟨M, hM⟩ : ∃ M, w.alloc (.cells #[.string k, .int .i64 0, .string x, .slice none 0 0] 69) = M := ⟨_, rfl⟩
  have XM := hid (show Ext w M from hM ▸ Ext.alloc _ _)
  have HM0 := hid (show M.heap[w.heap.size]? = some (.cells #[.string k, .int .i64 0, .string x, .slice none 0 0] 69) from hM ▸ blk0 _ _)
  go_enter Tryz.func28, Tryz.ntmps28
  go_wp2_with fail
  first | rw [hM] | skip
  clear hM
  go_loopw [7, 8] (fun q7 q8 wr => ∃ j : Nat, j ≤ n ∧ q8 = .int .i64 j ∧ KidsLp M j q7 wr) (fun _ q8 _ => n - (intOf q8).toNat)
  case atStart => exact ⟨0, Nat.zero_le _, rfl, ⟨[], [], rfl, rfl, World.ownsRow_nil _ _ _ _, fun i h => absurd h (Nat.not_lt_zero _), Ext.refl _⟩⟩
  case round =>
    obtain ⟨j, hj, rfl, hk⟩ := hrel
    obtain ⟨a3, c3, rfl⟩ := hk.slice
    have HK := hid hk
    clear hk
    by_cases hlt : j < n
    · have hlt' : (j : Int) < n := by omega
      go_wp2_with fail
      refine (make_yes _).mono ?_
      rintro e w2 ⟨b, h, rfl, hb, hh, hhd, hlit, hx2⟩
      have HHD := hid hhd
      have X2 := hid hx2
      have HHL := hid hh
      clear hb hh hhd hlit hx2
      obtain ⟨hs, bs, h1, h2, ho, hc, hx⟩ := HK.out
      have HO2 := hid (row_ext ho (X2.out.trans (Ext.alloc w2 (.cells #[.pointer (some ⟨h, 0, none⟩)] 70))))
      have HN := hid (new_one w2 (.pointer (some ⟨h, 0, none⟩)) 70)
      have HUS := hid (hx.trans X2.out).size
      have HC := hid hc
      have HXX := hid hx
      have HL1 := hid h1
      have HL2 := hid h2
      clear ho hc hx h1 h2
      go_wp2_with (at_builtin; refine wpList_append_own_at _ rfl _ _ 121 rfl M.heap.size 70 i0 (.pointer none) 1 8 Tryz.underlying121 hi0 hz0 hz1 hz2 rfl (by decide) _ _ _ rfl HO2.out ⟨w2.heap.size, 0, none⟩ 1 1 [.pointer (some ⟨h, 0, none⟩)] rfl rfl HN.out (by simp [Value.oneCell']) (by unfold maxLen; omega) (by omega) (by have := HUS.out; simp; omega) ?_; intro v9 w9 hown9 hgrow9 _ _; have HO9 := hid hown9; have HG9 : Hid (World.grownBy (w2.alloc (.cells #[.pointer (some ⟨h, 0, none⟩)] 70)) w9 (Value.slice a3 j c3).ownBlock) := hid hgrow9; clear hown9 hgrow9)
      go_roundw
      case measure => simp [intOf]; omega
      case rel =>
        have hkp := grown_kp HG9.out
        have hcell : ∀ (q : Nat) (u1 u2 : Value), HandAt w2 q u1 u2 → HandAt w9 q u1 u2 := fun q u1 u2 hq => by
          have hq' : (w2.alloc (.cells #[.pointer (some ⟨h, 0, none⟩)] 70)).heap[q]? = some (.cells #[u1, u2] 198) := blkOld _ hq
          refine hkp.block' hq' (fun e => ?_)
          rcases HO2.out.2 with ⟨hv, _⟩ | ⟨gg, cap, cur, hv, _, hbk, _⟩
          · rw [hv] at e; simp [Value.ownBlock] at e
          · rw [hv] at e
            simp [Value.ownBlock] at e
            subst e
            rw [hbk] at hq'
            simp at hq'
        refine ⟨j + 1, by omega, by go_num, ⟨hs ++ [h], bs ++ [b], by simp [HL1.out], by simp [HL2.out], by rw [List.map_append]; exact HO9.out, fun i h1 h2 => ?_, ((HXX.out.trans X2.out).more _).grown HG9.out (by have := HUS.out; simp; omega) (fun k hk => (HO2.out.lt k hk).1)⟩⟩
        by_cases hi : i < hs.length
        · have hi2 : i < bs.length := by rw [HL2.out, ← HL1.out]; exact hi
          rw [List.getElem_append_left hi, List.getElem_append_left hi2]
          exact hcell _ _ _ (X2.out.block (HC.out i hi hi2))
        · have hie : i = hs.length := by simp at h1; omega
          subst hie
          have hbe : bs.length = hs.length := by rw [HL2.out, HL1.out]
          simp only [List.getElem_append_right (Nat.le_refl _), Nat.sub_self, List.getElem_cons_zero]
          rw [List.getElem_append_right (by omega)]
          simp only [hbe, Nat.sub_self, List.getElem_cons_zero]
          exact hcell _ _ _ HHD.out
    · obtain rfl : j = n := by omega
      obtain ⟨bs, hP⟩ := HK.out.hands
      obtain ⟨_, _, _, _, _, _, hx⟩ := HK.out
      have HXX := hid hx
      have HMR := hid (HMK.out _ a3 c3 bs (XM.out.trans hx) hP)
      obtain ⟨t0, t1, t2, t3⟩ := four_of (hx.block HM0.out)
      have hwl := lt_of_cell t0
      have hlt3 : ¬ (j : Int) < j := by omega
      clear hx hP
      go_wp2_with fail
      refine HMR.out.mono ?_
      rintro e w4 ⟨h, rfl, ⟨b, ma, mc, hhd, hnb, hrow, _, _⟩, hx4⟩
      have HNB := hid hnb
      have X4 := hid (XM.out.trans (HXX.out.trans hx4))
      have hhc : w4.cell? ⟨h, 0, none⟩ = some (.iface τ (.pointer (some ⟨b, 0, none⟩))) := cell_of hhd rfl
      clear hnb hhd hrow hx4
      go_wp2_with fail
      refine (node_cell h _ _ hhc).mono ?_
      rintro e w5 ⟨rfl, hw5⟩
      rw [hw5]
      clear hw5 w5
      go_wp2_with fail
      go_ret
      exact ⟨b, ma, mc, rfl, HNB.out, X4.out⟩
set_option maxRecDepth 100000 in
set_option maxHeartbeats 4000000 in
theorem lawMadeT (τ : TypeId) (kb : Nat) (k x : ByteArray) (n : Nat) (w : World) (hn : n ≤ 1000)
    (hmk : ∀ w1 a c bs, Ext w w1 → HandsP w1 a n c (fun _ => 388) (fun i => .pointer (some ⟨bs i, 0, none⟩)) → Calls Tryz.prog 29 #[.pointer (some ⟨kb, 0, none⟩), .agg #[.string k, .int .i64 0, .string x, .slice none 0 0], .slice a n c] w1 (MakeR w1 τ k x n bs)) :
    Calls Tryz.prog 34 #[.pointer (some ⟨kb, 0, none⟩), .agg #[.string k, .int .i64 0, .string x, .slice none 0 0], .int .i64 n] w fun e w' => ∃ b a c, e = .returned (.iface τ (.pointer (some ⟨b, 0, none⟩))) ∧ NodeB w' b k 0 x (.slice a n c) ∧ Ext w w' := by
  obtain ⟨i0, hi0, hz0, hz1, hz2⟩ := info_parts hpInfo
  have HMK := hid hmk
  have hn' : (n : Int) ≤ 1000 := by omega
  clear hmk
  obtain ⟨M, hM⟩ : ∃ M, w.alloc (.cells #[.string k, .int .i64 0, .string x, .slice none 0 0] 69) = M := ⟨_, rfl⟩
  have XM := hid (show Ext w M from hM ▸ Ext.alloc _ _)
  have HM0 := hid (show M.heap[w.heap.size]? = some (.cells #[.string k, .int .i64 0, .string x, .slice none 0 0] 69) from hM ▸ blk0 _ _)
  go_enter Tryz.func34, Tryz.ntmps34
  go_wp2_with fail
  first | rw [hM] | skip
  clear hM
  go_loopw [7, 8] (fun q7 q8 wr => ∃ j : Nat, j ≤ n ∧ q8 = .int .i64 j ∧ KidsLp M j q7 wr) (fun _ q8 _ => n - (intOf q8).toNat)
  case atStart => exact ⟨0, Nat.zero_le _, rfl, ⟨[], [], rfl, rfl, World.ownsRow_nil _ _ _ _, fun i h => absurd h (Nat.not_lt_zero _), Ext.refl _⟩⟩
  case round =>
    obtain ⟨j, hj, rfl, hk⟩ := hrel
    obtain ⟨a3, c3, rfl⟩ := hk.slice
    have HK := hid hk
    clear hk
    by_cases hlt : j < n
    · have hlt' : (j : Int) < n := by omega
      go_wp2_with fail
      refine (make_yes _).mono ?_
      rintro e w2 ⟨b, h, rfl, hb, hh, hhd, hlit, hx2⟩
      have HHD := hid hhd
      have X2 := hid hx2
      have HHL := hid hh
      clear hb hh hhd hlit hx2
      obtain ⟨hs, bs, h1, h2, ho, hc, hx⟩ := HK.out
      have HO2 := hid (row_ext ho (X2.out.trans (Ext.alloc w2 (.cells #[.pointer (some ⟨h, 0, none⟩)] 70))))
      have HN := hid (new_one w2 (.pointer (some ⟨h, 0, none⟩)) 70)
      have HUS := hid (hx.trans X2.out).size
      have HC := hid hc
      have HXX := hid hx
      have HL1 := hid h1
      have HL2 := hid h2
      clear ho hc hx h1 h2
      go_wp2_with (at_builtin; refine wpList_append_own_at _ rfl _ _ 121 rfl M.heap.size 70 i0 (.pointer none) 1 8 Tryz.underlying121 hi0 hz0 hz1 hz2 rfl (by decide) _ _ _ rfl HO2.out ⟨w2.heap.size, 0, none⟩ 1 1 [.pointer (some ⟨h, 0, none⟩)] rfl rfl HN.out (by simp [Value.oneCell']) (by unfold maxLen; omega) (by omega) (by have := HUS.out; simp; omega) ?_; intro v9 w9 hown9 hgrow9 _ _; have HO9 := hid hown9; have HG9 : Hid (World.grownBy (w2.alloc (.cells #[.pointer (some ⟨h, 0, none⟩)] 70)) w9 (Value.slice a3 j c3).ownBlock) := hid hgrow9; clear hown9 hgrow9)
      go_roundw
      case measure => simp [intOf]; omega
      case rel =>
        have hkp := grown_kp HG9.out
        have hcell : ∀ (q : Nat) (u1 u2 : Value), HandAt w2 q u1 u2 → HandAt w9 q u1 u2 := fun q u1 u2 hq => by
          have hq' : (w2.alloc (.cells #[.pointer (some ⟨h, 0, none⟩)] 70)).heap[q]? = some (.cells #[u1, u2] 198) := blkOld _ hq
          refine hkp.block' hq' (fun e => ?_)
          rcases HO2.out.2 with ⟨hv, _⟩ | ⟨gg, cap, cur, hv, _, hbk, _⟩
          · rw [hv] at e; simp [Value.ownBlock] at e
          · rw [hv] at e
            simp [Value.ownBlock] at e
            subst e
            rw [hbk] at hq'
            simp at hq'
        refine ⟨j + 1, by omega, by go_num, ⟨hs ++ [h], bs ++ [b], by simp [HL1.out], by simp [HL2.out], by rw [List.map_append]; exact HO9.out, fun i h1 h2 => ?_, ((HXX.out.trans X2.out).more _).grown HG9.out (by have := HUS.out; simp; omega) (fun k hk => (HO2.out.lt k hk).1)⟩⟩
        by_cases hi : i < hs.length
        · have hi2 : i < bs.length := by rw [HL2.out, ← HL1.out]; exact hi
          rw [List.getElem_append_left hi, List.getElem_append_left hi2]
          exact hcell _ _ _ (X2.out.block (HC.out i hi hi2))
        · have hie : i = hs.length := by simp at h1; omega
          subst hie
          have hbe : bs.length = hs.length := by rw [HL2.out, HL1.out]
          simp only [List.getElem_append_right (Nat.le_refl _), Nat.sub_self, List.getElem_cons_zero]
          rw [List.getElem_append_right (by omega)]
          simp only [hbe, Nat.sub_self, List.getElem_cons_zero]
          exact hcell _ _ _ HHD.out
    · obtain rfl : j = n := by omega
      obtain ⟨bs, hP⟩ := HK.out.hands
      obtain ⟨_, _, _, _, _, _, hx⟩ := HK.out
      have HXX := hid hx
      have HMR := hid (HMK.out _ a3 c3 bs (XM.out.trans hx) hP)
      obtain ⟨t0, t1, t2, t3⟩ := four_of (hx.block HM0.out)
      have hwl := lt_of_cell t0
      have hlt3 : ¬ (j : Int) < j := by omega
      clear hx hP
      go_wp2_with fail
      refine HMR.out.mono ?_
      rintro e w4 ⟨h, rfl, ⟨b, ma, mc, hhd, hnb, hrow, _, _⟩, hx4⟩
      have HNB := hid hnb
      have X4 := hid (XM.out.trans (HXX.out.trans hx4))
      have hhc : w4.cell? ⟨h, 0, none⟩ = some (.iface τ (.pointer (some ⟨b, 0, none⟩))) := cell_of hhd rfl
      clear hnb hhd hrow hx4
      go_wp2_with fail
      refine (node_cell h _ _ hhc).mono ?_
      rintro e w5 ⟨rfl, hw5⟩
      rw [hw5]
      clear hw5 w5
      go_wp2_with fail
      go_ret
      exact ⟨b, ma, mc, rfl, HNB.out, X4.out⟩
set_option maxRecDepth 100000 in
set_option maxHeartbeats 4000000 in
theorem lawMadeL (τ : TypeId) (kb : Nat) (k x : ByteArray) (n : Nat) (w : World) (hn : n ≤ 1000)
    (hmk : ∀ w1 a c bs, Ext w w1 → HandsP w1 a n c (fun _ => 388) (fun i => .pointer (some ⟨bs i, 0, none⟩)) → Calls Tryz.prog 29 #[.pointer (some ⟨kb, 0, none⟩), .agg #[.string k, .int .i64 0, .string x, .slice none 0 0], .slice a n c] w1 (MakeR w1 τ k x n bs)) :
    Calls Tryz.prog 55 #[.pointer (some ⟨kb, 0, none⟩), .agg #[.string k, .int .i64 0, .string x, .slice none 0 0], .int .i64 n] w fun e w' => ∃ b a c, e = .returned (.iface τ (.pointer (some ⟨b, 0, none⟩))) ∧ NodeB w' b k 0 x (.slice a n c) ∧ Ext w w' := by
  obtain ⟨i0, hi0, hz0, hz1, hz2⟩ := info_parts hpInfo
  have HMK := hid hmk
  have hn' : (n : Int) ≤ 1000 := by omega
  clear hmk
  obtain ⟨M, hM⟩ : ∃ M, w.alloc (.cells #[.string k, .int .i64 0, .string x, .slice none 0 0] 69) = M := ⟨_, rfl⟩
  have XM := hid (show Ext w M from hM ▸ Ext.alloc _ _)
  have HM0 := hid (show M.heap[w.heap.size]? = some (.cells #[.string k, .int .i64 0, .string x, .slice none 0 0] 69) from hM ▸ blk0 _ _)
  go_enter Tryz.func55, Tryz.ntmps55
  go_wp2_with fail
  first | rw [hM] | skip
  clear hM
  go_loopw [7, 8] (fun q7 q8 wr => ∃ j : Nat, j ≤ n ∧ q8 = .int .i64 j ∧ KidsLp M j q7 wr) (fun _ q8 _ => n - (intOf q8).toNat)
  case atStart => exact ⟨0, Nat.zero_le _, rfl, ⟨[], [], rfl, rfl, World.ownsRow_nil _ _ _ _, fun i h => absurd h (Nat.not_lt_zero _), Ext.refl _⟩⟩
  case round =>
    obtain ⟨j, hj, rfl, hk⟩ := hrel
    obtain ⟨a3, c3, rfl⟩ := hk.slice
    have HK := hid hk
    clear hk
    by_cases hlt : j < n
    · have hlt' : (j : Int) < n := by omega
      go_wp2_with fail
      refine (make_yes _).mono ?_
      rintro e w2 ⟨b, h, rfl, hb, hh, hhd, hlit, hx2⟩
      have HHD := hid hhd
      have X2 := hid hx2
      have HHL := hid hh
      clear hb hh hhd hlit hx2
      obtain ⟨hs, bs, h1, h2, ho, hc, hx⟩ := HK.out
      have HO2 := hid (row_ext ho (X2.out.trans (Ext.alloc w2 (.cells #[.pointer (some ⟨h, 0, none⟩)] 70))))
      have HN := hid (new_one w2 (.pointer (some ⟨h, 0, none⟩)) 70)
      have HUS := hid (hx.trans X2.out).size
      have HC := hid hc
      have HXX := hid hx
      have HL1 := hid h1
      have HL2 := hid h2
      clear ho hc hx h1 h2
      go_wp2_with (at_builtin; refine wpList_append_own_at _ rfl _ _ 121 rfl M.heap.size 70 i0 (.pointer none) 1 8 Tryz.underlying121 hi0 hz0 hz1 hz2 rfl (by decide) _ _ _ rfl HO2.out ⟨w2.heap.size, 0, none⟩ 1 1 [.pointer (some ⟨h, 0, none⟩)] rfl rfl HN.out (by simp [Value.oneCell']) (by unfold maxLen; omega) (by omega) (by have := HUS.out; simp; omega) ?_; intro v9 w9 hown9 hgrow9 _ _; have HO9 := hid hown9; have HG9 : Hid (World.grownBy (w2.alloc (.cells #[.pointer (some ⟨h, 0, none⟩)] 70)) w9 (Value.slice a3 j c3).ownBlock) := hid hgrow9; clear hown9 hgrow9)
      go_roundw
      case measure => simp [intOf]; omega
      case rel =>
        have hkp := grown_kp HG9.out
        have hcell : ∀ (q : Nat) (u1 u2 : Value), HandAt w2 q u1 u2 → HandAt w9 q u1 u2 := fun q u1 u2 hq => by
          have hq' : (w2.alloc (.cells #[.pointer (some ⟨h, 0, none⟩)] 70)).heap[q]? = some (.cells #[u1, u2] 198) := blkOld _ hq
          refine hkp.block' hq' (fun e => ?_)
          rcases HO2.out.2 with ⟨hv, _⟩ | ⟨gg, cap, cur, hv, _, hbk, _⟩
          · rw [hv] at e; simp [Value.ownBlock] at e
          · rw [hv] at e
            simp [Value.ownBlock] at e
            subst e
            rw [hbk] at hq'
            simp at hq'
        refine ⟨j + 1, by omega, by go_num, ⟨hs ++ [h], bs ++ [b], by simp [HL1.out], by simp [HL2.out], by rw [List.map_append]; exact HO9.out, fun i h1 h2 => ?_, ((HXX.out.trans X2.out).more _).grown HG9.out (by have := HUS.out; simp; omega) (fun k hk => (HO2.out.lt k hk).1)⟩⟩
        by_cases hi : i < hs.length
        · have hi2 : i < bs.length := by rw [HL2.out, ← HL1.out]; exact hi
          rw [List.getElem_append_left hi, List.getElem_append_left hi2]
          exact hcell _ _ _ (X2.out.block (HC.out i hi hi2))
        · have hie : i = hs.length := by simp at h1; omega
          subst hie
          have hbe : bs.length = hs.length := by rw [HL2.out, HL1.out]
          simp only [List.getElem_append_right (Nat.le_refl _), Nat.sub_self, List.getElem_cons_zero]
          rw [List.getElem_append_right (by omega)]
          simp only [hbe, Nat.sub_self, List.getElem_cons_zero]
          exact hcell _ _ _ HHD.out
    · obtain rfl : j = n := by omega
      obtain ⟨bs, hP⟩ := HK.out.hands
      obtain ⟨_, _, _, _, _, _, hx⟩ := HK.out
      have HXX := hid hx
      have HMR := hid (HMK.out _ a3 c3 bs (XM.out.trans hx) hP)
      obtain ⟨t0, t1, t2, t3⟩ := four_of (hx.block HM0.out)
      have hwl := lt_of_cell t0
      have hlt3 : ¬ (j : Int) < j := by omega
      clear hx hP
      go_wp2_with fail
      refine HMR.out.mono ?_
      rintro e w4 ⟨h, rfl, ⟨b, ma, mc, hhd, hnb, hrow, _, _⟩, hx4⟩
      have HNB := hid hnb
      have X4 := hid (XM.out.trans (HXX.out.trans hx4))
      have hhc : w4.cell? ⟨h, 0, none⟩ = some (.iface τ (.pointer (some ⟨b, 0, none⟩))) := cell_of hhd rfl
      clear hnb hhd hrow hx4
      go_wp2_with fail
      refine (node_cell h _ _ hhc).mono ?_
      rintro e w5 ⟨rfl, hw5⟩
      rw [hw5]
      clear hw5 w5
      go_wp2_with fail
      go_ret
      exact ⟨b, ma, mc, rfl, HNB.out, X4.out⟩

end Go.Proofs.YtnmcmjgfnncdmaaGreatDoor.Nd
