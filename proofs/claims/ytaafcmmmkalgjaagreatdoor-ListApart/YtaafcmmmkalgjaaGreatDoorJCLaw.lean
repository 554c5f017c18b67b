/-
  (*Kit).Make of any kit whose maker gives a node: it is told where it is what was asked; by contracts.
-/
import Derived.Test.YtaafcmmmkalgjaaGreatDoorJKMake
import Derived.Test.YtaafcmmmkalgjaaGreatDoorJCKit1
import Derived.Test.YtaafcmmmkalgjaaGreatDoorBFind
import Derived.Test.YtaafcmmmkalgjaaGreatDoorEqs
import Derived.Test.YtaafcmmmkalgjaaGreatDoorNMath
namespace Go.Proofs.YtaafcmmmkalgjaaGreatDoor.Nd
open Go.RowKit
/-- A handle that holds the node. -/
def GotR (w : World) (Q : Nat → Value → World → Prop) (e : Ending) (w' : World) : Prop := ∃ q v, e = .returned (.tuple #[.pointer (some ⟨q, 0, none⟩), .nilIface]) ∧ Q q v w' ∧ Ext w w'
set_option maxRecDepth 100000 in
set_option maxHeartbeats 8000000 in
theorem kmake_yes {base kb mb : Nat} {nme : ByteArray} {lv : Value} {acc : List Rw} (mf : Nat) (mc : Array Value) (k x : ByteArray) (n : Int) (ao ka : Option Addr) (kl kc nk c : Nat) (bs : Nat → Nat) (w : World) (hkm : KitM w base kb mb nme (.func (.func mf) #[] mc) lv acc) (hks : k.size ≤ 140737488351232) (hxs : x.size ≤ 140737488351232) (ix : Nat) (hix : kIx acc k = some ix) (hil : ix < acc.length) (hn : nk ≤ 100000) (hh : HandsO w ao nk (fun _ => 226) (fun i => .pointer (some ⟨bs i, 0, none⟩))) (hfq : fitsR acc[ix] k n x nk = 0) (τ : TypeId) (hs : Nat → Bool) (hof : OfQ τ hs) (hodd : oddF hs acc[ix].abs = none) (hal : acc[ix].abs.length ≤ 1000) (Q : Nat → Value → World → Prop) (hql : ∀ q v w1 w2, Q q v w1 → Ext w1 w2 → Q q v w2)
    (HM0 : ∀ w1, Ext w w1 → Calls Tryz.prog 68 #[.pointer (some ⟨kb, 0, none⟩), .agg #[.string k, .int .i64 n, .string x, .slice ka kl kc], .slice ao nk c] w1 fun e w' => ∃ h, e = .returned (.pointer h) ∧ (∃ q v, h = some ⟨q, 0, none⟩ ∧ w'.cell? ⟨q, 0, none⟩ = some (.iface τ v) ∧ Q q v w') ∧ Ext w1 w')
    (HT0 : ∀ q v w1 qa cq B, Q q v w1 → w1.ownsRow B 50 1 (.slice qa nk cq) nk ((List.range nk).map fun i => .iface 226 (.pointer (some ⟨bs i, 0, none⟩))) → Calls Tryz.prog 69 #[.iface τ v, .agg #[.string k, .int .i64 n, .string x, .slice ka kl kc], .slice qa nk cq] w1 fun e w' => e = .returned (.bool true) ∧ Ext w1 w') :
    Calls Tryz.prog 32 #[.pointer (some ⟨kb, 0, none⟩), .agg #[.string k, .int .i64 n, .string x, .slice ka kl kc], .slice ao nk c] w (GotR w Q) := by
  have HMADE := hid HM0
  have HMAT := hid HT0
  have HQL := hid hql
  clear HM0 HT0 hql
  obtain ⟨rg, rcap, ra, rc, hlv, ⟨p0, p1, p2, p3, p4, p5⟩, htb⟩ := hkm.rows.read ix hil
  subst hlv
  have hnk : (nk : Int) ≤ 100000 := by omega
  have hil' : (ix : Int) < acc.length := by omega
  have HLOOK := hid (show ∀ w1, Ext w w1 → (Instr.lookup 130 (.map (some mb)) (.string k) true).run Tryz.prog w1 = .ok (.tuple #[.int .i64 (ix : Int), .bool true]) w1 from fun w1 hx => by
    have := (hkm.map.later hx).look k hks
    rw [hix] at this
    exact this)
  obtain ⟨k0, k1', k2, k3⟩ := hkm.four
  have hMKNE : ∀ (w : World), (binOp .eql 131 (.func (.func mf) #[] mc) .nilFunc).run Tryz.prog w = .ok (.bool false) w := fun _ => by kernel_rfl
  obtain ⟨M, hM⟩ : ∃ M, w.alloc (.cells #[.string k, .int .i64 n, .string x, .slice ka kl kc] 54) = M := ⟨_, rfl⟩
  have XM := hid (show Ext w M from hM ▸ Ext.alloc _ _)
  have HM0 := hid (show M.heap[w.heap.size]? = some (.cells #[.string k, .int .i64 n, .string x, .slice ka kl kc] 54) from hM ▸ blk0 _ _)
  have hkbl := lt_of_cell k0
  have HNO := hid (fun w1 (hx : Ext w w1) => knodesOf_any ao nk c (fun _ => 226) (fun i => .pointer (some ⟨bs i, 0, none⟩)) w1 hn (hh.later hx))
  have HFIT := hid (fun w1 => rfits_any acc[ix] ra rc k x n ka kl kc nk w1 (by omega) (by omega))
  rw [hfq] at HFIT
  have HODD := hid (fun v w1 (hx : Ext w w1) => odd_gen τ hs hof ra rc acc[ix].abs v w1 hal (htb.row.later hx))
  rw [hodd] at HODD
  have HOV := hid (show oddV none = .tuple #[.string ⟨#[]⟩, .bool false] from rfl)
  rw [HOV.out] at HODD
  clear HOV hof hodd hal
  have HS3 := hid (show ∀ W', Ext M W' → (W'.cell? ⟨kb, 2, none⟩ = some (.map (some mb)) ∧ W'.cell? ⟨w.heap.size, 0, none⟩ = some (.string k) ∧ (Instr.lookup 130 (.map (some mb)) (.string k) true).run Tryz.prog W' = .ok (.tuple #[.int .i64 (ix : Int), .bool true]) W') from fun W' X => by
    obtain ⟨s0, s1, s2, s3⟩ := four_of (X.block HM0.out)
    exact ⟨((XM.out.trans X).kp (fun _ => True)).cell k2 trivial, s0, HLOOK.out _ (XM.out.trans X)⟩)
  have k3M : M.cell? ⟨kb, 3, none⟩ = some (.func (.func mf) #[] mc) := (XM.out.kp (fun _ => True)).cell k3 trivial
  clear hkm hn hh hix hfq htb hks hxs
  unfold Rw.val at HFIT
  generalize acc[ix].kind = rk at *
  generalize acc[ix].min = rmin at *
  generalize acc[ix].max = rmax at *
  generalize acc[ix].num = rnum at *
  generalize acc[ix].text = rtx at *
  generalize acc[ix].abs.length = rl at *
  generalize acc.length = rn at *
  have HS9 := hid (show ∀ W', Ext M W' → (W'.cell? ⟨kb, 1, none⟩ = some (.slice (some ⟨rg, 0, none⟩) rn rcap) ∧ W'.cell? ⟨rg, ix * 6, none⟩ = some (.string rk) ∧ W'.cell? ⟨rg, ix * 6 + 1, none⟩ = some (.int .i64 rmin) ∧ W'.cell? ⟨rg, ix * 6 + 2, none⟩ = some (.int .i64 rmax) ∧ W'.cell? ⟨rg, ix * 6 + 3, none⟩ = some (.bool rnum) ∧ W'.cell? ⟨rg, ix * 6 + 4, none⟩ = some (.int .i64 rtx) ∧ W'.cell? ⟨rg, ix * 6 + 5, none⟩ = some (.slice ra rl rc) ∧ W'.cell? ⟨w.heap.size, 0, none⟩ = some (.string k) ∧ W'.cell? ⟨w.heap.size, 1, none⟩ = some (.int .i64 n) ∧ W'.cell? ⟨w.heap.size, 2, none⟩ = some (.string x) ∧ W'.cell? ⟨w.heap.size, 3, none⟩ = some (.slice ka kl kc)) from fun W' X => by
    obtain ⟨s0, s1, s2, s3⟩ := four_of (X.block HM0.out)
    have Y : ∀ {q : Addr} {v : Value}, w.cell? q = some v → W'.cell? q = some v := fun e => ((XM.out.trans X).kp (fun _ => True)).cell e trivial
    exact ⟨Y k1', Y p0, Y p1, Y p2, Y p3, Y p4, Y p5, s0, s1, s2, s3⟩)
  clear k0 k1' k2 k3 p0 p1 p2 p3 p4 p5
  go_enter Tryz.func32, Tryz.ntmps32
  go_upto_region 3 with fail
  first | rw [hM] | skip
  clear hM k3M
  go_cut [8, 9] from 25 to 34 (fun s8 s9 wx => s8 = .int .i64 (ix : Int) ∧ s9 = .bool true ∧ Ext M wx)
  case first =>
    go_region_held3 (fun W' => W'.cell? ⟨kb, 2, none⟩ = some (.map (some mb)) ∧ W'.cell? ⟨w.heap.size, 0, none⟩ = some (.string k) ∧ (Instr.lookup 130 (.map (some mb)) (.string k) true).run Tryz.prog W' = .ok (.tuple #[.int .i64 (ix : Int), .bool true]) W') (first | with_reducible exact HS3.out _ (Ext.refl _) | with_reducible exact HS3.out _ (Ext.refl _).drew | with_reducible exact HS3.out _ Z1 | go_keep) (first | fail)
    all_goals
      go_wp2_with fail
      go_meet
      case rel => exact ⟨rfl, rfl, (by repeat (first | with_reducible exact Ext.refl _ | with_reducible refine Ext.drew ?_))⟩
  case rest =>
    obtain ⟨rfl, rfl, hx1⟩ := hcut
    have X1 := hid hx1
    clear hx1
    go_wp2_with fail
    refine (HNO.out _ (XM.out.trans X1.out)).mono ?_
    rintro e w2 ⟨q, rfl, hq, hx2⟩
    obtain ⟨qa, cq, rfl⟩ := ownsRow_slice hq
    have HQ := hid hq
    have X2 := hid (X1.out.trans hx2)
    clear hq hx2
    go_upto_region 9 with fail
    have HS9b := hid (show ∀ W', Ext w2 W' → (W'.cell? ⟨kb, 1, none⟩ = some (.slice (some ⟨rg, 0, none⟩) rn rcap) ∧ W'.cell? ⟨rg, ix * 6, none⟩ = some (.string rk) ∧ W'.cell? ⟨rg, ix * 6 + 1, none⟩ = some (.int .i64 rmin) ∧ W'.cell? ⟨rg, ix * 6 + 2, none⟩ = some (.int .i64 rmax) ∧ W'.cell? ⟨rg, ix * 6 + 3, none⟩ = some (.bool rnum) ∧ W'.cell? ⟨rg, ix * 6 + 4, none⟩ = some (.int .i64 rtx) ∧ W'.cell? ⟨rg, ix * 6 + 5, none⟩ = some (.slice ra rl rc) ∧ W'.cell? ⟨w.heap.size, 0, none⟩ = some (.string k) ∧ W'.cell? ⟨w.heap.size, 1, none⟩ = some (.int .i64 n) ∧ W'.cell? ⟨w.heap.size, 2, none⟩ = some (.string x) ∧ W'.cell? ⟨w.heap.size, 3, none⟩ = some (.slice ka kl kc)) from fun W' X => HS9.out W' (X2.out.trans X))
    go_cut [11] from 46 to 56 (fun s11 wx => s11 = .int .i64 0 ∧ Ext w2 wx)
    case first =>
      go_region_held3 (fun W' => W'.cell? ⟨kb, 1, none⟩ = some (.slice (some ⟨rg, 0, none⟩) rn rcap) ∧ W'.cell? ⟨rg, ix * 6, none⟩ = some (.string rk) ∧ W'.cell? ⟨rg, ix * 6 + 1, none⟩ = some (.int .i64 rmin) ∧ W'.cell? ⟨rg, ix * 6 + 2, none⟩ = some (.int .i64 rmax) ∧ W'.cell? ⟨rg, ix * 6 + 3, none⟩ = some (.bool rnum) ∧ W'.cell? ⟨rg, ix * 6 + 4, none⟩ = some (.int .i64 rtx) ∧ W'.cell? ⟨rg, ix * 6 + 5, none⟩ = some (.slice ra rl rc) ∧ W'.cell? ⟨w.heap.size, 0, none⟩ = some (.string k) ∧ W'.cell? ⟨w.heap.size, 1, none⟩ = some (.int .i64 n) ∧ W'.cell? ⟨w.heap.size, 2, none⟩ = some (.string x) ∧ W'.cell? ⟨w.heap.size, 3, none⟩ = some (.slice ka kl kc)) (first | with_reducible exact HS9b.out _ (Ext.refl _) | with_reducible exact HS9b.out _ (Ext.refl _).drew | with_reducible exact HS9b.out _ Z1 | go_keep)
        (first
          | (go_at_call 67; refine (HFIT.out _).mono ?_; rintro r u1 ⟨rfl, hy⟩; have Z1 : Ext w2 u1 := Ext.trans (by repeat (first | with_reducible exact Ext.refl _ | with_reducible refine Ext.drew ?_)) hy))
      all_goals
        go_wp2_with fail
        go_meet
        case rel => exact ⟨rfl, Z1⟩
    case rest =>
      obtain ⟨rfl, hx3⟩ := hcut
      have X3 := hid (X2.out.trans hx3)
      have X23 := hid hx3
      clear hx3 HS9b
      obtain ⟨_, _, _, _, _, _, _, t0, t1, t2, t3⟩ := HS9.out _ X3.out
      have hwl := lt_of_cell t0
      go_wp2_with fail
      refine (HMADE.out _ (XM.out.trans X3.out)).mono ?_
      rintro e w4 ⟨_, rfl, ⟨h, v, rfl, hhc, hqq⟩, hx4⟩
      have HQQ := hid hqq
      have X4 := hid (X3.out.trans hx4)
      have X34 := hid (X23.out.trans hx4)
      have hneq := node_eq τ v
      clear hx4 hqq t0 t1 t2 t3 hwl
      go_wp2_with fail
      refine (node_cell h _ _ hhc).mono ?_
      rintro e w5 ⟨rfl, hw5⟩
      rw [hw5]
      clear hw5 w5
      have HS15 := hid (show ∀ W', Ext w4 W' → (W'.cell? ⟨h, 0, none⟩ = some (.iface τ v) ∧ W'.cell? ⟨w.heap.size, 0, none⟩ = some (.string k) ∧ W'.cell? ⟨w.heap.size, 1, none⟩ = some (.int .i64 n) ∧ W'.cell? ⟨w.heap.size, 2, none⟩ = some (.string x) ∧ W'.cell? ⟨w.heap.size, 3, none⟩ = some (.slice ka kl kc)) from fun W' X => by
        obtain ⟨_, _, _, _, _, _, _, s0, s1, s2, s3⟩ := HS9.out W' (X4.out.trans X)
        exact ⟨(X.kp (fun _ => True)).cell hhc trivial, s0, s1, s2, s3⟩)
      have HS17 := hid (show ∀ W', Ext w4 W' → (W'.cell? ⟨h, 0, none⟩ = some (.iface τ v) ∧ W'.cell? ⟨kb, 1, none⟩ = some (.slice (some ⟨rg, 0, none⟩) rn rcap) ∧ W'.cell? ⟨rg, ix * 6 + 5, none⟩ = some (.slice ra rl rc)) from fun W' X => by
        obtain ⟨q1, _, _, _, _, _, q7, _, _, _, _⟩ := HS9.out W' (X4.out.trans X)
        exact ⟨(X.kp (fun _ => True)).cell hhc trivial, q1, q7⟩)
      have HNC := hid (fun W' X => node_cell h _ W' (HS15.out W' X).1)
      have HMT := hid (fun W' (X : Ext w4 W') => HMAT.out h v W' qa cq _ (HQL.out _ _ _ _ HQQ.out X) (row_ext HQ.out (X34.out.trans X)))
      clear hhc
      go_upto_region 15 with fail
      go_cut [74] from 69 to 74 (fun s74 wx => s74 = .bool false ∧ Ext w4 wx)
      case first =>
        go_region_held3 (fun W' => W'.cell? ⟨h, 0, none⟩ = some (.iface τ v) ∧ W'.cell? ⟨w.heap.size, 0, none⟩ = some (.string k) ∧ W'.cell? ⟨w.heap.size, 1, none⟩ = some (.int .i64 n) ∧ W'.cell? ⟨w.heap.size, 2, none⟩ = some (.string x) ∧ W'.cell? ⟨w.heap.size, 3, none⟩ = some (.slice ka kl kc)) (first | with_reducible exact HS15.out _ (Ext.refl _) | with_reducible exact HS15.out _ (Ext.refl _).drew | with_reducible exact HS15.out _ Z1 | go_keep)
          (first
            | (go_at_call 33; refine (HNC.out _ (by repeat (first | with_reducible exact Ext.refl _ | with_reducible refine Ext.drew ?_))).mono ?_; rintro r u1 ⟨rfl, rfl⟩)
            | (go_at_call 69; refine (HMT.out _ (by repeat (first | with_reducible exact Ext.refl _ | with_reducible refine Ext.drew ?_))).mono ?_; rintro r u1 ⟨rfl, hy⟩; have Z1 : Ext w4 u1 := Ext.trans (by repeat (first | with_reducible exact Ext.refl _ | with_reducible refine Ext.drew ?_)) hy))
        all_goals
          go_wp2_with fail
          go_meet
          case rel => exact ⟨rfl, Z1⟩
      case rest =>
        obtain ⟨rfl, hx6⟩ := hcut
        have X6 := hid hx6
        clear hx6
        go_upto_region 17 with fail
        have HS17b := hid (show ∀ W', Ext wc W' → (W'.cell? ⟨h, 0, none⟩ = some (.iface τ v) ∧ W'.cell? ⟨kb, 1, none⟩ = some (.slice (some ⟨rg, 0, none⟩) rn rcap) ∧ W'.cell? ⟨rg, ix * 6 + 5, none⟩ = some (.slice ra rl rc)) from fun W' X => HS17.out W' (X6.out.trans X))
        have HNC2 := hid (fun W' (X : Ext wc W') => HNC.out W' (X6.out.trans X))
        have HOD2 := hid (fun W' (X : Ext wc W') => HODD.out v W' (XM.out.trans (X4.out.trans (X6.out.trans X))))
        go_cut [13, 14] from 76 to 89 (fun s13 s14 wx => s13 = .string ⟨#[]⟩ ∧ s14 = .bool false ∧ Ext wc wx)
        case first =>
          go_region_held3 (fun W' => W'.cell? ⟨h, 0, none⟩ = some (.iface τ v) ∧ W'.cell? ⟨kb, 1, none⟩ = some (.slice (some ⟨rg, 0, none⟩) rn rcap) ∧ W'.cell? ⟨rg, ix * 6 + 5, none⟩ = some (.slice ra rl rc)) (first | with_reducible exact HS17b.out _ (Ext.refl _) | with_reducible exact HS17b.out _ (Ext.refl _).drew | with_reducible exact HS17b.out _ Z1 | go_keep)
            (first
              | (go_at_call 33; refine (HNC2.out _ (by repeat (first | with_reducible exact Ext.refl _ | with_reducible refine Ext.drew ?_))).mono ?_; rintro r u1 ⟨rfl, rfl⟩)
              | (go_at_call 70; refine (HOD2.out _ (by repeat (first | with_reducible exact Ext.refl _ | with_reducible refine Ext.drew ?_))).mono ?_; rintro r u1 ⟨rfl, hy⟩; have Z1 : Ext wc u1 := Ext.trans (by repeat (first | with_reducible exact Ext.refl _ | with_reducible refine Ext.drew ?_)) hy))
          all_goals
            go_wp2_with fail
            go_meet
            case rel => exact ⟨rfl, rfl, Z1⟩
        case rest =>
          obtain ⟨rfl, rfl, hx8⟩ := hcut
          have X8 := hid (X6.out.trans hx8)
          clear hx8
          go_wp2_with fail
          go_ret2
          exact ⟨h, v, rfl, HQL.out _ _ _ _ HQQ.out X8.out, XM.out.trans (X4.out.trans X8.out)⟩
set_option maxRecDepth 100000 in
set_option maxHeartbeats 8000000 in
theorem kmake_fit {base kb mb : Nat} {nme : ByteArray} {lv : Value} {acc : List Rw} (mf : Nat) (mc : Array Value) (k x : ByteArray) (n : Int) (ao ka : Option Addr) (kl kc nk c : Nat) (bs : Nat → Nat) (w : World) (hkm : KitM w base kb mb nme (.func (.func mf) #[] mc) lv acc) (hks : k.size ≤ 140737488351232) (hxs : x.size ≤ 140737488351232) (ix : Nat) (hix : kIx acc k = some ix) (hil : ix < acc.length) (hn : nk ≤ 100000) (hh : HandsO w ao nk (fun _ => 226) (fun i => .pointer (some ⟨bs i, 0, none⟩))) (hfq : fitsR acc[ix] k n x nk = 0) (τ : TypeId) (Q : Nat → Value → World → Prop) (hql : ∀ q v w1 w2, Q q v w1 → Ext w1 w2 → Q q v w2)
    (HM0 : ∀ w1, Ext w w1 → Calls Tryz.prog 68 #[.pointer (some ⟨kb, 0, none⟩), .agg #[.string k, .int .i64 n, .string x, .slice ka kl kc], .slice ao nk c] w1 fun e w' => ∃ h, e = .returned (.pointer h) ∧ (∃ q v, h = some ⟨q, 0, none⟩ ∧ w'.cell? ⟨q, 0, none⟩ = some (.iface τ v) ∧ Q q v w') ∧ Ext w1 w')
    (HT0 : ∀ q v w1 qa cq B, Q q v w1 → w1.ownsRow B 50 1 (.slice qa nk cq) nk ((List.range nk).map fun i => .iface 226 (.pointer (some ⟨bs i, 0, none⟩))) → Calls Tryz.prog 69 #[.iface τ v, .agg #[.string k, .int .i64 n, .string x, .slice ka kl kc], .slice qa nk cq] w1 fun e w' => e = .returned (.bool false) ∧ Ext w1 w') :
    Calls Tryz.prog 32 #[.pointer (some ⟨kb, 0, none⟩), .agg #[.string k, .int .i64 n, .string x, .slice ka kl kc], .slice ao nk c] w (MakeNo w 12) := by
  have HMADE := hid HM0
  have HMAT := hid HT0
  have HQL := hid hql
  clear HM0 HT0 hql
  obtain ⟨rg, rcap, ra, rc, hlv, ⟨p0, p1, p2, p3, p4, p5⟩, htb⟩ := hkm.rows.read ix hil
  subst hlv
  have hnk : (nk : Int) ≤ 100000 := by omega
  have hil' : (ix : Int) < acc.length := by omega
  have HLOOK := hid (show ∀ w1, Ext w w1 → (Instr.lookup 130 (.map (some mb)) (.string k) true).run Tryz.prog w1 = .ok (.tuple #[.int .i64 (ix : Int), .bool true]) w1 from fun w1 hx => by
    have := (hkm.map.later hx).look k hks
    rw [hix] at this
    exact this)
  obtain ⟨k0, k1', k2, k3⟩ := hkm.four
  have hMKNE : ∀ (w : World), (binOp .eql 131 (.func (.func mf) #[] mc) .nilFunc).run Tryz.prog w = .ok (.bool false) w := fun _ => by kernel_rfl
  obtain ⟨M, hM⟩ : ∃ M, w.alloc (.cells #[.string k, .int .i64 n, .string x, .slice ka kl kc] 54) = M := ⟨_, rfl⟩
  have XM := hid (show Ext w M from hM ▸ Ext.alloc _ _)
  have HM0 := hid (show M.heap[w.heap.size]? = some (.cells #[.string k, .int .i64 n, .string x, .slice ka kl kc] 54) from hM ▸ blk0 _ _)
  have hkbl := lt_of_cell k0
  have HNO := hid (fun w1 (hx : Ext w w1) => knodesOf_any ao nk c (fun _ => 226) (fun i => .pointer (some ⟨bs i, 0, none⟩)) w1 hn (hh.later hx))
  have HFIT := hid (fun w1 => rfits_any acc[ix] ra rc k x n ka kl kc nk w1 (by omega) (by omega))
  rw [hfq] at HFIT
  have HS3 := hid (show ∀ W', Ext M W' → (W'.cell? ⟨kb, 2, none⟩ = some (.map (some mb)) ∧ W'.cell? ⟨w.heap.size, 0, none⟩ = some (.string k) ∧ (Instr.lookup 130 (.map (some mb)) (.string k) true).run Tryz.prog W' = .ok (.tuple #[.int .i64 (ix : Int), .bool true]) W') from fun W' X => by
    obtain ⟨s0, s1, s2, s3⟩ := four_of (X.block HM0.out)
    exact ⟨((XM.out.trans X).kp (fun _ => True)).cell k2 trivial, s0, HLOOK.out _ (XM.out.trans X)⟩)
  have k3M : M.cell? ⟨kb, 3, none⟩ = some (.func (.func mf) #[] mc) := (XM.out.kp (fun _ => True)).cell k3 trivial
  clear hkm hn hh hix hfq htb hks hxs
  unfold Rw.val at HFIT
  generalize acc[ix].kind = rk at *
  generalize acc[ix].min = rmin at *
  generalize acc[ix].max = rmax at *
  generalize acc[ix].num = rnum at *
  generalize acc[ix].text = rtx at *
  generalize acc[ix].abs.length = rl at *
  generalize acc.length = rn at *
  have HS9 := hid (show ∀ W', Ext M W' → (W'.cell? ⟨kb, 1, none⟩ = some (.slice (some ⟨rg, 0, none⟩) rn rcap) ∧ W'.cell? ⟨rg, ix * 6, none⟩ = some (.string rk) ∧ W'.cell? ⟨rg, ix * 6 + 1, none⟩ = some (.int .i64 rmin) ∧ W'.cell? ⟨rg, ix * 6 + 2, none⟩ = some (.int .i64 rmax) ∧ W'.cell? ⟨rg, ix * 6 + 3, none⟩ = some (.bool rnum) ∧ W'.cell? ⟨rg, ix * 6 + 4, none⟩ = some (.int .i64 rtx) ∧ W'.cell? ⟨rg, ix * 6 + 5, none⟩ = some (.slice ra rl rc) ∧ W'.cell? ⟨w.heap.size, 0, none⟩ = some (.string k) ∧ W'.cell? ⟨w.heap.size, 1, none⟩ = some (.int .i64 n) ∧ W'.cell? ⟨w.heap.size, 2, none⟩ = some (.string x) ∧ W'.cell? ⟨w.heap.size, 3, none⟩ = some (.slice ka kl kc)) from fun W' X => by
    obtain ⟨s0, s1, s2, s3⟩ := four_of (X.block HM0.out)
    have Y : ∀ {q : Addr} {v : Value}, w.cell? q = some v → W'.cell? q = some v := fun e => ((XM.out.trans X).kp (fun _ => True)).cell e trivial
    exact ⟨Y k1', Y p0, Y p1, Y p2, Y p3, Y p4, Y p5, s0, s1, s2, s3⟩)
  clear k0 k1' k2 k3 p0 p1 p2 p3 p4 p5
  go_enter Tryz.func32, Tryz.ntmps32
  go_upto_region 3 with fail
  first | rw [hM] | skip
  clear hM k3M
  go_cut [8, 9] from 25 to 34 (fun s8 s9 wx => s8 = .int .i64 (ix : Int) ∧ s9 = .bool true ∧ Ext M wx)
  case first =>
    go_region_held3 (fun W' => W'.cell? ⟨kb, 2, none⟩ = some (.map (some mb)) ∧ W'.cell? ⟨w.heap.size, 0, none⟩ = some (.string k) ∧ (Instr.lookup 130 (.map (some mb)) (.string k) true).run Tryz.prog W' = .ok (.tuple #[.int .i64 (ix : Int), .bool true]) W') (first | with_reducible exact HS3.out _ (Ext.refl _) | with_reducible exact HS3.out _ (Ext.refl _).drew | with_reducible exact HS3.out _ Z1 | go_keep) (first | fail)
    all_goals
      go_wp2_with fail
      go_meet
      case rel => exact ⟨rfl, rfl, (by repeat (first | with_reducible exact Ext.refl _ | with_reducible refine Ext.drew ?_))⟩
  case rest =>
    obtain ⟨rfl, rfl, hx1⟩ := hcut
    have X1 := hid hx1
    clear hx1
    go_wp2_with fail
    refine (HNO.out _ (XM.out.trans X1.out)).mono ?_
    rintro e w2 ⟨q, rfl, hq, hx2⟩
    obtain ⟨qa, cq, rfl⟩ := ownsRow_slice hq
    have HQ := hid hq
    have X2 := hid (X1.out.trans hx2)
    clear hq hx2
    go_upto_region 9 with fail
    have HS9b := hid (show ∀ W', Ext w2 W' → (W'.cell? ⟨kb, 1, none⟩ = some (.slice (some ⟨rg, 0, none⟩) rn rcap) ∧ W'.cell? ⟨rg, ix * 6, none⟩ = some (.string rk) ∧ W'.cell? ⟨rg, ix * 6 + 1, none⟩ = some (.int .i64 rmin) ∧ W'.cell? ⟨rg, ix * 6 + 2, none⟩ = some (.int .i64 rmax) ∧ W'.cell? ⟨rg, ix * 6 + 3, none⟩ = some (.bool rnum) ∧ W'.cell? ⟨rg, ix * 6 + 4, none⟩ = some (.int .i64 rtx) ∧ W'.cell? ⟨rg, ix * 6 + 5, none⟩ = some (.slice ra rl rc) ∧ W'.cell? ⟨w.heap.size, 0, none⟩ = some (.string k) ∧ W'.cell? ⟨w.heap.size, 1, none⟩ = some (.int .i64 n) ∧ W'.cell? ⟨w.heap.size, 2, none⟩ = some (.string x) ∧ W'.cell? ⟨w.heap.size, 3, none⟩ = some (.slice ka kl kc)) from fun W' X => HS9.out W' (X2.out.trans X))
    go_cut [11] from 46 to 56 (fun s11 wx => s11 = .int .i64 0 ∧ Ext w2 wx)
    case first =>
      go_region_held3 (fun W' => W'.cell? ⟨kb, 1, none⟩ = some (.slice (some ⟨rg, 0, none⟩) rn rcap) ∧ W'.cell? ⟨rg, ix * 6, none⟩ = some (.string rk) ∧ W'.cell? ⟨rg, ix * 6 + 1, none⟩ = some (.int .i64 rmin) ∧ W'.cell? ⟨rg, ix * 6 + 2, none⟩ = some (.int .i64 rmax) ∧ W'.cell? ⟨rg, ix * 6 + 3, none⟩ = some (.bool rnum) ∧ W'.cell? ⟨rg, ix * 6 + 4, none⟩ = some (.int .i64 rtx) ∧ W'.cell? ⟨rg, ix * 6 + 5, none⟩ = some (.slice ra rl rc) ∧ W'.cell? ⟨w.heap.size, 0, none⟩ = some (.string k) ∧ W'.cell? ⟨w.heap.size, 1, none⟩ = some (.int .i64 n) ∧ W'.cell? ⟨w.heap.size, 2, none⟩ = some (.string x) ∧ W'.cell? ⟨w.heap.size, 3, none⟩ = some (.slice ka kl kc)) (first | with_reducible exact HS9b.out _ (Ext.refl _) | with_reducible exact HS9b.out _ (Ext.refl _).drew | with_reducible exact HS9b.out _ Z1 | go_keep)
        (first
          | (go_at_call 67; refine (HFIT.out _).mono ?_; rintro r u1 ⟨rfl, hy⟩; have Z1 : Ext w2 u1 := Ext.trans (by repeat (first | with_reducible exact Ext.refl _ | with_reducible refine Ext.drew ?_)) hy))
      all_goals
        go_wp2_with fail
        go_meet
        case rel => exact ⟨rfl, Z1⟩
    case rest =>
      obtain ⟨rfl, hx3⟩ := hcut
      have X3 := hid (X2.out.trans hx3)
      have X23 := hid hx3
      clear hx3 HS9b
      obtain ⟨_, _, _, _, _, _, _, t0, t1, t2, t3⟩ := HS9.out _ X3.out
      have hwl := lt_of_cell t0
      go_wp2_with fail
      refine (HMADE.out _ (XM.out.trans X3.out)).mono ?_
      rintro e w4 ⟨_, rfl, ⟨h, v, rfl, hhc, hqq⟩, hx4⟩
      have HQQ := hid hqq
      have X4 := hid (X3.out.trans hx4)
      have X34 := hid (X23.out.trans hx4)
      have hneq := node_eq τ v
      clear hx4 hqq t0 t1 t2 t3 hwl
      go_wp2_with fail
      refine (node_cell h _ _ hhc).mono ?_
      rintro e w5 ⟨rfl, hw5⟩
      rw [hw5]
      clear hw5 w5
      have HS15 := hid (show ∀ W', Ext w4 W' → (W'.cell? ⟨h, 0, none⟩ = some (.iface τ v) ∧ W'.cell? ⟨w.heap.size, 0, none⟩ = some (.string k) ∧ W'.cell? ⟨w.heap.size, 1, none⟩ = some (.int .i64 n) ∧ W'.cell? ⟨w.heap.size, 2, none⟩ = some (.string x) ∧ W'.cell? ⟨w.heap.size, 3, none⟩ = some (.slice ka kl kc)) from fun W' X => by
        obtain ⟨_, _, _, _, _, _, _, s0, s1, s2, s3⟩ := HS9.out W' (X4.out.trans X)
        exact ⟨(X.kp (fun _ => True)).cell hhc trivial, s0, s1, s2, s3⟩)
      have HS17 := hid (show ∀ W', Ext w4 W' → (W'.cell? ⟨h, 0, none⟩ = some (.iface τ v) ∧ W'.cell? ⟨kb, 1, none⟩ = some (.slice (some ⟨rg, 0, none⟩) rn rcap) ∧ W'.cell? ⟨rg, ix * 6 + 5, none⟩ = some (.slice ra rl rc)) from fun W' X => by
        obtain ⟨q1, _, _, _, _, _, q7, _, _, _, _⟩ := HS9.out W' (X4.out.trans X)
        exact ⟨(X.kp (fun _ => True)).cell hhc trivial, q1, q7⟩)
      have HNC := hid (fun W' X => node_cell h _ W' (HS15.out W' X).1)
      have HMT := hid (fun W' (X : Ext w4 W') => HMAT.out h v W' qa cq _ (HQL.out _ _ _ _ HQQ.out X) (row_ext HQ.out (X34.out.trans X)))
      clear hhc
      go_upto_region 15 with fail
      go_cut [74] from 69 to 74 (fun s74 wx => s74 = .bool true ∧ Ext w4 wx)
      case first =>
        go_region_held3 (fun W' => W'.cell? ⟨h, 0, none⟩ = some (.iface τ v) ∧ W'.cell? ⟨w.heap.size, 0, none⟩ = some (.string k) ∧ W'.cell? ⟨w.heap.size, 1, none⟩ = some (.int .i64 n) ∧ W'.cell? ⟨w.heap.size, 2, none⟩ = some (.string x) ∧ W'.cell? ⟨w.heap.size, 3, none⟩ = some (.slice ka kl kc)) (first | with_reducible exact HS15.out _ (Ext.refl _) | with_reducible exact HS15.out _ (Ext.refl _).drew | with_reducible exact HS15.out _ Z1 | go_keep)
          (first
            | (go_at_call 33; refine (HNC.out _ (by repeat (first | with_reducible exact Ext.refl _ | with_reducible refine Ext.drew ?_))).mono ?_; rintro r u1 ⟨rfl, rfl⟩)
            | (go_at_call 69; refine (HMT.out _ (by repeat (first | with_reducible exact Ext.refl _ | with_reducible refine Ext.drew ?_))).mono ?_; rintro r u1 ⟨rfl, hy⟩; have Z1 : Ext w4 u1 := Ext.trans (by repeat (first | with_reducible exact Ext.refl _ | with_reducible refine Ext.drew ?_)) hy))
        all_goals
          go_wp2_with fail
          go_meet
          case rel => exact ⟨rfl, Z1⟩
      case rest =>
        obtain ⟨rfl, hx6⟩ := hcut
        have X6 := hid hx6
        clear hx6
        go_wp2_with fail
        refine (fnew_j 12 (by decide) _).mono ?_
        rintro e w4 ⟨rfl, hw4⟩
        have HC4 := hid (show w4.cell? ⟨_, 0, none⟩ = some (.int .i64 12) from hw4 ▸ cell_of (blk0 _ _) rfl)
        have X4 := hid (show Ext w w4 from hw4 ▸ (XM.out.trans (X4.out.trans X6.out)).trans (Ext.alloc _ _))
        clear hw4
        go_wp2_with fail
        go_ret2
        exact ⟨_, rfl, by simpa using HC4.out, X4.out⟩

end Go.Proofs.YtaafcmmmkalgjaaGreatDoor.Nd
/-
  (*Kit).Make of a kit by a table, for each kind's type; by contracts.
-/
namespace Go.Proofs.YtaafcmmmkalgjaaGreatDoor.Nd
open Go.RowKit
/-- A node that a kit by a table made, in its handle. -/
def HeldN (B : Nat) (τ : TypeId) (k : ByteArray) (n : Int) (x : ByteArray) (nk : Nat) (bs : Nat → Nat) (q : Nat) (v : Value) (w' : World) : Prop := ∃ b a c, v = .pointer (some ⟨b, 0, none⟩) ∧ HandAt w' q (.iface τ (.pointer (some ⟨b, 0, none⟩))) (.iface τ (.pointer (some ⟨b, 0, none⟩))) ∧ NodeB w' b k n x (.slice a nk c) ∧ w'.ownsRow B 50 1 (.slice a nk c) nk ((List.range nk).map fun i => .iface 226 (.pointer (some ⟨bs i, 0, none⟩))) ∧ B ≤ b ∧ B ≤ q
theorem HeldN.later {B : Nat} {τ : TypeId} {nk q : Nat} {k x : ByteArray} {n : Int} {bs : Nat → Nat} {v : Value} {w w' : World} (h : HeldN B τ k n x nk bs q v w) (hx : Ext w w') : HeldN B τ k n x nk bs q v w' := by
  obtain ⟨b, a, c, h1, h2, h3, h4, h5⟩ := h
  exact ⟨b, a, c, h1, hx.block h2, h3.later hx, row_ext h4 hx, h5⟩
theorem enterCK1 : EntersF 58 := fun a w => by simp [callFunc, go_sem, Tryz.func58]; rfl
set_option maxRecDepth 100000 in
theorem jcmake_Ec {base kb mb : Nat} {nme : ByteArray} {lv : Value} {acc : List Rw} (ks : List Kd) (g cp bx : Nat) (k x : ByteArray) (n : Int) (ao ka : Option Addr) (kl kc nk c : Nat) (bs : Nat → Nat) (kd : Kd) (w : World) (hkm : KitM w base kb mb nme (.func (.func 58) #[] #[.pointer (some ⟨bx, 0, none⟩)]) lv acc) (hl : ks.length ≤ 1000) (hb : w.heap[bx]? = some (.cells #[.slice (some ⟨g, 0, none⟩) ks.length cp] 80)) (hk : KRow w g ks) (hf : Go.Proofs.YtaafcmmmkalgjaaGreatDoor.kdFind ks k = some kd) (hm : kd.make = 47) (hd : kd.does = none)
    (hks : k.size ≤ 140737488351232) (hxs : x.size ≤ 140737488351232) (ix : Nat) (hix : kIx acc k = some ix) (hil : ix < acc.length) (hn : nk ≤ 100000) (hh : HandsP w ao nk c (fun _ => 226) (fun i => .pointer (some ⟨bs i, 0, none⟩))) (hfq : fitsR acc[ix] k n x nk = 0) (hodd : oddF hasEc acc[ix].abs = none) (hal : acc[ix].abs.length ≤ 1000) :
    Calls Tryz.prog 32 #[.pointer (some ⟨kb, 0, none⟩), .agg #[.string k, .int .i64 n, .string x, .slice ka kl kc], .slice ao nk c] w (GotR w (HeldN w.heap.size 164 k n x nk bs)) := by
  refine kmake_yes 58 #[.pointer (some ⟨bx, 0, none⟩)] k x n ao ka kl kc nk c bs w hkm hks hxs ix hix hil hn hh.o hfq 164 hasEc (fun v w i hi => ofEc v w i hi) hodd hal (HeldN w.heap.size 164 k n x nk bs) (fun q v w1 w2 h hx => h.later hx) (fun w1 hx => ?_) (fun q v w1 qa cq B hq hrow => ?_)
  · obtain ⟨k0, k1', k2, k3⟩ := (hkm.later hx).four
    refine (made1 58 enterCK1 bx kb k x n ka kl kc ao nk c (fun h w' => ∃ q v, h = some ⟨q, 0, none⟩ ∧ w'.cell? ⟨q, 0, none⟩ = some (.iface 164 v) ∧ HeldN w.heap.size 164 k n x nk bs q v w') (fun w a' c' => HandsO w a' nk (fun _ => 226) (fun i => .pointer (some ⟨bs i, 0, none⟩))) w1 k3 (fun w2 hx2 => cloneHands ao nk c _ _ w2 hn ((hh.later hx).later hx2)) (fun w2 w3 a' c' h hx2 => h.later hx2) (fun w2 hx2 a' c' h => ?_))
    refine (kit1_Ec ks g cp bx k x n a' nk c' (fun _ => 226) (fun i => .pointer (some ⟨bs i, 0, none⟩)) kd w2 hl ((hx.trans hx2).block hb) (hk.later (hx.trans hx2)) hf hm hd hn h).mono ?_
    rintro e w' ⟨h, rfl, ⟨b, a, c1, h2, h3, h4, h5, h6⟩, hy⟩
    have hs : w.heap.size ≤ w2.heap.size := (hx.trans hx2).size
    exact ⟨_, rfl, ⟨h, .pointer (some ⟨b, 0, none⟩), rfl, cell_of h2 rfl, b, a, c1, rfl, h2, h3, row_base h4 hs, Nat.le_trans hs h5, Nat.le_trans hs h6⟩, hy⟩
  · obtain ⟨b, a, c1, rfl, h2, h3, h4, h5⟩ := hq
    exact matches_Ec b nk c1 cq a qa ka kl kc k x n bs w1 h3 hn h4 hrow

end Go.Proofs.YtaafcmmmkalgjaaGreatDoor.Nd
/-
  made of the statements: a node of a kit over some truths; by contracts.
-/
namespace Go.Proofs.YtaafcmmmkalgjaaGreatDoor.Nd
open Go.RowKit
def bYes : ByteArray := ⟨#[98, 97, 115, 101, 46, 121, 101, 115]⟩
theorem bYes_find : kdFind bYes = some 1 := by decide
theorem fit_yes0 : fitsK (minK 1) (maxK 1) (numK 1) (textK 1) 0 ⟨#[]⟩ 0 = 0 := by simp [fitsK, takesK, minK, maxK, numK, textK]; try decide
theorem make_yes (w : World) : Calls Tryz.prog 31 #[.agg #[.string bYes, .int .i64 0, .string ⟨#[]⟩, .slice none 0 0], .slice none 0 0] w fun e w' => ∃ b h, e = .returned (.tuple #[.pointer (some ⟨h, 0, none⟩), .nilIface]) ∧ HandAt w' h (.iface 226 (.pointer (some ⟨b, 0, none⟩))) (.iface 226 (.pointer (some ⟨b, 0, none⟩))) ∧ Ext w w' := by
  refine (make_some 1 (by decide) bYes ⟨#[]⟩ 0 none 0 0 none 0 0 (fun _ => 226) (fun _ => .nilIface) w bYes_find (by decide) (by decide) (.inl rfl)).mono ?_
  rintro e w1 (⟨_, h, b, a, c, rfl, hh, _, _, _, hx1⟩ | ⟨hne, _⟩)
  · exact ⟨b, h, rfl, hh, hx1⟩
  · exact absurd hne (by rw [show fitsK (minK 1) (maxK 1) (numK 1) (textK 1) 0 ⟨#[]⟩ ((0 : Nat) : Int) = 0 from fit_yes0]; decide)
/-- The handles that were made so far. -/
def KidsLp (w : World) (j : Nat) (q : Value) (wr : World) : Prop := ∃ hs bs : List Nat, hs.length = j ∧ bs.length = j ∧ wr.ownsRow w.heap.size 91 1 q j (hs.map fun h => .pointer (some ⟨h, 0, none⟩)) ∧ (∀ i, (h1 : i < hs.length) → (h2 : i < bs.length) → HandAt wr hs[i] (.iface 226 (.pointer (some ⟨bs[i], 0, none⟩))) (.iface 226 (.pointer (some ⟨bs[i], 0, none⟩)))) ∧ Ext w wr
theorem KidsLp.slice {w wr : World} {j : Nat} {q : Value} (h : KidsLp w j q wr) : ∃ a c, q = .slice a j c := by
  obtain ⟨hs, bs, _, _, ho, _⟩ := h
  exact ownsRow_slice ho
theorem KidsLp.hands {w wr : World} {j c : Nat} {a : Option Addr} (h : KidsLp w j (.slice a j c) wr) : ∃ bs : Nat → Nat, HandsP wr a j c (fun _ => 226) (fun i => .pointer (some ⟨bs i, 0, none⟩)) := by
  obtain ⟨hs, bs, h1, h2, ho, hc, hx⟩ := h
  refine ⟨fun i => bs.getD i 0, ?_⟩
  rcases ho.2 with ⟨hv, h0⟩ | ⟨gg, cap, cur, hv, hbg, hbk, h3, h4, h5, h6⟩
  · injection hv with e1 e2 e3
    exact .inl ⟨e1, h0, e3⟩
  · injection hv with e1 _ _
    subst e1
    refine .inr ⟨gg, 0, rfl, fun i hi => ?_⟩
    have i1 : i < hs.length := by omega
    have i2 : i < bs.length := by omega
    have hb := hc i i1 i2
    have hcur : cur[i]? = some (.pointer (some ⟨hs[i], 0, none⟩)) := by
      have e : (hs.map fun h => Value.pointer (some ⟨h, 0, none⟩))[i]? = some (.pointer (some ⟨hs[i], 0, none⟩)) := by
        rw [List.getElem?_map, List.getElem?_eq_getElem i1]; rfl
      rw [← h6, List.getElem?_take_of_lt (by omega)] at e
      simpa using e
    refine ⟨hs[i], by rw [Nat.zero_add]; exact cell_of hbk hcur, ?_, lt_of_block hbk, lt_of_block hb⟩
    show wr.cell? ⟨hs[i], 0, none⟩ = some (Value.iface 226 (.pointer (some ⟨bs.getD i 0, 0, none⟩)))
    rw [List.getD_eq_getElem?_getD, List.getElem?_eq_getElem i2]
    exact cell_of hb rfl
set_option maxRecDepth 100000 in
set_option maxHeartbeats 4000000 in
theorem lawMadeL (τ : TypeId) (kb : Nat) (k x : ByteArray) (n : Nat) (w : World) (hn : n ≤ 1000)
    (hmk : ∀ w1 a c bs, Ext w w1 → HandsP w1 a n c (fun _ => 226) (fun i => .pointer (some ⟨bs i, 0, none⟩)) → Calls Tryz.prog 32 #[.pointer (some ⟨kb, 0, none⟩), .agg #[.string k, .int .i64 0, .string x, .slice none 0 0], .slice a n c] w1 (GotR w1 (HeldN w1.heap.size τ k 0 x n bs))) :
    Calls Tryz.prog 15 #[.pointer (some ⟨kb, 0, none⟩), .agg #[.string k, .int .i64 0, .string x, .slice none 0 0], .int .i64 n] w fun e w' => ∃ b a c, e = .returned (.iface τ (.pointer (some ⟨b, 0, none⟩))) ∧ NodeB w' b k 0 x (.slice a n c) ∧ Ext w w' := by
  obtain ⟨i0, hi0, hz0, hz1, hz2⟩ := info_parts hpInfo
  have HMK := hid hmk
  have hn' : (n : Int) ≤ 1000 := by omega
  clear hmk
  obtain ⟨M, hM⟩ : ∃ M, w.alloc (.cells #[.string k, .int .i64 0, .string x, .slice none 0 0] 54) = M := ⟨_, rfl⟩
  have XM := hid (show Ext w M from hM ▸ Ext.alloc _ _)
  have HM0 := hid (show M.heap[w.heap.size]? = some (.cells #[.string k, .int .i64 0, .string x, .slice none 0 0] 54) from hM ▸ blk0 _ _)
  go_enter Tryz.func15, Tryz.ntmps15
  go_wp2_with fail
  first | rw [hM] | skip
  clear hM
  go_loopw [7, 8] (fun q7 q8 wr => ∃ j : Nat, j ≤ n ∧ q8 = .int .i64 j ∧ KidsLp M j q7 wr) (fun _ q8 _ => n - (intOf q8).toNat)
  case atStart => exact ⟨0, Nat.zero_le _, rfl, ⟨[], [], rfl, rfl, World.ownsRow_nil _ _ _ _, fun i h => absurd h (Nat.not_lt_zero _), Ext.refl _⟩⟩
  case round =>
    obtain ⟨j, hj, rfl, hk⟩ := hrel
    obtain ⟨a3, c3, rfl⟩ := hk.slice
    have HK := hid hk
    clear hk
    by_cases hlt : j < n
    · have hlt' : (j : Int) < n := by omega
      go_wp2_with fail
      refine (make_yes _).mono ?_
      rintro e w2 ⟨b, h, rfl, hhd, hx2⟩
      have HHD := hid hhd
      have X2 := hid hx2
      clear hhd hx2
      obtain ⟨hs, bs, h1, h2, ho, hc, hx⟩ := HK.out
      have HO2 := hid (row_ext ho (X2.out.trans (Ext.alloc w2 (.cells #[.pointer (some ⟨h, 0, none⟩)] 91))))
      have HN := hid (new_one w2 (.pointer (some ⟨h, 0, none⟩)) 91)
      have HUS := hid (hx.trans X2.out).size
      have HC := hid hc
      have HXX := hid hx
      have HL1 := hid h1
      have HL2 := hid h2
      clear ho hc hx h1 h2
      go_wp2_with (at_builtin; refine wpList_append_own_at _ rfl _ _ 90 rfl M.heap.size 91 i0 (.pointer none) 1 8 Tryz.underlying90 hi0 hz0 hz1 hz2 rfl (by decide) _ _ _ rfl HO2.out ⟨w2.heap.size, 0, none⟩ 1 1 [.pointer (some ⟨h, 0, none⟩)] rfl rfl HN.out (by simp [Value.oneCell']) (by unfold maxLen; omega) (by omega) (by have := HUS.out; simp; omega) ?_; intro v9 w9 hown9 hgrow9 _ _; have HO9 := hid hown9; have HG9 : Hid (World.grownBy (w2.alloc (.cells #[.pointer (some ⟨h, 0, none⟩)] 91)) w9 (Value.slice a3 j c3).ownBlock) := hid hgrow9; clear hown9 hgrow9)
      go_roundw
      case measure => simp [intOf]; omega
      case rel =>
        have hkp := grown_kp HG9.out
        have hcell : ∀ (q : Nat) (u1 u2 : Value), HandAt w2 q u1 u2 → HandAt w9 q u1 u2 := fun q u1 u2 hq => by
          have hq' : (w2.alloc (.cells #[.pointer (some ⟨h, 0, none⟩)] 91)).heap[q]? = some (.cells #[u1, u2] 145) := blkOld _ hq
          refine hkp.block' hq' (fun e => ?_)
          rcases HO2.out.2 with ⟨hv, _⟩ | ⟨gg, cap, cur, hv, _, hbk, _⟩
          · rw [hv] at e; simp [Value.ownBlock] at e
          · rw [hv] at e
            simp [Value.ownBlock] at e
            subst e
            rw [hbk] at hq'
            simp at hq'
        refine ⟨j + 1, by omega, by go_num, ⟨hs ++ [h], bs ++ [b], by simp [HL1.out], by simp [HL2.out], by rw [List.map_append]; exact HO9.out, fun i h1 h2 => ?_, ((HXX.out.trans X2.out).more _).grown HG9.out (by have := HUS.out; simp; omega) (fun k hk => (HO2.out.lt k hk).1)⟩⟩
        by_cases hi : i < hs.length
        · have hi2 : i < bs.length := by rw [HL2.out, ← HL1.out]; exact hi
          rw [List.getElem_append_left hi, List.getElem_append_left hi2]
          exact hcell _ _ _ (X2.out.block (HC.out i hi hi2))
        · have hie : i = hs.length := by simp at h1; omega
          subst hie
          have hbe : bs.length = hs.length := by rw [HL2.out, HL1.out]
          simp only [List.getElem_append_right (Nat.le_refl _), Nat.sub_self, List.getElem_cons_zero]
          rw [List.getElem_append_right (by omega)]
          simp only [hbe, Nat.sub_self, List.getElem_cons_zero]
          exact hcell _ _ _ HHD.out
    · obtain rfl : j = n := by omega
      obtain ⟨bs, hP⟩ := HK.out.hands
      obtain ⟨_, _, _, _, _, _, hx⟩ := HK.out
      have HXX := hid hx
      have HMR := hid (HMK.out _ a3 c3 bs (XM.out.trans hx) hP)
      obtain ⟨t0, t1, t2, t3⟩ := four_of (hx.block HM0.out)
      have hwl := lt_of_cell t0
      have hlt3 : ¬ (j : Int) < j := by omega
      clear hx hP
      go_wp2_with fail
      refine HMR.out.mono ?_
      rintro e w4 ⟨h, _, rfl, ⟨b, ma, mc, rfl, hhd, hnb, hrow, _, _⟩, hx4⟩
      have HNB := hid hnb
      have X4 := hid (XM.out.trans (HXX.out.trans hx4))
      have hhc : w4.cell? ⟨h, 0, none⟩ = some (.iface τ (.pointer (some ⟨b, 0, none⟩))) := cell_of hhd rfl
      clear hnb hhd hrow hx4
      go_wp2_with fail
      refine (node_cell h _ _ hhc).mono ?_
      rintro e w5 ⟨rfl, hw5⟩
      rw [hw5]
      clear hw5 w5
      go_wp2_with fail
      go_ret
      exact ⟨b, ma, mc, rfl, HNB.out, X4.out⟩

end Go.Proofs.YtaafcmmmkalgjaaGreatDoor.Nd
