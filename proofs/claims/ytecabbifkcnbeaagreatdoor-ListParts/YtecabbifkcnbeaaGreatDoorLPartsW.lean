/-
  ListParts tells true.
-/
import Derived.Test.YtecabbifkcnbeaaGreatDoorLBeg
import Derived.Test.YtecabbifkcnbeaaGreatDoorLPOps
import Derived.Test.YtecabbifkcnbeaaGreatDoorLLight
import Derived.Test.YtecabbifkcnbeaaGreatDoorPTwin
import Derived.Laws.BitsLemmas
namespace Go.Proofs.YtecabbifkcnbeaaGreatDoor.Nd
open Go.RowKit
theorem rdl_take {K : Nat → Prop} {w : World} {d : Nat} {a : Option Addr} {ks : List T} (h : RdL K w d a ks) (n : Nat) : RdL K w d a (ks.take n) := by
  refine ⟨by have := h.1; rw [List.length_take]; omega, ?_⟩
  rcases h.2 with rfl | ⟨g, off, ha, hg, hc⟩
  · exact .inl (by simp)
  · refine .inr ⟨g, off, ha, hg, fun j hj => ?_⟩
    rw [List.length_take] at hj
    obtain ⟨u0, u1, u2, u3, h4, hr⟩ := hc j (by omega)
    exact ⟨u0, u1, u2, u3, h4, by rw [List.getElem_take]; exact hr⟩
theorem rdl_prow {K : Nat → Prop} {w : World} {d : Nat} {a : Option Addr} {ks : List T} (h : RdL K w d a ks) : PRow w a ks :=
  h.2.imp id fun ⟨g, off, ha, _, hc⟩ => ⟨g, off, ha, fun j hj => by
    obtain ⟨u0, u1, u2, u3, h4, hr⟩ := hc j hj
    exact ⟨K, d, u0, u1, u2, u3, h4, hr⟩⟩
theorem rdl1 {w : World} {g : Nat} {ty : TypeId} {K : Nat → Prop} {d : Nat} {u0 u1 u2 u3 : Value} {t : T} (h : w.heap[g]? = some (.cells #[u0, u1, u2, u3] ty)) (hr : Rd K w d (.agg #[u0, u1, u2, u3]) t) : RdL (fun _ => True) w d (some ⟨g, 0, none⟩) [t] := by
  refine ⟨by simp, .inr ⟨g, 0, rfl, trivial, fun j hj => ?_⟩⟩
  match j, hj with
  | 0, _ => exact ⟨_, _, _, _, ⟨cell_of h rfl, cell_of h rfl, cell_of h rfl, cell_of h rfl⟩, hr.mono (fun _ _ _ => trivial)⟩
  | n + 1, h => exact absurd h (by simp)
theorem prowR3 {w : World} {g : Nat} {ty : TypeId} {K K' K2 : Nat → Prop} {d d' d2 : Nat} {u0 u1 u2 u3 v0 v1 v2 v3 x0 x1 x2 x3 : Value} {t t' t2 : T} (h : w.heap[g]? = some (.cells #[u0, u1, u2, u3, v0, v1, v2, v3, x0, x1, x2, x3] ty)) (hr : Rd K w d (.agg #[u0, u1, u2, u3]) t) (hr' : Rd K' w d' (.agg #[v0, v1, v2, v3]) t') (hr2 : Rd K2 w d2 (.agg #[x0, x1, x2, x3]) t2) : PRow w (some ⟨g, 0, none⟩) [t, t', t2] := by
  refine .inr ⟨g, 0, rfl, fun j hj => ?_⟩
  match j, hj with
  | 0, _ => exact ⟨K, d, _, _, _, _, ⟨cell_of h rfl, cell_of h rfl, cell_of h rfl, cell_of h rfl⟩, hr⟩
  | 1, _ => exact ⟨K', d', _, _, _, _, ⟨cell_of h rfl, cell_of h rfl, cell_of h rfl, cell_of h rfl⟩, hr'⟩
  | 2, _ => exact ⟨K2, d2, _, _, _, _, ⟨cell_of h rfl, cell_of h rfl, cell_of h rfl, cell_of h rfl⟩, hr2⟩
  | n + 3, h => exact absurd h (by simp)
theorem box_set {w : World} {g : Nat} {v0 v1 v2 v3 : Value} {t : TypeId} (h : w.heap[g]? = some (.cells #[v0, v1, v2, v3] t)) (u0 u1 u2 u3 : Value) : ((((w.setCell ⟨g, 0, none⟩ u0).setCell ⟨g, 1, none⟩ u1).setCell ⟨g, 2, none⟩ u2).setCell ⟨g, 3, none⟩ u3).heap[g]? = some (.cells #[u0, u1, u2, u3] t) ∧ Kp (· ≠ g) w ((((w.setCell ⟨g, 0, none⟩ u0).setCell ⟨g, 1, none⟩ u1).setCell ⟨g, 2, none⟩ u2).setCell ⟨g, 3, none⟩ u3) :=
  ⟨four_set h, Kp.set4 w g 0 u0 u1 u2 u3⟩
theorem box_rel {w17 wf : World} {B G d : Nat} {v0 v1 v2 v3 u0 u1 u2 u3 : Value} {t : TypeId} {q : T} (hg : wf.heap[G]? = some (.cells #[v0, v1, v2, v3] t)) (hx : Ext w17 wf) (hG : w17.heap.size = G) (hB : G < B) (hr : Rd (fun x => B ≤ x) wf d (.agg #[u0, u1, u2, u3]) q) :
    ((((wf.setCell ⟨G, 0, none⟩ u0).setCell ⟨G, 1, none⟩ u1).setCell ⟨G, 2, none⟩ u2).setCell ⟨G, 3, none⟩ u3).heap[G]? = some (.cells #[u0, u1, u2, u3] t) ∧ Rd (· ≠ G) ((((wf.setCell ⟨G, 0, none⟩ u0).setCell ⟨G, 1, none⟩ u1).setCell ⟨G, 2, none⟩ u2).setCell ⟨G, 3, none⟩ u3) d (.agg #[u0, u1, u2, u3]) q ∧ Ext w17 ((((wf.setCell ⟨G, 0, none⟩ u0).setCell ⟨G, 1, none⟩ u1).setCell ⟨G, 2, none⟩ u2).setCell ⟨G, 3, none⟩ u3) := by
  obtain ⟨h1, h2⟩ := box_set hg u0 u1 u2 u3
  generalize ((((wf.setCell ⟨G, 0, none⟩ u0).setCell ⟨G, 1, none⟩ u1).setCell ⟨G, 2, none⟩ u2).setCell ⟨G, 3, none⟩ u3) = W at *
  have ne : ∀ q, B ≤ q → q ≠ G := fun q h => by omega
  exact ⟨h1, Rd.mono (fun q _ hq => ne q hq) (Rd.keep (h2.mono (fun q _ hq => ne q hq)) hr), h2.extOf hx (by omega)⟩
theorem dheap {w : World} {q : Nat} {o : Obj} (h : w.heap[q]? = some o) : w.drew.heap[q]? = some o := h
theorem wrapZ (n j : Nat) (h : j < n) (hn : n ≤ 300) : IntKind.i64.wrap (IntKind.i64.wrap ((n : Int) - 1) - (j : Int)) = ((n - 1 - j : Nat) : Int) := by
  rw [IntKind.wrap_i64, IntKind.wrap_i64]
  omega
theorem neIn (a b : Int) (w : World) : (binOp .neq 29 (.iface 51 (.int .i64 a)) (.iface 51 (.int .i64 b))).run Tryz.prog w = .ok (.bool (!(a == b))) w := by kernel_rfl
theorem eqNn (w : World) : (binOp .eql 29 .nilIface .nilIface).run Tryz.prog w = .ok (.bool true) w := by kernel_rfl
attribute [local go_sem] eqNn
set_option maxRecDepth 100000 in
set_option maxHeartbeats 8000000 in
theorem partsL_true {d : Nat} (a : Option Addr) (c : Nat) (ts : List T) (av : Nat) (w : World) (hl : Laid w) (hm : MaxAt w) (hr : RdL (fun _ => True) w d a ts) (hc : ts.length ≤ c) (hav : av ≤ 65535) : Calls Tryz.prog 5 #[.slice a ts.length c, .int .u16 (av : Int)] w fun e w' => e = .returned (.bool true) ∧ Ext w w' := by
  have HM := hid hm
  have HBE := hid (begunL_any w hl hm)
  have HR := hid hr
  have hn0 : (ts.length : Int) ≤ 140737488351232 := by have := hr.1; omega
  have hc' : (ts.length : Int) ≤ (c : Int) := by omega
  have HAV := hid hav
  clear hl hm hr hav
  go_enter Tryz.func5, Tryz.ntmps5
  go_wp2_with fail
  refine HBE.out.mono ?_
  rintro e w1 ⟨rfl, hx1⟩
  have X1 := hid hx1
  clear hx1
  go_upto_if 49 with fail
  go_cut [0] from 50 to 51 (fun s0 wx => ∃ (c' : Nat) (ls : List T), s0 = .slice a ls.length c' ∧ RdL (fun _ => True) w d a ls ∧ ls.length ≤ 300 ∧ wx = w1)
  case first =>
    by_cases h3 : 300 < ts.length
    · have h3' : (300 : Int) < (ts.length : Int) := by omega
      have h3c : (300 : Int) ≤ (c : Int) := by omega
      obtain ⟨g, off, ha⟩ : ∃ g off, a = some ⟨g, off, none⟩ := by
        rcases HR.out.2 with h | ⟨g, off, h, _⟩
        · rw [h] at h3; exact absurd h3 (by decide)
        · exact ⟨g, off, h⟩
      subst ha
      have HL3 := hid (show (ts.take 300).length = 300 by rw [List.length_take]; omega)
      generalize ts.length = n at *
      go_wp2_with fail
      go_meet
      case rel =>
       exact ⟨_, ts.take 300, by rw [HL3.out], rdl_take HR.out 300, by rw [HL3.out]; decide, rfl⟩
    · have h3' : ¬ (300 : Int) < (ts.length : Int) := by omega
      go_wp2_with fail
      go_meet
      case rel => exact ⟨c, ts, rfl, HR.out, by omega, rfl⟩
  case rest =>
    obtain ⟨c1, ls, rfl, hrl, h300, rfl⟩ := hcut
    have HRL := hid hrl
    have HLE := hid h300
    have hn3 : (ls.length : Int) ≤ 300 := by omega
    have HND := hid (fun W (hx : Ext w W) => RdL.node c1 (hrl.keep (hx.kp _)))
    have HOF := hid (fun W (hx : Ext w W) => listWork_any nOf ls (by omega) a c1 W (HM.out.later hx) (rdl_prow (hrl.keep (hx.kp _))))
    clear hn0 hc' hrl h300 HR hc
    obtain ⟨n, hne⟩ : ∃ n, ls.length = n := ⟨_, rfl⟩
    have HNE := hid hne
    rw [hne] at HND HOF hn3 ⊢
    clear hne
    go_wp2_with fail
    refine (lof_any _ _ _ _).mono ?_
    rintro e w2 ⟨rfl, hx2⟩
    have X2 := hid (X1.out.trans (hx2.trans (Ext.alloc w2 (.cells #[.int .i64 5, .int .i64 0, .string ⟨#[]⟩, .slice a n c1] 34))))
    have HPB := hid (blk0 w2 (.cells #[.int .i64 5, .int .i64 0, .string ⟨#[]⟩, .slice a n c1] 34))
    clear hx2
    go_wp2_with fail
    obtain ⟨V, hV⟩ : ∃ V, w2.alloc (.cells #[.int .i64 5, .int .i64 0, .string ⟨#[]⟩, .slice a n c1] 34) = V := ⟨_, rfl⟩
    have hVS : w2.heap.size + 1 = V.heap.size := by rw [← hV, blkS]
    rw [hV] at X2 HPB
    rw [hV, hVS]
    have HPL := hid (lt_of_block HPB.out)
    clear hV hVS
    generalize w2.heap.size = P at *
    refine (lights_any _ (rdl1 (blk0 V _) (HND.out _ (X2.out.trans (Ext.alloc _ _))))).mono ?_
    rintro e w3 ⟨bl, rfl, hli, hx3⟩
    have Y3 := hid ((Ext.alloc V (.cells #[.int .i64 5, .int .i64 0, .string ⟨#[]⟩, .slice a n c1] 34)).trans hx3)
    have HLI := hid hli
    clear hx3 hli
    cases bl with
    | false =>
      go_wp2_with fail
      go_ret
      exact ⟨rfl, X2.out.trans Y3.out⟩
    | true =>
      go_wp2_with fail
      refine (HOF.out _ (X2.out.trans Y3.out)).mono ?_
      rintro e w4 ⟨VV, rfl, hv, hx4⟩
      have Y4 := hid (Y3.out.trans hx4)
      clear hx4
      rw [ans_of] at hv
      by_cases hall : ∀ t ∈ ls, t.may
      case neg =>
        rw [if_neg hall] at hv
        obtain ⟨_, rfl⟩ : _ ∧ VV = refX 1 ⟨#[]⟩ := hv
        unfold refX
        go_wp2_with fail
        go_ret
        exact ⟨rfl, X2.out.trans Y4.out⟩
      rw [if_pos hall] at hv
      by_cases hmay : (listT ls).may
      case neg =>
        rw [lonF_two hmay] at hv
        obtain ⟨_, rfl⟩ : _ ∧ VV = refX 2 ⟨#[]⟩ := hv
        unfold refX
        go_wp2_with fail
        go_ret
        exact ⟨rfl, X2.out.trans Y4.out⟩
      rw [lonF_good hmay] at hv
      obtain ⟨_, KV, dv, v, rfl, hvr⟩ := hv
      have HVR := hid hvr
      have HMAY := hid hmay
      have HALL := hid hall
      clear hvr hmay hall
      obtain ⟨k, hk, hkn⟩ : ∃ k : Nat, (wrap64 (av : Int)).tmod ((n : Int) + 1) = (k : Int) ∧ k ≤ n := by
        have h1 : wrap64 (av : Int) = (av : Int) := by have := HAV.out; unfold wrap64; omega
        rw [h1]
        refine ⟨((av : Int).tmod ((n : Int) + 1)).toNat, ?_, ?_⟩
        · have := Int.tmod_nonneg ((n : Int) + 1) (show (0 : Int) ≤ av by omega)
          omega
        · have h2 := Int.tmod_nonneg ((n : Int) + 1) (show (0 : Int) ≤ av by omega)
          have h3 := Int.tmod_lt_of_pos (av : Int) (show (0 : Int) < (n : Int) + 1 by omega)
          omega
      go_upto_region 13 with fail
      first | rw [hk] | skip
      have HKN := hid hkn
      clear hk hkn
      have HPC := hid (show ∀ W', Ext V W' → (W'.cell? ⟨P, 0, none⟩ = some (.int .i64 5) ∧ W'.cell? ⟨P, 1, none⟩ = some (.int .i64 0) ∧ W'.cell? ⟨P, 2, none⟩ = some (.string ⟨#[]⟩) ∧ W'.cell? ⟨P, 3, none⟩ = some (.slice a n c1)) from fun W' X => by
        obtain ⟨z0, z1, z2, z3⟩ := four_of (X.block HPB.out)
        exact ⟨z0, z1, z2, z3⟩)
      have HW4 := hid (X2.out.trans Y4.out)
      have HPC4 := hid (fun W' (X : Ext w4 W') => HPC.out W' (Y4.out.trans X))
      have HCUT := hid (fun (W : World) (q : Nat) (ty : TypeId) (hW : Ext w4 W) (hq : W.heap[q]? = some (.cells #[.int .i64 5, .int .i64 0, .string ⟨#[]⟩, .slice a n c1, .int .i64 3, .int .i64 0, .string ⟨#[]⟩, .slice none 0 0, .int .i64 3, .int .i64 (k : Int), .string ⟨#[]⟩, .slice none 0 0] ty)) => (said_of (ans_cut HMAY.out 0 k (by have := HKN.out; omega) (by have := HKN.out; have := HNE.out; omega)) (by simp) (some ⟨q, 0, none⟩) 3 W (HM.out.later (HW4.out.trans hW)) (prowR3 hq (HND.out W (HW4.out.trans hW)) (intRd (fun _ => True) W _) (intRd (fun _ => True) W _))).mono (R' := fun e w' => ∃ d v, e = .returned (.tuple #[v, .int .i64 0, .string ⟨#[]⟩]) ∧ VRd (fun _ => True) w' d v (listT ((ls.take k).drop 0)) ∧ Ext w4 w') (fun e w' ⟨d, v, he, hr, hx⟩ => ⟨d, v, he, hr, hW.trans hx⟩))
      go_cut [11, 12, 13] from 84 to 93 (fun q1 q2 q3 wx => ∃ d v, q1 = v ∧ q2 = .int .i64 0 ∧ q3 = .string ⟨#[]⟩ ∧ VRd (fun _ => True) wx d v (listT ((ls.take k).drop 0)) ∧ Ext w4 wx)
      case first =>
        go_region_held3 (fun W' => W'.cell? ⟨P, 0, none⟩ = some (.int .i64 5) ∧ W'.cell? ⟨P, 1, none⟩ = some (.int .i64 0) ∧ W'.cell? ⟨P, 2, none⟩ = some (.string ⟨#[]⟩) ∧ W'.cell? ⟨P, 3, none⟩ = some (.slice a n c1))
          ((refine HPC4.out _ ?_; repeat (first | with_reducible exact Z2 | with_reducible exact Z1 | with_reducible exact Ext.refl _ | with_reducible refine Ext.drew ?_ | with_reducible refine Ext.more ?_ _)))
          (first
            | (go_at_call 17; refine (lnum_any _ _).mono ?_; rintro r u1 ⟨rfl, hy⟩; have Z1 : Ext w4 u1 := Ext.trans (by repeat (first | with_reducible exact Z1 | with_reducible exact Ext.refl _ | with_reducible refine Ext.drew ?_ | with_reducible refine Ext.more ?_ _)) hy)
            | (go_at_call 16; refine (HCUT.out _ _ _ (by repeat (first | with_reducible exact Z1 | with_reducible exact Ext.refl _ | with_reducible refine Ext.drew ?_ | with_reducible refine Ext.more ?_ _)) (by first | with_reducible exact blk0 _ _ | with_reducible exact dheap (blk0 _ _) | with_reducible exact dheap (dheap (blk0 _ _)) | exact blk0 _ _)).mono ?_; rintro r u2 ⟨d2, v2, rfl, hr2, Z2⟩; have HR2 := hid hr2; clear hr2))
        all_goals
          go_wp2_with fail
          go_meet
          case rel => exact ⟨d2, v2, rfl, rfl, rfl, HR2.out, Z2⟩
      case' rest =>
      obtain ⟨d5, v5, rfl, rfl, rfl, hr5, hx5⟩ := hcut
      rename World => w5
      rw [List.drop_zero] at hr5
      have HR5 := hid hr5
      have X5 := hid hx5
      have HW5 := hid (HW4.out.trans hx5)
      have HPC5 := hid (fun W' (X : Ext w5 W') => HPC4.out W' (X5.out.trans X))
      clear hr5 hx5 HCUT
      go_upto_region 14 with fail
      have HCUT := hid (fun (W : World) (q : Nat) (ty : TypeId) (hW : Ext w5 W) (hq : W.heap[q]? = some (.cells #[.int .i64 5, .int .i64 0, .string ⟨#[]⟩, .slice a n c1, .int .i64 3, .int .i64 (k : Int), .string ⟨#[]⟩, .slice none 0 0, .int .i64 3, .int .i64 (n : Int), .string ⟨#[]⟩, .slice none 0 0] ty)) => (said_of (ans_cut HMAY.out k n (by have := HKN.out; omega) (by have := HKN.out; have := HNE.out; omega)) (by simp) (some ⟨q, 0, none⟩) 3 W (HM.out.later (HW5.out.trans hW)) (prowR3 hq (HND.out W (HW5.out.trans hW)) (intRd (fun _ => True) W _) (intRd (fun _ => True) W _))).mono (R' := fun e w' => ∃ d v, e = .returned (.tuple #[v, .int .i64 0, .string ⟨#[]⟩]) ∧ VRd (fun _ => True) w' d v (listT ((ls.take n).drop k)) ∧ Ext w5 w') (fun e w' ⟨d, v, he, hr, hx⟩ => ⟨d, v, he, hr, hW.trans hx⟩))
      go_cut [14, 15, 16] from 94 to 104 (fun q1 q2 q3 wx => ∃ d v, q1 = v ∧ q2 = .int .i64 0 ∧ q3 = .string ⟨#[]⟩ ∧ VRd (fun _ => True) wx d v (listT ((ls.take n).drop k)) ∧ Ext w5 wx)
      case first =>
        go_region_held3 (fun W' => W'.cell? ⟨P, 0, none⟩ = some (.int .i64 5) ∧ W'.cell? ⟨P, 1, none⟩ = some (.int .i64 0) ∧ W'.cell? ⟨P, 2, none⟩ = some (.string ⟨#[]⟩) ∧ W'.cell? ⟨P, 3, none⟩ = some (.slice a n c1))
          ((refine HPC5.out _ ?_; repeat (first | with_reducible exact Z2 | with_reducible exact Z1 | with_reducible exact Ext.refl _ | with_reducible refine Ext.drew ?_ | with_reducible refine Ext.more ?_ _)))
          (first
            | (go_at_call 17; refine (lnum_any _ _).mono ?_; rintro r u1 ⟨rfl, hy⟩; have Z1 : Ext w5 u1 := Ext.trans (by repeat (first | with_reducible exact Z1 | with_reducible exact Ext.refl _ | with_reducible refine Ext.drew ?_ | with_reducible refine Ext.more ?_ _)) hy)
            | (go_at_call 16; refine (HCUT.out _ _ _ (by repeat (first | with_reducible exact Z1 | with_reducible exact Ext.refl _ | with_reducible refine Ext.drew ?_ | with_reducible refine Ext.more ?_ _)) (by first | with_reducible exact blk0 _ _ | with_reducible exact dheap (blk0 _ _) | with_reducible exact dheap (dheap (blk0 _ _)) | exact blk0 _ _)).mono ?_; rintro r u2 ⟨d2, v2, rfl, hr2, Z2⟩; have HR2 := hid hr2; clear hr2))
        all_goals
          go_wp2_with fail
          go_meet
          case rel => exact ⟨d2, v2, rfl, rfl, rfl, HR2.out, Z2⟩
      case' rest =>
      obtain ⟨d6, v6, rfl, rfl, rfl, hr6, hx6⟩ := hcut
      rename World => w6
      rw [show ls.take n = ls by rw [← HNE.out, List.take_length]] at hr6
      have HR6 := hid hr6
      have X6 := hid hx6
      have HW6 := hid (HW5.out.trans hx6)
      clear hr6 hx6 HCUT
      have HP5 := hid (may_nodes (may_take HMAY.out k))
      have HP6 := hid (may_nodes (may_drop HMAY.out k))
      go_wp2_with fail
      refine (Plain_any w6 (HR5.out.later X6.out) HP5.out.1 HP5.out.2).mono ?_
      rintro e w7 ⟨hx7, u0, u1, u2, u3, rfl, hrd7⟩
      obtain ⟨xk, xn, xx, xa, xc, rfl, rfl, rfl, rfl⟩ := hrd7.shape
      have X7 := hid hx7
      have HXL := hid (show (listT (ls.take k)).kids.length = k from by show (ls.take k).length = k; rw [List.length_take]; have := HNE.out; have := HKN.out; omega)
      rw [HXL.out] at hrd7 ⊢
      have HR7 := hid hrd7
      clear hx7 hrd7
      obtain ⟨V7, hV⟩ : ∃ V, w7.alloc (.cells #[.int .i64 xk, .int .i64 xn, .string xx, .slice xa k xc] 34) = V := ⟨_, rfl⟩
      have hVS : w7.heap.size + 1 = V7.heap.size := by rw [← hV, blkS]
      have HQB := hid (show V7.heap[w7.heap.size]? = some (.cells #[.int .i64 xk, .int .i64 xn, .string xx, .slice xa k xc] 34) from hV ▸ blk0 _ _)
      have X7b := hid (show Ext w7 V7 from hV ▸ Ext.alloc _ _)
      have HQC := hid (show ∀ W', Ext V7 W' → (W'.cell? ⟨w7.heap.size, 0, none⟩ = some (.int .i64 xk) ∧ W'.cell? ⟨w7.heap.size, 1, none⟩ = some (.int .i64 xn) ∧ W'.cell? ⟨w7.heap.size, 2, none⟩ = some (.string xx) ∧ W'.cell? ⟨w7.heap.size, 3, none⟩ = some (.slice xa k xc)) from fun W' X => by
        obtain ⟨z0, z1, z2, z3⟩ := four_of (X.block HQB.out)
        exact ⟨z0, z1, z2, z3⟩)
      have QL := hid (lt_of_block HQB.out)
      go_wp2_with fail
      clear hV hVS
      generalize w7.heap.size = Q at *
      refine (Plain_any V7 (HR6.out.later (X7.out.trans X7b.out)) HP6.out.1 HP6.out.2).mono ?_
      rintro e w8 ⟨hx8, u0, u1, u2, u3, rfl, hrd8⟩
      obtain ⟨yk, yn, yx, ya, yc, rfl, rfl, rfl, rfl⟩ := hrd8.shape
      have X8 := hid hx8
      obtain ⟨yl, hyl⟩ : ∃ yl, (listT (ls.drop k)).kids.length = yl := ⟨_, rfl⟩
      rw [hyl] at hrd8 ⊢
      have HR8 := hid hrd8
      clear hx8 hrd8 hyl
      obtain ⟨V8, hV⟩ : ∃ V, w8.alloc (.cells #[.int .i64 yk, .int .i64 yn, .string yx, .slice ya yl yc] 34) = V := ⟨_, rfl⟩
      have hVS : w8.heap.size + 1 = V8.heap.size := by rw [← hV, blkS]
      have HSB := hid (show V8.heap[w8.heap.size]? = some (.cells #[.int .i64 yk, .int .i64 yn, .string yx, .slice ya yl yc] 34) from hV ▸ blk0 _ _)
      have X8b := hid (show Ext w8 V8 from hV ▸ Ext.alloc _ _)
      have HSC := hid (show ∀ W', Ext V8 W' → (W'.cell? ⟨w8.heap.size, 0, none⟩ = some (.int .i64 yk) ∧ W'.cell? ⟨w8.heap.size, 1, none⟩ = some (.int .i64 yn) ∧ W'.cell? ⟨w8.heap.size, 2, none⟩ = some (.string yx) ∧ W'.cell? ⟨w8.heap.size, 3, none⟩ = some (.slice ya yl yc)) from fun W' X => by
        obtain ⟨z0, z1, z2, z3⟩ := four_of (X.block HSB.out)
        exact ⟨z0, z1, z2, z3⟩)
      have S8L := hid (lt_of_block HSB.out)
      have HW8 := hid (HW6.out.trans (X7.out.trans (X7b.out.trans (X8.out.trans X8b.out))))
      have HPC8 := hid (fun W' (X : Ext V8 W') => HPC5.out W' (X6.out.trans (X7.out.trans (X7b.out.trans (X8.out.trans (X8b.out.trans X))))))
      have HR7V := hid (HR7.out.later (X7b.out.trans (X8.out.trans X8b.out)))
      have HR8V := hid (HR8.out.later X8b.out)
      have HVRV := hid (HVR.out.later (X5.out.trans (X6.out.trans (X7.out.trans (X7b.out.trans (X8.out.trans X8b.out))))))
      have HPM := hid (may_nodes HMAY.out)
      have HJN := hid (fun (W : World) (q : Nat) (ty : TypeId) (hW : Ext V8 W) (hq : W.heap[q]? = some (.cells #[.int .i64 xk, .int .i64 xn, .string xx, .slice xa k xc, .int .i64 yk, .int .i64 yn, .string yx, .slice ya yl yc] ty)) => (said_of (op := nJoin) (ts := [listT (ls.take k), listT (ls.drop k)]) (t := listT ls) (by have h := ans_join (may_take HMAY.out k) (may_drop HMAY.out k) (by rw [List.take_append_drop]; exact HMAY.out); rw [List.take_append_drop] at h; exact h) (by simp) (some ⟨q, 0, none⟩) 2 W (HM.out.later (HW8.out.trans hW)) (prowR2 hq (HR7V.out.later hW) (HR8V.out.later hW))).mono (R' := fun e w' => ∃ d v, e = .returned (.tuple #[v, .int .i64 0, .string ⟨#[]⟩]) ∧ VRd (fun _ => True) w' d v (listT ls) ∧ Ext V8 w' ∧ Ext W w') (fun e w' ⟨d, v, he, hr, hx⟩ => ⟨d, v, he, hr, hW.trans hx, hx⟩))
      have HSZ := hid (fun (W : World) (q : Nat) (ty : TypeId) (hW : Ext V8 W) (hq : W.heap[q]? = some (.cells #[.int .i64 5, .int .i64 0, .string ⟨#[]⟩, .slice a n c1] ty)) => (said_of (op := nSize) (ts := [listT ls]) (t := intT (ls.length : Int)) (ans_size HMAY.out) (by simp) (some ⟨q, 0, none⟩) 1 W (HM.out.later (HW8.out.trans hW)) (prowR1 hq (HND.out W (HW8.out.trans hW)))).mono (R' := fun e w' => ∃ d v, e = .returned (.tuple #[v, .int .i64 0, .string ⟨#[]⟩]) ∧ VRd (fun _ => True) w' d v (intT (ls.length : Int)) ∧ Ext V8 w' ∧ Ext W w') (fun e w' ⟨d, v, he, hr, hx⟩ => ⟨d, v, he, hr, hW.trans hx, hx⟩))
      have HTN := hid (fun (W : World) (q : Nat) (ty : TypeId) (hW : Ext V8 W) (hq : W.heap[q]? = some (.cells #[.int .i64 5, .int .i64 0, .string ⟨#[]⟩, .slice a n c1] ty)) => (said_of (op := nTurn) (ts := [listT ls]) (t := listT ls.reverse) (ans_turn HMAY.out) (by simp) (some ⟨q, 0, none⟩) 1 W (HM.out.later (HW8.out.trans hW)) (prowR1 hq (HND.out W (HW8.out.trans hW)))).mono (R' := fun e w' => ∃ d v, e = .returned (.tuple #[v, .int .i64 0, .string ⟨#[]⟩]) ∧ VRd (fun _ => True) w' d v (listT ls.reverse) ∧ Ext V8 w' ∧ Ext W w') (fun e w' ⟨d, v, he, hr, hx⟩ => ⟨d, v, he, hr, hW.trans hx, hx⟩))
      obtain ⟨q0, q1, q2, q3⟩ := HQC.out V8 (X8.out.trans X8b.out)
      have hql := lt_of_cell q0
      obtain ⟨s0, s1, s2, s3⟩ := HSC.out V8 (Ext.refl _)
      have hsl := lt_of_cell s0
      go_wp2_with fail
      clear hV hVS q0 q1 q2 q3 hql s0 s1 s2 s3 hsl
      generalize w8.heap.size = S at *
      refine (HJN.out _ _ _ (Ext.alloc _ _) (blk0 _ _)).mono ?_
      rintro e w9 ⟨dj, vj, rfl, hrj, hx9, _⟩
      have HRJ := hid hrj
      have X9 := hid hx9
      clear hrj hx9
      obtain ⟨z0, z1, z2, z3⟩ := HPC8.out w9 X9.out
      have hzl := lt_of_cell z0
      go_wp2_with fail
      clear z0 z1 z2 z3 hzl
      refine (HSZ.out _ _ _ (X9.out.trans (Ext.alloc _ _)) (blk0 _ _)).mono ?_
      rintro e w10 ⟨ds, vs, rfl, hrs, hx10, hy10⟩
      obtain rfl := VRd.int (n := (ls.length : Int)) hrs
      have X10 := hid hx10
      have Y10 := hid ((Ext.alloc w9 (.cells #[.int .i64 5, .int .i64 0, .string ⟨#[]⟩, .slice a n c1] 34)).trans hy10)
      clear hrs hx10 hy10
      obtain ⟨z0, z1, z2, z3⟩ := HPC8.out w10 X10.out
      have hzl := lt_of_cell z0
      go_wp2_with fail
      clear z0 z1 z2 z3 hzl
      refine (HTN.out _ _ _ (X10.out.trans (Ext.alloc _ _)) (blk0 _ _)).mono ?_
      rintro e w11 ⟨dt, vt, rfl, hrt, hx11, hy11⟩
      have HRT := hid hrt
      have X11 := hid hx11
      have Y11 := hid ((Ext.alloc w10 (.cells #[.int .i64 5, .int .i64 0, .string ⟨#[]⟩, .slice a n c1] 34)).trans hy11)
      clear hrt hx11 hy11
      go_wp2_with fail
      have HP11 := hid (may_nodes (may_rev HMAY.out))
      refine (Plain_any w11 HRT.out HP11.out.1 HP11.out.2).mono ?_
      rintro e w12 ⟨hx12, u0, u1, u2, u3, rfl, hrd12⟩
      obtain ⟨tk, tn, tx, ta, tc, rfl, rfl, rfl, rfl⟩ := hrd12.shape
      have X12 := hid (X11.out.trans hx12)
      have Y12 := hid (Y10.out.trans (Y11.out.trans hx12))
      obtain ⟨tl, htl⟩ : ∃ tl, (listT ls.reverse).kids.length = tl := ⟨_, rfl⟩
      rw [htl] at hrd12 ⊢
      have HR12 := hid hrd12
      clear hx12 hrd12 htl
      obtain ⟨V12, hV⟩ : ∃ V, w12.alloc (.cells #[.int .i64 tk, .int .i64 tn, .string tx, .slice ta tl tc] 34) = V := ⟨_, rfl⟩
      have hVS : w12.heap.size + 1 = V12.heap.size := by rw [← hV, blkS]
      have HUB := hid (show V12.heap[w12.heap.size]? = some (.cells #[.int .i64 tk, .int .i64 tn, .string tx, .slice ta tl tc] 34) from hV ▸ blk0 _ _)
      have X12b := hid (show Ext w12 V12 from hV ▸ Ext.alloc _ _)
      have HUC := hid (show ∀ W', Ext V12 W' → (W'.cell? ⟨w12.heap.size, 0, none⟩ = some (.int .i64 tk) ∧ W'.cell? ⟨w12.heap.size, 1, none⟩ = some (.int .i64 tn) ∧ W'.cell? ⟨w12.heap.size, 2, none⟩ = some (.string tx) ∧ W'.cell? ⟨w12.heap.size, 3, none⟩ = some (.slice ta tl tc)) from fun W' X => by
        obtain ⟨z0, z1, z2, z3⟩ := four_of (X.block HUB.out)
        exact ⟨z0, z1, z2, z3⟩)
      have UL := hid (lt_of_block HUB.out)
      have X13 := hid (X12.out.trans X12b.out)
      have HRJV := hid (HRJ.out.later (Y12.out.trans X12b.out))
      have hne1 : ∀ w : World, (binOp .neq 29 (.iface 51 (.int .i64 (ls.length : Int))) (.iface 51 (.int .i64 (n : Int)))).run Tryz.prog w = .ok (.bool false) w := fun w => by
        rw [neIn, HNE.out]
        simp
      obtain ⟨z0, z1, z2, z3⟩ := HPC8.out V12 X13.out
      have hzl := lt_of_cell z0
      go_wp2_with fail
      clear hV hVS z0 z1 z2 z3 hzl
      generalize w12.heap.size = U at *
      have HBT := hid ((T.beq_eq (listT ls) (.node 5 0 ⟨#[]⟩ ls)).2 rfl)
      have HIS := hid (show ∀ W (q : Value) (K : Nat → Prop) (dq : Nat), Ext V12 W → VRd K W dq q (listT ls) → Calls Tryz.prog 19 #[q, .agg #[.int .i64 5, .int .i64 0, .string ⟨#[]⟩, .slice a n c1]] W fun e w' => e = .returned (.bool true) ∧ Ext W w' from fun W q K dq hW hq => by
        have := is_any W hq (HND.out W (HW8.out.trans (X13.out.trans hW))) HPM.out.1 HPM.out.2
        rwa [HBT.out] at this)
      refine (HIS.out _ _ _ _ (Ext.refl _) (HVRV.out.later X13.out)).mono ?_
      rintro e w13 ⟨rfl, hx13⟩
      have X14 := hid hx13
      clear hx13
      obtain ⟨z0, z1, z2, z3⟩ := HPC8.out w13 (X13.out.trans X14.out)
      have hzl := lt_of_cell z0
      go_wp2_with fail
      clear z0 z1 z2 z3 hzl
      refine (HIS.out _ _ _ _ X14.out (HRJV.out.later X14.out)).mono ?_
      rintro e w14 ⟨rfl, hx14⟩
      have X15 := hid (X14.out.trans hx14)
      clear hx14
      obtain ⟨q0, q1, q2, q3⟩ := HQC.out w14 (X8.out.trans (X8b.out.trans (X13.out.trans X15.out)))
      have hql := lt_of_cell q0
      obtain ⟨z0, z1, z2, z3⟩ := HUC.out w14 X15.out
      have hzl := lt_of_cell z0
      go_wp2_with fail
      clear q0 q1 q2 q3 hql z0 z1 z2 z3 hzl hne1
      have HR12V := hid (HR12.out.later X12b.out)
      have HT2 := hid (fun (W : World) (q : Nat) (ty : TypeId) (hW : Ext V12 W) (hq : W.heap[q]? = some (.cells #[.int .i64 tk, .int .i64 tn, .string tx, .slice ta tl tc] ty)) => (said_of (op := nTurn) (ts := [listT ls.reverse]) (t := listT ls) (by have h := ans_turn (may_rev HMAY.out); rw [List.reverse_reverse] at h; exact h) (by simp) (some ⟨q, 0, none⟩) 1 W (HM.out.later ((HW8.out.trans X13.out).trans hW)) (prowR1 hq (HR12V.out.later hW))).mono (R' := fun e w' => ∃ d v, e = .returned (.tuple #[v, .int .i64 0, .string ⟨#[]⟩]) ∧ VRd (fun _ => True) w' d v (listT ls) ∧ Ext V12 w' ∧ Ext W w') (fun e w' ⟨d, v, he, hr, hx⟩ => ⟨d, v, he, hr, hW.trans hx, hx⟩))
      refine (HT2.out _ _ _ (X15.out.trans (Ext.alloc _ _)) (blk0 _ _)).mono ?_
      rintro e w15 ⟨db, vb, rfl, hrb, hx15, _⟩
      have HRB := hid hrb
      have X16 := hid hx15
      clear hrb hx15
      obtain ⟨z0, z1, z2, z3⟩ := HPC8.out w15 (X13.out.trans X16.out)
      have hzl := lt_of_cell z0
      go_wp2_with fail
      clear z0 z1 z2 z3 hzl
      refine (HIS.out _ _ _ _ X16.out HRB.out).mono ?_
      rintro e w16 ⟨rfl, hx16⟩
      have X17 := hid (X16.out.trans hx16)
      clear hx16
      go_wp2_with fail
      refine (lof_any none 0 0 _).mono ?_
      rintro e w17 ⟨rfl, hx17⟩
      have X18 := hid (X17.out.trans hx17)
      have HW17 := hid (HW8.out.trans (X13.out.trans (X17.out.trans hx17)))
      clear hx17
      have HPCL := hid (fun W' (X : Ext w17 W') => HPC8.out W' (X13.out.trans (X18.out.trans X)))
      have HUCL := hid (fun W' (X : Ext w17 W') => HUC.out W' (X18.out.trans X))
      have HRUL := hid (HR12V.out.later X18.out)
      clear HJN HSZ HTN HT2
      obtain ⟨G, hG0⟩ : ∃ G, w17.heap.size = G := ⟨_, rfl⟩
      have HGE := hid hG0
      have HGB := hid (show (w17.alloc (.cells #[.int .i64 5, .int .i64 0, .string ⟨#[]⟩, .slice none 0 0] 34)).heap[G]? = some (.cells #[.int .i64 5, .int .i64 0, .string ⟨#[]⟩, .slice none 0 0] 34) from hG0 ▸ blk0 _ _)
      go_wp2_with fail
      clear hG0
      go_loopw [35] (fun q35 wr => ∃ (j d0 : Nat) (k0 m0 : Int) (x0 : ByteArray) (s0 : Option Addr) (l0 c0 : Nat), j ≤ n ∧ q35 = .int .i64 j ∧ wr.heap[G]? = some (.cells #[.int .i64 k0, .int .i64 m0, .string x0, .slice s0 l0 c0] 34) ∧ Rd (· ≠ G) wr d0 (.agg #[.int .i64 k0, .int .i64 m0, .string x0, .slice s0 l0 c0]) (listT (ls.take j)) ∧ Ext w17 wr) (fun q35 _ => n - (intOf q35).toNat)
      case atStart => exact ⟨0, 1, 5, 0, ⟨#[]⟩, none, 0, 0, Nat.zero_le _, rfl, HGB.out, emptyRd _ _, Ext.alloc _ _⟩
      case round =>
       obtain ⟨j, d0, k0, m0, x0, s0, l0, c0, hj, rfl, hgb, hrg, hx⟩ := hrel
       rename World => wq
       have HG := hid hgb
       have HRG := hid hrg
       have X := hid hx
       clear hgb hrg hx HGB
       by_cases hlt : j < n
       · have hlt' : (j : Int) < (n : Int) := by omega
         have hjl : j < ls.length := by rw [HNE.out]; exact hlt
         obtain ⟨g, off, lk, ln, lx, la, ll, lc, rfl, _, h4, hrj⟩ := HRL.out.kid hjl
         have HLJ := hid (show ∀ W', Ext wq W' → (W'.cell? ⟨g, off + j * 4, none⟩ = some (.int .i64 lk) ∧ W'.cell? ⟨g, off + j * 4 + 1, none⟩ = some (.int .i64 ln) ∧ W'.cell? ⟨g, off + j * 4 + 2, none⟩ = some (.string lx) ∧ W'.cell? ⟨g, off + j * 4 + 3, none⟩ = some (.slice la ll lc)) from fun W' Y => h4.later (HW17.out.trans (X.out.trans Y)))
         have HRJL := hid (fun W' (Y : Ext wq W') => hrj.later (HW17.out.trans (X.out.trans Y)))
         have HPCJ := hid (fun W' (Y : Ext wq W') => HPCL.out W' (X.out.trans Y))
         have HUCJ := hid (fun W' (Y : Ext wq W') => HUCL.out W' (X.out.trans Y))
         have HWQ := hid (HW17.out.trans X.out)
         have HMJ := hid (may_kid HMAY.out hjl)
         have HTS := hid (show ls.take j ++ [ls[j]] = ls.take (j + 1) from (List.take_succ_eq_append_getElem hjl).symm)
         have HRV := hid (show ∃ m : Nat, (IntKind.i64.wrap (IntKind.i64.wrap ((n : Int) - 1) - (j : Int))) = (m : Int) ∧ ∃ h : m < ls.reverse.length, ls.reverse[m] = ls[j] from ⟨n - 1 - j, wrapZ n j hlt (by omega), by rw [List.length_reverse, HNE.out]; omega, by
           rw [List.getElem_reverse]
           congr 1
           have := HNE.out
           omega⟩)
         clear h4 hrj
         have HANS := hid (ans_at HMAY.out j hjl)
         have HANZ := hid (show ansOf listK nAt [listT ls.reverse, intT (IntKind.i64.wrap (IntKind.i64.wrap ((n : Int) - 1) - (j : Int)))] (listF nAt [listT ls.reverse, intT (IntKind.i64.wrap (IntKind.i64.wrap ((n : Int) - 1) - (j : Int)))]) = .good ls[j] from by
           obtain ⟨m, h1, h2, h3⟩ := HRV.out
           rw [h1, ← h3]
           exact ans_at (may_rev HMAY.out) m h2)
         have HANA := hid (show ansOf listK nAdd [listT (ls.take j), ls[j]] (listF nAdd [listT (ls.take j), ls[j]]) = .good (listT (ls.take (j + 1))) from by
           have h := ans_add (may_take HMAY.out j) HMJ.out (by rw [HTS.out]; exact may_take HMAY.out (j + 1))
           rwa [HTS.out] at h)
         clear HRV HTS
         generalize hlj : ls[j] = tj at *
         clear hlj
         have HPJ := hid (may_nodes HMJ.out)
         have HAT := hid (fun (W : World) (q : Nat) (ty : TypeId) (hW : Ext wq W) (hq : W.heap[q]? = some (.cells #[.int .i64 5, .int .i64 0, .string ⟨#[]⟩, .slice (some ⟨g, off, none⟩) n c1, .int .i64 3, .int .i64 (j : Int), .string ⟨#[]⟩, .slice none 0 0] ty)) => (said_of (op := nAt) (ts := [listT ls, intT (j : Int)]) (t := tj) HANS.out (by simp) (some ⟨q, 0, none⟩) 2 W (HM.out.later (HWQ.out.trans hW)) (prowR2 hq (HND.out W (HWQ.out.trans hW)) (intRd (fun _ => True) W _))).mono (R' := fun e w' => ∃ d v, e = .returned (.tuple #[v, .int .i64 0, .string ⟨#[]⟩]) ∧ VRd (fun _ => True) w' d v tj ∧ Ext wq w' ∧ Ext W w') (fun e w' ⟨d, v, he, hr, hx⟩ => ⟨d, v, he, hr, hW.trans hx, hx⟩))
         have HAZ := hid (fun (W : World) (q : Nat) (ty : TypeId) (hW : Ext wq W) (hq : W.heap[q]? = some (.cells #[.int .i64 tk, .int .i64 tn, .string tx, .slice ta tl tc, .int .i64 3, .int .i64 (IntKind.i64.wrap (IntKind.i64.wrap ((n : Int) - 1) - (j : Int))), .string ⟨#[]⟩, .slice none 0 0] ty)) => (said_of (op := nAt) (ts := [listT ls.reverse, intT (IntKind.i64.wrap (IntKind.i64.wrap ((n : Int) - 1) - (j : Int)))]) (t := tj) HANZ.out (by simp) (some ⟨q, 0, none⟩) 2 W (HM.out.later (HWQ.out.trans hW)) (prowR2 hq (HRUL.out.later (X.out.trans hW)) (intRd (fun _ => True) W _))).mono (R' := fun e w' => ∃ d v, e = .returned (.tuple #[v, .int .i64 0, .string ⟨#[]⟩]) ∧ VRd (fun _ => True) w' d v tj ∧ Ext wq w' ∧ Ext W w') (fun e w' ⟨d, v, he, hr, hx⟩ => ⟨d, v, he, hr, hW.trans hx, hx⟩))
         have HAD := hid (fun (W : World) (q : Nat) (ty : TypeId) (hW : Ext wq W) (hq : W.heap[q]? = some (.cells #[.int .i64 k0, .int .i64 m0, .string x0, .slice s0 l0 c0, .int .i64 lk, .int .i64 ln, .string lx, .slice la ll lc] ty)) => (said_of (op := nAdd) (ts := [listT (ls.take j), tj]) (t := listT (ls.take (j + 1))) HANA.out (by simp) (some ⟨q, 0, none⟩) 2 W (HM.out.later (HWQ.out.trans hW)) (prowR2 hq (HRG.out.later hW) (HRJL.out W hW))).mono (R' := fun e w' => ∃ d v, e = .returned (.tuple #[v, .int .i64 0, .string ⟨#[]⟩]) ∧ VRd (fun _ => True) w' d v (listT (ls.take (j + 1))) ∧ Ext wq w' ∧ Ext W w') (fun e w' ⟨d, v, he, hr, hx⟩ => ⟨d, v, he, hr, hW.trans hx, hx⟩))
         go_upto_region 32 with fail
         go_cut [36, 37, 38] from 211 to 283 (fun q1 q2 q3 wx => ∃ d v, q1 = v ∧ q2 = .int .i64 0 ∧ q3 = .string ⟨#[]⟩ ∧ VRd (fun _ => True) wx d v tj ∧ Ext wq wx)
         case first =>
           go_region_held3 (fun W' => W'.cell? ⟨P, 0, none⟩ = some (.int .i64 5) ∧ W'.cell? ⟨P, 1, none⟩ = some (.int .i64 0) ∧ W'.cell? ⟨P, 2, none⟩ = some (.string ⟨#[]⟩) ∧ W'.cell? ⟨P, 3, none⟩ = some (.slice (some ⟨g, off, none⟩) n c1))
             ((refine HPCJ.out _ ?_; repeat (first | with_reducible exact Z2 | with_reducible exact Z1 | with_reducible exact Ext.refl _ | with_reducible refine Ext.drew ?_ | with_reducible refine Ext.more ?_ _)))
             (first
               | (go_at_call 17; refine (lnum_any _ _).mono ?_; rintro r u1 ⟨rfl, hy⟩; have Z1 : Ext wq u1 := Ext.trans (by repeat (first | with_reducible exact Z1 | with_reducible exact Ext.refl _ | with_reducible refine Ext.drew ?_ | with_reducible refine Ext.more ?_ _)) hy)
               | (go_at_call 16; refine (HAT.out _ _ _ (by repeat (first | with_reducible exact Z1 | with_reducible exact Ext.refl _ | with_reducible refine Ext.drew ?_ | with_reducible refine Ext.more ?_ _)) (by first | with_reducible exact blk0 _ _ | with_reducible exact dheap (blk0 _ _) | with_reducible exact dheap (dheap (blk0 _ _)) | exact blk0 _ _)).mono ?_; rintro r u2 ⟨d2, v2, rfl, hr2, Z2, _⟩; have HR2 := hid hr2; clear hr2))
           all_goals
             go_wp2_with fail
             go_meet
             case rel => exact ⟨d2, v2, rfl, rfl, rfl, HR2.out, Z2⟩
         case' rest =>
         obtain ⟨da, va, rfl, rfl, rfl, hra, hxa⟩ := hcut
         rename World => wa
         have HRA := hid hra
         have XA := hid hxa
         have HUCA := hid (fun W' (Y : Ext wa W') => HUCJ.out W' (XA.out.trans Y))
         have HAZA := hid (fun (W : World) (q : Nat) (ty : TypeId) (Y : Ext wa W) hb => (HAZ.out W q ty (XA.out.trans Y) hb).mono (R' := fun e w' => ∃ d v, e = .returned (.tuple #[v, .int .i64 0, .string ⟨#[]⟩]) ∧ VRd (fun _ => True) w' d v tj ∧ Ext wa w' ∧ Ext W w') (fun e w' ⟨d, v, he, hr, _, hy⟩ => ⟨d, v, he, hr, Y.trans hy, hy⟩))
         clear hra hxa
         go_upto_region 33 with fail
         go_cut [39, 40, 41] from 211 to 283 (fun q1 q2 q3 wx => ∃ d v, q1 = v ∧ q2 = .int .i64 0 ∧ q3 = .string ⟨#[]⟩ ∧ VRd (fun _ => True) wx d v tj ∧ Ext wa wx)
         case first =>
           go_region_held3 (fun W' => W'.cell? ⟨U, 0, none⟩ = some (.int .i64 tk) ∧ W'.cell? ⟨U, 1, none⟩ = some (.int .i64 tn) ∧ W'.cell? ⟨U, 2, none⟩ = some (.string tx) ∧ W'.cell? ⟨U, 3, none⟩ = some (.slice ta tl tc))
             ((refine HUCA.out _ ?_; repeat (first | with_reducible exact Z2 | with_reducible exact Z1 | with_reducible exact Ext.refl _ | with_reducible refine Ext.drew ?_ | with_reducible refine Ext.more ?_ _)))
             (first
               | (go_at_call 17; refine (lnum_any _ _).mono ?_; rintro r u1 ⟨rfl, hy⟩; have Z1 : Ext wa u1 := Ext.trans (by repeat (first | with_reducible exact Z1 | with_reducible exact Ext.refl _ | with_reducible refine Ext.drew ?_ | with_reducible refine Ext.more ?_ _)) hy)
               | (go_at_call 16; refine (HAZA.out _ _ _ (by repeat (first | with_reducible exact Z1 | with_reducible exact Ext.refl _ | with_reducible refine Ext.drew ?_ | with_reducible refine Ext.more ?_ _)) (by first | with_reducible exact blk0 _ _ | with_reducible exact dheap (blk0 _ _) | with_reducible exact dheap (dheap (blk0 _ _)) | exact blk0 _ _)).mono ?_; rintro r u2 ⟨d2, v2, rfl, hr2, Z2, _⟩; have HR2 := hid hr2; clear hr2))
           all_goals
             go_wp2_with fail
             go_meet
             case rel => exact ⟨d2, v2, rfl, rfl, rfl, HR2.out, Z2⟩
         case' rest =>
         obtain ⟨dz, vz, rfl, rfl, rfl, hrz, hxz⟩ := hcut
         rename World => wb
         have HRZ := hid hrz
         have XB := hid (XA.out.trans hxz)
         have HRAB := hid (HRA.out.later hxz)
         clear hrz hxz
         have HBJ := hid ((T.beq_eq tj tj).2 rfl)
         have HIJ := hid (show ∀ W (q : Value) (K : Nat → Prop) (dq : Nat), Ext wq W → VRd K W dq q tj → Calls Tryz.prog 19 #[q, .agg #[.int .i64 lk, .int .i64 ln, .string lx, .slice la ll lc]] W fun e w' => e = .returned (.bool true) ∧ Ext W w' from fun W q K dq hW hq => by
           have := is_any W hq (HRJL.out W hW) HPJ.out.1 HPJ.out.2
           rwa [HBJ.out] at this)
         obtain ⟨z0, z1, z2, z3⟩ := HLJ.out wb XB.out
         have hzl := lt_of_cell z0
         go_wp2_with fail
         clear z0 z1 z2 z3 hzl
         refine (HIJ.out _ _ _ _ XB.out HRAB.out).mono ?_
         rintro e wc1 ⟨rfl, hx1⟩
         have XC := hid (XB.out.trans hx1)
         have HRZC := hid (HRZ.out.later hx1)
         clear hx1
         obtain ⟨z0, z1, z2, z3⟩ := HLJ.out wc1 XC.out
         have hzl := lt_of_cell z0
         go_wp2_with fail
         clear z0 z1 z2 z3 hzl
         refine (HIJ.out _ _ _ _ XC.out HRZC.out).mono ?_
         rintro e wd ⟨rfl, hx1⟩
         have XD := hid (XC.out.trans hx1)
         clear hx1
         have HGCD := hid (show ∀ W', Ext wd W' → ((W'.cell? ⟨G, 0, none⟩ = some (.int .i64 k0) ∧ W'.cell? ⟨G, 1, none⟩ = some (.int .i64 m0) ∧ W'.cell? ⟨G, 2, none⟩ = some (.string x0) ∧ W'.cell? ⟨G, 3, none⟩ = some (.slice s0 l0 c0)) ∧ (W'.cell? ⟨g, off + j * 4, none⟩ = some (.int .i64 lk) ∧ W'.cell? ⟨g, off + j * 4 + 1, none⟩ = some (.int .i64 ln) ∧ W'.cell? ⟨g, off + j * 4 + 2, none⟩ = some (.string lx) ∧ W'.cell? ⟨g, off + j * 4 + 3, none⟩ = some (.slice la ll lc))) from fun W' Y => by
           obtain ⟨y0, y1, y2, y3⟩ := four_of ((XD.out.trans Y).block HG.out)
           exact ⟨⟨y0, y1, y2, y3⟩, HLJ.out W' (XD.out.trans Y)⟩)
         have HGCS := hid (show ∀ W', Ext wd W' → (W'.cell? ⟨G, 0, none⟩ = some (.int .i64 k0) ∧ W'.cell? ⟨G, 1, none⟩ = some (.int .i64 m0) ∧ W'.cell? ⟨G, 2, none⟩ = some (.string x0) ∧ W'.cell? ⟨G, 3, none⟩ = some (.slice s0 l0 c0) ∧ W'.cell? ⟨g, off + j * 4, none⟩ = some (.int .i64 lk) ∧ W'.cell? ⟨g, off + j * 4 + 1, none⟩ = some (.int .i64 ln) ∧ W'.cell? ⟨g, off + j * 4 + 2, none⟩ = some (.string lx) ∧ W'.cell? ⟨g, off + j * 4 + 3, none⟩ = some (.slice la ll lc)) from fun W' Y => by
           obtain ⟨⟨y0, y1, y2, y3⟩, y4⟩ := HGCD.out W' Y
           exact ⟨y0, y1, y2, y3, y4⟩)
         have HADD := hid (fun (W : World) (q : Nat) (ty : TypeId) (Y : Ext wd W) hb => (HAD.out W q ty (XD.out.trans Y) hb).mono (R' := fun e w' => ∃ d v, e = .returned (.tuple #[v, .int .i64 0, .string ⟨#[]⟩]) ∧ VRd (fun _ => True) w' d v (listT (ls.take (j + 1))) ∧ Ext wd w' ∧ Ext W w') (fun e w' ⟨d, v, he, hr, _, hy⟩ => ⟨d, v, he, hr, Y.trans hy, hy⟩))
         clear HGCD
         go_upto_region 36 with fail
         go_cut [42, 43, 44] from 211 to 283 (fun q1 q2 q3 wx => ∃ d v, q1 = v ∧ q2 = .int .i64 0 ∧ q3 = .string ⟨#[]⟩ ∧ VRd (fun _ => True) wx d v (listT (ls.take (j + 1))) ∧ Ext wd wx)
         case first =>
           go_region_held3 (fun W' => W'.cell? ⟨G, 0, none⟩ = some (.int .i64 k0) ∧ W'.cell? ⟨G, 1, none⟩ = some (.int .i64 m0) ∧ W'.cell? ⟨G, 2, none⟩ = some (.string x0) ∧ W'.cell? ⟨G, 3, none⟩ = some (.slice s0 l0 c0) ∧ W'.cell? ⟨g, off + j * 4, none⟩ = some (.int .i64 lk) ∧ W'.cell? ⟨g, off + j * 4 + 1, none⟩ = some (.int .i64 ln) ∧ W'.cell? ⟨g, off + j * 4 + 2, none⟩ = some (.string lx) ∧ W'.cell? ⟨g, off + j * 4 + 3, none⟩ = some (.slice la ll lc))
             ((refine HGCS.out _ ?_; repeat (first | with_reducible exact Z2 | with_reducible exact Z1 | with_reducible exact Ext.refl _ | with_reducible refine Ext.drew ?_ | with_reducible refine Ext.more ?_ _)))
             (first
               | (go_at_call 17; refine (lnum_any _ _).mono ?_; rintro r u1 ⟨rfl, hy⟩; have Z1 : Ext wd u1 := Ext.trans (by repeat (first | with_reducible exact Z1 | with_reducible exact Ext.refl _ | with_reducible refine Ext.drew ?_ | with_reducible refine Ext.more ?_ _)) hy)
               | (go_at_call 16; refine (HADD.out _ _ _ (by repeat (first | with_reducible exact Z1 | with_reducible exact Ext.refl _ | with_reducible refine Ext.drew ?_ | with_reducible refine Ext.more ?_ _)) (by first | with_reducible exact blk0 _ _ | with_reducible exact dheap (blk0 _ _) | with_reducible exact dheap (dheap (blk0 _ _)) | exact blk0 _ _)).mono ?_; rintro r u2 ⟨d2, v2, rfl, hr2, Z2, _⟩; have HR2 := hid hr2; clear hr2))
           all_goals
             go_wp2_with fail
             go_meet
             case rel => exact ⟨d2, v2, rfl, rfl, rfl, HR2.out, Z2⟩
         case' rest =>
         obtain ⟨de, ve, rfl, rfl, rfl, hre, hxe⟩ := hcut
         rename World => we
         have HRE := hid hre
         have XE := hid (XD.out.trans hxe)
         clear hre hxe
         have HPE := hid (may_nodes (may_take HMAY.out (j + 1)))
         go_wp2_with fail
         refine (Plain_any we HRE.out HPE.out.1 HPE.out.2).mono ?_
         rintro e wf ⟨hxf, u0, u1, u2, u3, rfl, hrf⟩
         obtain ⟨ak, an, ax, aa, ac, rfl, rfl, rfl, rfl⟩ := hrf.shape
         have HRF := hid hrf
         have XF := hid (XE.out.trans hxf)
         have HGF := hid (XF.out.block HG.out)
         have HGL := hid (show G < we.heap.size from lt_of_block (XE.out.block HG.out))
         generalize (listT (ls.take (j + 1))).kids.length = al at *
         obtain ⟨y0, y1, y2, y3⟩ := four_of HGF.out
         obtain ⟨f0, f1, f2, f3⟩ := four_free HGF.out
         clear hrf hxf
         go_wp2_with fail
         go_roundw
         case measure => simp [intOf]; omega
         case rel =>
           obtain ⟨r1, r2, r3⟩ := box_rel HGF.out (X.out.trans XF.out) HGE.out HGL.out HRF.out
           refine ⟨j + 1, de, ak, an, ax, aa, al, ac, hlt, ?_, r1, r2, r3⟩
           go_num
       · obtain rfl : j = n := by omega
         have hlt3 : ¬ (j : Int) < (j : Int) := by omega
         obtain ⟨y0, y1, y2, y3⟩ := four_of HG.out
         obtain ⟨z0, z1, z2, z3⟩ := HPCL.out wq X.out
         have hzl := lt_of_cell z0
         have hyl := lt_of_cell y0
         have hq := HND.out wq (HW17.out.trans X.out)
         have HEQ := hid (eq_any d0 _ _ _ _ _ _ wq (d + 1) HRG.out hq)
         clear hq
         rw [show ls.take j = ls by rw [← HNE.out, List.take_length], HBT.out] at HEQ
         go_wp2_with fail
         refine HEQ.out.mono ?_
         rintro e wz ⟨rfl, hxz⟩
         have XZ := hid (HW17.out.trans (X.out.trans hxz))
         clear hxz y0 y1 y2 y3 z0 z1 z2 z3
         go_wp2_with fail
         go_ret
         exact ⟨rfl, XZ.out⟩

end Go.Proofs.YtecabbifkcnbeaaGreatDoor.Nd
