/-
  The document's own Variable and Cut (package espalierref5), each by a contract.
-/
import Derived.Test.YtllbelglilkdpaaDoorSApart
import Derived.Test.YtllbelglilkdpaaDoorSText
import Derived.Test.YtllbelglilkdpaaDoorSSameF
namespace Go.Proofs.YtllbelglilkdpaaDoor
open Go.RowKit
set_option maxRecDepth 100000 in
theorem rvar_any (x : ByteArray) (w : World) (hx : x.size ≤ 140737488351232) : Calls Tryd.prog 46 #[.string x] w fun e w' => e = .returned (.bool (vrbL x.data.toList)) ∧ w' = w := by
  have hx' : (x.size : Int) ≤ 140737488351232 := by omega
  by_cases h1 : x.size = 1
  · obtain ⟨c, hc⟩ : ∃ c, x.data.toList = [c] := by
      have hl : x.data.toList.length = 1 := by rw [Array.length_toList]; exact h1
      match x.data.toList, hl with
      | [c], _ => exact ⟨c, rfl⟩
    have hv : vrbL x.data.toList = (decide (97 ≤ c.toNat) && decide (c.toNat ≤ 122)) := by rw [hc]; rfl
    have HV := hid hv
    have hxe : x = ⟨#[c]⟩ := of_list hc
    clear hv hc hx hx'
    subst hxe
    clear h1
    have e1 : decide ((97 : Int) ≤ ((c.toNat : Nat) : Int)) = decide (97 ≤ c.toNat) := by by_cases h : 97 ≤ c.toNat; rw [decide_eq_true h]; exact decide_eq_true (by omega); rw [decide_eq_false h]; exact decide_eq_false (by omega)
    have e2 : decide (((c.toNat : Nat) : Int) ≤ 122) = decide (c.toNat ≤ 122) := by by_cases h : c.toNat ≤ 122; rw [decide_eq_true h]; exact decide_eq_true (by omega); rw [decide_eq_false h]; exact decide_eq_false (by omega)
    have e3 : decide ((97 : Int) ≤ ((((⟨#[c]⟩ : ByteArray)[0]'(Nat.lt_succ_self 0)).toNat : Nat) : Int)) = _ := e1
    have e4 : decide (((((⟨#[c]⟩ : ByteArray)[0]'(Nat.lt_succ_self 0)).toNat : Nat) : Int) ≤ 122) = _ := e2
    clear e1 e2
    generalize decide (97 ≤ c.toNat) = b1 at *
    generalize decide (c.toNat ≤ 122) = b2 at *
    cases b1 <;> cases b2
    all_goals
      go_enter Tryd.func46, Tryd.ntmps46
      go_wp2_with fail
      go_ret
      exact ⟨by rw [HV.out]; rfl, rfl⟩
  · have HV := hid (show vrbL x.data.toList = false by
      have hl : x.data.toList.length ≠ 1 := by rw [Array.length_toList]; exact h1
      match x.data.toList, hl with
      | [], _ => rfl
      | [c], hl => exact absurd rfl hl
      | c :: c' :: r, _ => rfl)
    have q : ((x.size : Int) == 1) = false := by rw [beq_eq_false_iff_ne]; omega
    go_enter Tryd.func46, Tryd.ntmps46
    go_wp2_with fail
    go_ret
    exact ⟨by rw [HV.out]; rfl, rfl⟩
/-- What Cut answers. -/
def cutV : Option (Nat × ByteArray) → Value
  | some (n, x) => .tuple #[.agg #[.int .i64 n, .string x], .bool true]
  | none => .tuple #[.agg #[.int .i64 0, .string ⟨#[]⟩], .bool false]
/-- A sort's shape, n lists having been taken off. -/
def shpAt (n : Nat) (s : S) : Option (Nat × ByteArray) := if n ≤ 64 then (if (peel (64 - n) s).2.kids.length = 0 ∧ leafL (peel (64 - n) s).2.name.data.toList = true then some (n + (peel (64 - n) s).1, (peel (64 - n) s).2.name) else none) else none
theorem shpAt_zero (s : S) : shpAt 0 s = shp s := by
  unfold shpAt shp
  rw [if_pos (Nat.zero_le _)]
  simp
theorem shpAt_step {n : Nat} {k : S} (hn : n ≤ 64) : shpAt n (.node wList [k]) = shpAt (n + 1) k := by
  unfold shpAt
  rw [if_pos hn]
  by_cases h : n + 1 ≤ 64
  · rw [if_pos h]
    have e : 64 - n = (64 - (n + 1)) + 1 := by omega
    rw [e, peel_step rfl]
    show (if (peel (64 - (n + 1)) k).2.kids.length = 0 ∧ leafL (peel (64 - (n + 1)) k).2.name.data.toList = true then some (n + ((peel (64 - (n + 1)) k).1 + 1), (peel (64 - (n + 1)) k).2.name) else none) = _
    rw [show n + ((peel (64 - (n + 1)) k).1 + 1) = n + 1 + (peel (64 - (n + 1)) k).1 by omega]
  · rw [if_neg h]
    have e : 64 - n = 0 := by omega
    rw [e]
    exact if_neg (fun h => by have := h.1; simp [peel, S.kids] at this)
theorem shpAt_stop {n : Nat} {x : ByteArray} {ks : List S} (hn : n ≤ 64) (h : ¬ (x = wList ∧ ks.length = 1)) : shpAt n (.node x ks) = if ks.length = 0 ∧ leafL x.data.toList = true then some (n, x) else none := by
  unfold shpAt
  rw [if_pos hn]
  have e : peel (64 - n) (.node x ks) = (0, .node x ks) := by
    cases hm : 64 - n with
    | zero => rfl
    | succ m => exact peel_stop h
  rw [e]
  rfl
theorem shpAt_far {n : Nat} {s : S} (hn : ¬ n ≤ 64) : shpAt n s = none := if_neg hn
theorem list_leaf : leafL wList.data.toList = false := rfl
set_option maxRecDepth 100000 in
set_option maxHeartbeats 4000000 in
theorem cut_any {K : Nat → Prop} {d : Nat} {v : Value} {t : S} (w : World) (hr : SRd K w d v t) : Calls Tryd.prog 44 #[v] w fun e w' => e = .returned (cutV (shp t)) ∧ Ext w w' := by
  obtain ⟨a, c, rfl⟩ := hr.shape
  have HR := hid hr.low
  have HSZ := hid hr.size
  clear hr
  obtain ⟨nt, hnt⟩ : ∃ nt, S.name t = nt := ⟨_, rfl⟩
  obtain ⟨kt, hkt⟩ : ∃ kt, (S.kids t).length = kt := ⟨_, rfl⟩
  obtain ⟨R, hR⟩ : ∃ R, shp t = R := ⟨_, rfl⟩
  rw [hnt, hkt] at HR ⊢
  rw [hR]
  have HNT := hid hnt
  have HKT := hid hkt
  have HRR := hid hR
  clear hnt hkt hR
  obtain ⟨M, hM⟩ : ∃ M, (w.alloc (.cells #[.string nt, .slice a kt c] 27)).alloc (.cells #[.int .i64 0, .string ⟨#[]⟩] 83) = M := ⟨_, rfl⟩
  have XM := hid (show Ext w M from hM ▸ Ext.alloc2 _ _ _)
  have HM0 := hid (show M.heap[w.heap.size]? = some (.cells #[.string nt, .slice a kt c] 27) from hM ▸ blkOld _ (blk0 _ _))
  have HM1 := hid (show M.heap[w.heap.size + 1]? = some (.cells #[.int .i64 0, .string ⟨#[]⟩] 83) from hM ▸ blk1 _ _ _)
  go_enter Tryd.func44, Tryd.ntmps44
  go_wp2_with fail
  clear hM
  go_loopg [4] d (fun g q4 wr => ∃ (n : Nat) (cur : S) (a2 : Option Addr) (c2 : Nat), q4 = .int .i64 n ∧ n ≤ 65 ∧ wr.heap[w.heap.size]? = some (.cells #[.string (S.name cur), .slice a2 (S.kids cur).length c2] 27) ∧ SRd (· < w.heap.size) wr g (.agg #[.string (S.name cur), .slice a2 (S.kids cur).length c2]) cur ∧ shpAt n cur = R ∧ Kp (· ≠ w.heap.size) M wr)
  case atStart => exact ⟨0, t, a, c, rfl, by omega, by rw [HNT.out, HKT.out]; exact HM0.out, by rw [HNT.out, HKT.out]; exact HR.out.later XM.out, by rw [shpAt_zero]; exact HRR.out, Kp.refl _ _⟩
  case round =>
    obtain ⟨n, cur, a2, c2, rfl, hn, hb, hrd, hsh, hk⟩ := hrel
    have hsz := hrd.size
    obtain ⟨x, ks⟩ := cur
    have hsx : x.size ≤ 140737488351232 := hsz.1
    have hsk : ks.length * 40 ≤ 140737488351232 := hsz.2
    have HSX := hid hsx
    have HK := hid hk
    have HSH := hid hsh
    have HRD := hid (show SRd (· < w.heap.size) wr gk (.agg #[.string x, .slice a2 ks.length c2]) (.node x ks) from hrd)
    have HB := hid (show wr.heap[w.heap.size]? = some (.cells #[.string x, .slice a2 ks.length c2] 27) from hb)
    have HRES := hid (hk.block' HM1.out (by omega))
    have hkl : (ks.length : Int) ≤ 140737488351232 := by omega
    have HN := hid hn
    have hn' : (n : Int) ≤ 65 := by omega
    clear hsz hsx hsk hk hsh hrd hb
    obtain ⟨b0, b1⟩ := two_of HB.out
    obtain ⟨b2, b3⟩ := two_free HB.out
    obtain ⟨r0, r1⟩ := two_of HRES.out
    obtain ⟨r2, r3⟩ := two_free HRES.out
    have hl0 := lit_eq x [108, 105, 115, 116]
    by_cases hx : x.data.toList = [108, 105, 115, 116]
    · have hxw : x = wList := of_list hx
      rw [decide_eq_true hx] at hl0
      have HXL := hid hxw
      clear hx hxw
      by_cases h1 : ks.length = 1
      · match ks, h1 with
        | [k0], _ =>
        by_cases h65 : n = 65
        · have HNO := hid (show R = none by rw [← HSH.out]; exact shpAt_far (by omega))
          subst h65
          go_wp2_with fail
          obtain ⟨z0, z1⟩ := two_of (two_set (u0 := .int .i64 0) (u1 := .string ⟨#[]⟩) HRES.out)
          refine bodyPost_ret (v := .tuple #[.agg #[.int .i64 0, .string ⟨#[]⟩], .bool false]) (by simp [results, Tryd.results44, go_sem, z0, z1]) rfl ?_
          rw [HNO.out]
          exact ⟨rfl, Kp.extOf (Kp.extOf XM.out HK.out (Nat.le_refl _)) (Kp.set2 wr (w.heap.size + 1) 0 _ _) (by omega)⟩
        · have HST := hid (show shpAt (n + 1) k0 = R by rw [← HSH.out, HXL.out]; exact (shpAt_step (by have := HN.out; omega)).symm)
          have h65' : ((n : Int) == 65) = false := by rw [beq_eq_false_iff_ne]; omega
          cases gk with
          | zero => exact HRD.out.elim
          | succ g =>
            obtain ⟨a3, c3, e3, _, _, h5⟩ := HRD.out
            have e3' : a2 = a3 ∧ c2 = c3 := by simpa using e3
            obtain ⟨rfl, rfl⟩ := e3'
            rcases h5 with h5 | ⟨g5, off, rfl, hg5, hc⟩
            · cases h5
            obtain ⟨u0, u1, h4, hr4⟩ := hc 0 (by simp)
            obtain ⟨a6, c6, e6⟩ := hr4.shape
            obtain ⟨rfl, rfl⟩ := agg_two e6
            have HR4 := hid (show SRd (· < w.heap.size) wr g (.agg #[.string k0.name, .slice a6 k0.kids.length c6]) k0 from hr4)
            have h4' : Two wr g5 off (.string k0.name) (.slice a6 k0.kids.length c6) := by simpa using h4
            obtain ⟨p0, p1⟩ := h4'
            have b1' : wr.cell? ⟨w.heap.size, 0 + 1, none⟩ = some (.slice (some ⟨g5, off, none⟩) 1 c2) := b1
            obtain ⟨n6, hn6⟩ : ∃ n6, k0.name = n6 := ⟨_, rfl⟩
            obtain ⟨k6, hk6⟩ : ∃ k6, k0.kids.length = k6 := ⟨_, rfl⟩
            rw [hn6, hk6] at HR4
            rw [hn6] at p0
            rw [hk6] at p1
            have HN6 := hid hn6
            have HK6 := hid hk6
            have hnlt : (n : Int) ≤ 64 := by omega
            clear hc h4 hr4 e3 e6 hn6 hk6 hg5 b1 h65 hkl HRD
            go_wp2_with fail
            go_roundg g
            case measure => omega
            case rel =>
              refine ⟨n + 1, k0, a6, c6, by go_num, by omega, ?_, ?_, HST.out, HK.out.trans (Kp.set2 wr w.heap.size 0 _ _)⟩
              · rw [HN6.out, HK6.out]; exact two_set HB.out
              · rw [HN6.out, HK6.out]
                exact HR4.out.keep ((Kp.set2 wr w.heap.size 0 _ _).mono (fun k _ (hk : k < w.heap.size) => by show k ≠ _; omega))
      · have HNO := hid (show R = none by
          rw [← HSH.out]
          by_cases hn64 : n ≤ 64
          · rw [shpAt_stop hn64 (fun h => h1 h.2), HXL.out, list_leaf]
            exact if_neg (fun h => by cases h.2)
          · exact shpAt_far hn64)
        obtain ⟨kl, hkl2⟩ : ∃ kl, ks.length = kl := ⟨_, rfl⟩
        rw [hkl2] at b1 h1 hkl
        have q1 : ((kl : Int) != 1) = true := by rw [bne_iff_ne]; omega
        have q2 : ((kl : Int) == 1) = false := by rw [beq_eq_false_iff_ne]; omega
        clear h1 hkl2
        go_wp2_with fail
        obtain ⟨z0, z1⟩ := two_of (two_set (u0 := .int .i64 0) (u1 := .string ⟨#[]⟩) HRES.out)
        refine bodyPost_ret (v := .tuple #[.agg #[.int .i64 0, .string ⟨#[]⟩], .bool false]) (by simp [results, Tryd.results44, go_sem, z0, z1]) rfl ?_
        rw [HNO.out]
        exact ⟨rfl, Kp.extOf (Kp.extOf XM.out HK.out (Nat.le_refl _)) (Kp.set2 wr (w.heap.size + 1) 0 _ _) (by omega)⟩
    · rw [decide_eq_false hx] at hl0
      have HXW := hid (show x ≠ wList from fun e => hx (by rw [e]; rfl))
      have HVA := hid (fun w1 => rvar_any x w1 HSX.out)
      have HG := hid (show grdL x.data.toList = (decide (x.data.toList = [117, 110, 105, 116]) || decide (x.data.toList = [116, 114, 117, 116, 104]) || decide (x.data.toList = [105, 110, 116]) || decide (x.data.toList = [116, 101, 120, 116])) from rfl)
      have HLF := hid (show leafL x.data.toList = (grdL x.data.toList || vrbL x.data.toList) from rfl)
      have l1 := lit_eq x [117, 110, 105, 116]
      have l2 := lit_eq x [116, 114, 117, 116, 104]
      have l3 := lit_eq x [105, 110, 116]
      have l4 := lit_eq x [116, 101, 120, 116]
      obtain ⟨W0, hW0⟩ : ∃ V, V = wr := ⟨wr, rfl⟩
      subst hW0
      generalize decide (x.data.toList = [117, 110, 105, 116]) = t1 at *
      generalize decide (x.data.toList = [116, 114, 117, 116, 104]) = t2 at *
      generalize decide (x.data.toList = [105, 110, 116]) = t3 at *
      generalize decide (x.data.toList = [116, 101, 120, 116]) = t4 at *
      have HRT := hid (show R = if n ≤ 64 then (if ks.length = 0 ∧ leafL x.data.toList = true then some (n, x) else none) else none by
        rw [← HSH.out]
        by_cases hn64 : n ≤ 64
        · rw [if_pos hn64, shpAt_stop hn64 (fun h => HXW.out h.1)]
        · rw [if_neg hn64]; exact shpAt_far hn64)
      obtain ⟨kl, hkl2⟩ : ∃ kl, ks.length = kl := ⟨_, rfl⟩
      rw [hkl2] at b1 hkl HRT
      clear hx hkl2
      go_upto_region 7 with fail
      go_cut [5] (fun s5 wx => s5 = .bool (grdL x.data.toList) ∧ wx = W0)
      case first =>
        cases t1 with
        | true =>
          go_wp2_with fail
          go_meet
          case rel => exact ⟨by rw [HG.out]; rfl, rfl⟩
        | false =>
          cases t2 with
          | true =>
            go_wp2_with fail
            go_meet
            case rel => exact ⟨by rw [HG.out]; rfl, rfl⟩
          | false =>
            cases t3 with
            | true =>
              go_wp2_with fail
              go_meet
              case rel => exact ⟨by rw [HG.out]; rfl, rfl⟩
            | false =>
              cases t4 with
              | true =>
                go_wp2_with fail
                go_meet
                case rel => exact ⟨by rw [HG.out]; rfl, rfl⟩
              | false =>
                go_wp2_with fail
                go_meet
                case rel => exact ⟨by rw [HG.out]; rfl, rfl⟩
      case rest =>
      obtain ⟨rfl, rfl⟩ := hcut
      obtain ⟨W0, hW0⟩ : ∃ V, V = wc := ⟨wc, rfl⟩
      subst hW0
      obtain ⟨gg, hgg⟩ : ∃ gg, grdL x.data.toList = gg := ⟨_, rfl⟩
      obtain ⟨vv, hvv⟩ : ∃ vv, vrbL x.data.toList = vv := ⟨_, rfl⟩
      rw [hgg] at HLF ⊢
      rw [hvv] at HLF HVA
      rw [HLF.out] at HRT
      clear l1 l2 l3 l4 hl0 hgg hvv HG HLF
      have HX0 := hid (Kp.extOf XM.out HK.out (Nat.le_refl _))
      by_cases hk0 : kl = 0
      case neg =>
        have HNO := hid (show R = none by
          rw [HRT.out]
          split
          · exact if_neg (fun h => hk0 h.1)
          · rfl)
        have q1 : ((kl : Int) != 0) = true := by rw [bne_iff_ne]; omega
        have q2 : ((kl : Int) == 0) = false := by rw [beq_eq_false_iff_ne]; omega
        clear hk0
        go_wp2_with fail
        obtain ⟨z0, z1⟩ := two_of (two_set (u0 := .int .i64 0) (u1 := .string ⟨#[]⟩) HRES.out)
        refine bodyPost_ret (v := .tuple #[.agg #[.int .i64 0, .string ⟨#[]⟩], .bool false]) (by simp [results, Tryd.results44, go_sem, z0, z1]) rfl ?_
        rw [HNO.out]
        exact ⟨rfl, Kp.extOf HX0.out (Kp.set2 W0 (w.heap.size + 1) 0 _ _) (by omega)⟩
      case pos =>
      subst hk0
      by_cases hn64 : n ≤ 64
      case neg =>
        have HNO := hid (show R = none by rw [HRT.out, if_neg hn64])
        have hn65 : n = 65 := by have := HN.out; omega
        subst hn65
        clear hn64
        go_wp2_with fail
        obtain ⟨z0, z1⟩ := two_of (two_set (u0 := .int .i64 0) (u1 := .string ⟨#[]⟩) HRES.out)
        refine bodyPost_ret (v := .tuple #[.agg #[.int .i64 0, .string ⟨#[]⟩], .bool false]) (by simp [results, Tryd.results44, go_sem, z0, z1]) rfl ?_
        rw [HNO.out]
        exact ⟨rfl, Kp.extOf HX0.out (Kp.set2 W0 (w.heap.size + 1) 0 _ _) (by omega)⟩
      case pos =>
      rw [if_pos hn64] at HRT
      have hnl : ¬ (65 : Int) < (n : Int) + 1 := by omega
      have hnb : (n : Int) ≤ 64 := by omega
      clear hn64
      cases gg with
      | true =>
        have HYES := hid (show R = some (n, x) by rw [HRT.out]; exact if_pos ⟨rfl, rfl⟩)
        go_wp2_with fail
        obtain ⟨z0, z1⟩ := two_of (two_set (u0 := .int .i64 n) (u1 := .string x) HRES.out)
        refine bodyPost_ret (v := .tuple #[.agg #[.int .i64 n, .string x], .bool true]) (by simp [results, Tryd.results44, go_sem, z0, z1]) rfl ?_
        rw [HYES.out]
        exact ⟨rfl, Kp.extOf HX0.out (Kp.set2 W0 (w.heap.size + 1) 0 _ _) (by omega)⟩
      | false =>
        cases vv with
        | true =>
          have HYES := hid (show R = some (n, x) by rw [HRT.out]; exact if_pos ⟨rfl, rfl⟩)
          go_wp2_with fail
          go_at_call 46
          refine (HVA.out W0).mono ?_
          rintro e w9 ⟨rfl, hw9⟩
          rw [hw9]
          clear hw9 w9
          go_wp2_with fail
          obtain ⟨z0, z1⟩ := two_of (two_set (u0 := .int .i64 n) (u1 := .string x) HRES.out)
          refine bodyPost_ret (v := .tuple #[.agg #[.int .i64 n, .string x], .bool true]) (by simp [results, Tryd.results44, go_sem, z0, z1]) rfl ?_
          rw [HYES.out]
          exact ⟨rfl, Kp.extOf HX0.out (Kp.set2 W0 (w.heap.size + 1) 0 _ _) (by omega)⟩
        | false =>
          have HNO := hid (show R = none by rw [HRT.out]; exact if_neg (fun h => by cases h.2))
          go_wp2_with fail
          go_at_call 46
          refine (HVA.out W0).mono ?_
          rintro e w9 ⟨rfl, hw9⟩
          rw [hw9]
          clear hw9 w9
          go_wp2_with fail
          obtain ⟨z0, z1⟩ := two_of (two_set (u0 := .int .i64 0) (u1 := .string ⟨#[]⟩) HRES.out)
          refine bodyPost_ret (v := .tuple #[.agg #[.int .i64 0, .string ⟨#[]⟩], .bool false]) (by simp [results, Tryd.results44, go_sem, z0, z1]) rfl ?_
          rw [HNO.out]
          exact ⟨rfl, Kp.extOf HX0.out (Kp.set2 W0 (w.heap.size + 1) 0 _ _) (by omega)⟩
end Go.Proofs.YtllbelglilkdpaaDoor
/-
  The document's own Whole, Line, May, Same and Text (package espalierref5), each by a contract.
-/
namespace Go.Proofs.YtllbelglilkdpaaDoor
open Go.RowKit
set_option maxRecDepth 100000 in
set_option maxHeartbeats 1000000 in
theorem whole_any (n : Nat) (x : ByteArray) (w : World) (hn : n ≤ 1048576) (hx : x.size ≤ 140737488351232) : Calls Tryd.prog 47 #[.agg #[.int .i64 n, .string x]] w fun e w' => ∃ v', e = .returned v' ∧ SRd (fun q => w.heap.size ≤ q) w' (n + 1) v' (chain n x) ∧ Ext w w' := by
  have hn' : (n : Int) ≤ 1048576 := by omega
  have HX0 := hid hx
  clear hx
  go_enter Tryd.func47, Tryd.ntmps47
  go_wp2_with fail
  go_loopw [4] (fun i wr => ∃ (j : Nat) (a : Option Addr) (c : Nat), i = .int .i64 j ∧ j ≤ n ∧ Ext w wr ∧ wr.heap[w.heap.size]? = some (.cells #[.int .i64 n, .string x] 83) ∧ wr.heap[w.heap.size + 1]? = some (.cells #[.string ⟨#[]⟩, .slice none 0 0] 27) ∧ wr.heap[w.heap.size + 1 + 1]? = some (.cells #[.string (chain j x).name, .slice a (chain j x).kids.length c] 27) ∧ SRd (fun q => w.heap.size + 3 ≤ q) wr (j + 1) (.agg #[.string (chain j x).name, .slice a (chain j x).kids.length c]) (chain j x)) (fun i _ => n - (intOf i).toNat)
  case atStart =>
    exact ⟨0, none, 0, rfl, Nat.zero_le _, (Ext.alloc2 _ _ _).trans (Ext.alloc _ _), blkOld _ (blkOld _ (blk0 _ _)), blkOld _ (blk1 _ _ _), blkN (by rw [blkS, blkS]), ⟨none, 0, rfl, HX0.out, by decide, .inl rfl⟩⟩
  case round =>
    obtain ⟨j, a, c, rfl, hj, hx, hb0, hb1, hb2, hrd⟩ := hrel
    have HX := hid hx
    have HB1 := hid hb1
    have HB2 := hid hb2
    have HB0 := hid hb0
    have HRD := hid hrd
    obtain ⟨p0, p1⟩ := two_of hb2
    obtain ⟨f0, f1⟩ := two_free hb2
    obtain ⟨n0, n1⟩ := two_of hb0
    have hs2 := lt_of_block hb2
    clear hx hb0 hb1 hb2 hrd
    by_cases hlt : j < n
    · have hlt' : (j : Int) < n := by omega
      have HC := hid (show chain (j + 1) x = .node wList [chain j x] from rfl)
      generalize chain j x = t at *
      obtain ⟨nm, kids⟩ := t
      have HRD' : Hid (SRd (fun q => w.heap.size + 3 ≤ q) wr (j + 1) (.agg #[.string nm, .slice a kids.length c]) (.node nm kids)) := HRD
      have p0' : wr.cell? ⟨w.heap.size + 1 + 1, 0, none⟩ = some (.string nm) := p0
      have p1' : wr.cell? ⟨w.heap.size + 1 + 1, 0 + 1, none⟩ = some (.slice a kids.length c) := p1
      clear p0 p1 HRD
      go_wp2_with fail
      go_roundw
      case rel =>
        have k2 := Kp.set2 wr (w.heap.size + 1 + 1) 0 (.string ⟨#[108, 105, 115, 116]⟩) (.slice (some ⟨wr.heap.size, 0, none⟩) 1 1)
        have hsz : ((wr.setCell ⟨w.heap.size + 1 + 1, 0, none⟩ (.string ⟨#[108, 105, 115, 116]⟩)).setCell ⟨w.heap.size + 1 + 1, 0 + 1, none⟩ (.slice (some ⟨wr.heap.size, 0, none⟩) 1 1)).heap.size = wr.heap.size := by rw [size_set, size_set]
        have k3 := k2.trans ((Ext.alloc _ (.cells #[.string nm, .slice a kids.length c] 27)).kp _)
        refine ⟨j + 1, some ⟨wr.heap.size, 0, none⟩, 1, by go_num, hlt, ?_⟩
        rw [HC.out]
        refine ⟨Kp.ext ((HX.out.kp _).trans k3) (fun q hq => by show q ≠ w.heap.size + 1 + 1; omega), k3.block' HB0.out (by omega), k3.block' HB1.out (by omega), blkOld _ (two_set HB2.out), ?_⟩
        exact SRd.list (t := .node nm kids) (blkN hsz) (by omega) (HRD'.out.keep (k3.mono (fun q _ h => by have h' : w.heap.size + 3 ≤ q := h; show q ≠ _; omega)))
      case measure => simp [intOf]; omega
    · have hlt' : ¬ (j : Int) < n := by omega
      have hje : j = n := by omega
      subst hje
      obtain ⟨t, ht⟩ : ∃ t, chain j x = t := ⟨_, rfl⟩
      rw [ht] at HRD p0 p1 HB2
      have HT := hid ht
      clear ht
      obtain ⟨nm, kids⟩ := t
      have HRD' : Hid (SRd (fun q => w.heap.size + 3 ≤ q) wr (j + 1) (.agg #[.string nm, .slice a kids.length c]) (.node nm kids)) := HRD
      have p0' : wr.cell? ⟨w.heap.size + 1 + 1, 0, none⟩ = some (.string nm) := p0
      have p1' : wr.cell? ⟨w.heap.size + 1 + 1, 0 + 1, none⟩ = some (.slice a kids.length c) := p1
      obtain ⟨r0, r1⟩ := two_of HB1.out
      obtain ⟨e0, e1⟩ := two_free HB1.out
      clear p0 p1 HRD
      go_wp2_with fail
      obtain ⟨z0, z1⟩ := two_of (two_set (u0 := .string nm) (u1 := .slice a kids.length c) HB1.out)
      refine bodyPost_ret (v := .agg #[.string nm, .slice a kids.length c]) (by simp [results, Tryd.results47, go_sem, z0, z1]) rfl ?_
      have k2 := Kp.set2 wr (w.heap.size + 1) 0 (.string nm) (.slice a kids.length c)
      rw [HT.out]
      exact ⟨_, rfl, (HRD'.out.keep (k2.mono (fun q _ h => by have h' : w.heap.size + 3 ≤ q := h; show q ≠ _; omega))).mono (fun q _ h => by have h' : w.heap.size + 3 ≤ q := h; show w.heap.size ≤ q; omega), Kp.ext ((HX.out.kp _).trans k2) (fun q hq => by show q ≠ w.heap.size + 1; omega)⟩
theorem cutV_O (t : S) : cutV (shp t) = .tuple #[.agg #[.int .i64 (shO t).1, .string (shO t).2], .bool (shp t).isSome] := by
  unfold shO
  cases shp t with
  | none => rfl
  | some a => rfl
set_option maxRecDepth 100000 in
theorem rmay_any {K : Nat → Prop} {d : Nat} {v : Value} {t : S} (w : World) (hr : SRd K w d v t) : Calls Tryd.prog 24 #[v] w fun e w' => e = .returned (.int .i64 (mayS t)) ∧ Ext w w' := by
  obtain ⟨a, c, rfl⟩ := hr.shape
  have HC := hid (fun w1 (h : Ext w w1) => cut_any w1 (hr.later h))
  rw [cutV_O] at HC
  have HM := hid (show mayS t = if (shp t).isSome then 0 else 14 from rfl)
  clear hr
  generalize t.name = nt at *
  generalize t.kids.length = kt at *
  generalize (shO t).1 = n at *
  generalize (shO t).2 = x at *
  generalize mayS t = mt at *
  cases hb : (shp t).isSome with
  | true =>
    rw [hb] at HC HM
    clear hb
    go_enter Tryd.func24, Tryd.ntmps24
    go_wp2_with fail
    go_at_call 44
    refine (HC.out _ (Ext.alloc _ _)).mono ?_
    rintro e w1 ⟨rfl, hx1⟩
    have X1 := hid (((Ext.alloc w _).trans hx1).trans (Ext.alloc w1 (.cells #[.int .i64 n, .string x] 83)))
    clear hx1
    go_wp2_with fail
    go_ret
    exact ⟨by rw [HM.out]; rfl, X1.out⟩
  | false =>
    rw [hb] at HC HM
    clear hb
    go_enter Tryd.func24, Tryd.ntmps24
    go_wp2_with fail
    go_at_call 44
    refine (HC.out _ (Ext.alloc _ _)).mono ?_
    rintro e w1 ⟨rfl, hx1⟩
    have X1 := hid (((Ext.alloc w _).trans hx1).trans (Ext.alloc w1 (.cells #[.int .i64 n, .string x] 83)))
    clear hx1
    go_wp2_with fail
    go_ret
    exact ⟨by rw [HM.out]; rfl, X1.out⟩
end Go.Proofs.YtllbelglilkdpaaDoor
/-
  The document's own Line, Text and Same (package espalierref5), each by a contract.
-/
namespace Go.Proofs.YtllbelglilkdpaaDoor
open Go.RowKit
theorem txtB_step (j : Nat) (x : ByteArray) : (⟨#[108, 105, 115, 116, 32]⟩ : ByteArray) ++ txtB j x = txtB (j + 1) x := by
  refine data_inj ?_
  have e : ((⟨#[108, 105, 115, 116, 32]⟩ : ByteArray) ++ txtB j x).data.toList = [108, 105, 115, 116, 32] ++ (txtB j x).data.toList := by simp
  rw [e]
  unfold txtB
  simp [txtL, wL]
theorem txtB_len (j : Nat) (x : ByteArray) : (txtB j x).size = 5 * j + x.size := by
  have h : (txtB j x).size = (txtL j x.data.toList).length := by unfold txtB; show (txtL j x.data.toList).toArray.size = _; simp
  rw [h, txt_len]
  have e : x.data.toList.length = x.size := by rw [Array.length_toList]; rfl
  rw [e]
set_option maxRecDepth 100000 in
set_option maxHeartbeats 1000000 in
theorem line_any (n : Nat) (x : ByteArray) (w : World) (hn : n ≤ 64) (hx : x.size ≤ 5) : Calls Tryd.prog 45 #[.agg #[.int .i64 n, .string x]] w fun e w' => e = .returned (.string (txtB n x)) ∧ Ext w w' := by
  have hn' : (n : Int) ≤ 64 := by omega
  have HX := hid hx
  clear hx
  obtain ⟨M, hM⟩ : ∃ M, w.alloc (.cells #[.int .i64 n, .string x] 83) = M := ⟨_, rfl⟩
  have XM := hid (show Ext w M from hM ▸ Ext.alloc _ _)
  have HB := hid (show M.heap[w.heap.size]? = some (.cells #[.int .i64 n, .string x] 83) from hM ▸ blk0 _ _)
  obtain ⟨m0, m1⟩ := two_of HB.out
  go_enter Tryd.func45, Tryd.ntmps45
  go_wp2_with fail
  clear hM
  go_loopw [3, 4] (fun s i wr => ∃ j : Nat, j ≤ n ∧ i = .int .i64 j ∧ s = .string (txtB j x) ∧ Ext M wr) (fun _ i _ => n - (intOf i).toNat)
  case atStart => exact ⟨0, Nat.zero_le _, rfl, by show Value.string x = .string (txtB 0 x); rw [show txtB 0 x = x from data_inj (by unfold txtB; simp [txtL])], Ext.refl _⟩
  case round =>
    obtain ⟨j, hj, rfl, rfl, hxr⟩ := hrel
    have XR := hid hxr
    clear m0 m1 hxr
    obtain ⟨m0, m1⟩ := two_of (XR.out.block HB.out)
    have HJ := hid hj
    have HST := hid (txtB_step j x)
    have hlen := txtB_len j x
    obtain ⟨y, hy⟩ : ∃ y, txtB j x = y := ⟨_, rfl⟩
    rw [hy] at hlen HST
    rw [hy]
    have hsz : y.size ≤ 400 := by have := HX.out; omega
    have HY := hid hy
    have HSZ := hid hsz
    have hadd : ∀ w1 : World, (Op.stringOp .add ⟨#[108, 105, 115, 116, 32]⟩ y).run Tryd.prog w1 = .ok (.string (⟨#[108, 105, 115, 116, 32]⟩ ++ y)) w1 := fun w1 => run_string_add_sum w1 _ y (by show 5 + y.size ≤ _; omega)
    rw [HST.out] at hadd
    clear hlen hy hsz
    obtain ⟨z, hz⟩ : ∃ z, txtB (j + 1) x = z := ⟨_, rfl⟩
    rw [hz] at hadd
    have HZ := hid hz
    clear hz HST
    by_cases hlt : j < n
    · have hlt' : (j : Int) < n := by omega
      go_wp2_with fail
      go_roundw
      case rel => exact ⟨j + 1, by omega, by go_num, by rw [HZ.out], XR.out⟩
      case measure => simp [intOf]; omega
    · have hlt' : ¬ (j : Int) < n := by omega
      have hje : j = n := by omega
      have HNE := hid hje
      clear hje
      go_wp2_with fail
      go_ret
      exact ⟨by rw [← HNE.out, HY.out]; rfl, XM.out.trans XR.out⟩
set_option maxRecDepth 100000 in
set_option maxHeartbeats 1000000 in
theorem rtext_any {K : Nat → Prop} {d : Nat} {v : Value} {t : S} (w : World) (hr : SRd K w d v t) : Calls Tryd.prog 26 #[v] w fun e w' => e = .returned (txtV t) ∧ Ext w w' := by
  obtain ⟨a, c, rfl⟩ := hr.shape
  have HC := hid (fun w1 (h : Ext w w1) => cut_any w1 (hr.later h))
  obtain ⟨ans, hans⟩ : ∃ ans, txtV t = ans := ⟨_, rfl⟩
  rw [hans]
  clear hr
  cases hs : shp t with
  | none =>
    have HA := hid (show ans = .tuple #[.string ⟨#[]⟩, .int .i64 14] by rw [← hans]; unfold txtV; rw [hs])
    rw [hs] at HC
    clear hans hs
    generalize t.kids.length = kl at *
    generalize t.name = nm at *
    unfold cutV at HC
    go_enter Tryd.func26, Tryd.ntmps26
    go_wp2_with fail
    go_at_call 44
    refine (HC.out _ (Ext.alloc _ _)).mono ?_
    rintro e w1 ⟨rfl, hx1⟩
    have X1 := hid (((Ext.alloc w _).trans hx1).trans (Ext.alloc w1 (.cells #[.int .i64 0, .string ⟨#[]⟩] 83)))
    clear hx1
    go_wp2_with fail
    go_ret2
    exact ⟨by rw [HA.out]; rfl, X1.out⟩
  | some y =>
    obtain ⟨n, x⟩ := y
    have HA := hid (show ans = .tuple #[.string (txtB n x), .int .i64 0] by rw [← hans]; unfold txtV; rw [hs])
    have HLE := hid (shp_le hs)
    rw [hs] at HC
    clear hans hs
    generalize t.kids.length = kl at *
    generalize t.name = nm at *
    unfold cutV at HC
    go_enter Tryd.func26, Tryd.ntmps26
    go_wp2_with fail
    go_at_call 44
    refine (HC.out _ (Ext.alloc _ _)).mono ?_
    rintro e w1 ⟨rfl, hx1⟩
    obtain ⟨V, hV⟩ : ∃ V, w1.alloc (.cells #[.int .i64 n, .string x] 83) = V := ⟨_, rfl⟩
    have X1 := hid (show Ext w V from hV ▸ (((Ext.alloc w _).trans hx1).trans (Ext.alloc _ _)))
    obtain ⟨v0, v1⟩ := two_of (show V.heap[w1.heap.size]? = some (.cells #[.int .i64 n, .string x] 83) from hV ▸ blk0 _ _)
    clear hx1
    go_wp2_with fail
    go_at_call 45
    refine (line_any n x V HLE.out.1 (leaf_size HLE.out.2)).mono ?_
    rintro e w2 ⟨rfl, hx2⟩
    have X2 := hid (X1.out.trans hx2)
    clear hx2 v0 v1 hV
    go_wp2_with fail
    go_ret2
    exact ⟨by rw [HA.out]; rfl, X2.out⟩
end Go.Proofs.YtllbelglilkdpaaDoor
/-
  The document's own Same and join (package espalierref5), each by a contract.
-/
namespace Go.Proofs.YtllbelglilkdpaaDoor
open Go.RowKit
theorem sh_beq (n m : Nat) (x y : ByteArray) : (((n : Int) == (m : Int)) && (x.toList == y.toList)) = decide ((n, x) = (m, y)) := by
  rw [nat_beq, str_beq]
  by_cases h1 : n = m
  · by_cases h2 : x = y
    · rw [decide_eq_true h1, decide_eq_true h2, decide_eq_true (by rw [h1, h2])]; rfl
    · rw [decide_eq_false h2, decide_eq_false (fun e => h2 (Prod.mk.inj e).2)]; simp
  · rw [decide_eq_false h1, decide_eq_false (fun e => h1 (Prod.mk.inj e).1)]; simp
set_option maxRecDepth 100000 in
set_option maxHeartbeats 2000000 in
theorem rsame_any {K K' : Nat → Prop} {d d' : Nat} {v v' : Value} {t u : S} (w : World) (hr : SRd K w d v t) (hr' : SRd K' w d' v' u) : Calls Tryd.prog 25 #[v, v'] w fun e w' => e = .returned (.bool (sameS t u)) ∧ Ext w w' := by
  obtain ⟨a, c, rfl⟩ := hr.shape
  obtain ⟨a', c', rfl⟩ := hr'.shape
  have C1 := hid (fun w1 (h : Ext w w1) => cut_any w1 (hr.later h))
  have C2 := hid (fun w1 (h : Ext w w1) => cut_any w1 (hr'.later h))
  obtain ⟨ans, hans⟩ : ∃ ans, sameS t u = ans := ⟨_, rfl⟩
  rw [hans]
  rw [cutV_O] at C1 C2
  have HA := hid (show ans = ((shp t).isSome && (shp u).isSome && ((shO t).1 == (shO u).1 && (shO t).2.toList == (shO u).2.toList)) by
    rw [← hans]
    unfold sameS shO
    cases shp t with
    | none => simp
    | some a =>
      cases shp u with
      | none => simp
      | some b =>
        show (decide (a.1 = b.1) && decide (a.2 = b.2)) = (true && true && (((a.1 : Int) == (b.1 : Int)) && (a.2.toList == b.2.toList)))
        rw [nat_beq, str_beq]
        simp)
  clear hr hr' hans
  generalize t.name = nt at *
  generalize t.kids.length = kt at *
  generalize u.name = nu at *
  generalize u.kids.length = ku at *
  generalize (shO t).1 = n at *
  generalize (shO t).2 = x at *
  generalize (shO u).1 = m at *
  generalize (shO u).2 = y at *
  generalize (shp t).isSome = b1 at *
  generalize (shp u).isSome = b2 at *
  obtain ⟨M, hM⟩ : ∃ M, (w.alloc (.cells #[.string nt, .slice a kt c] 27)).alloc (.cells #[.string nu, .slice a' ku c'] 27) = M := ⟨_, rfl⟩
  have XM := hid (show Ext w M from hM ▸ Ext.alloc2 _ _ _)
  have HM0 := hid (show M.heap[w.heap.size]? = some (.cells #[.string nt, .slice a kt c] 27) from hM ▸ blkOld _ (blk0 _ _))
  have HM1 := hid (show M.heap[w.heap.size + 1]? = some (.cells #[.string nu, .slice a' ku c'] 27) from hM ▸ blk1 _ _ _)
  obtain ⟨m0, m1⟩ := two_of HM0.out
  have hcmp : ∀ w1 : World, True := fun _ => trivial
  obtain ⟨p, hp⟩ : ∃ p, (n == m) = p := ⟨_, rfl⟩
  obtain ⟨q, hq⟩ : ∃ q, (x.toList == y.toList) = q := ⟨_, rfl⟩
  rw [hp, hq] at HA
  cases b1 <;> cases b2 <;> cases p <;> cases q
  all_goals
    go_enter Tryd.func25, Tryd.ntmps25
    go_wp2_with fail
    go_at_call 44
    refine (C1.out M XM.out).mono ?_
    rintro e w1 ⟨rfl, hx1⟩
    clear hM m0 m1
    obtain ⟨V1, hV1⟩ : ∃ V, w1.alloc (.cells #[.int .i64 n, .string x] 83) = V := ⟨_, rfl⟩
    have X1 := hid (show Ext M V1 from hV1 ▸ hx1.trans (Ext.alloc _ _))
    have HB1 := hid (show V1.heap[w1.heap.size]? = some (.cells #[.int .i64 n, .string x] 83) from hV1 ▸ blk0 _ _)
    obtain ⟨m0, m1⟩ := two_of (X1.out.block HM1.out)
    clear hx1
    go_wp2_with fail
    go_at_call 44
    refine (C2.out V1 (XM.out.trans X1.out)).mono ?_
    rintro e w2 ⟨rfl, hx2⟩
    clear hV1 m0 m1
    obtain ⟨V2, hV2⟩ : ∃ V, w2.alloc (.cells #[.int .i64 m, .string y] 83) = V := ⟨_, rfl⟩
    have Y2 := hid (show Ext V1 V2 from hV2 ▸ hx2.trans (Ext.alloc _ _))
    obtain ⟨m0, m1⟩ := two_of (Y2.out.block HB1.out)
    obtain ⟨m2, m3⟩ := two_of (show V2.heap[w2.heap.size]? = some (.cells #[.int .i64 m, .string y] 83) from hV2 ▸ blk0 _ _)
    clear hx2
    go_wp2_with fail
    go_ret
    exact ⟨by rw [HA.out]; rfl, XM.out.trans (X1.out.trans Y2.out)⟩
end Go.Proofs.YtllbelglilkdpaaDoor
