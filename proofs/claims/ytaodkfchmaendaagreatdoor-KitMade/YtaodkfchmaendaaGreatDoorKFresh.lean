/-
  The reference's New of any name and rows: what the program's tells; by a contract.
-/
import Derived.Test.YtaodkfchmaendaaGreatDoorKNewH
import Derived.Test.YtaodkfchmaendaaGreatDoorJ7RefF
import Derived.Test.YtaodkfchmaendaaGreatDoorKWide
namespace Go.Proofs.YtaodkfchmaendaaGreatDoor.Nd
open Go.RowKit
theorem kIx_hit {rws : List Rw} {i q : Nat} (hq : q < i) (hi : i < rws.length) {k : ByteArray} (h : (rws[q]'(by omega)).kind = k) : kIx (rws.take i) k ≠ none := by
  unfold kIx
  intro e
  rw [List.findIdx?_eq_none_iff] at e
  have hm : rws[q]'(by omega) ∈ rws.take i := by
    rw [List.mem_take_iff_getElem]
    exact ⟨q, by omega, rfl⟩
  have := e _ hm
  simp [h] at this
theorem kIx_miss {rws : List Rw} {i : Nat} {k : ByteArray} (h : ∀ q, (hq : q < rws.length) → q < i → rws[q].kind ≠ k) : kIx (rws.take i) k = none := by
  unfold kIx
  rw [List.findIdx?_eq_none_iff]
  intro r hr
  rw [List.mem_take_iff_getElem] at hr
  obtain ⟨q, hq, rfl⟩ := hr
  simp only [decide_eq_false_iff_not]
  exact h q (by omega) (by omega)
theorem GoodR.kind_ref {pre : List UInt8} {r : Rw} (h : GoodR pre r) (w : World) : ∃ P : ByteArray, Calls Tryz.prog 46 #[.string r.kind] w fun e w' => e = .returned (.tuple #[.string ⟨pre.toArray⟩, .string P, .bool true]) ∧ Ext w w' := by
  obtain ⟨post, h1, h2⟩ := h.name
  refine ⟨⟨post.toArray⟩, ?_⟩
  have := kind_ref_found r.kind pre post w h1 h.nod (Nat.le_trans h.size (by decide))
  unfold kindV at this
  rw [if_pos (by rw [h.word, h2]; rfl)] at this
  exact this
set_option maxRecDepth 100000 in
set_option maxHeartbeats 8000000 in
theorem rnew_any (nm : ByteArray) (ao : Option Addr) (lc : Nat) (rws : List Rw) (w : World) (hr : RowsLie w ao rws) (hlim : rws.length ≤ 1954687338220) (hg : ∀ r ∈ rws, r.kind.size ≤ 140737488351232 ∧ r.abs.length ≤ 140737488351232) :
    Calls Tryz.prog 21 #[.string nm, .slice ao rws.length lc] w fun e w' => e = .returned (.int .i64 (newC nm rws)) ∧ Ext w w' := by
  have HW := hid (fun w => word_ref nm w)
  have HR := hid hr
  have HG := hid hg
  obtain ⟨V0, hV0⟩ : ∃ V, newC nm rws = V := ⟨_, rfl⟩
  rw [hV0]
  obtain ⟨n, hne⟩ : ∃ n, rws.length = n := ⟨_, rfl⟩
  have HNE := hid hne
  rw [hne] at hlim ⊢
  have hlim' : (n : Int) ≤ 1954687338220 := by omega
  unfold newC at hV0
  rw [hne] at hV0
  clear hr hg hne
  go_enter Tryz.func21, Tryz.ntmps21
  by_cases h0 : n = 0
  · rw [if_pos h0] at hV0
    have h0q : ((n : Int) == 0) = true := by rw [h0]; rfl
    have h0i : (n : Int) = 0 := by omega
    go_wp2_with fail
    go_ret
    exact ⟨by rw [← hV0]; try rfl, Ext.refl _⟩
  · rw [if_neg h0] at hV0
    have h0q : ((n : Int) == 0) = false := by rw [beq_eq_false_iff_ne]; omega
    have h0' : ¬ (n : Int) = 0 := by omega
    go_wp2_with fail
    refine (HW.out _).mono ?_
    rintro e w1 ⟨rfl, rfl⟩
    rcases hw : speltB wordI 16 nm.data.toList with _ | _
    · rw [hw, if_neg (by decide)] at hV0
      go_wp2_with fail
      go_ret
      exact ⟨by rw [← hV0]; try rfl, Ext.refl _⟩
    · rw [hw, if_pos rfl] at hV0
      have HV := hid (show newL nm (rws.take 0) (rws.drop 0) = V0 from hV0)
      clear hV0 hw
      go_wp2_with fail
      go_loopw [5] (fun q5 wr => ∃ j : Nat, j ≤ n ∧ q5 = .int .i64 j ∧ newL nm (rws.take j) (rws.drop j) = V0 ∧ Ext w1 wr) (fun q5 _ => n - (intOf q5).toNat)
      case atStart => exact ⟨0, Nat.zero_le _, rfl, HV.out, Ext.refl _⟩
      case round =>
        obtain ⟨j, hj, rfl, hvj, hx⟩ := hrel
        have HX := hid hx
        have HVJ := hid hvj
        clear hx hvj
        by_cases hlt : j < n
        · have hlt' : (j : Int) < n := by omega
          have hjr : j < rws.length := by rw [HNE.out]; exact hlt
          obtain ⟨g, off, a, c, rfl, ⟨p0, p1, p2, p3, p4, p5⟩, htb⟩ := (HR.out.later HX.out) j hjr
          obtain ⟨hkr, har⟩ := HG.out _ (List.getElem_mem hjr)
          have HMAY := hid (rMay_any rws[j] a c _ (by omega) har htb)
          have HNX := hid (fun h => newL_next (nm := nm) hjr h)
          have HST := hid (fun h => newL_stop (nm := nm) hjr h)
          have HHIT := hid (fun q (hq : q < j) (e : (rws[q]'(by omega)).kind = rws[j].kind) => kIx_hit hq hjr e)
          have HMISS := hid (kIx_miss (rws := rws) (i := j) (k := (rws[j]'hjr).kind))
          have hgl := lt_of_cell p0
          have HP0 := hid (show ∀ W', Ext wr W' → W'.cell? ⟨g, off + j * 6, none⟩ = some (.string rws[j].kind) from fun W' X => (X.kp (fun _ => True)).cell p0 trivial)
          generalize rws[j] = rj at *
          unfold Rw.val at HMAY
          go_wp2_with fail
          refine HMAY.out.mono ?_
          rintro e w2 ⟨rfl, hx2⟩
          have X2 := hid hx2
          clear hx2 htb p1 p2 p3 p4 p5 p0
          have p0 := HP0.out _ X2.out
          by_cases hm : mayR rj = 0
          · obtain ⟨pre, hgd⟩ := mayR_good rj hm
            obtain ⟨P, hP⟩ := Nd.GoodR.kind_ref hgd w2
            have HPK := hid (Nd.GoodR.preK hgd)
            rw [hm]
            obtain ⟨SP, hSP⟩ : ∃ S : ByteArray, (⟨pre.toArray⟩ : ByteArray) = S := ⟨_, rfl⟩
            rw [hSP] at hP HPK
            clear hSP
            go_wp2_with fail
            refine hP.mono ?_
            clear hP
            rintro e w3 ⟨rfl, hx3⟩
            have X3 := hid (X2.out.trans hx3)
            clear hx3 p0
            by_cases hne : SP = nm
            · subst hne
              have hs0 := str_eqb SP SP
              rw [decide_eq_true rfl] at hs0
              have hs2 : (SP.toList != SP.toList) = false := by unfold bne; rw [hs0]; rfl
              go_wp2_with fail
              go_loopw [10] (fun q10 wi => ∃ q : Nat, q ≤ j ∧ q10 = .int .i64 q ∧ (∀ z, (hz : z < rws.length) → z < q → rws[z].kind ≠ rj.kind) ∧ Ext w3 wi) (fun q10 _ => j - (intOf q10).toNat)
              case atStart => exact ⟨0, Nat.zero_le _, rfl, fun z hz h => absurd h (Nat.not_lt_zero _), Ext.refl _⟩
              case round =>
                obtain ⟨q, hq, rfl, hzz, hy⟩ := hrel
                have HY := hid hy
                have HZZ := hid hzz
                clear hy hzz
                by_cases hqj : q < j
                · have hqj' : (q : Int) < j := by omega
                  have hqn : (q : Int) < n := by omega
                  have hqr : q < rws.length := by have := HNE.out; omega
                  obtain ⟨g', off', a', c', he, ⟨r0, _, _, _, _, _⟩, _⟩ := (HR.out.later (HX.out.trans (X3.out.trans HY.out))) q hqr
                  injection he with he
                  injection he with e1 e2 _
                  subst e1; subst e2
                  have HH := hid (HHIT.out q hqj)
                  have p0 := HP0.out _ (X3.out.trans HY.out)
                  have hse := str_eqb rws[q].kind rj.kind
                  have hq1 := hid (fun (z : Nat) (hz : z < rws.length) (h : z < q + 1) (hne : rws[q].kind ≠ rj.kind) => show rws[z].kind ≠ rj.kind by
                    by_cases hzq : z < q
                    · exact HZZ.out z hz hzq
                    · have : z = q := by omega
                      subst this
                      exact hne)
                  generalize rws[q].kind = kq at *
                  by_cases hkk : kq = rj.kind
                  · rw [decide_eq_true hkk] at hse
                    have hC := hid (show V0 = 4 by
                      have h4 : addC SP (rws.take j) rj = 4 := by
                        unfold addC
                        rw [if_pos hm, if_pos HPK.out, if_neg (HH.out hkk)]
                      have := HST.out (by rw [h4]; decide)
                      rw [h4] at this
                      exact HVJ.out.symm.trans this)
                    go_wp2_with fail
                    go_region
                    go_wp2_with fail
                    go_ret
                    exact ⟨by rw [hC.out]; try rfl, HX.out.trans (X3.out.trans HY.out.drew)⟩
                  · rw [decide_eq_false hkk] at hse
                    go_wp2_with fail
                    go_region
                    go_wp2_with fail
                    go_roundw
                    case rel => exact ⟨q + 1, by omega, by go_num, fun z hz h => hq1.out z hz h hkk, HY.out.drew⟩
                    case measure => simp [intOf]; omega
                · obtain rfl : q = j := by omega
                  have hqj3 : ¬ (q : Int) < q := by omega
                  have hC := hid (HNX.out (by
                    unfold addC
                    rw [if_pos hm, if_pos HPK.out, if_pos (HMISS.out (fun z hz h => HZZ.out z hz h))]))
                  go_wp2_with fail
                  go_roundw
                  case rel => exact ⟨q + 1, hlt, by go_num, hC.out.symm.trans HVJ.out, HX.out.trans (X3.out.trans HY.out)⟩
                  case measure => simp [intOf]; omega
            · have hs0 := str_eqb SP nm
              rw [decide_eq_false hne] at hs0
              have hs2 : (SP.toList != nm.toList) = true := by unfold bne; rw [hs0]; rfl
              have h10 : addC nm (rws.take j) rj = 10 := by
                unfold addC
                rw [if_pos hm, HPK.out, if_neg hne]
              have HC := hid (show V0 = 10 by
                have := HST.out (by rw [h10]; decide)
                rw [h10] at this
                exact HVJ.out.symm.trans this)
              clear h10
              go_wp2_with fail
              go_ret
              exact ⟨by rw [HC.out]; try rfl, HX.out.trans X3.out⟩
          · have hm2 : (mayR rj == 0) = false := by simpa using hm
            have hC := HST.out (by unfold addC; rw [if_neg hm]; exact hm2)
            have HC := hid ((show addC nm (rws.take j) rj = mayR rj by unfold addC; rw [if_neg hm]) ▸ hC.symm.trans HVJ.out)
            have hm3 : (mayR rj != 0) = true := by unfold bne; rw [hm2]; rfl
            clear hC
            go_wp2_with fail
            go_ret
            exact ⟨by rw [HC.out]; try rfl, HX.out.trans X2.out⟩
        · have hje : j = n := by omega
          have hlt3 : ¬ (j : Int) < n := by omega
          have hdr : rws.drop j = [] := List.drop_of_length_le (by have := HNE.out; omega)
          have HV0 := hid (show V0 = 0 by
            have := HVJ.out
            rw [hdr] at this
            exact this.symm)
          clear hje hdr
          go_wp2_with fail
          go_ret
          exact ⟨by rw [HV0.out]; try rfl, HX.out⟩
end Go.Proofs.YtaodkfchmaendaaGreatDoor.Nd
/-
  (*Kit).Rows: each row's abilities in a block that the call made. (kfresh_gen.py writes this text out of craft's KMap, KItems, KRows.)
-/
namespace Go.Proofs.YtaodkfchmaendaaGreatDoor
open Go.RowKit
/-- Texts in a block of their own, from B on. -/
def TF (B : Nat) (w : World) (a : Option Addr) (xs : List ByteArray) : Prop := xs = [] ∨ ∃ g cur, a = some ⟨g, 0, none⟩ ∧ B ≤ g ∧ w.heap[g]? = some (.cells cur 9) ∧ ∀ j, (h : j < xs.length) → cur[j]? = some (.string xs[j])
theorem TF.tb {B : Nat} {w : World} {a : Option Addr} {xs : List ByteArray} (h : TF B w a xs) : TB w a xs := h.imp id fun ⟨g, cur, h1, _, h2⟩ => ⟨g, cur, h1, h2⟩
theorem TF.mono {B B' : Nat} {w : World} {a : Option Addr} {xs : List ByteArray} (h : TF B w a xs) (hb : B' ≤ B) : TF B' w a xs := h.imp id fun ⟨g, cur, h1, h2, h3⟩ => ⟨g, cur, h1, Nat.le_trans hb h2, h3⟩
theorem TF.keep {K : Nat → Prop} {B : Nat} {w w' : World} {a : Option Addr} {xs : List ByteArray} (h : TF B w a xs) (hk : Kp K w w') (hK : ∀ g cur, w.heap[g]? = some (.cells cur 9) → K g) : TF B w' a xs := h.imp id fun ⟨g, cur, h1, h2, h3, h4⟩ => ⟨g, cur, h1, h2, hk.block' h3 (hK g cur h3), h4⟩
theorem TF.later {B : Nat} {w w' : World} {a : Option Addr} {xs : List ByteArray} (h : TF B w a xs) (hx : Ext w w') : TF B w' a xs := h.keep (hx.kp (fun _ => True)) (fun _ _ _ => trivial)
theorem cloneTF (a : Option Addr) (c : Nat) (xs : List ByteArray) (w : World) (hl : xs.length ≤ 100) (h : TB w a xs) : Calls Tryz.prog 64 #[.slice a xs.length c] w fun e w' => ∃ a' c', e = .returned (.slice a' xs.length c') ∧ TF w.heap.size w' a' xs ∧ Ext w w' := by
  have fin : ∀ v' w', World.ownsRow w' w.heap.size 9 1 v' xs.length (xs.map Value.string) → ∃ a' c', v' = .slice a' xs.length c' ∧ TF w.heap.size w' a' xs := fun v' w' ho => by
    rcases ho.2 with ⟨rfl, h0⟩ | ⟨g, cap, cur, rfl, hbg, hb, h1, h2, h3, h4⟩
    · exact ⟨none, 0, by rw [h0], .inl (List.eq_nil_of_length_eq_zero h0)⟩
    · refine ⟨_, _, rfl, .inr ⟨g, cur, rfl, hbg, hb, fun j hj => ?_⟩⟩
      have : (cur.toList.take (xs.length * 1))[j]? = some (.string xs[j]) := by rw [h4, List.getElem?_map, List.getElem?_eq_getElem hj]; rfl
      rw [List.getElem?_take_of_lt (by omega)] at this
      simpa using this
  rcases h with h | ⟨g, cur, rfl, hb, hc⟩
  · subst h
    cases a with
    | none =>
      refine (Tryz.slices_Clone_string_nil 0 c w).mono ?_
      rintro e w' ⟨rfl, rfl⟩
      exact ⟨none, 0, rfl, .inl rfl, Ext.refl _⟩
    | some a =>
      refine (Tryz.slices_Clone_string_zero a c w).mono ?_
      rintro e w' ⟨v', rfl, ho, _, hx⟩
      obtain ⟨a', c', rfl, ht⟩ := fin v' w' ho
      exact ⟨a', c', rfl, ht, hx⟩
  · refine (Tryz.slices_Clone_string g 0 xs.length c xs w (Nat.le_refl _) (by omega) (fun j hj => ?_)).mono ?_
    · rw [Nat.zero_add, List.getD_eq_getElem?_getD, List.getElem?_eq_getElem hj]
      exact cell_of hb (hc j hj)
    · rintro e w' ⟨v', rfl, ho, _, hx⟩
      rw [List.take_length] at ho
      obtain ⟨a', c', rfl, ht⟩ := fin v' w' ho
      exact ⟨a', c', rfl, ht, hx⟩
set_option maxRecDepth 100000 in
theorem copied_F (r : Rw) (a : Option Addr) (c : Nat) (w : World) (hl : r.abs.length ≤ 100) (h : TB w a r.abs) : Calls Tryz.prog 36 #[r.val a c] w fun e w' => ∃ a' c', e = .returned (r.val a' c') ∧ TF w.heap.size w' a' r.abs ∧ Ext w w' := by
  have HC := hid (fun w1 (hx : Ext w w1) => cloneTF a c r.abs w1 hl (h.later hx))
  unfold Rw.val
  obtain ⟨k, mn, mx, nm, tx, abs⟩ := r
  dsimp only at *
  generalize abs.length = l at *
  clear h hl
  obtain ⟨M, hM⟩ : ∃ M, (w.alloc (.cells #[.string k, .int .i64 mn, .int .i64 mx, .bool nm, .int .i64 tx, .slice a l c] 37)).alloc (.cells #[.string ⟨#[]⟩, .int .i64 0, .int .i64 0, .bool false, .int .i64 0, .slice none 0 0] 37) = M := ⟨_, rfl⟩
  have XM := hid (show Ext w M from hM ▸ Ext.alloc2 _ _ _)
  have HM0 := hid (show M.heap[w.heap.size]? = some (.cells #[.string k, .int .i64 mn, .int .i64 mx, .bool nm, .int .i64 tx, .slice a l c] 37) from hM ▸ blkOld _ (blk0 _ _))
  have HM1 := hid (show M.heap[w.heap.size + 1]? = some (.cells #[.string ⟨#[]⟩, .int .i64 0, .int .i64 0, .bool false, .int .i64 0, .slice none 0 0] 37) from hM ▸ blk1 _ _ _)
  obtain ⟨z0, z1, z2, z3, z4, z5⟩ := six_of HM0.out
  go_enter Tryz.func36, Tryz.ntmps36
  go_wp2_with fail
  clear hM
  refine (HC.out _ XM.out).mono ?_
  rintro e w1 ⟨a', c', rfl, htb, hx1⟩
  have HTB := hid (htb.mono XM.out.size)
  have X1 := hid (XM.out.trans hx1)
  have B0 := hid (hx1.block HM0.out)
  have B1 := hid (hx1.block HM1.out)
  obtain ⟨y0, y1, y2, y3, y4, y5⟩ := six_of B0.out
  obtain ⟨f0, f1, f2, f3, f4, f5⟩ : w1.frozen? ⟨w.heap.size + 1, 0, none⟩ = false ∧ w1.frozen? ⟨w.heap.size + 1, 1, none⟩ = false ∧ w1.frozen? ⟨w.heap.size + 1, 2, none⟩ = false ∧ w1.frozen? ⟨w.heap.size + 1, 3, none⟩ = false ∧ w1.frozen? ⟨w.heap.size + 1, 4, none⟩ = false ∧ w1.frozen? ⟨w.heap.size + 1, 5, none⟩ = false := ⟨frozen_of B1.out, frozen_of B1.out, frozen_of B1.out, frozen_of B1.out, frozen_of B1.out, frozen_of B1.out⟩
  have fz : w1.frozen? ⟨w.heap.size, 5, none⟩ = false := frozen_of B0.out
  obtain ⟨x0, x1, x2, x3, x4, x5⟩ := six_of B1.out
  clear htb hx1
  go_wp2_with fail
  have BS := set_other (i := 5) B1.out (show w.heap.size + 1 ≠ w.heap.size by omega) (.slice a' l c')
  obtain ⟨q0, q1, q2, q3, q4, q5⟩ := six_of (six_set (u0 := .string k) (u1 := .int .i64 mn) (u2 := .int .i64 mx) (u3 := .bool nm) (u4 := .int .i64 tx) (u5 := .slice a' l c') BS)
  refine bodyPost_ret (v := .agg #[.string k, .int .i64 mn, .int .i64 mx, .bool nm, .int .i64 tx, .slice a' l c']) (by simp [results, Tryz.results36, go_sem, q0, q1, q2, q3, q4, q5]) rfl ?_
  have K1 : Kp (fun q => q ≠ w.heap.size ∧ q ≠ w.heap.size + 1) w1 _ := ((Kp.set w1 w.heap.size 5 (.slice a' l c') (fun h => h rfl)).mono (L := fun q => q ≠ w.heap.size ∧ q ≠ w.heap.size + 1) (fun q _ h => h.1)).trans ((Kp.set6 _ (w.heap.size + 1) (.string k) (.int .i64 mn) (.int .i64 mx) (.bool nm) (.int .i64 tx) (.slice a' l c')).mono (fun q _ h => h.2))
  refine ⟨a', c', rfl, HTB.out.keep K1 (fun q cur hq => ⟨fun e => ?_, fun e => ?_⟩), ?_⟩
  · rw [e, B0.out] at hq; cases hq
  · rw [e, B1.out] at hq; cases hq
  · exact ⟨K1.os.trans X1.out.os, K1.tape.trans X1.out.tape, K1.output.trans X1.out.output, Nat.le_trans X1.out.size K1.size, fun i hi => (K1.block i (Nat.lt_of_lt_of_le hi X1.out.size) ⟨by omega, by omega⟩).trans (Below.block X1.out i hi)⟩
def RItemsF (w : World) (base : Nat) (lv : Value) (acc : List Rw) : Prop := ∃ us : List Value, w.ownsRow base 37 6 lv acc.length us ∧ ∀ j, (h : j < acc.length) → ∃ a c, RAt us (j * 6) acc[j] a c ∧ TF base w a acc[j].abs
theorem RItemsF.nil (w : World) (base : Nat) : RItemsF w base (.slice none 0 0) [] := ⟨[], World.ownsRow_nil _ _ _ _, fun _ h => absurd h (Nat.not_lt_zero _)⟩
theorem RItemsF.keep {w w' : World} {base : Nat} {lv : Value} {acc : List Rw} {K : Nat → Prop} (h : RItemsF w base lv acc) (hk : Kp K w w') (h1 : ∀ g, lv.ownBlock = some g → K g) (h2 : ∀ g cur, w.heap[g]? = some (.cells cur 9) → K g) : RItemsF w' base lv acc := by
  obtain ⟨us, ho, hi⟩ := h
  refine ⟨us, ⟨ho.1, ?_⟩, fun j hj => ?_⟩
  · rcases ho.2 with h | ⟨g, cap, cur, hv, hg, hb, hr⟩
    · exact .inl h
    · exact .inr ⟨g, cap, cur, hv, hg, hk.block' hb (h1 g (by rw [hv]; rfl)), hr⟩
  · obtain ⟨a, c, h3, h4⟩ := hi j hj
    exact ⟨a, c, h3, h4.keep hk h2⟩
theorem RItemsF.later {w w' : World} {base : Nat} {lv : Value} {acc : List Rw} (h : RItemsF w base lv acc) (hx : Ext w w') : RItemsF w' base lv acc := h.keep (hx.kp (fun _ => True)) (fun _ _ => trivial) (fun _ _ _ => trivial)
theorem RItemsF.shape {w : World} {base : Nat} {lv : Value} {acc : List Rw} (h : RItemsF w base lv acc) : ∃ ao c, lv = .slice ao acc.length c := by
  obtain ⟨us, ho, _⟩ := h
  rcases ho.2 with ⟨hv, h0⟩ | ⟨g, cap, cur, hv, _⟩
  · exact ⟨none, 0, by rw [hv, h0]⟩
  · exact ⟨_, _, hv⟩
/-- Its block is one of rows. -/
theorem RItemsF.block {w : World} {base : Nat} {lv : Value} {acc : List Rw} (h : RItemsF w base lv acc) {g : Nat} (hg : lv.ownBlock = some g) : base ≤ g ∧ ∃ cur, w.heap[g]? = some (.cells cur 37) := by
  obtain ⟨us, ho, _⟩ := h
  rcases ho.2 with ⟨hv, h0⟩ | ⟨g', cap, cur, hv, hb, hbl, _⟩
  · rw [hv] at hg; simp [Value.ownBlock] at hg
  · rw [hv] at hg; simp [Value.ownBlock] at hg; subst hg; exact ⟨hb, cur, hbl⟩
theorem run_ritemF {w : World} {ty : TypeId} (base g : Nat) (lv : Value) (acc : List Rw) (r : Rw) (a : Option Addr) (c : Nat) (hB : base ≤ w.heap.size) (hit : RItemsF w base lv acc) (hg : w.heap[g]? = some (.cells (r.cells a c).toArray ty)) (htb : TF base w a r.abs) (hlim : acc.length ≤ 1954687338220) :
    ∃ ao c' w', (Builtin.append_ #[55, 55] 55 #[lv, .slice (some ⟨g, 0, none⟩) 1 1]).run Tryz.prog w = .ok (.slice ao (acc ++ [r]).length c') w' ∧ RItemsF w' base (.slice ao (acc ++ [r]).length c') (acc ++ [r]) ∧ w.grownBy w' lv.ownBlock := by
  have HB := fun g' h => hit.block (g := g') h
  obtain ⟨us, ho, hi⟩ := hit
  obtain ⟨ii, hii, hz0, hz1, hz2⟩ := info_parts rowInfo
  have hnews : ∀ (j : Nat) (u : Value), (r.cells a c)[j]? = some u → w.cell? (Addr.add ⟨g, 0, none⟩ j) = some u := by
    intro j u hu
    have e : Addr.add ⟨g, 0, none⟩ j = ⟨g, j, none⟩ := by
      by_cases hj : j = 0
      · subst hj; simp [Addr.add]
      · simp [Addr.add, hj]
    rw [e]
    exact cell_of hg (by simpa using hu)
  obtain ⟨v', w', hr, ho2, hgr, _, hat⟩ := run_append_own_at (P := Tryz.prog) w base 55 55 37 ii _ 6 72 Tryz.underlying55 hii hz0 hz1 hz2 rfl (by decide) lv acc.length us ho ⟨g, 0, none⟩ 1 1 (r.cells a c) rfl hnews (fun u hu => by simp [Rw.cells] at hu; rcases hu with rfl | rfl | rfl | rfl | rfl | rfl <;> rfl) (by unfold maxLen; omega) (by omega) (by omega)
  have hkp := grown_kp hgr
  have hKst : ∀ q cur, w.heap[q]? = some (.cells cur 9) → lv.ownBlock ≠ some q := fun q cur hq e => by
    obtain ⟨_, cur', hc'⟩ := HB q e
    rw [hc'] at hq
    cases hq
  have hul : us.length = acc.length * 6 := ho.1
  have hI : RItemsF w' base v' (acc ++ [r]) := by
    refine ⟨us ++ r.cells a c, by rw [List.length_append]; exact ho2, fun j hj => ?_⟩
    by_cases hj' : j < acc.length
    · obtain ⟨a', c', ⟨h0, h1, h2, h3, h4, h5⟩, h6⟩ := hi j hj'
      rw [List.getElem_append_left hj']
      exact ⟨a', c', ⟨by rw [List.getElem?_append_left (by omega)]; exact h0, by rw [List.getElem?_append_left (by omega)]; exact h1, by rw [List.getElem?_append_left (by omega)]; exact h2, by rw [List.getElem?_append_left (by omega)]; exact h3, by rw [List.getElem?_append_left (by omega)]; exact h4, by rw [List.getElem?_append_left (by omega)]; exact h5⟩, h6.keep hkp hKst⟩
    · have hje : j = acc.length := by simp at hj; omega
      subst hje
      simp only [List.getElem_append_right (Nat.le_refl _), Nat.sub_self, List.getElem_cons_zero]
      exact ⟨a, c, ⟨by rw [← hul]; simp [Rw.cells], by rw [← hul]; simp [Rw.cells], by rw [← hul]; simp [Rw.cells], by rw [← hul]; simp [Rw.cells], by rw [← hul]; simp [Rw.cells], by rw [← hul]; simp [Rw.cells]⟩, htb.keep hkp hKst⟩
  obtain ⟨ao, c', rfl⟩ := hI.shape
  exact ⟨ao, c', w', hr, hI, hgr⟩
theorem app_ritemF {ops : Array Oper} {rest : List Oper} {o : Oper} {ac : Act} {Q : Exit → Act → World → Prop} {ty : TypeId} (w : World) (hgd : o.guard = none) (x y : Operand)
    (ho : o.op = .call { callee := .builtin .append, args := #[x, y], argTypes := #[55, 55] }) (hty : o.type = 55)
    (base g : Nat) (lv : Value) (acc : List Rw) (r : Rw) (a : Option Addr) (c : Nat) (hx : ac.eval x = lv) (hy : ac.eval y = .slice (some ⟨g, 0, none⟩) 1 1) (hB : base ≤ w.heap.size)
    (hit : RItemsF w base lv acc) (hg : w.heap[g]? = some (.cells (r.cells a c).toArray ty)) (htb : TF base w a r.abs) (hlim : acc.length ≤ 1954687338220)
    (h : ∀ ao c' w', RItemsF w' base (.slice ao (acc.length + 1) c') (acc ++ [r]) → w.grownBy w' lv.ownBlock → wpList Tryz.prog ops Q rest (ac.put o.dst (.slice ao (acc.length + 1) c')) w') :
    wpList Tryz.prog ops Q (o :: rest) ac w := by
  refine wpList_plain hgd fun K hK => ?_
  obtain ⟨ao, c', w', hr, h2, h3⟩ := run_ritemF (ty := ty) base g lv acc r a c hB hit hg htb hlim
  unfold Oper.wp execOp
  rw [List.length_append] at hr h2
  simp only [ho, hty, resolve, invoke, builtin, Sem.run_bind, Sem.run_pure, Result.andThen_ok, List.map_toArray, List.map_cons, List.map_nil, hx, hy, hr]
  exact hK _ _ (h ao c' w' h2 h3)
def RowsLpF (w : World) (acc : List Rw) (j : Nat) (ao : Option Addr) (c : Nat) (wr : World) : Prop := RItemsF wr w.heap.size (.slice ao j c) (acc.take j) ∧ Ext w wr
/-- What Rows tells. -/
def RowsRF (w : World) (acc : List Rw) (e : Ending) (w' : World) : Prop := ∃ ao c, e = .returned (.slice ao acc.length c) ∧ RItemsF w' w.heap.size (.slice ao acc.length c) acc ∧ Ext w w'
set_option maxRecDepth 100000 in
set_option maxHeartbeats 2000000 in
theorem rows_anyF {base kb mb : Nat} {nm : ByteArray} {mk lv : Value} {acc : List Rw} (w : World) (h : KitM w base kb mb nm mk lv acc) (hlim : acc.length ≤ 1954687338220) (hab : ∀ r ∈ acc, r.abs.length ≤ 100) : Calls Tryz.prog 23 #[.pointer (some ⟨kb, 0, none⟩)] w (RowsRF w acc) := by
  obtain ⟨k0, k1, k2, k3⟩ := h.four
  have HR := hid h.rows
  have HAB := hid hab
  obtain ⟨ao, lc, hlv⟩ := h.rows.shape
  subst hlv
  obtain ⟨n, hne⟩ : ∃ n, acc.length = n := ⟨_, rfl⟩
  have HNE := hid hne
  rw [hne] at hlim HR k1
  have hlim' : (n : Int) ≤ 1954687338220 := by omega
  clear h hne hab
  go_enter Tryz.func23, Tryz.ntmps23
  go_wp2_with fail
  go_loopw [3, 13] (fun q3 q13 wr => ∃ (j : Nat) (ao : Option Addr) (c : Nat), j ≤ n ∧ q13 = .int .i64 j ∧ q3 = .slice ao j c ∧ RowsLpF w acc j ao c wr) (fun _ q13 _ => n - (intOf q13).toNat)
  case atStart => exact ⟨0, none, 0, Nat.zero_le _, rfl, rfl, RItemsF.nil _ _, Ext.refl _⟩
  case round =>
    obtain ⟨j, a2, c2, hj, rfl, rfl, hit, hx⟩ := hrel
    have HIT := hid hit
    have HX := hid hx
    clear hit hx
    by_cases hlt : j < n
    · have hlt' : (j : Int) < n := by omega
      have hjr : j < acc.length := by rw [HNE.out]; exact hlt
      obtain ⟨g, cap, a, c, hlv, ⟨p0, p1, p2, p3, p4, p5⟩, htb⟩ := (HR.out.later HX.out).read j hjr
      obtain ⟨rfl, hnn, rfl⟩ := Value.slice.inj hlv
      clear hnn hlv
      have HTB := hid htb
      have HTK := hid (show acc.take j ++ [acc[j]] = acc.take (j + 1) from (List.take_succ_eq_append_getElem hjr).symm)
      have HLJ := hid (show (acc.take j).length = j by rw [List.length_take]; omega)
      have HRA := hid (HAB.out _ (List.getElem_mem hjr))
      generalize acc[j] = rj at *
      clear htb hjr
      have hgl := lt_of_cell p0
      obtain ⟨M, hM⟩ : ∃ M, wr.alloc (.cells #[.string rj.kind, .int .i64 rj.min, .int .i64 rj.max, .bool rj.num, .int .i64 rj.text, .slice a rj.abs.length c] 37) = M := ⟨_, rfl⟩
      have XM := hid (show Ext wr M from hM ▸ Ext.alloc _ _)
      have HCP := hid (copied_F rj a c M HRA.out (HTB.out.later XM.out))
      unfold Rw.val at HCP
      obtain ⟨z0, z1, z2, z3, z4, z5⟩ := six_of (show RowAt M wr.heap.size rj a c from hM ▸ blk0 _ _)
      go_wp2_with fail
      clear hM
      refine HCP.out.mono ?_
      rintro e w2 ⟨a9, c9, rfl, htb9, hx9⟩
      have Z1 := hid (XM.out.trans hx9)
      have HTB9 := hid (htb9.mono (show w.heap.size ≤ M.heap.size from Nat.le_trans HX.out.size XM.out.size))
      clear hx9 htb9 z0 z1 z2 z3 z4 z5
      go_wp2_with (at_builtin; refine app_ritemF (ty := 37) _ rfl _ _ rfl rfl w.heap.size w2.heap.size (.slice a2 j c2) (acc.take j) rj a9 c9 rfl rfl (Nat.le_trans HX.out.size (Nat.le_trans Z1.out.size (by rw [blkS]; omega))) (HIT.out.later (Z1.out.trans (Ext.alloc _ _))) (blk0 _ _) (HTB9.out.later (Ext.alloc _ _)) (by rw [HLJ.out]; omega) ?_; intro a5 c5 w5 hit5 hgr5; rw [HLJ.out] at hit5 ⊢; have HIT5 := hid hit5; have HG5 := hid (grown_kp hgr5); clear hit5 hgr5)
      go_roundw
      case rel =>
        refine ⟨j + 1, a5, c5, by omega, by go_num, rfl, ?_, ?_⟩
        · rw [← HTK.out]; exact HIT5.out
        · exact Below.trans ((HX.out.trans Z1.out).trans (Ext.alloc _ _)) (HG5.out.below (fun q hq e => by have := (HIT.out.block e).1; omega) (Nat.le_trans HX.out.size (Nat.le_trans Z1.out.size (by rw [blkS]; omega))))
      case measure => simp [intOf]; omega
    · have hje : j = n := by omega
      have hlt2 : decide ((j : Int) < n) = false := decide_eq_false (by omega)
      have hlt3 : ¬ (j : Int) < n := by omega
      have HIF := hid (show RItemsF wr w.heap.size (.slice a2 acc.length c2) acc by
        have := HIT.out
        rw [List.take_of_length_le (by have := HNE.out; omega)] at this
        rwa [show acc.length = j by have := HNE.out; omega])
      have HJE := hid (show acc.length = j by have := HNE.out; omega)
      clear hje
      go_wp2_with fail
      go_ret
      exact ⟨a2, c2, by rw [HJE.out]; rfl, HIF.out, HX.out⟩

end Go.Proofs.YtaodkfchmaendaaGreatDoor
