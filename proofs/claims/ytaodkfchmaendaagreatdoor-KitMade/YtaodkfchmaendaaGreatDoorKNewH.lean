/-
  kit.New of any name and rows: what it tells, or the kit; by a contract.
-/
import Derived.Test.YtaodkfchmaendaaGreatDoorKNewG
import Derived.Test.YtaodkfchmaendaaGreatDoorKWide
namespace Go.Proofs.YtaodkfchmaendaaGreatDoor.Nd
open Go.RowKit
theorem add_failW (r : Rw) (kb : Nat) (a : Option Addr) (c : Nat) (w : World) (hk : r.kind.size ≤ 140737488351232) (hl : r.abs.length ≤ 140737488351232) (ht : TRow w a r.abs) (hm : (mayR r == 0) = false) : Calls Tryz.prog 50 #[.pointer (some ⟨kb, 0, none⟩), r.val a c] w fun e w' => e = .returned (.int .i64 (mayR r)) ∧ Ext w w' := by
  have HMAY := hid (fun w1 (hx : Ext w w1) => rmay_row r a c w1 (by omega) hl (ht.later hx))
  generalize mayR r = V at *
  unfold Rw.val at *
  obtain ⟨k, mn, mx, nm, tx, abs⟩ := r
  dsimp only at *
  generalize abs.length = al at *
  clear ht
  obtain ⟨M, hM⟩ : ∃ M, w.alloc (.cells #[.string k, .int .i64 mn, .int .i64 mx, .bool nm, .int .i64 tx, .slice a al c] 37) = M := ⟨_, rfl⟩
  have XM := hid (show Ext w M from hM ▸ Ext.alloc _ _)
  obtain ⟨z0, z1, z2, z3, z4, z5⟩ := six_of (show M.heap[w.heap.size]? = some (.cells #[.string k, .int .i64 mn, .int .i64 mx, .bool nm, .int .i64 tx, .slice a al c] 37) from hM ▸ blk0 _ _)
  go_enter Tryz.func50, Tryz.ntmps50
  go_wp2_with fail
  clear hM
  refine (HMAY.out _ XM.out).mono ?_
  rintro e w1 ⟨rfl, hx1⟩
  have X1 := hid (XM.out.trans hx1)
  clear hx1 z0 z1 z2 z3 z4 z5
  have hm2 : (V != 0) = true := by unfold bne; rw [hm]; rfl
  go_wp2_with fail
  go_ret
  exact ⟨rfl, X1.out⟩
theorem add_all (r : Rw) (base kb mb : Nat) (nm : ByteArray) (mk lv : Value) (acc : List Rw) (a : Option Addr) (c : Nat) (w : World) (hk : KitM w base kb mb nm mk lv acc) (ht : TRow w a r.abs) (hks : r.kind.size ≤ 140737488351232) (hal : r.abs.length ≤ 140737488351232) (hlim : acc.length ≤ 1954687338220) (hbw : base ≤ w.heap.size) :
    Calls Tryz.prog 50 #[.pointer (some ⟨kb, 0, none⟩), r.val a c] w fun e w' => (addC nm acc r = 0 ∧ e = .returned (.int .i64 0) ∧ ∃ lv', KitM w' base kb mb nm mk lv' (acc ++ [r]) ∧ Below base w w') ∨ ((addC nm acc r == 0) = false ∧ e = .returned (.int .i64 (addC nm acc r)) ∧ Ext w w') := by
  unfold addC
  by_cases hm : mayR r = 0
  · rw [if_pos hm]
    obtain ⟨pre, hg⟩ := mayR_good r hm
    rw [Nd.GoodR.preK hg]
    by_cases hp : (⟨pre.toArray⟩ : ByteArray) = nm
    · rw [if_pos hp]
      rcases hix : kIx acc r.kind with _ | ix
      · rw [if_pos rfl]
        refine (add_rowW hg base kb mb nm hp.symm mk lv acc a c w hk ht hix hlim hbw).mono ?_
        rintro e w' ⟨h1, h2⟩
        exact .inl ⟨rfl, h1, h2⟩
      · rw [if_neg (by simp)]
        refine (add_twice hg hm base kb mb nm mk lv acc a c w hk ht hp ix hix).mono ?_
        rintro e w' ⟨h1, h2⟩
        exact .inr ⟨by decide, h1, h2⟩
    · rw [if_neg hp]
      refine (add_kit hg hm base kb mb nm mk lv acc a c w hk ht hp).mono ?_
      rintro e w' ⟨h1, h2⟩
      exact .inr ⟨by decide, h1, h2⟩
  · rw [if_neg hm]
    have hm2 : (mayR r == 0) = false := by simpa using hm
    refine (add_failW r kb a c w hks hal ht hm2).mono ?_
    rintro e w' ⟨h1, h2⟩
    exact .inr ⟨hm2, h1, h2⟩
/-- The first that is amiss among the rows. -/
noncomputable def newL (nm : ByteArray) : List Rw → List Rw → Int
  | _, [] => 0
  | acc, r :: t => if addC nm acc r = 0 then newL nm (acc ++ [r]) t else addC nm acc r
noncomputable def newC (nm : ByteArray) (rws : List Rw) : Int := if rws.length = 0 then 1 else if speltB wordI 16 nm.data.toList = true then newL nm [] rws else 10
theorem newL_next {nm : ByteArray} {rws : List Rw} {j : Nat} (hj : j < rws.length) (h : addC nm (rws.take j) rws[j] = 0) : newL nm (rws.take j) (rws.drop j) = newL nm (rws.take (j + 1)) (rws.drop (j + 1)) := by
  rw [List.drop_eq_getElem_cons hj]
  show (if addC nm (rws.take j) rws[j] = 0 then newL nm (rws.take j ++ [rws[j]]) (rws.drop (j + 1)) else _) = _
  rw [if_pos h, (List.take_succ_eq_append_getElem hj).symm]
theorem newL_stop {nm : ByteArray} {rws : List Rw} {j : Nat} (hj : j < rws.length) (h : (addC nm (rws.take j) rws[j] == 0) = false) : newL nm (rws.take j) (rws.drop j) = addC nm (rws.take j) rws[j] := by
  rw [List.drop_eq_getElem_cons hj]
  show (if addC nm (rws.take j) rws[j] = 0 then _ else _) = _
  rw [if_neg (by simpa using h)]
set_option maxRecDepth 100000 in
set_option maxHeartbeats 4000000 in
theorem new_all (nm : ByteArray) (fm : Nat) (fc : Array Value) (ao : Option Addr) (lc : Nat) (rws : List Rw) (w : World) (hr : RowsLie w ao rws) (h0 : 0 < rws.length) (hlim : rws.length ≤ 1954687338220) (hg : ∀ r ∈ rws, r.kind.size ≤ 140737488351232 ∧ r.abs.length ≤ 140737488351232) (hw : speltB wordI 16 nm.data.toList = true) :
    Calls Tryz.prog 19 #[.string nm, .slice ao rws.length lc, .func (.func fm) #[] fc] w fun e w' => ((newL nm [] rws == 0) = false ∧ MakeNo w (newL nm [] rws) e w') ∨ (newL nm [] rws = 0 ∧ NewR w nm (.func (.func fm) #[] fc) rws e w') := by
  have hqf : ∀ w : World, (binOp .eql 84 (.func (.func fm) #[] fc) .nilFunc).run Tryz.prog w = .ok (.bool false) w := fun _ => by kernel_rfl
  have hmm := @run_makeMap Tryz.prog
  have HW := hid (fun w => word_any nm w)
  rw [hw] at HW
  have HR := hid hr
  have HG := hid hg
  obtain ⟨V0, hV0⟩ : ∃ V, newL nm [] rws = V := ⟨_, rfl⟩
  have HV := hid (show newL nm (rws.take 0) (rws.drop 0) = V0 from hV0)
  rw [hV0]
  obtain ⟨n, hne⟩ : ∃ n, rws.length = n := ⟨_, rfl⟩
  have HNE := hid hne
  rw [hne] at h0 hlim ⊢
  have h0' : (0 : Int) < n := by omega
  have h0q : ((n : Int) == 0) = false := by rw [beq_eq_false_iff_ne]; omega
  have hlim' : (n : Int) ≤ 1954687338220 := by omega
  clear hr hg hne hV0 hw
  go_enter Tryz.func19, Tryz.ntmps19
  go_wp2_with fail
  refine (HW.out _).mono ?_
  rintro e w1 ⟨rfl, hx1⟩
  have X1 := hid hx1
  clear hx1
  go_wp2_with fail
  go_loopw [31] (fun q31 wr => ∃ j : Nat, j ≤ n ∧ q31 = .int .i64 j ∧ NewLp w (w1.heap.size + 1) w1.heap.size nm (.func (.func fm) #[] fc) rws j wr ∧ newL nm (rws.take j) (rws.drop j) = V0) (fun q31 _ => n - (intOf q31).toNat)
  case atStart =>
    have hxs := X1.out.size
    refine ⟨0, Nat.zero_le _, rfl, ⟨.slice none 0 0, ⟨blk1 _ _ _, by omega, by omega, ?_, RItems.nil _ _⟩, X1.out.trans (Ext.alloc2 _ _ _)⟩, HV.out⟩
    exact ⟨.map [], (World.ownsMap_made w1 Tryz.prog 9 inE).alloc _, MapN.nil⟩
  case round =>
    obtain ⟨j, hj, rfl, ⟨lv', hkm, hx⟩, hvj⟩ := hrel
    have HX := hid hx
    have HKM := hid hkm
    have HVJ := hid hvj
    clear hx hkm hvj
    by_cases hlt : j < n
    · have hlt' : (j : Int) < n := by omega
      have hjr : j < rws.length := by rw [HNE.out]; exact hlt
      obtain ⟨g, off, a, c, rfl, ⟨p0, p1, p2, p3, p4, p5⟩, htb⟩ := (HR.out.later HX.out) j hjr
      have HTB := hid htb
      obtain ⟨hkr, har⟩ := HG.out _ (List.getElem_mem hjr)
      have HTK := hid (show rws.take j ++ [rws[j]] = rws.take (j + 1) from (List.take_succ_eq_append_getElem hjr).symm)
      have HNX := hid (fun h => newL_next (nm := nm) hjr h)
      have HST := hid (fun h => newL_stop (nm := nm) hjr h)
      have hgl := lt_of_cell p0
      generalize rws[j] = rj at *
      clear htb hjr
      have HADD := hid (fun w2 h1 h2 h3 => add_all rj w.heap.size (w1.heap.size + 1) w1.heap.size nm (.func (.func fm) #[] fc) lv' (rws.take j) a c w2 h1 h2 hkr har (by rw [List.length_take]; omega) h3)
      rw [HTK.out] at HADD
      unfold Rw.val at HADD
      obtain ⟨M, hM⟩ : ∃ M, wr.alloc (.cells #[.string rj.kind, .int .i64 rj.min, .int .i64 rj.max, .bool rj.num, .int .i64 rj.text, .slice a rj.abs.length c] 37) = M := ⟨_, rfl⟩
      have XM := hid (show Ext wr M from hM ▸ Ext.alloc _ _)
      obtain ⟨z0, z1, z2, z3, z4, z5⟩ := six_of (show RowAt M wr.heap.size rj a c from hM ▸ blk0 _ _)
      go_wp2_with fail
      clear hM
      refine (HADD.out _ (HKM.out.later XM.out) (HTB.out.later XM.out) (Nat.le_trans HX.out.size XM.out.size)).mono ?_
      rintro e w2 (⟨hc0, rfl, lv2, hk2, hb2⟩ | ⟨hc0, rfl, hx2⟩)
      · have HK2 := hid hk2
        have HB2 := hid hb2
        have HC0 := hid hc0
        clear hk2 hb2 z0 z1 z2 z3 z4 z5 hc0
        go_wp2_with fail
        go_roundw
        case rel => exact ⟨j + 1, by omega, by go_num, ⟨lv2, HK2.out, Below.trans (HX.out.trans XM.out) HB2.out⟩, (HNX.out HC0.out).symm.trans HVJ.out⟩
        case measure => simp [intOf]; omega
      · have X2 := hid hx2
        have HNW := hid (fun w => fnew_j _ hc0 w)
        have HVV := hid ((HST.out hc0).symm.trans HVJ.out)
        have hc1 := hc0
        rw [HVV.out] at HNW hc0 ⊢
        clear hx2 z0 z1 z2 z3 z4 z5 hc1
        have hm3 : (V0 != 0) = true := by unfold bne; rw [hc0]; rfl
        go_wp2_with fail
        refine (HNW.out _).mono ?_
        rintro e w3 ⟨rfl, rfl⟩
        go_wp2_with fail
        go_ret2
        exact .inl ⟨hc0, _, rfl, cell_of (blk0 _ _) rfl, HX.out.trans (XM.out.trans (X2.out.trans (Ext.alloc _ _)))⟩
    · have hje : j = n := by omega
      have hlt2 : decide ((j : Int) < n) = false := decide_eq_false (by omega)
      have hlt3 : ¬ (j : Int) < n := by omega
      have htk : rws.take j = rws := List.take_of_length_le (by have := HNE.out; omega)
      have hdr : rws.drop j = [] := List.drop_of_length_le (by have := HNE.out; omega)
      have HF := hid (show KitM wr w.heap.size (w1.heap.size + 1) w1.heap.size nm (.func (.func fm) #[] fc) lv' rws by
        have := HKM.out
        rwa [htk] at this)
      have HV0 := hid (show V0 = 0 by
        have := HVJ.out
        rw [hdr] at this
        exact this.symm)
      clear hje htk hdr
      go_wp2_with fail
      go_ret2
      exact .inr ⟨HV0.out, _, _, lv', rfl, HF.out, HX.out⟩
end Go.Proofs.YtaodkfchmaendaaGreatDoor.Nd
