/-
  kit.New of rows that may be, by a contract.
-/
import Derived.Test.YtnmcmjgfnncdmaaGreatDoorZzKAdd
namespace Go.Proofs.YtnmcmjgfnncdmaaGreatDoor
open Go.RowKit
theorem RItems.read {w : World} {base : Nat} {lv : Value} {acc : List Rw} (h : RItems w base lv acc) (j : Nat) (hj : j < acc.length) : ∃ g cap a c, lv = .slice (some ⟨g, 0, none⟩) acc.length cap ∧ (w.cell? ⟨g, j * 6, none⟩ = some (.string acc[j].kind) ∧ w.cell? ⟨g, j * 6 + 1, none⟩ = some (.int .i64 acc[j].min) ∧ w.cell? ⟨g, j * 6 + 2, none⟩ = some (.int .i64 acc[j].max) ∧ w.cell? ⟨g, j * 6 + 3, none⟩ = some (.bool acc[j].num) ∧ w.cell? ⟨g, j * 6 + 4, none⟩ = some (.int .i64 acc[j].text) ∧ w.cell? ⟨g, j * 6 + 5, none⟩ = some (.slice a acc[j].abs.length c)) ∧ TB w a acc[j].abs := by
  obtain ⟨us, ho, hi⟩ := h
  obtain ⟨a, c, ⟨q0, q1, q2, q3, q4, q5⟩, ht⟩ := hi j hj
  rcases ho.2 with ⟨hv, h1⟩ | ⟨g, cap, cur, hv, hbg, hbk, h3, h4, h5, h6⟩
  · omega
  · have key : ∀ i u, i < acc.length * 6 → us[i]? = some u → w.cell? ⟨g, i, none⟩ = some u := fun i u hi hu => by
      rw [← h6, List.getElem?_take_of_lt hi] at hu
      exact cell_of hbk (by simpa using hu)
    exact ⟨g, cap, a, c, hv, ⟨key _ _ (by omega) q0, key _ _ (by omega) q1, key _ _ (by omega) q2, key _ _ (by omega) q3, key _ _ (by omega) q4, key _ _ (by omega) q5⟩, ht⟩
theorem kIx_take {rws : List Rw} (hd : (rws.map Rw.kind).Nodup) {j : Nat} (hj : j < rws.length) : kIx (rws.take j) rws[j].kind = none := by
  unfold kIx
  rw [List.findIdx?_eq_none_iff]
  intro r hr
  rw [List.mem_take_iff_getElem] at hr
  obtain ⟨i, hi, rfl⟩ := hr
  simp only [decide_eq_false_iff_not]
  intro e
  have hp := List.pairwise_iff_getElem.1 hd i j (by simp; omega) (by simpa using hj) (by omega)
  exact hp (by simpa using e)
/-- The kit with its first rows. -/
def NewLp (w : World) (kb mb : Nat) (nm : ByteArray) (mk : Value) (rws : List Rw) (j : Nat) (wr : World) : Prop := ∃ lv', KitM wr w.heap.size kb mb nm mk lv' (rws.take j) ∧ Ext w wr
/-- What New answers. -/
def NewR (w : World) (nm : ByteArray) (mk : Value) (rws : List Rw) (e : Ending) (w' : World) : Prop := ∃ kb mb lv', e = .returned (.tuple #[.pointer (some ⟨kb, 0, none⟩), .nilIface]) ∧ KitM w' w.heap.size kb mb nm mk lv' rws ∧ Ext w w'
set_option maxRecDepth 100000 in
set_option maxHeartbeats 2000000 in
theorem new_good {pre : List UInt8} (nm : ByteArray) (hnm : nm = ⟨pre.toArray⟩) (hw : speltB wordI 16 pre = true) (fm : Nat) (fc : Array Value) (lv : Value) (rws : List Rw) (base : Nat) (w : World) (hr : RItems w base lv rws) (h0 : 0 < rws.length) (hlim : rws.length ≤ 1000) (hg : ∀ r ∈ rws, GoodR pre r) (hd : (rws.map Rw.kind).Nodup) :
    Calls Tryz.prog 123 #[.string nm, lv, .func (.func fm) #[] fc] w (NewR w nm (.func (.func fm) #[] fc) rws) := by
  have hqf : ∀ w : World, (binOp .eql 126 (.func (.func fm) #[] fc) .nilFunc).run Tryz.prog w = .ok (.bool false) w := fun _ => by kernel_rfl
  have hmm := @run_makeMap Tryz.prog
  have HW := hid (fun w => word_any nm w)
  rw [show speltB wordI 16 nm.data.toList = true by rw [hnm]; exact hw] at HW
  have HR := hid hr
  have HG := hid hg
  have HD := hid hd
  have HNM := hid hnm
  obtain ⟨ao, lc, hlv⟩ := hr.shape
  subst hlv
  obtain ⟨n, hne⟩ : ∃ n, rws.length = n := ⟨_, rfl⟩
  have HNE := hid hne
  rw [hne] at h0 hlim HR ⊢
  have h0' : (0 : Int) < n := by omega
  have h0q : ((n : Int) == 0) = false := by rw [beq_eq_false_iff_ne]; omega
  have hlim' : (n : Int) ≤ 1000 := by omega
  clear hr hg hd hnm hne
  go_enter Tryz.func123, Tryz.ntmps123
  go_wp2_with fail
  refine (HW.out _).mono ?_
  rintro e w1 ⟨rfl, hx1⟩
  have X1 := hid hx1
  clear hx1
  go_wp2_with fail
  go_loopw [31] (fun q31 wr => ∃ j : Nat, j ≤ n ∧ q31 = .int .i64 j ∧ NewLp w (w1.heap.size + 1) w1.heap.size nm (.func (.func fm) #[] fc) rws j wr) (fun q31 _ => n - (intOf q31).toNat)
  case atStart =>
    have hxs := X1.out.size
    refine ⟨0, Nat.zero_le _, rfl, .slice none 0 0, ⟨blk1 _ _ _, by omega, by omega, ?_, RItems.nil _ _⟩, X1.out.trans (Ext.alloc2 _ _ _)⟩
    exact ⟨.map [], (World.ownsMap_made w1 Tryz.prog 9 inE).alloc _, MapN.nil⟩
  case round =>
    obtain ⟨j, hj, rfl, lv', hkm, hx⟩ := hrel
    have HX := hid hx
    have HKM := hid hkm
    clear hx hkm
    by_cases hlt : j < n
    · have hlt' : (j : Int) < n := by omega
      have hjr : j < rws.length := by rw [HNE.out]; exact hlt
      obtain ⟨g, cap, a, c, hlv, ⟨p0, p1, p2, p3, p4, p5⟩, htb⟩ := (HR.out.later HX.out).read j hjr
      obtain ⟨rfl, hnn, rfl⟩ := Value.slice.inj hlv
      clear hnn
      have HTB := hid htb
      have HADD := hid (fun w2 h1 h2 h3 => add_good (HG.out _ (List.getElem_mem hjr)) w.heap.size (w1.heap.size + 1) w1.heap.size nm HNM.out (.func (.func fm) #[] fc) lv' (rws.take j) a c w2 h1 h2 (kIx_take HD.out hjr) (by rw [List.length_take]; omega) h3)
      have HTK := hid (show rws.take j ++ [rws[j]] = rws.take (j + 1) from (List.take_succ_eq_append_getElem hjr).symm)
      rw [HTK.out] at HADD
      generalize rws[j] = rj at *
      unfold Rw.val at HADD
      clear htb hlv hjr
      have hgl := lt_of_cell p0
      obtain ⟨M, hM⟩ : ∃ M, wr.alloc (.cells #[.string rj.kind, .int .i64 rj.min, .int .i64 rj.max, .bool rj.num, .int .i64 rj.text, .slice a rj.abs.length c] 137) = M := ⟨_, rfl⟩
      have XM := hid (show Ext wr M from hM ▸ Ext.alloc _ _)
      obtain ⟨z0, z1, z2, z3, z4, z5⟩ := six_of (show RowAt M wr.heap.size rj a c from hM ▸ blk0 _ _)
      go_wp2_with fail
      clear hM
      refine (HADD.out _ (HKM.out.later XM.out) (HTB.out.later XM.out) (Nat.le_trans HX.out.size XM.out.size)).mono ?_
      rintro e w2 ⟨rfl, lv2, hk2, hb2⟩
      have HK2 := hid hk2
      have HB2 := hid hb2
      clear hk2 hb2 z0 z1 z2 z3 z4 z5
      go_wp2_with fail
      go_roundw
      case rel => exact ⟨j + 1, by omega, by go_num, lv2, HK2.out, Below.trans (HX.out.trans XM.out) HB2.out⟩
      case measure => simp [intOf]; omega
    · have hje : j = n := by omega
      have hlt2 : decide ((j : Int) < n) = false := decide_eq_false (by omega)
      have hlt3 : ¬ (j : Int) < n := by omega
      have HF := hid (show KitM wr w.heap.size (w1.heap.size + 1) w1.heap.size nm (.func (.func fm) #[] fc) lv' rws by
        have := HKM.out
        rwa [List.take_of_length_le (by have := HNE.out; omega)] at this)
      clear hje
      go_wp2_with fail
      go_ret2
      exact ⟨_, _, lv', rfl, HF.out, HX.out⟩
end Go.Proofs.YtnmcmjgfnncdmaaGreatDoor
