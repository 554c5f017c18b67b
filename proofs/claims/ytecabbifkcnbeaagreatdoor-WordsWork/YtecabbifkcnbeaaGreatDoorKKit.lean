/-
  kit.New of rows that may be, by a contract.
-/
import Derived.Test.YtecabbifkcnbeaaGreatDoorKAdd
import Derived.Test.YtecabbifkcnbeaaGreatDoorShelf
import Derived.Deep.RegionHeld3
namespace Go.Proofs.YtecabbifkcnbeaaGreatDoor
open Go.RowKit
theorem RItems.read {w : World} {base : Nat} {lv : Value} {acc : List Rw} (h : RItems w base lv acc) (j : Nat) (hj : j < acc.length) : ∃ g cap a c, lv = .slice (some ⟨g, 0, none⟩) acc.length cap ∧ (w.cell? ⟨g, j * 6, none⟩ = some (.string acc[j].kind) ∧ w.cell? ⟨g, j * 6 + 1, none⟩ = some (.int .i64 acc[j].min) ∧ w.cell? ⟨g, j * 6 + 2, none⟩ = some (.int .i64 acc[j].max) ∧ w.cell? ⟨g, j * 6 + 3, none⟩ = some (.bool acc[j].num) ∧ w.cell? ⟨g, j * 6 + 4, none⟩ = some (.int .i64 acc[j].text) ∧ w.cell? ⟨g, j * 6 + 5, none⟩ = some (.slice a acc[j].abs.length c)) ∧ TB w a acc[j].abs := by
  obtain ⟨us, ho, hi⟩ := h
  obtain ⟨a, c, ⟨q0, q1, q2, q3, q4, q5⟩, ht⟩ := hi j hj
  rcases ho.2 with ⟨hv, h1⟩ | ⟨g, cap, cur, hv, hbg, hbk, h3, h4, h5, h6⟩
  · omega
  · have key : ∀ i u, i < acc.length * 6 → us[i]? = some u → w.cell? ⟨g, i, none⟩ = some u := fun i u hi hu => by
      rw [← h6, List.getElem?_take_of_lt hi] at hu
      exact cell_of hbk (by simpa using hu)
    exact ⟨g, cap, a, c, hv, ⟨key _ _ (by omega) q0, key _ _ (by omega) q1, key _ _ (by omega) q2, key _ _ (by omega) q3, key _ _ (by omega) q4, key _ _ (by omega) q5⟩, ht⟩
theorem kIx_take {rws : List Rw} (hd : (rws.map Rw.kind).Nodup) {j : Nat} (hj : j < rws.length) : kIx (rws.take j) rws[j].kind = none := by
  unfold kIx
  rw [List.findIdx?_eq_none_iff]
  intro r hr
  rw [List.mem_take_iff_getElem] at hr
  obtain ⟨i, hi, rfl⟩ := hr
  simp only [decide_eq_false_iff_not]
  intro e
  have hp := List.pairwise_iff_getElem.1 hd i j (by simp; omega) (by simpa using hj) (by omega)
  exact hp (by simpa using e)
/-- The kit with its first rows. -/
def NewLp (w : World) (kb mb : Nat) (nm : ByteArray) (mk : Value) (rws : List Rw) (j : Nat) (wr : World) : Prop := ∃ lv', KitM wr w.heap.size kb mb nm mk lv' (rws.take j) ∧ Ext w wr
/-- What New answers. -/
def NewR (w : World) (nm : ByteArray) (mk : Value) (rws : List Rw) (e : Ending) (w' : World) : Prop := ∃ kb mb lv', e = .returned (.tuple #[.pointer (some ⟨kb, 0, none⟩), .nilIface]) ∧ KitM w' w.heap.size kb mb nm mk lv' rws ∧ Ext w w'
set_option maxRecDepth 100000 in
set_option maxHeartbeats 2000000 in
theorem new_good {pre : List UInt8} (nm : ByteArray) (hnm : nm = ⟨pre.toArray⟩) (hw : speltB wordI 16 pre = true) (fm : Nat) (fc : Array Value) (lv : Value) (rws : List Rw) (base : Nat) (w : World) (hr : RItems w base lv rws) (h0 : 0 < rws.length) (hlim : rws.length ≤ 1000) (hg : ∀ r ∈ rws, GoodR pre r) (hd : (rws.map Rw.kind).Nodup) :
    Calls Tryz.prog 91 #[.string nm, lv, .func (.func fm) #[] fc] w (NewR w nm (.func (.func fm) #[] fc) rws) := by
  have hqf : ∀ w : World, (binOp .eql 105 (.func (.func fm) #[] fc) .nilFunc).run Tryz.prog w = .ok (.bool false) w := fun _ => by kernel_rfl
  have hmm := @run_makeMap Tryz.prog
  have HW := hid (fun w => word_any nm w)
  rw [show speltB wordI 16 nm.data.toList = true by rw [hnm]; exact hw] at HW
  have HR := hid hr
  have HG := hid hg
  have HD := hid hd
  have HNM := hid hnm
  obtain ⟨ao, lc, hlv⟩ := hr.shape
  subst hlv
  obtain ⟨n, hne⟩ : ∃ n, rws.length = n := ⟨_, rfl⟩
  have HNE := hid hne
  rw [hne] at h0 hlim HR ⊢
  have h0' : (0 : Int) < n := by omega
  have h0q : ((n : Int) == 0) = false := by rw [beq_eq_false_iff_ne]; omega
  have hlim' : (n : Int) ≤ 1000 := by omega
  clear hr hg hd hnm hne
  go_enter Tryz.func91, Tryz.ntmps91
  go_wp2_with fail
  refine (HW.out _).mono ?_
  rintro e w1 ⟨rfl, hx1⟩
  have X1 := hid hx1
  clear hx1
  go_wp2_with fail
  go_loopw [31] (fun q31 wr => ∃ j : Nat, j ≤ n ∧ q31 = .int .i64 j ∧ NewLp w (w1.heap.size + 1) w1.heap.size nm (.func (.func fm) #[] fc) rws j wr) (fun q31 _ => n - (intOf q31).toNat)
  case atStart =>
    have hxs := X1.out.size
    refine ⟨0, Nat.zero_le _, rfl, .slice none 0 0, ⟨blk1 _ _ _, by omega, by omega, ?_, RItems.nil _ _⟩, X1.out.trans (Ext.alloc2 _ _ _)⟩
    exact ⟨.map [], (World.ownsMap_made w1 Tryz.prog 9 inE).alloc _, MapN.nil⟩
  case round =>
    obtain ⟨j, hj, rfl, lv', hkm, hx⟩ := hrel
    have HX := hid hx
    have HKM := hid hkm
    clear hx hkm
    by_cases hlt : j < n
    · have hlt' : (j : Int) < n := by omega
      have hjr : j < rws.length := by rw [HNE.out]; exact hlt
      obtain ⟨g, cap, a, c, hlv, ⟨p0, p1, p2, p3, p4, p5⟩, htb⟩ := (HR.out.later HX.out).read j hjr
      obtain ⟨rfl, hnn, rfl⟩ := Value.slice.inj hlv
      clear hnn
      have HTB := hid htb
      have HADD := hid (fun w2 h1 h2 h3 => add_good (HG.out _ (List.getElem_mem hjr)) w.heap.size (w1.heap.size + 1) w1.heap.size nm HNM.out (.func (.func fm) #[] fc) lv' (rws.take j) a c w2 h1 h2 (kIx_take HD.out hjr) (by rw [List.length_take]; omega) h3)
      have HTK := hid (show rws.take j ++ [rws[j]] = rws.take (j + 1) from (List.take_succ_eq_append_getElem hjr).symm)
      rw [HTK.out] at HADD
      generalize rws[j] = rj at *
      unfold Rw.val at HADD
      clear htb hlv hjr
      have hgl := lt_of_cell p0
      obtain ⟨M, hM⟩ : ∃ M, wr.alloc (.cells #[.string rj.kind, .int .i64 rj.min, .int .i64 rj.max, .bool rj.num, .int .i64 rj.text, .slice a rj.abs.length c] 118) = M := ⟨_, rfl⟩
      have XM := hid (show Ext wr M from hM ▸ Ext.alloc _ _)
      obtain ⟨z0, z1, z2, z3, z4, z5⟩ := six_of (show RowAt M wr.heap.size rj a c from hM ▸ blk0 _ _)
      go_wp2_with fail
      clear hM
      refine (HADD.out _ (HKM.out.later XM.out) (HTB.out.later XM.out) (Nat.le_trans HX.out.size XM.out.size)).mono ?_
      rintro e w2 ⟨rfl, lv2, hk2, hb2⟩
      have HK2 := hid hk2
      have HB2 := hid hb2
      clear hk2 hb2 z0 z1 z2 z3 z4 z5
      go_wp2_with fail
      go_roundw
      case rel => exact ⟨j + 1, by omega, by go_num, lv2, HK2.out, Below.trans (HX.out.trans XM.out) HB2.out⟩
      case measure => simp [intOf]; omega
    · have hje : j = n := by omega
      have hlt2 : decide ((j : Int) < n) = false := decide_eq_false (by omega)
      have hlt3 : ¬ (j : Int) < n := by omega
      have HF := hid (show KitM wr w.heap.size (w1.heap.size + 1) w1.heap.size nm (.func (.func fm) #[] fc) lv' rws by
        have := HKM.out
        rwa [List.take_of_length_le (by have := HNE.out; omega)] at this)
      clear hje
      go_wp2_with fail
      go_ret2
      exact ⟨_, _, lv', rfl, HF.out, HX.out⟩
end Go.Proofs.YtecabbifkcnbeaaGreatDoor
/-
  craft.Kit by a contract: the kit of a table of kinds whose rows may be.
-/
namespace Go.Proofs.YtecabbifkcnbeaaGreatDoor
open Go.RowKit
/-- The library's table of blanks, as laid. -/
def Laid (w : World) : Prop := Lib.TabIs Tryz.prog w "strings.asciiSpace" .u8 Lib.asciiSpaceTab
theorem Laid.keep {w w' : World} {K : Nat → Prop} (h : Laid w) (hk : Kp K w w') (h1 : K 0) : Laid w' := by
  have hgn : Tryz.prog.globalNamed "strings.asciiSpace" = some 0 := by kernel_rfl
  unfold Laid Lib.TabIs World.var? at h ⊢
  rw [hgn] at h ⊢
  simp only [Option.bind_some] at h ⊢
  have hlt : 0 < w.heap.size := by
    rcases Nat.lt_or_ge 0 w.heap.size with h' | h'
    · exact h'
    · rw [Array.getElem?_eq_none h'] at h; cases h
  rw [hk.block 0 hlt h1]
  exact h
theorem Laid.later {w w' : World} (h : Laid w) (hx : Ext w w') : Laid w' := h.keep (hx.kp (fun _ => True)) trivial
theorem kindInfo : (Tryz.prog.info? 69).map (fun i => (i.zero, i.size, i.bytes)) = some (some (.agg #[.string ⟨#[]⟩, .int .i64 0, .int .i64 0, .int .i64 0, .string ⟨#[]⟩, .string ⟨#[]⟩, .nilFunc, .nilFunc, .bool false]), 9, 96) := by kernel_rfl
theorem fnV_one : ∀ o, (fnV o).oneCell' = true
  | none => rfl
  | some _ => rfl
theorem tabL_one : ∀ (ks : List Kd), ∀ u ∈ tabL ks, u.oneCell' = true
  | [], u, h => by cases h
  | k :: r, u, h => by
    simp only [tabL, List.mem_cons] at h
    rcases h with rfl | rfl | rfl | rfl | rfl | rfl | rfl | rfl | rfl | h
    · rfl
    · rfl
    · rfl
    · rfl
    · rfl
    · rfl
    · exact fnV_one _
    · exact fnV_one _
    · rfl
    · exact tabL_one r u h
/-- Kinds in a row. -/
def KRow (w : World) (g : Nat) (ks : List Kd) : Prop := ∀ j, (h : j < ks.length) → Nine w g (j * 9) ks[j]
theorem KRow.later {w w' : World} {g : Nat} {ks : List Kd} (h : KRow w g ks) (hx : Ext w w') : KRow w' g ks := fun j hj => by
  obtain ⟨h0, h1, h2, h3, h4, h5, h6, h7, h8⟩ := h j hj
  exact ⟨(Below.cell hx (lt_of_cell h0)).trans h0, (Below.cell hx (lt_of_cell h1)).trans h1, (Below.cell hx (lt_of_cell h2)).trans h2, (Below.cell hx (lt_of_cell h3)).trans h3, (Below.cell hx (lt_of_cell h4)).trans h4, (Below.cell hx (lt_of_cell h5)).trans h5, (Below.cell hx (lt_of_cell h6)).trans h6, (Below.cell hx (lt_of_cell h7)).trans h7, (Below.cell hx (lt_of_cell h8)).trans h8⟩
set_option maxRecDepth 100000 in
set_option maxHeartbeats 1000000 in
theorem cloneK (tb : Nat) (ks : List Kd) (w : World) (hl : ks.length ≤ 1000) (h0 : 0 < ks.length) (h : TabAt w tb ks) :
    Calls Tryz.prog 89 #[.slice (some ⟨tb, 0, none⟩) ks.length ks.length] w fun e w' => ∃ g cap, e = .returned (.slice (some ⟨g, 0, none⟩) ks.length cap) ∧ w.heap.size ≤ g ∧ KRow w' g ks ∧ Ext w w' := by
  obtain ⟨i0, hi0, hz0, hz1, hz2⟩ := info_parts kindInfo
  have hq : ∀ w : World, (binOp .eql 73 (.slice (some ⟨tb, 0, none⟩) ks.length ks.length) (.slice none 0 0)).run Tryz.prog w = .ok (.bool false) w := fun w => by
    exact Lib.run_eql_slice_nil w 73 69 (some ⟨tb, 0, none⟩) ks.length ks.length 0 0 Tryz.underlying73
  have hown : (w.alloc (.cells #[] 69)).ownsRow w.heap.size 69 9 (.slice (some ⟨w.heap.size, 0, none⟩) 0 0) 0 [] :=
    ⟨rfl, .inr ⟨w.heap.size, 0, #[], rfl, Nat.le_refl _, blk0 _ _, Nat.le_refl _, Nat.zero_le _, rfl, rfl⟩⟩
  have HT := hid h
  have HLN := hid (tab_len ks)
  clear h
  go_enter Tryz.func89, Tryz.ntmps89
  go_wp2_with (at_builtin; refine wpList_append_own _ rfl _ _ 73 rfl w.heap.size 69 i0 _ 9 96 Tryz.underlying73 hi0 hz0 hz1 hz2 rfl (by decide) _ _ _ rfl hown ⟨tb, 0, none⟩ ks.length ks.length (tabL ks) rfl (by rw [HLN.out]) ?hnews ?hone ?b1 ?b2 ?b3 ?_)
  case hnews =>
    intro j u hu
    obtain ⟨t, ht⟩ := HT.out
    have h2 := cell_of ((Ext.alloc w (.cells #[] 69)).block ht) (show (tabL ks).toArray[j]? = some u by simpa using hu)
    have ea : Addr.add ⟨tb, 0, none⟩ j = ⟨tb, j, none⟩ := by
      by_cases hj : j = 0
      · subst hj; simp [Addr.add]
      · simp [Addr.add, hj]
    rw [ea]; exact h2
  case hone => exact tabL_one ks
  case b1 => unfold maxLen; omega
  case b2 => simp; omega
  case b3 => simp
  intro v' w' hown' hgrow _
  have hx : Ext w w' := Below.grown (Ext.alloc w _) hgrow (by simp) (fun k hk => by simp [Value.ownBlock] at hk; omega)
  have ho2 : w'.ownsRow w.heap.size 69 9 v' ks.length (tabL ks) := by simpa using hown'
  obtain ⟨g, cap, rfl, hge, hkr⟩ : ∃ g cap, v' = .slice (some ⟨g, 0, none⟩) ks.length cap ∧ w.heap.size ≤ g ∧ KRow w' g ks := by
    rcases ho2.2 with ⟨hv, h1⟩ | ⟨g, cap, cur, hv, hbg, hbk, h3, h4, h5, h6⟩
    · omega
    · refine ⟨g, cap, hv, hbg, fun j hj => ?_⟩
      have key : ∀ i u, i < ks.length * 9 → (tabL ks)[i]? = some u → w'.cell? ⟨g, i, none⟩ = some u := fun i u hi hu => by
        rw [← h6, List.getElem?_take_of_lt hi] at hu
        exact cell_of hbk (by simpa using hu)
      obtain ⟨a0, a1, a2, a3, a4, a5, a6, a7, a8⟩ := tab_at ks j hj
      exact ⟨key _ _ (by omega) a0, key _ _ (by omega) a1, key _ _ (by omega) a2, key _ _ (by omega) a3, key _ _ (by omega) a4, key _ _ (by omega) a5, key _ _ (by omega) a6, key _ _ (by omega) a7, key _ _ (by omega) a8⟩
  have HX := hid hx
  have HKR := hid hkr
  clear hx hkr ho2 hown' hgrow hown
  go_wp2
  go_ret
  exact ⟨g, cap, rfl, hge, HKR.out, HX.out⟩
/-- A kind's row. -/
def kdRow (k : Kd) : Rw := ⟨k.name, k.min, k.max, false, k.text, (Lib.fields k.has.data.toList).map fun l => ⟨l.toArray⟩⟩
theorem fields_any (s : ByteArray) (abs : List ByteArray) (ha : (Lib.fields s.data.toList).map (fun l => (⟨l.toArray⟩ : ByteArray)) = abs) (w : World) (hs : s.size ≤ 4000) (hascii : s.data.toList.all (fun b => decide (b.toNat < 128)) = true) (hl : Laid w) : Calls Tryz.prog 90 #[.string s] w fun e w' => e = .returned (.slice (some ⟨w.heap.size, 0, none⟩) abs.length abs.length) ∧ TB w' (some ⟨w.heap.size, 0, none⟩) abs ∧ Ext w w' := by
  subst ha
  refine (Tryz.strings_Fields s w (by omega) (fun j b hb => ?_) hl).mono ?_
  · have := List.all_eq_true.1 hascii b (List.mem_of_getElem? hb)
    simpa using this
  · rintro e w' ⟨rfl, rfl⟩
    refine ⟨by rw [List.length_map], .inr ⟨_, _, rfl, blk0 _ _, fun j hj => ?_⟩, Ext.alloc _ _⟩
    have hj' : j < (Lib.fields s.data.toList).length := by simpa using hj
    simp [hj']
end Go.Proofs.YtecabbifkcnbeaaGreatDoor
