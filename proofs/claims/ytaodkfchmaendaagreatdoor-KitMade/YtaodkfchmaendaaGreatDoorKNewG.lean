/-
  kit.New of rows of its own kinds, that may be or not: by a contract.
-/
import Derived.Test.YtaodkfchmaendaaGreatDoorKAddR
import Derived.Test.YtaodkfchmaendaaGreatDoorKKit
import Derived.Test.YtaodkfchmaendaaGreatDoorJMake
namespace Go.Proofs.YtaodkfchmaendaaGreatDoor.Nd
open Go.RowKit
theorem ordQ_len : ∀ (xs : List ByteArray) (l : Nat) (p : Bool), l ≤ 14 → ordQ l p xs = true → xs.length ≤ 14 - l
  | [], _, _, _, _ => Nat.zero_le _
  | x :: r, l, p, hl, h => by
    rw [ordQ_cons] at h
    split at h
    · rename_i hq
      have h2 := (nextQ_lt hq).2
      have h3 := (nextQ_lt hq).1
      split at h
      · cases h
      · have := ordQ_len r _ _ (by omega) h
        simp only [List.length_cons]
        omega
    · cases h
/-- A kind of the kit pre. -/
structure KindR (pre : List UInt8) (r : Rw) : Prop where
  name : ∃ post, r.kind.data.toList = pre ++ 46 :: post ∧ speltB wordI 16 post = true
  nod : (46 : UInt8) ∉ pre
  word : speltB wordI 16 pre = true
  size : r.kind.size ≤ 4000
theorem KindR.good {pre : List UInt8} {r : Rw} (h : KindR pre r) (hm : mayR r = 0) : GoodR pre r := by
  unfold mayR at hm
  split at hm
  · cases hm
  split at hm
  · cases hm
  rename_i _ h2
  split at hm
  · cases hm
  rename_i h3
  split at hm
  · rename_i h4
    refine ⟨h.name, h.nod, h.word, h.size, by omega, ?_, by omega, by omega, h4, ?_⟩
    · by_cases hx : r.max = -1
      · exact .inl hx
      · exact .inr (by omega)
    · have := ordQ_len r.abs 0 false (by omega) h4
      omega
  · cases hm
theorem add_fail (r : Rw) (kb : Nat) (a : Option Addr) (c : Nat) (w : World) (hk : r.kind.size ≤ 4000) (hl : r.abs.length ≤ 140737488351232) (ht : TRow w a r.abs) (hm : (mayR r == 0) = false) : Calls Tryz.prog 50 #[.pointer (some ⟨kb, 0, none⟩), r.val a c] w fun e w' => e = .returned (.int .i64 (mayR r)) ∧ Ext w w' := by
  have HMAY := hid (fun w1 (hx : Ext w w1) => rmay_row r a c w1 (by omega) hl (ht.later hx))
  generalize mayR r = V at *
  unfold Rw.val at *
  obtain ⟨k, mn, mx, nm, tx, abs⟩ := r
  dsimp only at *
  generalize abs.length = al at *
  clear ht
  obtain ⟨M, hM⟩ : ∃ M, w.alloc (.cells #[.string k, .int .i64 mn, .int .i64 mx, .bool nm, .int .i64 tx, .slice a al c] 37) = M := ⟨_, rfl⟩
  have XM := hid (show Ext w M from hM ▸ Ext.alloc _ _)
  obtain ⟨z0, z1, z2, z3, z4, z5⟩ := six_of (show M.heap[w.heap.size]? = some (.cells #[.string k, .int .i64 mn, .int .i64 mx, .bool nm, .int .i64 tx, .slice a al c] 37) from hM ▸ blk0 _ _)
  go_enter Tryz.func50, Tryz.ntmps50
  go_wp2_with fail
  clear hM
  refine (HMAY.out _ XM.out).mono ?_
  rintro e w1 ⟨rfl, hx1⟩
  have X1 := hid (XM.out.trans hx1)
  clear hx1 z0 z1 z2 z3 z4 z5
  have hm2 : (V != 0) = true := by unfold bne; rw [hm]; rfl
  go_wp2_with fail
  go_ret
  exact ⟨rfl, X1.out⟩
/-- Rows in a list. -/
def RowsLie (W : World) (ao : Option Addr) (rws : List Rw) : Prop := ∀ j, (hj : j < rws.length) → ∃ g off a c, ao = some ⟨g, off, none⟩ ∧ (W.cell? ⟨g, off + j * 6, none⟩ = some (.string rws[j].kind) ∧ W.cell? ⟨g, off + j * 6 + 1, none⟩ = some (.int .i64 rws[j].min) ∧ W.cell? ⟨g, off + j * 6 + 2, none⟩ = some (.int .i64 rws[j].max) ∧ W.cell? ⟨g, off + j * 6 + 3, none⟩ = some (.bool rws[j].num) ∧ W.cell? ⟨g, off + j * 6 + 4, none⟩ = some (.int .i64 rws[j].text) ∧ W.cell? ⟨g, off + j * 6 + 5, none⟩ = some (.slice a rws[j].abs.length c)) ∧ TRow W a rws[j].abs
theorem RowsLie.later {W W' : World} {ao : Option Addr} {rws : List Rw} (h : RowsLie W ao rws) (hx : Ext W W') : RowsLie W' ao rws := fun j hj => by
  have Y : ∀ {q : Addr} {v : Value}, W.cell? q = some v → W'.cell? q = some v := fun e => (hx.kp (fun _ => True)).cell e trivial
  obtain ⟨g, off, a, c, h0, ⟨p0, p1, p2, p3, p4, p5⟩, ht⟩ := h j hj
  exact ⟨g, off, a, c, h0, ⟨Y p0, Y p1, Y p2, Y p3, Y p4, Y p5⟩, ht.later hx⟩
set_option maxRecDepth 100000 in
set_option maxHeartbeats 4000000 in
theorem new_rows {pre : List UInt8} (nm : ByteArray) (hnm : nm = ⟨pre.toArray⟩) (hw : speltB wordI 16 pre = true) (fm : Nat) (fc : Array Value) (ao : Option Addr) (lc : Nat) (rws : List Rw) (w : World) (hr : RowsLie w ao rws) (h0 : 0 < rws.length) (hlim : rws.length ≤ 1000) (hg : ∀ r ∈ rws, KindR pre r ∧ r.abs.length ≤ 140737488351232) (hd : (rws.map Rw.kind).Nodup) :
    Calls Tryz.prog 19 #[.string nm, .slice ao rws.length lc, .func (.func fm) #[] fc] w fun e w' => (∃ ev, MakeNo w ev e w') ∨ ((∀ r ∈ rws, GoodR pre r) ∧ NewR w nm (.func (.func fm) #[] fc) rws e w') := by
  have hqf : ∀ w : World, (binOp .eql 84 (.func (.func fm) #[] fc) .nilFunc).run Tryz.prog w = .ok (.bool false) w := fun _ => by kernel_rfl
  have hmm := @run_makeMap Tryz.prog
  have HW := hid (fun w => word_any nm w)
  rw [show speltB wordI 16 nm.data.toList = true by rw [hnm]; exact hw] at HW
  have HR := hid hr
  have HG := hid hg
  have HD := hid hd
  have HNM := hid hnm
  obtain ⟨n, hne⟩ : ∃ n, rws.length = n := ⟨_, rfl⟩
  have HNE := hid hne
  rw [hne] at h0 hlim ⊢
  have h0' : (0 : Int) < n := by omega
  have h0q : ((n : Int) == 0) = false := by rw [beq_eq_false_iff_ne]; omega
  have hlim' : (n : Int) ≤ 1000 := by omega
  clear hr hg hd hnm hne
  go_enter Tryz.func19, Tryz.ntmps19
  go_wp2_with fail
  refine (HW.out _).mono ?_
  rintro e w1 ⟨rfl, hx1⟩
  have X1 := hid hx1
  clear hx1
  go_wp2_with fail
  go_loopw [31] (fun q31 wr => ∃ j : Nat, j ≤ n ∧ q31 = .int .i64 j ∧ NewLp w (w1.heap.size + 1) w1.heap.size nm (.func (.func fm) #[] fc) rws j wr ∧ ∀ r ∈ rws.take j, GoodR pre r) (fun q31 _ => n - (intOf q31).toNat)
  case atStart =>
    have hxs := X1.out.size
    refine ⟨0, Nat.zero_le _, rfl, ⟨.slice none 0 0, ⟨blk1 _ _ _, by omega, by omega, ?_, RItems.nil _ _⟩, X1.out.trans (Ext.alloc2 _ _ _)⟩, fun r hr => by simp at hr⟩
    exact ⟨.map [], (World.ownsMap_made w1 Tryz.prog 9 inE).alloc _, MapN.nil⟩
  case round =>
    obtain ⟨j, hj, rfl, ⟨lv', hkm, hx⟩, hgj⟩ := hrel
    have HX := hid hx
    have HKM := hid hkm
    have HGJ := hid hgj
    clear hx hkm hgj
    by_cases hlt : j < n
    · have hlt' : (j : Int) < n := by omega
      have hjr : j < rws.length := by rw [HNE.out]; exact hlt
      obtain ⟨g, off, a, c, rfl, ⟨p0, p1, p2, p3, p4, p5⟩, htb⟩ := (HR.out.later HX.out) j hjr
      have HTB := hid htb
      obtain ⟨hkr, har⟩ := HG.out _ (List.getElem_mem hjr)
      have HTK := hid (show rws.take j ++ [rws[j]] = rws.take (j + 1) from (List.take_succ_eq_append_getElem hjr).symm)
      have HIX := hid (kIx_take HD.out hjr)
      have HKR := hid hkr
      have hgl := lt_of_cell p0
      generalize rws[j] = rj at *
      clear htb hjr hkr
      have HHB := hid (blk0 wr (.cells #[.string rj.kind, .int .i64 rj.min, .int .i64 rj.max, .bool rj.num, .int .i64 rj.text, .slice a rj.abs.length c] 37))
      by_cases hm : mayR rj = 0
      · have HGR := hid (HKR.out.good hm)
        have HADD := hid (fun w2 h1 h2 h3 => add_row HGR.out w.heap.size (w1.heap.size + 1) w1.heap.size nm HNM.out (.func (.func fm) #[] fc) lv' (rws.take j) a c w2 h1 h2 HIX.out (by rw [List.length_take]; omega) h3)
        rw [HTK.out] at HADD
        unfold Rw.val at HADD
        obtain ⟨M, hM⟩ : ∃ M, wr.alloc (.cells #[.string rj.kind, .int .i64 rj.min, .int .i64 rj.max, .bool rj.num, .int .i64 rj.text, .slice a rj.abs.length c] 37) = M := ⟨_, rfl⟩
        have XM := hid (show Ext wr M from hM ▸ Ext.alloc _ _)
        obtain ⟨z0, z1, z2, z3, z4, z5⟩ := six_of (show RowAt M wr.heap.size rj a c from hM ▸ blk0 _ _)
        go_wp2_with fail
        clear hM
        refine (HADD.out _ (HKM.out.later XM.out) (HTB.out.later XM.out) (Nat.le_trans HX.out.size XM.out.size)).mono ?_
        rintro e w2 ⟨rfl, lv2, hk2, hb2⟩
        have HK2 := hid hk2
        have HB2 := hid hb2
        clear hk2 hb2 z0 z1 z2 z3 z4 z5
        go_wp2_with fail
        go_roundw
        case rel =>
          refine ⟨j + 1, by omega, by go_num, ⟨lv2, HK2.out, Below.trans (HX.out.trans XM.out) HB2.out⟩, fun r hr => ?_⟩
          rw [← HTK.out] at hr
          rcases List.mem_append.1 hr with h | h
          · exact HGJ.out r h
          · rw [List.mem_singleton.1 h]; exact HGR.out
        case measure => simp [intOf]; omega
      · have hm2 : (mayR rj == 0) = false := by simpa using hm
        have HADD := hid (fun w2 h => add_fail rj (w1.heap.size + 1) a c w2 HKR.out.size har h hm2)
        have HNW := hid (fun w => fnew_j (mayR rj) hm2 w)
        unfold Rw.val at HADD
        generalize mayR rj = V at *
        have hm3 : (V != 0) = true := by unfold bne; rw [hm2]; rfl
        obtain ⟨M, hM⟩ : ∃ M, wr.alloc (.cells #[.string rj.kind, .int .i64 rj.min, .int .i64 rj.max, .bool rj.num, .int .i64 rj.text, .slice a rj.abs.length c] 37) = M := ⟨_, rfl⟩
        have XM := hid (show Ext wr M from hM ▸ Ext.alloc _ _)
        obtain ⟨z0, z1, z2, z3, z4, z5⟩ := six_of (show RowAt M wr.heap.size rj a c from hM ▸ blk0 _ _)
        go_wp2_with fail
        clear hM
        refine (HADD.out _ (HTB.out.later XM.out)).mono ?_
        rintro e w2 ⟨rfl, hx2⟩
        have X2 := hid hx2
        clear hx2 z0 z1 z2 z3 z4 z5
        go_wp2_with fail
        refine (HNW.out _).mono ?_
        rintro e w3 ⟨rfl, rfl⟩
        go_wp2_with fail
        go_ret2
        exact .inl ⟨V, _, rfl, cell_of (blk0 _ _) rfl, HX.out.trans (XM.out.trans (X2.out.trans (Ext.alloc _ _)))⟩
    · have hje : j = n := by omega
      have hlt2 : decide ((j : Int) < n) = false := decide_eq_false (by omega)
      have hlt3 : ¬ (j : Int) < n := by omega
      have htk : rws.take j = rws := List.take_of_length_le (by have := HNE.out; omega)
      have HF := hid (show KitM wr w.heap.size (w1.heap.size + 1) w1.heap.size nm (.func (.func fm) #[] fc) lv' rws by
        have := HKM.out
        rwa [htk] at this)
      have HGF := hid (show ∀ r ∈ rws, GoodR pre r by
        have := HGJ.out
        rwa [htk] at this)
      clear hje htk
      go_wp2_with fail
      go_ret2
      exact .inr ⟨HGF.out, _, _, lv', rfl, HF.out, HX.out⟩
end Go.Proofs.YtaodkfchmaendaaGreatDoor.Nd
/-
  (*Kit).add of any row: what it tells; by contracts.
-/
namespace Go.Proofs.YtaodkfchmaendaaGreatDoor.Nd
open Go.RowKit
theorem kindOk_split {l : List UInt8} (h : kindOkB l = true) : ∃ pre post, l = pre ++ 46 :: post ∧ (46 : UInt8) ∉ pre ∧ speltB wordI 16 pre = true ∧ speltB wordI 16 post = true := by
  rcases parts_of l 46 with hn | ⟨pre, post, rfl, hp⟩
  · rw [kindOk_none hn] at h; cases h
  · rw [kindOk_found hp, Bool.and_eq_true] at h
    exact ⟨pre, post, rfl, hp, h.1, h.2⟩
theorem word_len {l : List UInt8} (h : speltB wordI 16 l = true) : l.length ≤ 16 := by
  rcases Nat.lt_or_ge 16 l.length with h1 | h1
  · rw [speltB_long h1] at h; cases h
  · exact h1
theorem mayR_good (r : Rw) (hm : mayR r = 0) : ∃ pre, GoodR pre r := by
  have hk : kindOkB r.kind.data.toList = true := by
    unfold mayR at hm
    split at hm
    · cases hm
    · rename_i h; simpa using h
  obtain ⟨pre, post, hs, hp, h1, h2⟩ := kindOk_split hk
  refine ⟨pre, KindR.good ⟨⟨post, hs, h2⟩, hp, h1, ?_⟩ hm⟩
  have h3 := word_len h1
  have h4 := word_len h2
  have h5 : r.kind.data.toList.length = r.kind.size := by rw [Array.length_toList]; rfl
  rw [hs] at h5
  simp at h5
  omega
/-- The kit in a kind's name. -/
def preK (s : ByteArray) : ByteArray := ⟨(s.data.toList.takeWhile (· != 46)).toArray⟩
theorem GoodR.preK {pre : List UInt8} {r : Rw} (h : GoodR pre r) : preK r.kind = ⟨pre.toArray⟩ := by
  obtain ⟨post, hs, _⟩ := h.name
  unfold Nd.preK
  rw [hs, List.takeWhile_append_of_pos (fun a ha => by
    have : a ≠ 46 := fun e => h.nod (by rw [← e]; exact ha)
    simpa using this)]
  simp
/-- What add tells. -/
noncomputable def addC (nm : ByteArray) (acc : List Rw) (r : Rw) : Int := if mayR r = 0 then (if preK r.kind = nm then (if kIx acc r.kind = none then 0 else 4) else 10) else mayR r
set_option maxRecDepth 100000 in
set_option maxHeartbeats 2000000 in
theorem add_kit {pre : List UInt8} {r : Rw} (hg : GoodR pre r) (hm0 : mayR r = 0) (base kb mb : Nat) (nm : ByteArray) (mk lv : Value) (acc : List Rw) (a : Option Addr) (c : Nat) (w : World) (hk : KitM w base kb mb nm mk lv acc) (ht : TRow w a r.abs) (hne : (⟨pre.toArray⟩ : ByteArray) ≠ nm) : Calls Tryz.prog 50 #[.pointer (some ⟨kb, 0, none⟩), r.val a c] w fun e w' => e = .returned (.int .i64 10) ∧ Ext w w' := by
  have HMAY := hid (fun w1 (hx : Ext w w1) => rmay_row r a c w1 (by have := hg.size; omega) (by have := hg.len; omega) (ht.later hx))
  rw [hm0] at HMAY
  have HKI := hid (fun w1 => hg.kind_ok w1)
  have HK := hid hk
  have HRV := hid (show r.val a c = .agg #[.string r.kind, .int .i64 r.min, .int .i64 r.max, .bool r.num, .int .i64 r.text, .slice a r.abs.length c] from rfl)
  rw [HRV.out] at HMAY ⊢
  obtain ⟨SP, hSP⟩ : ∃ S : ByteArray, (⟨pre.toArray⟩ : ByteArray) = S := ⟨_, rfl⟩
  rw [hSP] at HKI hne
  have hks : r.kind.size ≤ 4000 := hg.size
  clear hSP ht hg hk
  obtain ⟨M, hM⟩ : ∃ M, w.alloc (.cells #[.string r.kind, .int .i64 r.min, .int .i64 r.max, .bool r.num, .int .i64 r.text, .slice a r.abs.length c] 37) = M := ⟨_, rfl⟩
  have XM := hid (show Ext w M from hM ▸ Ext.alloc _ _)
  have HR0 := hid (show RowAt M w.heap.size r a c from hM ▸ blk0 _ _)
  obtain ⟨z0, z1, z2, z3, z4, z5⟩ := six_of HR0.out
  go_enter Tryz.func50, Tryz.ntmps50
  go_wp2_with fail
  clear hM
  refine (HMAY.out _ XM.out).mono ?_
  rintro e w1 ⟨rfl, hx1⟩
  have X1 := hid (XM.out.trans hx1)
  have HR1 := hid (show RowAt w1 w.heap.size r a c from hx1.block HR0.out)
  obtain ⟨y0, y1, y2, y3, y4, y5⟩ := six_of HR1.out
  clear hx1 z0 z1 z2 z3 z4 z5
  go_wp2_with fail
  obtain ⟨P, hP⟩ := HKI.out w1
  refine hP.mono ?_
  clear hP y0 y1 y2 y3 y4 y5
  rintro e w2 ⟨rfl, hx2⟩
  have X2 := hid (X1.out.trans hx2)
  have HR2 := hid (show RowAt w2 w.heap.size r a c from hx2.block HR1.out)
  obtain ⟨y0, y1, y2, y3, y4, y5⟩ := six_of HR2.out
  have HK2 := hid (HK.out.later X2.out)
  obtain ⟨k0, k1, k2, k3⟩ := HK2.out.four
  have hs0 := str_eqb SP nm
  rw [decide_eq_false hne] at hs0
  have hs2 : (SP.toList != nm.toList) = true := by unfold bne; rw [hs0]; rfl
  clear hx2
  go_wp2_with fail
  go_ret
  exact ⟨rfl, X2.out⟩
set_option maxRecDepth 100000 in
set_option maxHeartbeats 2000000 in
theorem add_twice {pre : List UInt8} {r : Rw} (hg : GoodR pre r) (hm0 : mayR r = 0) (base kb mb : Nat) (nm : ByteArray) (mk lv : Value) (acc : List Rw) (a : Option Addr) (c : Nat) (w : World) (hk : KitM w base kb mb nm mk lv acc) (ht : TRow w a r.abs) (hne : (⟨pre.toArray⟩ : ByteArray) = nm) (ix : Nat) (hix : kIx acc r.kind = some ix) : Calls Tryz.prog 50 #[.pointer (some ⟨kb, 0, none⟩), r.val a c] w fun e w' => e = .returned (.int .i64 4) ∧ Ext w w' := by
  have HMAY := hid (fun w1 (hx : Ext w w1) => rmay_row r a c w1 (by have := hg.size; omega) (by have := hg.len; omega) (ht.later hx))
  rw [hm0] at HMAY
  have HKI := hid (fun w1 => hg.kind_ok w1)
  have HK := hid hk
  have HRV := hid (show r.val a c = .agg #[.string r.kind, .int .i64 r.min, .int .i64 r.max, .bool r.num, .int .i64 r.text, .slice a r.abs.length c] from rfl)
  rw [HRV.out] at HMAY ⊢
  obtain ⟨SP, hSP⟩ : ∃ S : ByteArray, (⟨pre.toArray⟩ : ByteArray) = S := ⟨_, rfl⟩
  rw [hSP] at HKI hne
  have hks : r.kind.size ≤ 4000 := hg.size
  clear hSP ht hg hk
  obtain ⟨M, hM⟩ : ∃ M, w.alloc (.cells #[.string r.kind, .int .i64 r.min, .int .i64 r.max, .bool r.num, .int .i64 r.text, .slice a r.abs.length c] 37) = M := ⟨_, rfl⟩
  have XM := hid (show Ext w M from hM ▸ Ext.alloc _ _)
  have HR0 := hid (show RowAt M w.heap.size r a c from hM ▸ blk0 _ _)
  obtain ⟨z0, z1, z2, z3, z4, z5⟩ := six_of HR0.out
  go_enter Tryz.func50, Tryz.ntmps50
  go_wp2_with fail
  clear hM
  refine (HMAY.out _ XM.out).mono ?_
  rintro e w1 ⟨rfl, hx1⟩
  have X1 := hid (XM.out.trans hx1)
  have HR1 := hid (show RowAt w1 w.heap.size r a c from hx1.block HR0.out)
  obtain ⟨y0, y1, y2, y3, y4, y5⟩ := six_of HR1.out
  clear hx1 z0 z1 z2 z3 z4 z5
  go_wp2_with fail
  obtain ⟨P, hP⟩ := HKI.out w1
  refine hP.mono ?_
  clear hP y0 y1 y2 y3 y4 y5
  rintro e w2 ⟨rfl, hx2⟩
  have X2 := hid (X1.out.trans hx2)
  have HR2 := hid (show RowAt w2 w.heap.size r a c from hx2.block HR1.out)
  obtain ⟨y0, y1, y2, y3, y4, y5⟩ := six_of HR2.out
  have HK2 := hid (HK.out.later X2.out)
  obtain ⟨k0, k1, k2, k3⟩ := HK2.out.four
  subst hne
  have hs0 := str_eqb SP SP
  rw [decide_eq_true rfl] at hs0
  have hs2 : (SP.toList != SP.toList) = false := by unfold bne; rw [hs0]; rfl
  have hl := (HK2.out.map.later (Ext.refl w2).drew).look r.kind (by omega)
  rw [hix] at hl
  have hl' : (Instr.lookup 83 (.map (some mb)) (.string r.kind) true).run Tryz.prog w2.drew = .ok (.tuple #[.int .i64 (ix : Int), .bool true]) w2.drew := hl
  clear hl hx2
  go_upto_region 7 with fail
  go_region
  clear hl'
  go_wp2_with fail
  go_ret
  exact ⟨rfl, X2.out.drew⟩

end Go.Proofs.YtaodkfchmaendaaGreatDoor.Nd
