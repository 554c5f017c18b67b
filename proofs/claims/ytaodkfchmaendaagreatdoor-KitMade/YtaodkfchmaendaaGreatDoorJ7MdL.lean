/-
  KitMade: what its steps want.
-/
import Derived.Test.YtaodkfchmaendaaGreatDoorKFresh
import Derived.Test.YtaodkfchmaendaaGreatDoorJRowsL
import Derived.Test.YtaodkfchmaendaaGreatDoorJOwn
import Derived.Test.YtaodkfchmaendaaGreatDoorJ7Beg
import Derived.Deep.Cut
import Derived.Deep.CutRange
import Derived.Deep.CutBlock
namespace Go.Proofs.YtaodkfchmaendaaGreatDoor.Nd
open Go.RowKit
theorem RItems.lie {w : World} {base : Nat} {ao : Option Addr} {c : Nat} {acc : List Rw} (h : RItems w base (.slice ao acc.length c) acc) : RowsLie w ao acc := by
  intro j hj
  obtain ⟨g, cap, a, c', hlv, ⟨p0, p1, p2, p3, p4, p5⟩, ht⟩ := h.read j hj
  obtain ⟨rfl, _, _⟩ := Value.slice.inj hlv
  exact ⟨g, 0, a, c', rfl, ⟨by rw [Nat.zero_add]; exact p0, by rw [Nat.zero_add]; exact p1, by rw [Nat.zero_add]; exact p2, by rw [Nat.zero_add]; exact p3, by rw [Nat.zero_add]; exact p4, by rw [Nat.zero_add]; exact p5⟩, ht.row⟩
theorem RItemsF.rit {w : World} {base : Nat} {lv : Value} {acc : List Rw} (h : RItemsF w base lv acc) : RItems w base lv acc := by
  obtain ⟨us, ho, hi⟩ := h
  refine ⟨us, ho, fun j hj => ?_⟩
  obtain ⟨a, c, h1, h2⟩ := hi j hj
  exact ⟨a, c, h1, h2.tb⟩
theorem sitems_of_lie {w : World} {ao : Option Addr} {c : Nat} {rws : List Rw} (h : RowsLie w ao rws) (hao : (ao = none ∧ rws = [] ∧ c = 0) ∨ ∃ g off, ao = some ⟨g, off, none⟩) : SItems w w (.slice ao rws.length c) rws := by
  rcases hao with ⟨rfl, rfl, rfl⟩ | ⟨g, off, rfl⟩
  · exact ⟨[], rfl, fun j hj => absurd hj (Nat.not_lt_zero _), .inl ⟨rfl, rfl⟩⟩
  · have hall : ∀ i, i < rws.length * 6 → ∃ u, w.cell? ⟨g, off + i, none⟩ = some u := by
      intro i hi
      obtain ⟨g', off', a, c', he, ⟨p0, p1, p2, p3, p4, p5⟩, _⟩ := h (i / 6) (by omega)
      injection he with he
      injection he with e1 e2 _
      subst e1; subst e2
      rcases (show i = i / 6 * 6 ∨ i = i / 6 * 6 + 1 ∨ i = i / 6 * 6 + 2 ∨ i = i / 6 * 6 + 3 ∨ i = i / 6 * 6 + 4 ∨ i = i / 6 * 6 + 5 by omega) with e | e | e | e | e | e
      · exact ⟨_, (congrArg (fun z => w.cell? ⟨g, off + z, none⟩) e).trans p0⟩
      · exact ⟨_, (congrArg (fun z => w.cell? ⟨g, off + z, none⟩) e).trans ((congrArg (fun z => w.cell? ⟨g, z, none⟩) (Nat.add_assoc _ _ _)).symm.trans p1)⟩
      · exact ⟨_, (congrArg (fun z => w.cell? ⟨g, off + z, none⟩) e).trans ((congrArg (fun z => w.cell? ⟨g, z, none⟩) (Nat.add_assoc _ _ _)).symm.trans p2)⟩
      · exact ⟨_, (congrArg (fun z => w.cell? ⟨g, off + z, none⟩) e).trans ((congrArg (fun z => w.cell? ⟨g, z, none⟩) (Nat.add_assoc _ _ _)).symm.trans p3)⟩
      · exact ⟨_, (congrArg (fun z => w.cell? ⟨g, off + z, none⟩) e).trans ((congrArg (fun z => w.cell? ⟨g, z, none⟩) (Nat.add_assoc _ _ _)).symm.trans p4)⟩
      · exact ⟨_, (congrArg (fun z => w.cell? ⟨g, off + z, none⟩) e).trans ((congrArg (fun z => w.cell? ⟨g, z, none⟩) (Nat.add_assoc _ _ _)).symm.trans p5)⟩
    have hus : ∀ i u, w.cell? ⟨g, off + i, none⟩ = some u → i < rws.length * 6 → ((List.range (rws.length * 6)).map fun i => (w.cell? ⟨g, off + i, none⟩).getD .nilIface)[i]? = some u := by
      intro i u hu hi
      rw [List.getElem?_map, List.getElem?_range hi]
      simp [hu]
    refine ⟨(List.range (rws.length * 6)).map fun i => (w.cell? ⟨g, off + i, none⟩).getD .nilIface, by simp, fun j hj => ?_, .inr ⟨g, off, c, rfl, fun i u hu => ?_⟩⟩
    · obtain ⟨g', off', a, c', he, ⟨p0, p1, p2, p3, p4, p5⟩, ht⟩ := h j hj
      injection he with he
      injection he with e1 e2 _
      subst e1; subst e2
      rw [Nat.add_assoc] at p1 p2 p3 p4 p5
      exact ⟨a, c', ⟨hus _ _ p0 (by omega), hus _ _ p1 (by omega), hus _ _ p2 (by omega), hus _ _ p3 (by omega), hus _ _ p4 (by omega), hus _ _ p5 (by omega)⟩, ht⟩
    · rw [List.getElem?_map] at hu
      obtain ⟨i', hi', rfl⟩ := Option.map_eq_some_iff.1 hu
      obtain ⟨hl, e⟩ := List.getElem?_eq_some_iff.1 hi'
      rw [List.length_range] at hl
      rw [List.getElem_range] at e
      subst e
      obtain ⟨u, hu'⟩ := hall i hl
      rw [hu']
      rfl
set_option maxRecDepth 100000 in
theorem new_nil (nm : ByteArray) (ao : Option Addr) (n c : Nat) (w : World) : Calls Tryz.prog 19 #[.string nm, .slice ao n c, .nilFunc] w (MakeNo w 1) := by
  have hqf : ∀ w : World, (binOp .eql 84 .nilFunc .nilFunc).run Tryz.prog w = .ok (.bool true) w := fun _ => by kernel_rfl
  have HN := hid (fun w => fnew_j 1 (by decide) w)
  go_enter Tryz.func19, Tryz.ntmps19
  go_wp2_with fail
  refine (HN.out _).mono ?_
  rintro e w1 ⟨rfl, rfl⟩
  go_wp2_with fail
  go_ret2
  exact ⟨_, rfl, cell_of (blk0 _ _) rfl, Ext.alloc _ _⟩
set_option maxRecDepth 100000 in
theorem new_empty (nm : ByteArray) (fm : Nat) (fc : Array Value) (ao : Option Addr) (c : Nat) (w : World) : Calls Tryz.prog 19 #[.string nm, .slice ao 0 c, .func (.func fm) #[] fc] w (MakeNo w 1) := by
  have hqf : ∀ w : World, (binOp .eql 84 (.func (.func fm) #[] fc) .nilFunc).run Tryz.prog w = .ok (.bool false) w := fun _ => by kernel_rfl
  have HN := hid (fun w => fnew_j 1 (by decide) w)
  go_enter Tryz.func19, Tryz.ntmps19
  go_wp2_with fail
  refine (HN.out _).mono ?_
  rintro e w1 ⟨rfl, rfl⟩
  go_wp2_with fail
  go_ret2
  exact ⟨_, rfl, cell_of (blk0 _ _) rfl, Ext.alloc _ _⟩
set_option maxRecDepth 100000 in
theorem new_word (nm : ByteArray) (fm : Nat) (fc : Array Value) (ao : Option Addr) (n c : Nat) (w : World) (hn : 0 < n) (hw : speltB wordI 16 nm.data.toList = false) : Calls Tryz.prog 19 #[.string nm, .slice ao n c, .func (.func fm) #[] fc] w (MakeNo w 10) := by
  have hqf : ∀ w : World, (binOp .eql 84 (.func (.func fm) #[] fc) .nilFunc).run Tryz.prog w = .ok (.bool false) w := fun _ => by kernel_rfl
  have h0q : ((n : Int) == 0) = false := by rw [beq_eq_false_iff_ne]; omega
  have HW := hid (fun w => word_any nm w)
  rw [hw] at HW
  have HN := hid (fun w => fnew_j 10 (by decide) w)
  go_enter Tryz.func19, Tryz.ntmps19
  go_wp2_with fail
  refine (HW.out _).mono ?_
  rintro e w1 ⟨rfl, hx1⟩
  have X1 := hid hx1
  clear hx1
  go_wp2_with fail
  refine (HN.out _).mono ?_
  rintro e w2 ⟨rfl, rfl⟩
  go_wp2_with fail
  go_ret2
  exact ⟨_, rfl, cell_of (blk0 _ _) rfl, X1.out.trans (Ext.alloc _ _)⟩
theorem new_tot (nm : ByteArray) (fm : Nat) (fc : Array Value) (ao : Option Addr) (lc : Nat) (rws : List Rw) (w : World) (hr : RowsLie w ao rws) (hlim : rws.length ≤ 1954687338220) (hg : ∀ r ∈ rws, r.kind.size ≤ 140737488351232 ∧ r.abs.length ≤ 140737488351232) :
    Calls Tryz.prog 19 #[.string nm, .slice ao rws.length lc, .func (.func fm) #[] fc] w fun e w' => ((newC nm rws == 0) = false ∧ MakeNo w (newC nm rws) e w') ∨ (newC nm rws = 0 ∧ NewR w nm (.func (.func fm) #[] fc) rws e w') := by
  unfold newC
  rcases Nat.eq_zero_or_pos rws.length with h0 | h0
  · rw [if_pos h0, h0]
    exact (new_empty nm fm fc ao lc w).mono fun e w' h => .inl ⟨by decide, h⟩
  · rw [if_neg (by omega)]
    rcases hw : speltB wordI 16 nm.data.toList with _ | _
    · rw [if_neg (by decide)]
      exact (new_word nm fm fc ao rws.length lc w h0 hw).mono fun e w' h => .inl ⟨by decide, h⟩
    · rw [if_pos rfl]
      exact new_all nm fm fc ao lc rws w hr h0 hlim hg hw
theorem KitM.keepRt {w w' : World} {base kb mb g : Nat} {nm : ByteArray} {mk lv : Value} {acc : List Rw} {cur : Array Value} (h : KitM w base kb mb nm mk lv acc) (hk : Kp (· ≠ g) w w') (hg : w.heap[g]? = some (.cells cur 37)) (hgb : g < base) : KitM w' base kb mb nm mk lv acc := by
  have h1 := h.kge
  have h2 := h.mge
  exact ⟨hk.block' h.blk (by omega), h.kge, h.mge, h.map.keep hk (by omega), h.rows.keep hk (fun q hq => by have := (h.rows.block hq).1; omega) (fun q cs hq e => by rw [e, hg] at hq; cases hq)⟩
theorem newL_all {nm : ByteArray} : ∀ {rws acc : List Rw}, newL nm acc rws = 0 → ∀ j, (hj : j < rws.length) → addC nm (acc ++ rws.take j) rws[j] = 0
  | [], _, _, j, hj => absurd hj (Nat.not_lt_zero _)
  | r :: t, acc, h, j, hj => by
    have h' : (if addC nm acc r = 0 then newL nm (acc ++ [r]) t else addC nm acc r) = 0 := h
    by_cases h0 : addC nm acc r = 0
    · rw [if_pos h0] at h'
      match j, hj with
      | 0, _ => simpa using h0
      | j + 1, hj =>
        have := newL_all h' j (by simpa using hj)
        simpa using this
    · rw [if_neg h0] at h'
      exact absurd h' h0
theorem addC_zero {nm : ByteArray} {acc : List Rw} {r : Rw} (h : addC nm acc r = 0) : mayR r = 0 ∧ kIx acc r.kind = none := by
  unfold addC at h
  split at h
  · rename_i hm
    split at h
    · split at h
      · rename_i hk; exact ⟨hm, hk⟩
      · cases h
    · cases h
  · rename_i hm; exact absurd h hm
theorem newC_zero {nm : ByteArray} {rws : List Rw} (h : newC nm rws = 0) : 0 < rws.length ∧ (∀ r ∈ rws, mayR r = 0) ∧ ∀ j, (hj : j < rws.length) → kIx (rws.take j) rws[j].kind = none := by
  unfold newC at h
  split at h
  · cases h
  rename_i h0
  split at h
  · have ha := newL_all h
    refine ⟨by omega, fun r hr => ?_, fun j hj => ?_⟩
    · obtain ⟨j, hj, rfl⟩ := List.getElem_of_mem hr
      exact (addC_zero (ha j hj)).1
    · have := (addC_zero (ha j hj)).2
      simpa using this
  · cases h
end Go.Proofs.YtaodkfchmaendaaGreatDoor.Nd
/-
  KitMade tells true.
-/
namespace Go.Proofs.YtaodkfchmaendaaGreatDoor.Nd
open Go.RowKit
/-- The rows that are spoilt: a block of rows, each with its texts in a block from B on. -/
def Spoil (B : Nat) (w : World) (g n : Nat) (len : Nat → Nat) : Prop := ∃ cur, w.heap[g]? = some (.cells cur 37) ∧ n * 6 ≤ cur.size ∧ ∀ i, i < n → ∃ a c, cur[i * 6 + 5]? = some (.slice a (len i) c) ∧ (len i = 0 ∨ ∃ gi ci, a = some ⟨gi, 0, none⟩ ∧ B ≤ gi ∧ w.heap[gi]? = some (.cells ci 9) ∧ len i ≤ ci.size)
theorem Spoil.later {B : Nat} {w w' : World} {g n : Nat} {len : Nat → Nat} (h : Spoil B w g n len) (hx : Ext w w') : Spoil B w' g n len := by
  obtain ⟨cur, hb, hs, hi⟩ := h
  refine ⟨cur, hx.block hb, hs, fun q hq => ?_⟩
  obtain ⟨a, c, h1, h2⟩ := hi q hq
  exact ⟨a, c, h1, h2.imp id fun ⟨gi, ci, e1, e2, e3, e4⟩ => ⟨gi, ci, e1, e2, hx.block e3, e4⟩⟩
theorem Spoil.kind {B : Nat} {w : World} {g n : Nat} {len : Nat → Nat} (h : Spoil B w g n len) (i : Nat) (v : Value) : Spoil B (w.setCell ⟨g, i * 6, none⟩ v) g n len := by
  obtain ⟨cur, hb, hs, hi⟩ := h
  refine ⟨_, set_at hb (i * 6) v, by simpa using hs, fun q hq => ?_⟩
  obtain ⟨a, c, h1, h2⟩ := hi q hq
  refine ⟨a, c, ?_, h2.imp id fun ⟨gi, ci, e1, e2, e3, e4⟩ => ⟨gi, ci, e1, e2, ?_, e4⟩⟩
  · rw [Array.getElem?_setIfInBounds_ne (by omega)]
    exact h1
  · have hne : gi ≠ g := fun e => by rw [e, hb] at e3; cases e3
    exact (Kp.set w g (i * 6) v (K := (· ≠ g)) (fun h => h rfl)).block' e3 hne
theorem Spoil.text {B : Nat} {w : World} {g n gi k : Nat} {len : Nat → Nat} {ci : Array Value} (h : Spoil B w g n len) (hg : w.heap[gi]? = some (.cells ci 9)) (v : Value) : Spoil B (w.setCell ⟨gi, k, none⟩ v) g n len := by
  obtain ⟨cur, hb, hs, hi⟩ := h
  have hne : g ≠ gi := fun e => by rw [e, hg] at hb; cases hb
  have hk := Kp.set w gi k v (K := (· ≠ gi)) (fun h => h rfl)
  refine ⟨cur, hk.block' hb hne, hs, fun q hq => ?_⟩
  obtain ⟨a, c, h1, h2⟩ := hi q hq
  refine ⟨a, c, h1, h2.imp id fun ⟨gj, cj, e1, e2, e3, e4⟩ => ?_⟩
  by_cases e : gj = gi
  · subst e
    rw [hg] at e3
    injection e3 with e3
    injection e3 with e3 _ _
    subst e3
    exact ⟨gj, _, e1, e2, set_at hg k v, by simpa using e4⟩
  · exact ⟨gj, cj, e1, e2, hk.block' e3 e, e4⟩
theorem spoil_of {B : Nat} {w : World} {ao : Option Addr} {c : Nat} {acc : List Rw} (h : RItemsF w B (.slice ao acc.length c) acc) (h0 : 0 < acc.length) : ∃ g, ao = some ⟨g, 0, none⟩ ∧ B ≤ g ∧ Spoil B w g acc.length (fun i => (acc[i]?.map fun r => r.abs.length).getD 0) := by
  obtain ⟨us, ho, hi⟩ := h
  rcases ho.2 with ⟨_, h1⟩ | ⟨g, cap, cur, hv, hbg, hbk, h3, h4, h5, h6⟩
  · omega
  obtain ⟨rfl, _, _⟩ := Value.slice.inj hv
  refine ⟨g, rfl, hbg, cur, hbk, by rw [h5]; exact Nat.mul_le_mul_right 6 h3, fun i hi' => ?_⟩
  obtain ⟨a, c', ⟨_, _, _, _, _, q5⟩, ht⟩ := hi i hi'
  have hl : (acc[i]?.map fun r => r.abs.length).getD 0 = acc[i].abs.length := by simp [hi']
  have q : cur[i * 6 + 5]? = some (.slice a acc[i].abs.length c') := by
    rw [← h6, List.getElem?_take_of_lt (by omega)] at q5
    simpa using q5
  show ∃ a c, cur[i * 6 + 5]? = some (.slice a ((acc[i]?.map fun r => r.abs.length).getD 0) c) ∧ _
  rw [hl]
  refine ⟨a, c', q, ?_⟩
  rcases ht with h | ⟨gi, ci, e1, e2, e3, e4⟩
  · left
    show (acc[i]?.map fun r => r.abs.length).getD 0 = 0
    rw [hl, h]; rfl
  · right
    refine ⟨gi, ci, e1, e2, e3, ?_⟩
    show (acc[i]?.map fun r => r.abs.length).getD 0 ≤ ci.size
    rw [hl]
    rcases Nat.eq_zero_or_pos acc[i].abs.length with h0 | h0
    · omega
    · have := e4 (acc[i].abs.length - 1) (by omega)
      have := (Array.getElem?_eq_some_iff.1 this).1
      omega
end Go.Proofs.YtaodkfchmaendaaGreatDoor.Nd
/-
  KitMade tells true: the walk.
-/
namespace Go.Proofs.YtaodkfchmaendaaGreatDoor.Nd
open Go.RowKit
theorem spoil_ex {B : Nat} {w : World} {ao : Option Addr} {c : Nat} {acc : List Rw} (h : RItemsF w B (.slice ao acc.length c) acc) (h0 : 0 < acc.length) (hle : ∀ r ∈ acc, r.abs.length ≤ 100) : ∃ g len, ao = some ⟨g, 0, none⟩ ∧ B ≤ g ∧ Spoil B w g acc.length len ∧ ∀ i, len i ≤ 100 := by
  obtain ⟨g, h1, h2, h3⟩ := spoil_of h h0
  refine ⟨g, _, h1, h2, h3, fun i => ?_⟩
  show (acc[i]?.map fun r => r.abs.length).getD 0 ≤ 100
  rcases Nat.lt_or_ge i acc.length with hi | hi
  · rw [List.getElem?_eq_getElem hi]
    exact hle _ (List.getElem_mem hi)
  · rw [List.getElem?_eq_none hi]
    exact Nat.zero_le _
theorem kIx_kind {acc : List Rw} {k : ByteArray} {ix : Nat} (h : kIx acc k = some ix) (hi : ix < acc.length) : acc[ix].kind = k := by
  unfold kIx at h
  rw [List.findIdx?_eq_some_iff_getElem] at h
  obtain ⟨_, h1, _⟩ := h
  simpa using h1
set_option maxRecDepth 100000 in
set_option maxHeartbeats 16000000 in
theorem kitMade_true (nm kd : ByteArray) (a : Option Addr) (c : Nat) (rws : List Rw) (w : World) (hkd : kd.size ≤ 140737488351232) (hr : RowsLie w a rws) (hao : (a = none ∧ rws = [] ∧ c = 0) ∨ ∃ g off, a = some ⟨g, off, none⟩) (hlim : rws.length ≤ 1954687338220) (hg : ∀ r ∈ rws, r.kind.size ≤ 140737488351232 ∧ r.abs.length ≤ 140737488351232) (hl : Laid w) :
    Calls Tryz.prog 5 #[.string nm, .slice a rws.length c, .string kd] w fun e w' => e = .returned (.bool true) ∧ Ext w w' := by
  have HS := hid (sitems_of_lie (c := c) hr hao)
  have HR := hid hr
  have HG := hid hg
  have HB := hid (begun7_any w hl)
  have hab := hid (show ∀ r ∈ rws, r.abs.length ≤ 140737488351232 from fun r h => (hg r h).2)
  have hlim' : (rws.length : Int) ≤ 1954687338220 := by omega
  clear hr hao hg hl
  go_enter Tryz.func5, Tryz.ntmps5
  go_wp2_with fail
  refine HB.out.mono ?_
  rintro e V0 ⟨rfl, hx0⟩
  have X0 := hid hx0
  have HS0 := hid (HS.out.later hx0)
  clear hx0 HS HB
  go_wp2_with (at_builtin; refine app_rows (Y := V0) (X := w) _ rfl _ _ rfl rfl (.slice none 0 0) _ [] rws rfl rfl (OItems.nil _ _ _) HS0.out (Ext.refl _) (by simp; omega) ?_; intro v1 w1 hO1 _ hX1; obtain ⟨b1, d1, hv1⟩ := (show OItems V0 w w1 v1 rws from hO1).shape; have HOW := hid (show OItems V0 w w1 v1 rws from hO1); have X1 := hid hX1; subst hv1; clear hO1 hX1)
  have HLO := hid (HOW.out.src.lie (X0.out.trans X1.out))
  refine (new_tot nm 20 #[] b1 d1 rws _ HLO.out hlim HG.out).mono ?_
  rintro e w2 (⟨hc, b, rfl, hb, hx2⟩ | ⟨hc, kb, mb, lv, rfl, hkm, hx2⟩)
  · have X2 := hid hx2
    have HBB := hid (show ∀ W', Ext w2 W' → W'.cell? ⟨b, 0, none⟩ = some (.int .i64 (newC nm rws)) from fun W' X => (X.kp (fun _ => True)).cell hb trivial)
    have XW := hid (X0.out.trans (X1.out.trans hx2))
    have HRN := hid (fun w' h => rnew_any nm a c rws w' (HR.out.later h) hlim HG.out)
    generalize newC nm rws = V at *
    clear hb hx2
    have hc2 : (V != 0) = true := by unfold bne; rw [hc]; rfl
    go_wp2_with fail
    refine (HRN.out _ XW.out).mono ?_
    rintro e w3 ⟨rfl, hx3⟩
    have X3 := hid hx3
    clear hx3
    go_wp2_with fail
    refine (new_nil nm b1 rws.length d1 _).mono ?_
    rintro e w4 ⟨p, rfl, hp, hx4⟩
    have X4 := hid (X3.out.trans hx4)
    have HPP := hid (show ∀ W', Ext w4 W' → W'.cell? ⟨p, 0, none⟩ = some (.int .i64 1) from fun W' X => (X.kp (fun _ => True)).cell hp trivial)
    clear hp hx4
    go_wp2_with fail
    refine (is_coded b V _ hc (HBB.out _ X4.out)).mono ?_
    rintro e w5 ⟨rfl, hx5⟩
    have X5 := hid hx5
    clear hx5
    go_wp2_with fail
    refine (is_coded p 1 _ (by decide) (HPP.out _ X5.out)).mono ?_
    rintro e w6 ⟨rfl, hx6⟩
    have X6 := hid (X4.out.trans (X5.out.trans hx6))
    clear hx6
    go_wp2_with fail
    refine (rows7L b1 a d1 c _ hlim hab.out (HLO.out.later (X2.out.trans X6.out)) (HR.out.later (XW.out.trans X6.out))).mono ?_
    rintro e w7 ⟨rfl, hx7⟩
    have X7 := hid (X6.out.trans hx7)
    clear hx7
    go_wp2_with fail
    go_ret
    exact ⟨rfl, XW.out.trans X7.out⟩
  · have X2 := hid hx2
    have HKM := hid hkm
    have XW := hid (X0.out.trans (X1.out.trans hx2))
    obtain ⟨z0, z1, z2⟩ := newC_zero hc
    have HZ1 := hid z1
    have HZ2 := hid z2
    have HGL := hid (show ∀ r ∈ rws, r.abs.length ≤ 100 from fun r h => by
      obtain ⟨pre, hgd⟩ := mayR_good r (z1 r h)
      exact hgd.len)
    have HGK := hid (show ∀ r ∈ rws, r.kind.size ≤ 4000 from fun r h => by
      obtain ⟨pre, hgd⟩ := mayR_good r (z1 r h)
      exact hgd.size)
    have HRN := hid (fun w' h => rnew_any nm a c rws w' (HR.out.later h) hlim HG.out)
    rw [hc] at HRN
    clear hkm hx2 z1 z2 hc
    go_wp2_with fail
    refine (HRN.out _ XW.out).mono ?_
    rintro e w3 ⟨rfl, hx3⟩
    have X3 := hid hx3
    clear hx3
    go_wp2_with fail
    refine (new_nil nm b1 rws.length d1 _).mono ?_
    rintro e w4 ⟨p, rfl, hp, hx4⟩
    have X4 := hid (X3.out.trans hx4)
    have HPP := hid (show ∀ W', Ext w4 W' → W'.cell? ⟨p, 0, none⟩ = some (.int .i64 1) from fun W' X => (X.kp (fun _ => True)).cell hp trivial)
    clear hp hx4
    go_wp2_with fail
    refine (is_nil _).mono ?_
    rintro e w5 ⟨rfl, hx5⟩
    have X5 := hid hx5
    clear hx5
    go_wp2_with fail
    refine (is_coded p 1 _ (by decide) (HPP.out _ X5.out)).mono ?_
    rintro e w6 ⟨rfl, hx6⟩
    have X6 := hid (X4.out.trans (X5.out.trans hx6))
    clear hx6
    go_wp2_with fail
    refine (rows7L b1 a d1 c _ hlim hab.out (HLO.out.later (X2.out.trans X6.out)) (HR.out.later (XW.out.trans X6.out))).mono ?_
    rintro e w7 ⟨rfl, hx7⟩
    have X7 := hid (X6.out.trans hx7)
    clear hx7
    obtain ⟨us, ho, hi⟩ := HOW.out
    rcases ho.2 with ⟨_, h1⟩ | ⟨g0, cap, cur, hv, hbg, hbk, h3, h4, h5, h6⟩
    · omega
    obtain ⟨rfl, _, _⟩ := Value.slice.inj hv
    have HG0 := hid (show w7.heap[g0]? = some (.cells cur 37) from (X2.out.trans X7.out).block hbk)
    have hg0b := hid (show g0 < w1.heap.size from lt_of_block hbk)
    have hg0w := hid (show w.heap.size ≤ g0 from Nat.le_trans X0.out.size hbg)
    have hsz : rws.length * 6 ≤ cur.size := by rw [h5]; exact Nat.mul_le_mul_right 6 h3
    have HK7 := hid (HKM.out.later X7.out)
    have XW7 := hid (XW.out.trans X7.out)
    have hlz : (0 : Int) < rws.length := by omega
    clear ho hi hv hbg hbk h3 h4 h5 h6 HOW HLO HKM
    obtain ⟨n, hn⟩ : ∃ n, rws.length = n := ⟨_, rfl⟩
    have HN := hid hn
    have hn1 : (n : Int) ≤ 1954687338220 := by omega
    have hnz : 0 < n := by omega
    rw [hn] at hsz hlz ⊢
    clear hlim'
    go_wp2_with fail
    go_loopw [13] (fun q13 wr => ∃ j : Nat, j ≤ n ∧ q13 = .int .i64 j ∧ (∃ cur, wr.heap[g0]? = some (.cells cur 37) ∧ n * 6 ≤ cur.size) ∧ Kp (· ≠ g0) w7 wr) (fun q13 _ => n - (intOf q13).toNat)
    case atStart => exact ⟨0, Nat.zero_le _, rfl, ⟨_, HG0.out, hsz⟩, Kp.refl _ _⟩
    case round =>
      obtain ⟨j, hj, rfl, ⟨cu, hcu, hcs⟩, hkp⟩ := hrel
      have HCU := hid hcu
      have HKP := hid hkp
      clear hcu hkp
      by_cases hlt : j < n
      · have hlt' : (j : Int) < n := by omega
        obtain ⟨u, hu⟩ : ∃ u, cu[j * 6]? = some u := ⟨_, Array.getElem?_eq_getElem (show j * 6 < cu.size by omega)⟩
        have p0 := cell_of HCU.out hu
        have fz := frozen_of (i := j * 6) HCU.out
        have hgl := lt_of_cell p0
        clear hu
        go_wp2_with fail
        go_roundw
        case rel => exact ⟨j + 1, hlt, by go_num, ⟨_, set_at HCU.out (j * 6) _, by simpa using hcs⟩, HKP.out.trans (Kp.set _ g0 (j * 6) _ (fun h => h rfl))⟩
        case measure => simp [intOf]; omega
      · have hlt3 : ¬ (j : Int) < n := by omega
        have HKR := hid (KitM.keepRt HK7.out HKP.out HG0.out hg0b.out)
        have XU := hid (Kp.extOf XW7.out HKP.out hg0w.out)
        obtain ⟨U, hU⟩ : ∃ U, U = wr := ⟨wr, rfl⟩
        subst hU
        have HRA := hid (fun w' h => rows_anyF w' (HKR.out.later h) hlim HGL.out)
        have HRL := hid (fun w' a' c' (h1 : RowsLie w' a' rws) (h2 : Ext w w') => rows7L a' a c' c w' hlim hab.out h1 (HR.out.later h2))
        rw [HN.out] at HRL
        have hx : j = n := by omega
        clear HCU HKP HK7 hlt hj hcs
        go_wp2_with fail
        refine (HRA.out _ (Ext.refl _)).mono ?_
        rintro e u1 ⟨a9, c9, rfl, hit, hy1⟩
        have HIT := hid hit
        have Y1 := hid hy1
        clear hit hy1
        rw [HN.out]
        go_wp2_with fail
        refine (HRL.out _ a9 c9 (RItems.lie (RItemsF.rit HIT.out)) (XU.out.trans Y1.out)).mono ?_
        rintro e u2 ⟨rfl, hy2⟩
        have Y2 := hid (Y1.out.trans hy2)
        obtain ⟨g9, len, rfl, hg9, hsp, hle⟩ := spoil_ex HIT.out (by rw [HN.out]; exact hnz) HGL.out
        have HSP := hid (hsp.later hy2)
        rw [HN.out] at HSP
        clear hy2 HIT hsp
        go_wp2_with fail
        go_loopw [16] (fun q16 wi => ∃ i : Nat, i ≤ n ∧ q16 = .int .i64 i ∧ Spoil U.heap.size wi g9 n len ∧ Ext U wi) (fun q16 _ => n - (intOf q16).toNat)
        case atStart => exact ⟨0, Nat.zero_le _, rfl, HSP.out, Y2.out⟩
        case round =>
          obtain ⟨i, hi, rfl, hsp, hxi⟩ := hrel
          have HS1 := hid hsp
          have XI := hid hxi
          clear hsp hxi
          by_cases hin : i < n
          · have hin' : (i : Int) < n := by omega
            go_wp2_with fail
            go_loopw [17] (fun q17 wk => ∃ k : Nat, k ≤ len i ∧ q17 = .int .i64 k ∧ Spoil U.heap.size wk g9 n len ∧ Ext U wk) (fun q17 _ => len i - (intOf q17).toNat)
            case atStart => exact ⟨0, Nat.zero_le _, rfl, HS1.out, XI.out⟩
            case round =>
              obtain ⟨k, hk, rfl, hsp, hxk⟩ := hrel
              have HS2 := hid hsp
              have XK := hid hxk
              clear hxk
              obtain ⟨cu9, hb9, hz9, hall⟩ := hsp
              obtain ⟨ai, ci, h5, hor⟩ := hall i hin
              have p5 := cell_of hb9 h5
              have fz := frozen_of (i := i * 6) hb9
              obtain ⟨u, hu⟩ : ∃ u, cu9[i * 6]? = some u := ⟨_, Array.getElem?_eq_getElem (show i * 6 < cu9.size by omega)⟩
              have p0 := cell_of hb9 hu
              have hgl := lt_of_cell p0
              have HB9 := hid hb9
              clear hall hu hb9 h5
              have hl100 := hle i
              by_cases hkl : k < len i
              · have hkl' : (k : Int) < len i := by omega
                rcases hor with h | ⟨gi, cti, rfl, hgi, hbi, hsi⟩
                · omega
                obtain ⟨u2, hu2⟩ : ∃ u, cti[k]? = some u := ⟨_, Array.getElem?_eq_getElem (show k < cti.size by omega)⟩
                have p1 := cell_of hbi hu2
                have fz2 := frozen_of (i := k) hbi
                have hgl2 := lt_of_cell p1
                have HBI := hid hbi
                clear hu2 hbi
                go_wp2_with fail
                go_roundw
                case rel => exact ⟨k + 1, by omega, by go_num, HS2.out.text HBI.out _, Ext.setCell XK.out hgi _⟩
                case measure => simp [intOf]; omega
              · have hkl3 : ¬ (k : Int) < len i := by omega
                clear hor
                go_wp2_with fail
                go_roundw
                case rel => exact ⟨i + 1, by omega, by go_num, HS2.out.kind i _, Ext.setCell XK.out hg9 _⟩
                case measure => simp [intOf]; omega
          · have hin3 : ¬ (i : Int) < n := by omega
            clear HS1 HSP
            have hse := str_eqb nm nm
            rw [decide_eq_true rfl] at hse
            have hse2 : (nm.toList != nm.toList) = false := by unfold bne; rw [hse]; rfl
            go_wp2_with fail
            refine (HRA.out _ XI.out).mono ?_
            rintro e u3 ⟨aa, ca, rfl, hit, hy1⟩
            have HIT := hid hit
            have Y3 := hid (XI.out.trans hy1)
            clear hit hy1
            rw [HN.out]
            go_wp2_with fail
            refine (HRL.out _ aa ca (RItems.lie (RItemsF.rit HIT.out)) (XU.out.trans Y3.out)).mono ?_
            rintro e u4 ⟨rfl, hy2⟩
            have Y4 := hid (Y3.out.trans hy2)
            clear hy2 HIT
            go_wp2_with fail
            refine (kname_any (HKR.out.later Y4.out)).mono ?_
            rintro e u5 ⟨rfl, hu5⟩
            rw [hu5]
            clear hu5 u5
            have HWB := hid (blk0 u4 (.cells #[.string ⟨#[]⟩, .int .i64 0, .int .i64 0, .bool false, .int .i64 0, .slice none 0 0] 37))
            have Y5 := hid (Ext.alloc u4 (.cells #[.string ⟨#[]⟩, .int .i64 0, .int .i64 0, .bool false, .int .i64 0, .slice none 0 0] 37))
            go_wp2_with fail
            generalize hwb : u4.heap.size = wb at HWB ⊢
            go_loopw [19, 20] (fun q19 q20 wl => ∃ j : Nat, j ≤ n ∧ q20 = .int .i64 j ∧ ∃ (r : Rw) (aw : Option Addr) (cw : Nat), wl.heap[wb]? = some (.cells #[.string r.kind, .int .i64 r.min, .int .i64 r.max, .bool r.num, .int .i64 r.text, .slice aw r.abs.length cw] 37) ∧ TRow w aw r.abs ∧ ((q19 = .bool false ∧ kIx (rws.take j) kd = none ∧ r = ⟨⟨#[]⟩, 0, 0, false, 0, []⟩) ∨ (q19 = .bool true ∧ ∃ ix, ∃ h : ix < rws.length, kIx (rws.take j) kd = some ix ∧ r = rws[ix])) ∧ Ext u4 wl) (fun _ q20 _ => n - (intOf q20).toNat)
            case atStart => exact ⟨0, Nat.zero_le _, rfl, ⟨⟨#[]⟩, 0, 0, false, 0, []⟩, none, 0, HWB.out, .inl rfl, .inl ⟨rfl, rfl, rfl⟩, Y5.out⟩
            case round =>
              obtain ⟨j4, hj4, rfl, r4, aw, cw, hb4, ht4, hk4, hx4⟩ := hrel
              have HB4 := hid hb4
              have HT4 := hid ht4
              have HK4 := hid hk4
              have X4 := hid hx4
              clear hb4 ht4 hk4 hx4
              by_cases hlt : j4 < n
              · have hlt' : (j4 : Int) < n := by omega
                have hjr : j4 < rws.length := by rw [HN.out]; exact hlt
                have HX8 := hid (XU.out.trans (Y4.out.trans X4.out))
                obtain ⟨g, off, a', c', rfl, ⟨p0, p1, p2, p3, p4, p5⟩, _⟩ := (HR.out.later HX8.out) j4 hjr
                obtain ⟨_, _, aq, cq, he, ⟨_, _, _, _, _, p5'⟩, htb'⟩ := HR.out j4 hjr
                have HTB := hid (show TRow w a' rws[j4].abs by
                  injection he with e1
                  injection e1 with e2 e3 _
                  subst e2; subst e3
                  have h1 := (HX8.out.kp (fun _ => True)).cell p5' trivial
                  rw [p5] at h1
                  injection h1 with h1
                  injection h1 with h1 _ _
                  rw [h1]
                  exact htb')
                have HKN := hid (HZ2.out j4 hjr)
                have HSN := hid (show kIx (rws.take (j4 + 1)) = fun k => if k = rws[j4].kind then some (rws.take j4).length else kIx (rws.take j4) k by
                  rw [List.take_succ_eq_append_getElem hjr]
                  exact kIx_snoc (HZ2.out j4 hjr))
                have HTL := hid (show (rws.take j4).length = j4 by rw [List.length_take]; omega)
                have HEX := hid (show ∃ ix, ∃ h : ix < rws.length, ix = j4 ∧ rws[ix] = rws[j4] from ⟨j4, hjr, rfl, rfl⟩)
                have hgl := lt_of_cell p0
                have hse3 := str_eqb rws[j4].kind kd
                clear p5' htb' he
                generalize rws[j4] = rj at *
                by_cases hkk : rj.kind = kd
                · rw [decide_eq_true hkk] at hse3
                  obtain ⟨z0, z1, z2, z3, z4, z5⟩ := six_of HB4.out
                  obtain ⟨f0, f1, f2, f3, f4, f5⟩ : wr.frozen? ⟨wb, 0, none⟩ = false ∧ wr.frozen? ⟨wb, 1, none⟩ = false ∧ wr.frozen? ⟨wb, 2, none⟩ = false ∧ wr.frozen? ⟨wb, 3, none⟩ = false ∧ wr.frozen? ⟨wb, 4, none⟩ = false ∧ wr.frozen? ⟨wb, 5, none⟩ = false := ⟨frozen_of HB4.out, frozen_of HB4.out, frozen_of HB4.out, frozen_of HB4.out, frozen_of HB4.out, frozen_of HB4.out⟩
                  go_wp2_with fail
                  go_roundw
                  case rel =>
                    refine ⟨j4 + 1, hlt, by go_num, rj, a', c', by rw [hkk]; exact six_set HB4.out, HTB.out, .inr ⟨rfl, ?_⟩, Kp.extOf X4.out (Kp.set6 _ wb _ _ _ _ _ _) (by omega)⟩
                    obtain ⟨ix, h, e1, e2⟩ := HEX.out
                    refine ⟨ix, h, ?_, e2.symm⟩
                    rw [HSN.out]
                    show (if kd = rj.kind then some (rws.take j4).length else _) = _
                    rw [if_pos hkk.symm, HTL.out, e1]
                  case measure => simp [intOf]; omega
                · rw [decide_eq_false hkk] at hse3
                  go_wp2_with fail
                  go_roundw
                  case rel =>
                    have e : kIx (rws.take (j4 + 1)) kd = kIx (rws.take j4) kd := by
                      rw [HSN.out]
                      show (if kd = rj.kind then _ else _) = _
                      rw [if_neg (fun h => hkk h.symm)]
                    refine ⟨j4 + 1, hlt, by go_num, r4, aw, cw, HB4.out, HT4.out, ?_, X4.out⟩
                    rw [e]
                    exact HK4.out
                  case measure => simp [intOf]; omega
              · have hlt3 : ¬ (j4 : Int) < n := by omega
                have htk : rws.take j4 = rws := List.take_of_length_le (by have := HN.out; omega)
                have HKF := hid HK4.out
                rw [htk] at HKF
                have HK9 := hid (HKR.out.later (Y4.out.trans X4.out))
                have XW4 := hid (XU.out.trans (Y4.out.trans X4.out))
                clear htk HK4 HRA HRL HRN HKR HS0
                rcases HKF.out with ⟨rfl, hk, rfl⟩ | ⟨rfl, ix, hix, hk, rfl⟩
                · have HKN := hid hk
                  clear hk HKF
                  go_wp2_with fail
                  refine (row_none _ HK9.out kd hkd HKN.out).mono ?_
                  rintro e v5 ⟨rfl, hy5⟩
                  have Y6 := hid hy5
                  have HWA := hid (blk0 v5 (.cells #[.string ⟨#[]⟩, .int .i64 0, .int .i64 0, .bool false, .int .i64 0, .slice none 0 0] 37))
                  have Y7 := hid (Ext.alloc v5 (.cells #[.string ⟨#[]⟩, .int .i64 0, .int .i64 0, .bool false, .int .i64 0, .slice none 0 0] 37))
                  obtain ⟨t0, t1, t2, t3, t4, t5⟩ := six_of (Y7.out.block (Y6.out.block HB4.out))
                  have HEQ := hid (fun w' => eqRow7B ⟨⟨#[]⟩, 0, 0, false, 0, []⟩ none aw 0 cw w' (by decide) (.inl rfl) (.inl rfl))
                  unfold Rw.val at HEQ
                  clear hy5
                  go_wp2_with fail
                  refine (HEQ.out _).mono ?_
                  rintro e v6 ⟨rfl, hy6⟩
                  have Y8 := hid hy6
                  clear hy6
                  go_wp2_with fail
                  go_ret
                  exact ⟨rfl, XW4.out.trans (Y6.out.trans (Y7.out.trans Y8.out))⟩
                · have hk4 : kd.size ≤ 4000 := by
                    rw [← kIx_kind hk hix]
                    exact HGK.out _ (List.getElem_mem hix)
                  have HROW := hid (row_any _ HK9.out kd hk4 ix hix hk (HGL.out _ (List.getElem_mem hix)))
                  have HLR := hid (HGL.out _ (List.getElem_mem hix))
                  clear hk HKF hk4
                  generalize rws[ix] = rr at *
                  go_wp2_with fail
                  refine HROW.out.mono ?_
                  rintro e v5 ⟨ra, rc, rfl, htb, hy5⟩
                  unfold Rw.val
                  have HTA := hid htb.row
                  have Y6 := hid hy5
                  have Y7 := hid (Ext.alloc v5 (.cells #[.string rr.kind, .int .i64 rr.min, .int .i64 rr.max, .bool rr.num, .int .i64 rr.text, .slice ra rr.abs.length rc] 37))
                  obtain ⟨t0, t1, t2, t3, t4, t5⟩ := six_of (Y7.out.block (Y6.out.block HB4.out))
                  have HEQ := hid (fun w' (h : Ext v5 w') => eqRow7B rr ra aw rc cw w' (by have := HLR.out; omega) (HTA.out.later h) (HT4.out.later (XW4.out.trans (Y6.out.trans h))))
                  unfold Rw.val at HEQ
                  clear htb hy5
                  go_wp2_with fail
                  refine (HEQ.out _ Y7.out).mono ?_
                  rintro e v6 ⟨rfl, hy6⟩
                  have Y8 := hid hy6
                  clear hy6
                  go_wp2_with fail
                  go_ret
                  exact ⟨rfl, XW4.out.trans (Y6.out.trans (Y7.out.trans Y8.out))⟩
end Go.Proofs.YtaodkfchmaendaaGreatDoor.Nd
