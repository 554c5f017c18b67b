/-
  (*Kit).Rows, (*Kit).Row, EqNames and EqRow of rows that are the same: by contracts.
-/
import Derived.Test.YtaodkfchmaendaaGreatDoorKKit
import Derived.Test.YtaodkfchmaendaaGreatDoorKAddR
namespace Go.Proofs.YtaodkfchmaendaaGreatDoor
open Go.RowKit
theorem app_ritem {ops : Array Oper} {rest : List Oper} {o : Oper} {ac : Act} {Q : Exit → Act → World → Prop} {ty : TypeId} (w : World) (hgd : o.guard = none) (x y : Operand)
    (ho : o.op = .call { callee := .builtin .append, args := #[x, y], argTypes := #[55, 55] }) (hty : o.type = 55)
    (base g : Nat) (lv : Value) (acc : List Rw) (r : Rw) (a : Option Addr) (c : Nat) (hx : ac.eval x = lv) (hy : ac.eval y = .slice (some ⟨g, 0, none⟩) 1 1) (hB : base ≤ w.heap.size)
    (hit : RItems w base lv acc) (hg : w.heap[g]? = some (.cells (r.cells a c).toArray ty)) (htb : TB w a r.abs) (hlim : acc.length ≤ 2000000)
    (h : ∀ ao c' w', RItems w' base (.slice ao (acc.length + 1) c') (acc ++ [r]) → w.grownBy w' lv.ownBlock → wpList Tryz.prog ops Q rest (ac.put o.dst (.slice ao (acc.length + 1) c')) w') :
    wpList Tryz.prog ops Q (o :: rest) ac w := by
  refine wpList_plain hgd fun K hK => ?_
  obtain ⟨ao, c', w', hr, h2, h3⟩ := run_ritem (ty := ty) base g lv acc r a c hB hit hg htb hlim
  unfold Oper.wp execOp
  rw [List.length_append] at hr h2
  simp only [ho, hty, resolve, invoke, builtin, Sem.run_bind, Sem.run_pure, Result.andThen_ok, List.map_toArray, List.map_cons, List.map_nil, hx, hy, hr]
  exact hK _ _ (h ao c' w' h2 h3)
/-- The rows told so far. -/
def RowsLp (w : World) (acc : List Rw) (j : Nat) (ao : Option Addr) (c : Nat) (wr : World) : Prop := RItems wr w.heap.size (.slice ao j c) (acc.take j) ∧ Ext w wr
/-- What Rows tells. -/
def RowsR (w : World) (acc : List Rw) (e : Ending) (w' : World) : Prop := ∃ ao c, e = .returned (.slice ao acc.length c) ∧ RItems w' w.heap.size (.slice ao acc.length c) acc ∧ Ext w w'
set_option maxRecDepth 100000 in
set_option maxHeartbeats 2000000 in
theorem rows_any {base kb mb : Nat} {nm : ByteArray} {mk lv : Value} {acc : List Rw} (w : World) (h : KitM w base kb mb nm mk lv acc) (hlim : acc.length ≤ 1000) (hab : ∀ r ∈ acc, r.abs.length ≤ 100) : Calls Tryz.prog 23 #[.pointer (some ⟨kb, 0, none⟩)] w (RowsR w acc) := by
  obtain ⟨k0, k1, k2, k3⟩ := h.four
  have HR := hid h.rows
  have HAB := hid hab
  obtain ⟨ao, lc, hlv⟩ := h.rows.shape
  subst hlv
  obtain ⟨n, hne⟩ : ∃ n, acc.length = n := ⟨_, rfl⟩
  have HNE := hid hne
  rw [hne] at hlim HR k1
  have hlim' : (n : Int) ≤ 1000 := by omega
  clear h hne hab
  go_enter Tryz.func23, Tryz.ntmps23
  go_wp2_with fail
  go_loopw [3, 13] (fun q3 q13 wr => ∃ (j : Nat) (ao : Option Addr) (c : Nat), j ≤ n ∧ q13 = .int .i64 j ∧ q3 = .slice ao j c ∧ RowsLp w acc j ao c wr) (fun _ q13 _ => n - (intOf q13).toNat)
  case atStart => exact ⟨0, none, 0, Nat.zero_le _, rfl, rfl, RItems.nil _ _, Ext.refl _⟩
  case round =>
    obtain ⟨j, a2, c2, hj, rfl, rfl, hit, hx⟩ := hrel
    have HIT := hid hit
    have HX := hid hx
    clear hit hx
    by_cases hlt : j < n
    · have hlt' : (j : Int) < n := by omega
      have hjr : j < acc.length := by rw [HNE.out]; exact hlt
      obtain ⟨g, cap, a, c, hlv, ⟨p0, p1, p2, p3, p4, p5⟩, htb⟩ := (HR.out.later HX.out).read j hjr
      obtain ⟨rfl, hnn, rfl⟩ := Value.slice.inj hlv
      clear hnn hlv
      have HTB := hid htb
      have HTK := hid (show acc.take j ++ [acc[j]] = acc.take (j + 1) from (List.take_succ_eq_append_getElem hjr).symm)
      have HLJ := hid (show (acc.take j).length = j by rw [List.length_take]; omega)
      have HRA := hid (HAB.out _ (List.getElem_mem hjr))
      generalize acc[j] = rj at *
      clear htb hjr
      have hgl := lt_of_cell p0
      obtain ⟨M, hM⟩ : ∃ M, wr.alloc (.cells #[.string rj.kind, .int .i64 rj.min, .int .i64 rj.max, .bool rj.num, .int .i64 rj.text, .slice a rj.abs.length c] 37) = M := ⟨_, rfl⟩
      have XM := hid (show Ext wr M from hM ▸ Ext.alloc _ _)
      have HCP := hid (copied_any rj a c M HRA.out (HTB.out.later XM.out))
      unfold Rw.val at HCP
      obtain ⟨z0, z1, z2, z3, z4, z5⟩ := six_of (show RowAt M wr.heap.size rj a c from hM ▸ blk0 _ _)
      go_wp2_with fail
      clear hM
      refine HCP.out.mono ?_
      rintro e w2 ⟨a9, c9, rfl, htb9, hx9⟩
      have Z1 := hid (XM.out.trans hx9)
      have HTB9 := hid htb9
      clear hx9 htb9 z0 z1 z2 z3 z4 z5
      go_wp2_with (at_builtin; refine app_ritem (ty := 37) _ rfl _ _ rfl rfl w.heap.size w2.heap.size (.slice a2 j c2) (acc.take j) rj a9 c9 rfl rfl (Nat.le_trans HX.out.size (Nat.le_trans Z1.out.size (by rw [blkS]; omega))) (HIT.out.later (Z1.out.trans (Ext.alloc _ _))) (blk0 _ _) (HTB9.out.later (Ext.alloc _ _)) (by rw [HLJ.out]; omega) ?_; intro a5 c5 w5 hit5 hgr5; rw [HLJ.out] at hit5 ⊢; have HIT5 := hid hit5; have HG5 := hid (grown_kp hgr5); clear hit5 hgr5)
      go_roundw
      case rel =>
        refine ⟨j + 1, a5, c5, by omega, by go_num, rfl, ?_, ?_⟩
        · rw [← HTK.out]; exact HIT5.out
        · exact Below.trans ((HX.out.trans Z1.out).trans (Ext.alloc _ _)) (HG5.out.below (fun q hq e => by have := (HIT.out.block e).1; omega) (Nat.le_trans HX.out.size (Nat.le_trans Z1.out.size (by rw [blkS]; omega))))
      case measure => simp [intOf]; omega
    · have hje : j = n := by omega
      have hlt2 : decide ((j : Int) < n) = false := decide_eq_false (by omega)
      have hlt3 : ¬ (j : Int) < n := by omega
      have HIF := hid (show RItems wr w.heap.size (.slice a2 acc.length c2) acc by
        have := HIT.out
        rw [List.take_of_length_le (by have := HNE.out; omega)] at this
        rwa [show acc.length = j by have := HNE.out; omega])
      have HJE := hid (show acc.length = j by have := HNE.out; omega)
      clear hje
      go_wp2_with fail
      go_ret
      exact ⟨a2, c2, by rw [HJE.out]; rfl, HIF.out, HX.out⟩
set_option maxRecDepth 100000 in
set_option maxHeartbeats 2000000 in
theorem eqNames_any (a b : Option Addr) (c d : Nat) (xs : List ByteArray) (w : World) (hn : xs.length ≤ 1000) (h1 : TRow w a xs) (h2 : TRow w b xs) : Calls Tryz.prog 31 #[.slice a xs.length c, .slice b xs.length d] w fun e w' => e = .returned (.bool true) ∧ Ext w w' := by
  obtain ⟨n, hne⟩ : ∃ n, xs.length = n := ⟨_, rfl⟩
  have HNE := hid hne
  have H1 := hid h1
  have H2 := hid h2
  rw [hne] at hn ⊢
  have hn' : (n : Int) ≤ 1000 := by omega
  clear h1 h2 hne
  go_enter Tryz.func31, Tryz.ntmps31
  go_wp2_with fail
  go_loopw [5] (fun q5 wr => ∃ j : Nat, j ≤ n ∧ q5 = .int .i64 j ∧ Ext w wr) (fun q5 _ => n - (intOf q5).toNat)
  case atStart => exact ⟨0, Nat.zero_le _, rfl, Ext.refl _⟩
  case round =>
    obtain ⟨j, hj, rfl, hx⟩ := hrel
    have HX := hid hx
    clear hx
    by_cases hlt : j < n
    · have hlt' : (j : Int) < n := by omega
      have hjx : j < xs.length := by rw [HNE.out]; exact hlt
      rcases H1.out.later HX.out with e0 | ⟨g1, o1, rfl, hc1⟩
      · rw [e0] at hjx; exact absurd hjx (Nat.not_lt_zero _)
      rcases H2.out.later HX.out with e0 | ⟨g2, o2, rfl, hc2⟩
      · rw [e0] at hjx; exact absurd hjx (Nat.not_lt_zero _)
      have p1 := hc1 j hjx
      have p2 := hc2 j hjx
      have hse := str_eqb xs[j] xs[j]
      rw [decide_eq_true rfl] at hse
      generalize xs[j] = x at *
      have hse2 : (x.toList != x.toList) = false := by unfold bne; rw [hse]; rfl
      clear hc1 hc2 hjx
      go_wp2_with fail
      go_region
      go_wp2_with fail
      go_roundw
      case rel => exact ⟨j + 1, by omega, by go_num, HX.out.drew⟩
      case measure => simp [intOf]; omega
    · have hlt2 : decide ((j : Int) < n) = false := decide_eq_false (by omega)
      have hlt3 : ¬ (j : Int) < n := by omega
      go_wp2_with fail
      go_ret
      exact ⟨rfl, HX.out⟩
/-- What Row tells. -/
def RowR (w : World) (r : Rw) (e : Ending) (w' : World) : Prop := ∃ a c, e = .returned (.tuple #[r.val a c, .bool true]) ∧ TB w' a r.abs ∧ Ext w w'
set_option maxRecDepth 100000 in
set_option maxHeartbeats 2000000 in
theorem row_any {base kb mb : Nat} {nm : ByteArray} {mk lv : Value} {acc : List Rw} (w : World) (h : KitM w base kb mb nm mk lv acc) (kind : ByteArray) (hks : kind.size ≤ 4000) (j : Nat) (hj : j < acc.length) (hix : kIx acc kind = some j) (hab : acc[j].abs.length ≤ 100) : Calls Tryz.prog 12 #[.pointer (some ⟨kb, 0, none⟩), .string kind] w (RowR w acc[j]) := by
  obtain ⟨M, hM⟩ : ∃ M, w.alloc (.cells #[.string ⟨#[]⟩, .int .i64 0, .int .i64 0, .bool false, .int .i64 0, .slice none 0 0] 37) = M := ⟨_, rfl⟩
  have XM := hid (show Ext w M from hM ▸ Ext.alloc _ _)
  have HM0 := hid (show M.heap[w.heap.size]? = some (.cells #[.string ⟨#[]⟩, .int .i64 0, .int .i64 0, .bool false, .int .i64 0, .slice none 0 0] 37) from hM ▸ blk0 _ _)
  have HK := hid (h.later XM.out)
  obtain ⟨k0, k1, k2, k3⟩ := HK.out.four
  have hl := HK.out.map.look kind (by omega)
  rw [hix] at hl
  have hl' : (Instr.lookup 83 (.map (some mb)) (.string kind) true).run Tryz.prog M = .ok (.tuple #[.int .i64 (j : Int), .bool true]) M := hl
  obtain ⟨g, cap, a, c, hlv, ⟨p0, p1, p2, p3, p4, p5⟩, htb⟩ := HK.out.rows.read j hj
  subst hlv
  have HTB := hid htb
  have HCP := hid (copied_any acc[j] a c M hab htb)
  unfold Rw.val at HCP
  have hj1 : (j : Int) < acc.length := by omega
  have HP := hid (show ∀ (e : Ending) (w' : World), RowR w acc[j] e w' ↔ ∃ a c, e = .returned (.tuple #[acc[j].val a c, .bool true]) ∧ TB w' a acc[j].abs ∧ Ext w w' from fun _ _ => Iff.rfl)
  clear h hl htb hix hab
  obtain ⟨n, hn⟩ : ∃ n, acc.length = n := ⟨_, rfl⟩
  rw [hn] at hj1 k1
  clear HK
  generalize acc[j] = rj at *
  clear hj hn
  obtain ⟨f0, f1, f2, f3, f4, f5⟩ : True ∧ True ∧ True ∧ True ∧ True ∧ True := ⟨trivial, trivial, trivial, trivial, trivial, trivial⟩
  go_enter Tryz.func12, Tryz.ntmps12
  go_wp2_with fail
  clear hM
  refine HCP.out.mono ?_
  rintro e w2 ⟨a9, c9, rfl, htb9, hx9⟩
  have HTB9 := hid htb9
  have B1 := hid (hx9.block HM0.out)
  have X2 := hid (XM.out.trans hx9)
  obtain ⟨x0, x1, x2, x3, x4, x5⟩ := six_of B1.out
  obtain ⟨f0, f1, f2, f3, f4, f5⟩ : w2.frozen? ⟨w.heap.size, 0, none⟩ = false ∧ w2.frozen? ⟨w.heap.size, 1, none⟩ = false ∧ w2.frozen? ⟨w.heap.size, 2, none⟩ = false ∧ w2.frozen? ⟨w.heap.size, 3, none⟩ = false ∧ w2.frozen? ⟨w.heap.size, 4, none⟩ = false ∧ w2.frozen? ⟨w.heap.size, 5, none⟩ = false := ⟨frozen_of B1.out, frozen_of B1.out, frozen_of B1.out, frozen_of B1.out, frozen_of B1.out, frozen_of B1.out⟩
  clear hx9 htb9
  go_wp2_with fail
  obtain ⟨q0, q1, q2, q3, q4, q5⟩ := six_of (six_set (u0 := .string rj.kind) (u1 := .int .i64 rj.min) (u2 := .int .i64 rj.max) (u3 := .bool rj.num) (u4 := .int .i64 rj.text) (u5 := .slice a9 rj.abs.length c9) B1.out)
  refine bodyPost_ret (v := .tuple #[.agg #[.string rj.kind, .int .i64 rj.min, .int .i64 rj.max, .bool rj.num, .int .i64 rj.text, .slice a9 rj.abs.length c9], .bool true]) (by simp [results, Tryz.results12, go_sem, q0, q1, q2, q3, q4, q5]) rfl ?_
  have K1 := Kp.set6 w2 w.heap.size (.string rj.kind) (.int .i64 rj.min) (.int .i64 rj.max) (.bool rj.num) (.int .i64 rj.text) (.slice a9 rj.abs.length c9)
  refine ⟨a9, c9, rfl, HTB9.out.keep K1 (fun q cur hq e => ?_), Kp.extOf X2.out K1 (Nat.le_refl _)⟩
  rw [e, B1.out] at hq
  cases hq
end Go.Proofs.YtaodkfchmaendaaGreatDoor
/-
  The laws of a kit's rows for as many rows as memory holds. (kwide_gen.py writes this text out of craft's KMap, KItems, KRows and KAddR.)
-/
namespace Go.Proofs.YtaodkfchmaendaaGreatDoor
open Go.RowKit

theorem MapAt.putW {w : World} {mb N : Nat} {σ : ByteArray → Option Nat} (h : MapAt w mb N σ) (x : ByteArray) (t : Nat) (hx : x.size ≤ 140737488351232) (hN : N ≤ 1954687338220) : ∃ w', (Instr.mapUpdate 83 (.map (some mb)) (.string x) (.int .i64 (t : Int))).run Tryz.prog w = .ok () w' ∧ MapAt w' mb (N + 1) (fun k => if k = x then some t else σ k) ∧ Kp (· ≠ mb) w w' := by
  obtain ⟨D, a4, a5⟩ := h
  have hkey := WideMaps.keyOf_string_mk (P := Tryz.prog) (k := 9) Tryz.underlying9 (s := x) (by unfold maxLen; omega)
  obtain ⟨w', hrun, ho, hg⟩ := a4.update (Maps.string_keyed Tryz.underlying9) Tryz.underlying83 (by unfold maxLen; omega) hkey (inE_mk t)
  have hk : Kp (· ≠ mb) w w' := ⟨hg.os, hg.tape, hg.output, hg.size, fun q hq hne => hg.block q hq (fun e => hne (Option.some.inj e))⟩
  exact ⟨w', hrun, ⟨_, ho, a5.put x t⟩, hk⟩
theorem run_ritemW {w : World} {ty : TypeId} (base g : Nat) (lv : Value) (acc : List Rw) (r : Rw) (a : Option Addr) (c : Nat) (hB : base ≤ w.heap.size) (hit : RItems w base lv acc) (hg : w.heap[g]? = some (.cells (r.cells a c).toArray ty)) (htb : TB w a r.abs) (hlim : acc.length ≤ 1954687338220) :
    ∃ ao c' w', (Builtin.append_ #[55, 55] 55 #[lv, .slice (some ⟨g, 0, none⟩) 1 1]).run Tryz.prog w = .ok (.slice ao (acc ++ [r]).length c') w' ∧ RItems w' base (.slice ao (acc ++ [r]).length c') (acc ++ [r]) ∧ w.grownBy w' lv.ownBlock := by
  have HB := fun g' h => hit.block (g := g') h
  obtain ⟨us, ho, hi⟩ := hit
  obtain ⟨ii, hii, hz0, hz1, hz2⟩ := info_parts rowInfo
  have hnews : ∀ (j : Nat) (u : Value), (r.cells a c)[j]? = some u → w.cell? (Addr.add ⟨g, 0, none⟩ j) = some u := by
    intro j u hu
    have e : Addr.add ⟨g, 0, none⟩ j = ⟨g, j, none⟩ := by
      by_cases hj : j = 0
      · subst hj; simp [Addr.add]
      · simp [Addr.add, hj]
    rw [e]
    exact cell_of hg (by simpa using hu)
  obtain ⟨v', w', hr, ho2, hgr, _, hat⟩ := run_append_own_at (P := Tryz.prog) w base 55 55 37 ii _ 6 72 Tryz.underlying55 hii hz0 hz1 hz2 rfl (by decide) lv acc.length us ho ⟨g, 0, none⟩ 1 1 (r.cells a c) rfl hnews (fun u hu => by simp [Rw.cells] at hu; rcases hu with rfl | rfl | rfl | rfl | rfl | rfl <;> rfl) (by unfold maxLen; omega) (by omega) (by omega)
  have hkp := grown_kp hgr
  have hKst : ∀ q cur, w.heap[q]? = some (.cells cur 9) → lv.ownBlock ≠ some q := fun q cur hq e => by
    obtain ⟨_, cur', hc'⟩ := HB q e
    rw [hc'] at hq
    cases hq
  have hul : us.length = acc.length * 6 := ho.1
  have hI : RItems w' base v' (acc ++ [r]) := by
    refine ⟨us ++ r.cells a c, by rw [List.length_append]; exact ho2, fun j hj => ?_⟩
    by_cases hj' : j < acc.length
    · obtain ⟨a', c', ⟨h0, h1, h2, h3, h4, h5⟩, h6⟩ := hi j hj'
      rw [List.getElem_append_left hj']
      exact ⟨a', c', ⟨by rw [List.getElem?_append_left (by omega)]; exact h0, by rw [List.getElem?_append_left (by omega)]; exact h1, by rw [List.getElem?_append_left (by omega)]; exact h2, by rw [List.getElem?_append_left (by omega)]; exact h3, by rw [List.getElem?_append_left (by omega)]; exact h4, by rw [List.getElem?_append_left (by omega)]; exact h5⟩, h6.keep hkp hKst⟩
    · have hje : j = acc.length := by simp at hj; omega
      subst hje
      simp only [List.getElem_append_right (Nat.le_refl _), Nat.sub_self, List.getElem_cons_zero]
      exact ⟨a, c, ⟨by rw [← hul]; simp [Rw.cells], by rw [← hul]; simp [Rw.cells], by rw [← hul]; simp [Rw.cells], by rw [← hul]; simp [Rw.cells], by rw [← hul]; simp [Rw.cells], by rw [← hul]; simp [Rw.cells]⟩, htb.keep hkp hKst⟩
  obtain ⟨ao, c', rfl⟩ := hI.shape
  exact ⟨ao, c', w', hr, hI, hgr⟩
theorem step_ritemW {ops : Array Oper} {o : Oper} {ac : Act} {K : Act → World → Prop} {Q : Exit → Act → World → Prop} {E : Prop} {ty : TypeId} (w : World) (hgd : o.guard = none) (x y : Operand)
    (ho : o.op = .call { callee := .builtin .append, args := #[x, y], argTypes := #[55, 55] }) (hty : o.type = 55)
    (base g : Nat) (lv : Value) (acc : List Rw) (r : Rw) (a : Option Addr) (c : Nat) (hx : ac.eval x = lv) (hy : ac.eval y = .slice (some ⟨g, 0, none⟩) 1 1) (hB : base ≤ w.heap.size)
    (hit : RItems w base lv acc) (hg : w.heap[g]? = some (.cells (r.cells a c).toArray ty)) (htb : TB w a r.abs) (hlim : acc.length ≤ 1954687338220)
    (h : ∀ ao n c' w', RItems w' base (.slice ao n c') (acc ++ [r]) → w.grownBy w' lv.ownBlock → K (ac.put o.dst (.slice ao n c')) w') :
    if Region.wanted o (yielded ops ac.tmps) = true then Oper.wp Tryz.prog o ac w K Q else E := by
  have hw : Region.wanted o (yielded ops ac.tmps) = true := by simp [Region.wanted, hgd]
  rw [if_pos hw]
  obtain ⟨ao, c', w', hr, h2, h3⟩ := run_ritemW (ty := ty) base g lv acc r a c hB hit hg htb hlim
  unfold Oper.wp execOp
  simp only [ho, hty, resolve, invoke, builtin, Sem.run_bind, Sem.run_pure, Result.andThen_ok, List.map_toArray, List.map_cons, List.map_nil, hx, hy, hr]
  exact h ao _ c' w' h2 h3
theorem app_ritemW {ops : Array Oper} {rest : List Oper} {o : Oper} {ac : Act} {Q : Exit → Act → World → Prop} {ty : TypeId} (w : World) (hgd : o.guard = none) (x y : Operand)
    (ho : o.op = .call { callee := .builtin .append, args := #[x, y], argTypes := #[55, 55] }) (hty : o.type = 55)
    (base g : Nat) (lv : Value) (acc : List Rw) (r : Rw) (a : Option Addr) (c : Nat) (hx : ac.eval x = lv) (hy : ac.eval y = .slice (some ⟨g, 0, none⟩) 1 1) (hB : base ≤ w.heap.size)
    (hit : RItems w base lv acc) (hg : w.heap[g]? = some (.cells (r.cells a c).toArray ty)) (htb : TB w a r.abs) (hlim : acc.length ≤ 1954687338220)
    (h : ∀ ao c' w', RItems w' base (.slice ao (acc.length + 1) c') (acc ++ [r]) → w.grownBy w' lv.ownBlock → wpList Tryz.prog ops Q rest (ac.put o.dst (.slice ao (acc.length + 1) c')) w') :
    wpList Tryz.prog ops Q (o :: rest) ac w := by
  refine wpList_plain hgd fun K hK => ?_
  obtain ⟨ao, c', w', hr, h2, h3⟩ := run_ritemW (ty := ty) base g lv acc r a c hB hit hg htb hlim
  unfold Oper.wp execOp
  rw [List.length_append] at hr h2
  simp only [ho, hty, resolve, invoke, builtin, Sem.run_bind, Sem.run_pure, Result.andThen_ok, List.map_toArray, List.map_cons, List.map_nil, hx, hy, hr]
  exact hK _ _ (h ao c' w' h2 h3)
set_option linter.unusedSimpArgs false in
set_option maxRecDepth 100000 in
set_option maxHeartbeats 2000000 in
theorem add_rowW {pre : List UInt8} {r : Rw} (hg : GoodR pre r) (base kb mb : Nat) (nm : ByteArray) (hnm : nm = ⟨pre.toArray⟩) (mk lv : Value) (acc : List Rw) (a : Option Addr) (c : Nat) (w : World) (hk : KitM w base kb mb nm mk lv acc) (ht : TRow w a r.abs) (hno : kIx acc r.kind = none) (hlim : acc.length ≤ 1954687338220) (hbw : base ≤ w.heap.size) :
    Calls Tryz.prog 50 #[.pointer (some ⟨kb, 0, none⟩), r.val a c] w fun e w' => e = .returned (.int .i64 0) ∧ ∃ lv', KitM w' base kb mb nm mk lv' (acc ++ [r]) ∧ Below base w w' := by
  subst hnm
  have HMAY := hid (fun w1 (hx : Ext w w1) => may_good hg a c w1 (ht.later hx))
  have HKI := hid (fun w1 => hg.kind_ok w1)
  have HCP := hid (fun w1 h => copied_row r a c w1 hg.len h)
  have HK := hid hk
  have HT := hid ht
  have HNO := hid hno
  have hks : r.kind.size ≤ 4000 := hg.size
  have HRV := hid (show r.val a c = .agg #[.string r.kind, .int .i64 r.min, .int .i64 r.max, .bool r.num, .int .i64 r.text, .slice a r.abs.length c] from rfl)
  rw [HRV.out] at HMAY HCP ⊢
  obtain ⟨ao, lc, hlv⟩ := hk.rows.shape
  clear hg hk ht hno
  obtain ⟨M, hM⟩ : ∃ M, w.alloc (.cells #[.string r.kind, .int .i64 r.min, .int .i64 r.max, .bool r.num, .int .i64 r.text, .slice a r.abs.length c] 37) = M := ⟨_, rfl⟩
  have XM := hid (show Ext w M from hM ▸ Ext.alloc _ _)
  have HR0 := hid (show RowAt M w.heap.size r a c from hM ▸ blk0 _ _)
  obtain ⟨SP, hSP⟩ : ∃ S : ByteArray, (⟨pre.toArray⟩ : ByteArray) = S := ⟨_, rfl⟩
  have hsrc := str_eqb SP SP
  rw [decide_eq_true rfl] at hsrc
  rw [hSP] at HKI HK ⊢
  have hsrc2 : (SP.toList != SP.toList) = false := by unfold bne; rw [hsrc]; rfl
  clear hSP
  obtain ⟨z0, z1, z2, z3, z4, z5⟩ := six_of HR0.out
  go_enter Tryz.func50, Tryz.ntmps50
  go_wp2_with fail
  clear hM
  refine (HMAY.out _ XM.out).mono ?_
  rintro e w1 ⟨rfl, hx1⟩
  have X1 := hid (XM.out.trans hx1)
  have HR1 := hid (show RowAt w1 w.heap.size r a c from hx1.block HR0.out)
  obtain ⟨y0, y1, y2, y3, y4, y5⟩ := six_of HR1.out
  clear hx1 z0 z1 z2 z3 z4 z5
  go_wp2_with fail
  obtain ⟨P, hP⟩ := HKI.out w1
  refine hP.mono ?_
  clear hP y0 y1 y2 y3 y4 y5
  rintro e w2 ⟨rfl, hx2⟩
  have X2 := hid (X1.out.trans hx2)
  have HR2 := hid (show RowAt w2 w.heap.size r a c from hx2.block HR1.out)
  obtain ⟨y0, y1, y2, y3, y4, y5⟩ := six_of HR2.out
  have HK2 := hid (HK.out.later X2.out)
  obtain ⟨k0, k1, k2, k3⟩ := HK2.out.four
  have hl := (HK2.out.map.later (Ext.refl w2).drew).look r.kind (by omega)
  rw [HNO.out] at hl
  have hl' : (Instr.lookup 83 (.map (some mb)) (.string r.kind) true).run Tryz.prog w2.drew = .ok (.tuple #[.int .i64 0, .bool false]) w2.drew := hl
  clear hl hx2
  go_upto_region 7 with fail
  go_region
  clear hl'
  subst hlv
  have HL := hid (show acc.length ≤ 1954687338220 from hlim)
  obtain ⟨w3, hput, hmap3, hkp3⟩ := (HK2.out.map.later ((Ext.refl w2).drew).drew).putW r.kind acc.length (by omega) (by omega)
  rw [← kIx_snoc HNO.out] at hmap3
  have HP3 := hid hmap3
  have HKP := hid hkp3
  clear hmap3 hkp3
  go_upto_region 10 with fail
  generalize hal : acc.length = al at *
  have HAL := hid hal
  clear hal
  go_region
  have HK3 := hid (HKP.out.block' (((Ext.refl w2).drew).drew.block HK2.out.blk) (fun e => (HK2.out.map.nocells (e ▸ HK2.out.blk)).elim))
  have HR3 := hid (show RowAt w3 w.heap.size r a c from HKP.out.block' (((Ext.refl w2).drew).drew.block HR2.out) (fun e => (HK2.out.map.nocells (e ▸ HR2.out)).elim))
  have HI3 := hid ((HK2.out.rows.later ((Ext.refl w2).drew).drew).keep HKP.out (fun q hq e => by
    obtain ⟨_, cur, hc⟩ := HK2.out.rows.block hq
    exact HK2.out.map.nocells (e ▸ hc)) (fun q cur hq e => (HK2.out.map.later ((Ext.refl w2).drew).drew).nocells (e ▸ hq)))
  have HT3 := hid ((HT.out.later (X2.out.trans ((Ext.refl w2).drew).drew)).keepR HKP.out (fun q cs t m hq e => (HK2.out.map.later ((Ext.refl w2).drew).drew).nocells (e ▸ hq)))
  have HRB := hid (show (Value.slice ao al lc).ownBlock ≠ some w.heap.size from fun e => by
    obtain ⟨_, cur, hc⟩ := HK.out.rows.block e
    exact absurd (lt_of_block hc) (Nat.lt_irrefl _))
  have HB3 := hid (show base ≤ w3.heap.size from Nat.le_trans hbw (Nat.le_trans X2.out.size HKP.out.size))
  clear y0 y1 y2 y3 y4 y5 k0 k1 k2 k3 hput
  generalize hrb : w.heap.size = rb at HR3 HRB ⊢
  clear hrb
  have HSK := hid (show ∀ W', W'.heap[kb]? = some (.cells #[.string SP, .slice ao al lc, .map (some mb), mk] 86) → RowAt W' rb r a c → (W'.cell? ⟨kb, 1, none⟩ = some (.slice ao al lc) ∧ W'.cell? ⟨rb, 0, none⟩ = some (.string r.kind) ∧ W'.cell? ⟨rb, 1, none⟩ = some (.int .i64 r.min) ∧ W'.cell? ⟨rb, 2, none⟩ = some (.int .i64 r.max) ∧ W'.cell? ⟨rb, 3, none⟩ = some (.bool r.num) ∧ W'.cell? ⟨rb, 4, none⟩ = some (.int .i64 r.text) ∧ W'.cell? ⟨rb, 5, none⟩ = some (.slice a r.abs.length c)) from fun W' X Y => by
    obtain ⟨s0, s1, s2, s3, s4, s5⟩ := six_of Y
    exact ⟨cell_of X rfl, s0, s1, s2, s3, s4, s5⟩)
  go_upto_region 11 with fail
  refine wp_region_noPanic ?_
  refine wp_region_headed (S := fun W' => W'.cell? ⟨kb, 1, none⟩ = some (.slice ao al lc) ∧ W'.cell? ⟨rb, 0, none⟩ = some (.string r.kind) ∧ W'.cell? ⟨rb, 1, none⟩ = some (.int .i64 r.min) ∧ W'.cell? ⟨rb, 2, none⟩ = some (.int .i64 r.max) ∧ W'.cell? ⟨rb, 3, none⟩ = some (.bool r.num) ∧ W'.cell? ⟨rb, 4, none⟩ = some (.int .i64 r.text) ∧ W'.cell? ⟨rb, 5, none⟩ = some (.slice a r.abs.length c)) 9 (by kernel_rfl) (by kernel_rfl) (HSK.out _ ((Ext.refl w3).drew.block HK3.out) ((Ext.refl w3).drew.block HR3.out)) (fun hS => ?_)
  have Z0 : Ext w3 w3.drew := Ext.drew (Ext.refl _)
  refine wpHd_take (i := 0) (oi := ?o0) (v := ?v0) ?hi0 (by kernel_rfl) (by kernel_rfl) (fun _ _ _ h => h) (Or.inl ⟨?hw0, ?hy0⟩) hS ?rs0
  case hi0 => (simp only [List.getElem?_toArray, List.getElem?_cons_succ, List.getElem?_cons_zero]; rfl)
  case hw0 => rfl
  case hy0 => (intro w hSw; (try dsimp only at hSw); obtain ⟨t0, t1, t2, t3, t4, t5, t6⟩ := hSw; go_simp; all_goals with_reducible rfl)
  try simp only [Act.put, List.setIfInBounds_toArray, List.set_cons_zero, List.set_cons_succ]
  refine wpHd_take (i := 1) (oi := ?o1) (v := ?v1) ?hi1 (by kernel_rfl) (by kernel_rfl) (fun _ _ _ h => h) (Or.inl ⟨?hw1, ?hy1⟩) hS ?rs1
  case hi1 => (simp only [List.getElem?_toArray, List.getElem?_cons_succ, List.getElem?_cons_zero]; rfl)
  case hw1 => rfl
  case hy1 => (intro w hSw; (try dsimp only at hSw); obtain ⟨t0, t1, t2, t3, t4, t5, t6⟩ := hSw; go_simp; all_goals with_reducible rfl)
  try simp only [Act.put, List.setIfInBounds_toArray, List.set_cons_zero, List.set_cons_succ]
  refine wpHd_take (i := 2) (oi := ?o2) (v := ?v2) ?hi2 (by kernel_rfl) (by kernel_rfl) (fun _ _ _ h => h) (Or.inl ⟨?hw2, ?hy2⟩) hS ?rs2
  case hi2 => (simp only [List.getElem?_toArray, List.getElem?_cons_succ, List.getElem?_cons_zero]; rfl)
  case hw2 => rfl
  case hy2 => (intro w hSw; (try dsimp only at hSw); obtain ⟨t0, t1, t2, t3, t4, t5, t6⟩ := hSw; go_simp; all_goals with_reducible rfl)
  try simp only [Act.put, List.setIfInBounds_toArray, List.set_cons_zero, List.set_cons_succ]
  refine wpHd_take (i := 3) (oi := ?o3) (v := ?v3) ?hi3 (by kernel_rfl) (by kernel_rfl) (fun _ _ _ h => h) (Or.inl ⟨?hw3, ?hy3⟩) hS ?rs3
  case hi3 => (simp only [List.getElem?_toArray, List.getElem?_cons_succ, List.getElem?_cons_zero]; rfl)
  case hw3 => rfl
  case hy3 => (intro w hSw; (try dsimp only at hSw); obtain ⟨t0, t1, t2, t3, t4, t5, t6⟩ := hSw; go_simp; all_goals with_reducible rfl)
  try simp only [Act.put, List.setIfInBounds_toArray, List.set_cons_zero, List.set_cons_succ]
  refine wpHd_take (i := 4) (oi := ?o4) (v := ?v4) ?hi4 (by kernel_rfl) (by kernel_rfl) (fun _ _ _ h => h) (Or.inl ⟨?hw4, ?hy4⟩) hS ?rs4
  case hi4 => (simp only [List.getElem?_toArray, List.getElem?_cons_succ, List.getElem?_cons_zero]; rfl)
  case hw4 => rfl
  case hy4 => (intro w hSw; (try dsimp only at hSw); obtain ⟨t0, t1, t2, t3, t4, t5, t6⟩ := hSw; go_simp; all_goals with_reducible rfl)
  try simp only [Act.put, List.setIfInBounds_toArray, List.set_cons_zero, List.set_cons_succ]
  refine wpHd_take (i := 5) (oi := ?o5) (v := ?v5) ?hi5 (by kernel_rfl) (by kernel_rfl) (fun _ _ _ h => h) (Or.inl ⟨?hw5, ?hy5⟩) hS ?rs5
  case hi5 => (simp only [List.getElem?_toArray, List.getElem?_cons_succ, List.getElem?_cons_zero]; rfl)
  case hw5 => rfl
  case hy5 => (intro w hSw; (try dsimp only at hSw); obtain ⟨t0, t1, t2, t3, t4, t5, t6⟩ := hSw; go_simp; all_goals with_reducible rfl)
  try simp only [Act.put, List.setIfInBounds_toArray, List.set_cons_zero, List.set_cons_succ]
  refine wpHd_step (i := 6) (o := ?o6) ?hi6 (by kernel_rfl) (fun K hK => ?st6)
  case hi6 => (simp only [List.getElem?_toArray, List.getElem?_cons_succ, List.getElem?_cons_zero]; rfl)
  go_simp
  refine (HCP.out _ (HT3.out.later Z0)).mono ?_
  rintro r9 w9 ⟨a9, c9, rfl, htb9, hx9⟩
  have Z1 : Ext w3 w9 := Z0.trans hx9
  have HTB9 := hid htb9
  clear hx9 htb9
  unfold Rw.val
  try go_simp
  refine hK.out _ _ ?_ (fun hS => ?_)
  · exact HSK.out _ (Z1.block HK3.out) (Z1.block HR3.out)
  clear hK K
  try simp only [Act.put, List.setIfInBounds_toArray, List.set_cons_zero, List.set_cons_succ]
  refine wpHd_step (i := 7) (o := ?o7) ?hi7 (by kernel_rfl) (fun K hK => ?st7)
  case hi7 => (simp only [List.getElem?_toArray, List.getElem?_cons_succ, List.getElem?_cons_zero]; rfl)
  go_simp
  refine hK.out _ _ ?_ (fun hS => ?_)
  · exact HSK.out _ ((Z1.more _).block HK3.out) ((Z1.more _).block HR3.out)
  clear hK K
  try simp only [Act.put, List.setIfInBounds_toArray, List.set_cons_zero, List.set_cons_succ]
  refine wpHd_step (i := 8) (o := ?o8) ?hi8 (by kernel_rfl) (fun K hK => ?st8)
  case hi8 => (simp only [List.getElem?_toArray, List.getElem?_cons_succ, List.getElem?_cons_zero]; rfl)
  refine step_ritemW (ty := 37) _ (by rfl) _ _ (by rfl) (by rfl) base w9.heap.size (.slice ao al lc) acc r a9 c9 (by rfl) (by rfl) (Nat.le_trans HB3.out (Nat.le_trans Z1.size (Nat.le_of_lt (lt_of_block (blk0 w9 (.cells (r.cells a9 c9).toArray 37)))))) (HI3.out.later (Z1.trans (Ext.alloc _ _))) (blk0 _ _) (HTB9.out.later (Ext.alloc _ _)) (by have := HL.out; have := HAL.out; omega) ?_
  intro ao5 n5 c5 w5 hit5 hgr5
  have HIT5 := hid hit5
  have HG5 := hid (grown_kp hgr5)
  have HK5 := hid (HG5.out.block' ((Z1.more _).block HK3.out) (fun e => by
    obtain ⟨_, cur, hc⟩ := HI3.out.block e
    rw [HK3.out] at hc
    cases hc))
  have HR5 := hid (show RowAt w5 rb r a c from HG5.out.block' ((Z1.more _).block HR3.out) (fun e => HRB.out e))
  clear hit5 hgr5
  refine hK.out _ _ ?_ (fun hS => ?_)
  · exact HSK.out _ HK5.out HR5.out
  clear hK K
  try simp only [Act.put, List.setIfInBounds_toArray, List.set_cons_zero, List.set_cons_succ]
  refine wpHd_done (by kernel_rfl) 3 rfl ?_
  refine wpAny_row 9 3 rfl (by kernel_rfl) ?_
  clear hS
  have g1 : w5.cell? ⟨kb, 1, none⟩ = some (.slice ao al lc) := cell_of HK5.out rfl
  have g2 : w5.frozen? ⟨kb, 1, none⟩ = false := frozen_of HK5.out
  simp only [List.drop_succ_cons, List.drop_zero]
  go_wp2_with fail
  refine NoPanic.normal ?_
  go_wp2_with fail
  go_ret
  have hkm : kb ≠ mb := fun e => HK.out.map.nocells (e ▸ HK.out.blk)
  have KS := Kp.set w5 kb 1 (.slice ao5 n5 c5) (K := (· ≠ kb)) (fun h => h rfl)
  have hm5 : MapAt w5 mb (al + 1) (kIx (acc ++ [r])) := (HP3.out.later (Z1.more _)).keep HG5.out (fun e => by
    obtain ⟨_, cur, hc⟩ := HI3.out.block e
    exact HP3.out.nocells hc)
  refine ⟨rfl, .slice ao5 n5 c5, ⟨(set_at HK5.out 1 _).trans (by simp), HK.out.kge, HK.out.mge, ?_, ?_⟩, ?_⟩
  · rw [show (acc ++ [r]).length = al + 1 by rw [List.length_append, HAL.out]; rfl]
    exact hm5.keep KS (fun e => hkm e.symm)
  · refine HIT5.out.keep KS (fun q hq e => ?_) (fun q cur hq e => ?_)
    · obtain ⟨_, cur, hc⟩ := HIT5.out.block hq
      rw [e, HK5.out] at hc
      cases hc
    · rw [e, HK5.out] at hq
      cases hq
  · have b1 : Below base w w2.drew.drew := Below.mono (X2.out.trans ((Ext.refl w2).drew).drew) hbw
    have b2 : Below base w2.drew.drew w3 := HKP.out.below (fun q hq e => by have := HK.out.mge; omega) (Nat.le_trans hbw X2.out.size)
    have b3 : Below base w3 _ := Below.mono (Z1.more (.cells #[.string r.kind, .int .i64 r.min, .int .i64 r.max, .bool r.num, .int .i64 r.text, .slice a9 r.abs.length c9] 37)) HB3.out
    have b4 : Below base _ w5 := HG5.out.below (fun q hq e => by
      have := (HK.out.rows.block e).1
      omega) (Nat.le_trans HB3.out (Z1.more (.cells #[.string r.kind, .int .i64 r.min, .int .i64 r.max, .bool r.num, .int .i64 r.text, .slice a9 r.abs.length c9] 37)).size)
    have b5 : Below base w5 _ := KS.below (fun q hq e => by have := HK.out.kge; omega) (Nat.le_trans (Nat.le_trans HB3.out (Z1.more (.cells #[.string r.kind, .int .i64 r.min, .int .i64 r.max, .bool r.num, .int .i64 r.text, .slice a9 r.abs.length c9] 37)).size) HG5.out.size)
    exact (((b1.trans b2).trans b3).trans b4).trans b5


end Go.Proofs.YtaodkfchmaendaaGreatDoor
