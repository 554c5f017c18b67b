/-
  (*Kit).Rows, (*Kit).Row, EqNames and EqRow of rows that are the same: by contracts.
-/
import Derived.Test.YtaodkfchmaendaaGreatDoorKKit
namespace Go.Proofs.YtaodkfchmaendaaGreatDoor
open Go.RowKit
theorem app_ritem {ops : Array Oper} {rest : List Oper} {o : Oper} {ac : Act} {Q : Exit → Act → World → Prop} {ty : TypeId} (w : World) (hgd : o.guard = none) (x y : Operand)
    (ho : o.op = .call { callee := .builtin .append, args := #[x, y], argTypes := #[55, 55] }) (hty : o.type = 55)
    (base g : Nat) (lv : Value) (acc : List Rw) (r : Rw) (a : Option Addr) (c : Nat) (hx : ac.eval x = lv) (hy : ac.eval y = .slice (some ⟨g, 0, none⟩) 1 1) (hB : base ≤ w.heap.size)
    (hit : RItems w base lv acc) (hg : w.heap[g]? = some (.cells (r.cells a c).toArray ty)) (htb : TB w a r.abs) (hlim : acc.length ≤ 2000000)
    (h : ∀ ao c' w', RItems w' base (.slice ao (acc.length + 1) c') (acc ++ [r]) → w.grownBy w' lv.ownBlock → wpList Tryz.prog ops Q rest (ac.put o.dst (.slice ao (acc.length + 1) c')) w') :
    wpList Tryz.prog ops Q (o :: rest) ac w := by
  refine wpList_plain hgd fun K hK => ?_
  obtain ⟨ao, c', w', hr, h2, h3⟩ := run_ritem (ty := ty) base g lv acc r a c hB hit hg htb hlim
  unfold Oper.wp execOp
  rw [List.length_append] at hr h2
  simp only [ho, hty, resolve, invoke, builtin, Sem.run_bind, Sem.run_pure, Result.andThen_ok, List.map_toArray, List.map_cons, List.map_nil, hx, hy, hr]
  exact hK _ _ (h ao c' w' h2 h3)
/-- The rows told so far. -/
def RowsLp (w : World) (acc : List Rw) (j : Nat) (ao : Option Addr) (c : Nat) (wr : World) : Prop := RItems wr w.heap.size (.slice ao j c) (acc.take j) ∧ Ext w wr
/-- What Rows tells. -/
def RowsR (w : World) (acc : List Rw) (e : Ending) (w' : World) : Prop := ∃ ao c, e = .returned (.slice ao acc.length c) ∧ RItems w' w.heap.size (.slice ao acc.length c) acc ∧ Ext w w'
set_option maxRecDepth 100000 in
set_option maxHeartbeats 2000000 in
theorem rows_any {base kb mb : Nat} {nm : ByteArray} {mk lv : Value} {acc : List Rw} (w : World) (h : KitM w base kb mb nm mk lv acc) (hlim : acc.length ≤ 1000) (hab : ∀ r ∈ acc, r.abs.length ≤ 100) : Calls Tryz.prog 23 #[.pointer (some ⟨kb, 0, none⟩)] w (RowsR w acc) := by
  obtain ⟨k0, k1, k2, k3⟩ := h.four
  have HR := hid h.rows
  have HAB := hid hab
  obtain ⟨ao, lc, hlv⟩ := h.rows.shape
  subst hlv
  obtain ⟨n, hne⟩ : ∃ n, acc.length = n := ⟨_, rfl⟩
  have HNE := hid hne
  rw [hne] at hlim HR k1
  have hlim' : (n : Int) ≤ 1000 := by omega
  clear h hne hab
  go_enter Tryz.func23, Tryz.ntmps23
  go_wp2_with fail
  go_loopw [3, 13] (fun q3 q13 wr => ∃ (j : Nat) (ao : Option Addr) (c : Nat), j ≤ n ∧ q13 = .int .i64 j ∧ q3 = .slice ao j c ∧ RowsLp w acc j ao c wr) (fun _ q13 _ => n - (intOf q13).toNat)
  case atStart => exact ⟨0, none, 0, Nat.zero_le _, rfl, rfl, RItems.nil _ _, Ext.refl _⟩
  case round =>
    obtain ⟨j, a2, c2, hj, rfl, rfl, hit, hx⟩ := hrel
    have HIT := hid hit
    have HX := hid hx
    clear hit hx
    by_cases hlt : j < n
    · have hlt' : (j : Int) < n := by omega
      have hjr : j < acc.length := by rw [HNE.out]; exact hlt
      obtain ⟨g, cap, a, c, hlv, ⟨p0, p1, p2, p3, p4, p5⟩, htb⟩ := (HR.out.later HX.out).read j hjr
      obtain ⟨rfl, hnn, rfl⟩ := Value.slice.inj hlv
      clear hnn hlv
      have HTB := hid htb
      have HTK := hid (show acc.take j ++ [acc[j]] = acc.take (j + 1) from (List.take_succ_eq_append_getElem hjr).symm)
      have HLJ := hid (show (acc.take j).length = j by rw [List.length_take]; omega)
      have HRA := hid (HAB.out _ (List.getElem_mem hjr))
      generalize acc[j] = rj at *
      clear htb hjr
      have hgl := lt_of_cell p0
      obtain ⟨M, hM⟩ : ∃ M, wr.alloc (.cells #[.string rj.kind, .int .i64 rj.min, .int .i64 rj.max, .bool rj.num, .int .i64 rj.text, .slice a rj.abs.length c] 37) = M := ⟨_, rfl⟩
      have XM := hid (show Ext wr M from hM ▸ Ext.alloc _ _)
      have HCP := hid (copied_any rj a c M HRA.out (HTB.out.later XM.out))
      unfold Rw.val at HCP
      obtain ⟨z0, z1, z2, z3, z4, z5⟩ := six_of (show RowAt M wr.heap.size rj a c from hM ▸ blk0 _ _)
      go_wp2_with fail
      clear hM
      refine HCP.out.mono ?_
      rintro e w2 ⟨a9, c9, rfl, htb9, hx9⟩
      have Z1 := hid (XM.out.trans hx9)
      have HTB9 := hid htb9
      clear hx9 htb9 z0 z1 z2 z3 z4 z5
      go_wp2_with (at_builtin; refine app_ritem (ty := 37) _ rfl _ _ rfl rfl w.heap.size w2.heap.size (.slice a2 j c2) (acc.take j) rj a9 c9 rfl rfl (Nat.le_trans HX.out.size (Nat.le_trans Z1.out.size (by rw [blkS]; omega))) (HIT.out.later (Z1.out.trans (Ext.alloc _ _))) (blk0 _ _) (HTB9.out.later (Ext.alloc _ _)) (by rw [HLJ.out]; omega) ?_; intro a5 c5 w5 hit5 hgr5; rw [HLJ.out] at hit5 ⊢; have HIT5 := hid hit5; have HG5 := hid (grown_kp hgr5); clear hit5 hgr5)
      go_roundw
      case rel =>
        refine ⟨j + 1, a5, c5, by omega, by go_num, rfl, ?_, ?_⟩
        · rw [← HTK.out]; exact HIT5.out
        · exact Below.trans ((HX.out.trans Z1.out).trans (Ext.alloc _ _)) (HG5.out.below (fun q hq e => by have := (HIT.out.block e).1; omega) (Nat.le_trans HX.out.size (Nat.le_trans Z1.out.size (by rw [blkS]; omega))))
      case measure => simp [intOf]; omega
    · have hje : j = n := by omega
      have hlt2 : decide ((j : Int) < n) = false := decide_eq_false (by omega)
      have hlt3 : ¬ (j : Int) < n := by omega
      have HIF := hid (show RItems wr w.heap.size (.slice a2 acc.length c2) acc by
        have := HIT.out
        rw [List.take_of_length_le (by have := HNE.out; omega)] at this
        rwa [show acc.length = j by have := HNE.out; omega])
      have HJE := hid (show acc.length = j by have := HNE.out; omega)
      clear hje
      go_wp2_with fail
      go_ret
      exact ⟨a2, c2, by rw [HJE.out]; rfl, HIF.out, HX.out⟩
set_option maxRecDepth 100000 in
set_option maxHeartbeats 2000000 in
theorem eqNames_any (a b : Option Addr) (c d : Nat) (xs : List ByteArray) (w : World) (hn : xs.length ≤ 1000) (h1 : TRow w a xs) (h2 : TRow w b xs) : Calls Tryz.prog 31 #[.slice a xs.length c, .slice b xs.length d] w fun e w' => e = .returned (.bool true) ∧ Ext w w' := by
  obtain ⟨n, hne⟩ : ∃ n, xs.length = n := ⟨_, rfl⟩
  have HNE := hid hne
  have H1 := hid h1
  have H2 := hid h2
  rw [hne] at hn ⊢
  have hn' : (n : Int) ≤ 1000 := by omega
  clear h1 h2 hne
  go_enter Tryz.func31, Tryz.ntmps31
  go_wp2_with fail
  go_loopw [5] (fun q5 wr => ∃ j : Nat, j ≤ n ∧ q5 = .int .i64 j ∧ Ext w wr) (fun q5 _ => n - (intOf q5).toNat)
  case atStart => exact ⟨0, Nat.zero_le _, rfl, Ext.refl _⟩
  case round =>
    obtain ⟨j, hj, rfl, hx⟩ := hrel
    have HX := hid hx
    clear hx
    by_cases hlt : j < n
    · have hlt' : (j : Int) < n := by omega
      have hjx : j < xs.length := by rw [HNE.out]; exact hlt
      rcases H1.out.later HX.out with e0 | ⟨g1, o1, rfl, hc1⟩
      · rw [e0] at hjx; exact absurd hjx (Nat.not_lt_zero _)
      rcases H2.out.later HX.out with e0 | ⟨g2, o2, rfl, hc2⟩
      · rw [e0] at hjx; exact absurd hjx (Nat.not_lt_zero _)
      have p1 := hc1 j hjx
      have p2 := hc2 j hjx
      have hse := str_eqb xs[j] xs[j]
      rw [decide_eq_true rfl] at hse
      generalize xs[j] = x at *
      have hse2 : (x.toList != x.toList) = false := by unfold bne; rw [hse]; rfl
      clear hc1 hc2 hjx
      go_wp2_with fail
      go_region
      go_wp2_with fail
      go_roundw
      case rel => exact ⟨j + 1, by omega, by go_num, HX.out.drew⟩
      case measure => simp [intOf]; omega
    · have hlt2 : decide ((j : Int) < n) = false := decide_eq_false (by omega)
      have hlt3 : ¬ (j : Int) < n := by omega
      go_wp2_with fail
      go_ret
      exact ⟨rfl, HX.out⟩
/-- What Row tells. -/
def RowR (w : World) (r : Rw) (e : Ending) (w' : World) : Prop := ∃ a c, e = .returned (.tuple #[r.val a c, .bool true]) ∧ TB w' a r.abs ∧ Ext w w'
set_option maxRecDepth 100000 in
set_option maxHeartbeats 2000000 in
theorem row_any {base kb mb : Nat} {nm : ByteArray} {mk lv : Value} {acc : List Rw} (w : World) (h : KitM w base kb mb nm mk lv acc) (kind : ByteArray) (hks : kind.size ≤ 4000) (j : Nat) (hj : j < acc.length) (hix : kIx acc kind = some j) (hab : acc[j].abs.length ≤ 100) : Calls Tryz.prog 12 #[.pointer (some ⟨kb, 0, none⟩), .string kind] w (RowR w acc[j]) := by
  obtain ⟨M, hM⟩ : ∃ M, w.alloc (.cells #[.string ⟨#[]⟩, .int .i64 0, .int .i64 0, .bool false, .int .i64 0, .slice none 0 0] 37) = M := ⟨_, rfl⟩
  have XM := hid (show Ext w M from hM ▸ Ext.alloc _ _)
  have HM0 := hid (show M.heap[w.heap.size]? = some (.cells #[.string ⟨#[]⟩, .int .i64 0, .int .i64 0, .bool false, .int .i64 0, .slice none 0 0] 37) from hM ▸ blk0 _ _)
  have HK := hid (h.later XM.out)
  obtain ⟨k0, k1, k2, k3⟩ := HK.out.four
  have hl := HK.out.map.look kind (by omega)
  rw [hix] at hl
  have hl' : (Instr.lookup 83 (.map (some mb)) (.string kind) true).run Tryz.prog M = .ok (.tuple #[.int .i64 (j : Int), .bool true]) M := hl
  obtain ⟨g, cap, a, c, hlv, ⟨p0, p1, p2, p3, p4, p5⟩, htb⟩ := HK.out.rows.read j hj
  subst hlv
  have HTB := hid htb
  have HCP := hid (copied_any acc[j] a c M hab htb)
  unfold Rw.val at HCP
  have hj1 : (j : Int) < acc.length := by omega
  have HP := hid (show ∀ (e : Ending) (w' : World), RowR w acc[j] e w' ↔ ∃ a c, e = .returned (.tuple #[acc[j].val a c, .bool true]) ∧ TB w' a acc[j].abs ∧ Ext w w' from fun _ _ => Iff.rfl)
  clear h hl htb hix hab
  obtain ⟨n, hn⟩ : ∃ n, acc.length = n := ⟨_, rfl⟩
  rw [hn] at hj1 k1
  clear HK
  generalize acc[j] = rj at *
  clear hj hn
  obtain ⟨f0, f1, f2, f3, f4, f5⟩ : True ∧ True ∧ True ∧ True ∧ True ∧ True := ⟨trivial, trivial, trivial, trivial, trivial, trivial⟩
  go_enter Tryz.func12, Tryz.ntmps12
  go_wp2_with fail
  clear hM
  refine HCP.out.mono ?_
  rintro e w2 ⟨a9, c9, rfl, htb9, hx9⟩
  have HTB9 := hid htb9
  have B1 := hid (hx9.block HM0.out)
  have X2 := hid (XM.out.trans hx9)
  obtain ⟨x0, x1, x2, x3, x4, x5⟩ := six_of B1.out
  obtain ⟨f0, f1, f2, f3, f4, f5⟩ : w2.frozen? ⟨w.heap.size, 0, none⟩ = false ∧ w2.frozen? ⟨w.heap.size, 1, none⟩ = false ∧ w2.frozen? ⟨w.heap.size, 2, none⟩ = false ∧ w2.frozen? ⟨w.heap.size, 3, none⟩ = false ∧ w2.frozen? ⟨w.heap.size, 4, none⟩ = false ∧ w2.frozen? ⟨w.heap.size, 5, none⟩ = false := ⟨frozen_of B1.out, frozen_of B1.out, frozen_of B1.out, frozen_of B1.out, frozen_of B1.out, frozen_of B1.out⟩
  clear hx9 htb9
  go_wp2_with fail
  obtain ⟨q0, q1, q2, q3, q4, q5⟩ := six_of (six_set (u0 := .string rj.kind) (u1 := .int .i64 rj.min) (u2 := .int .i64 rj.max) (u3 := .bool rj.num) (u4 := .int .i64 rj.text) (u5 := .slice a9 rj.abs.length c9) B1.out)
  refine bodyPost_ret (v := .tuple #[.agg #[.string rj.kind, .int .i64 rj.min, .int .i64 rj.max, .bool rj.num, .int .i64 rj.text, .slice a9 rj.abs.length c9], .bool true]) (by simp [results, Tryz.results12, go_sem, q0, q1, q2, q3, q4, q5]) rfl ?_
  have K1 := Kp.set6 w2 w.heap.size (.string rj.kind) (.int .i64 rj.min) (.int .i64 rj.max) (.bool rj.num) (.int .i64 rj.text) (.slice a9 rj.abs.length c9)
  refine ⟨a9, c9, rfl, HTB9.out.keep K1 (fun q cur hq e => ?_), Kp.extOf X2.out K1 (Nat.le_refl _)⟩
  rw [e, B1.out] at hq
  cases hq
end Go.Proofs.YtaodkfchmaendaaGreatDoor
