/-
  (*Kit).Rows, (*Kit).Row, EqNames and EqRow of rows that are the same: by contracts.
-/
import Derived.Test.YtgpggkepgoelfaaGreatDoorKName
import Derived.Deep.RegionHeld3
namespace Go.Proofs.YtgpggkepgoelfaaGreatDoor
open Go.RowKit
theorem app_ritem {ops : Array Oper} {rest : List Oper} {o : Oper} {ac : Act} {Q : Exit → Act → World → Prop} {ty : TypeId} (w : World) (hgd : o.guard = none) (x y : Operand)
    (ho : o.op = .call { callee := .builtin .append, args := #[x, y], argTypes := #[43, 43] }) (hty : o.type = 43)
    (base g : Nat) (lv : Value) (acc : List Rw) (r : Rw) (a : Option Addr) (c : Nat) (hx : ac.eval x = lv) (hy : ac.eval y = .slice (some ⟨g, 0, none⟩) 1 1) (hB : base ≤ w.heap.size)
    (hit : RItems w base lv acc) (hg : w.heap[g]? = some (.cells (r.cells a c).toArray ty)) (htb : TB w a r.abs) (hlim : acc.length ≤ 2000000)
    (h : ∀ ao c' w', RItems w' base (.slice ao (acc.length + 1) c') (acc ++ [r]) → w.grownBy w' lv.ownBlock → wpList Tryz.prog ops Q rest (ac.put o.dst (.slice ao (acc.length + 1) c')) w') :
    wpList Tryz.prog ops Q (o :: rest) ac w := by
  refine wpList_plain hgd fun K hK => ?_
  obtain ⟨ao, c', w', hr, h2, h3⟩ := run_ritem (ty := ty) base g lv acc r a c hB hit hg htb hlim
  unfold Oper.wp execOp
  rw [List.length_append] at hr h2
  simp only [ho, hty, resolve, invoke, builtin, Sem.run_bind, Sem.run_pure, Result.andThen_ok, List.map_toArray, List.map_cons, List.map_nil, hx, hy, hr]
  exact hK _ _ (h ao c' w' h2 h3)
/-- The rows told so far. -/
def RowsLp (w : World) (acc : List Rw) (j : Nat) (ao : Option Addr) (c : Nat) (wr : World) : Prop := RItems wr w.heap.size (.slice ao j c) (acc.take j) ∧ Ext w wr
/-- What Rows tells. -/
def RowsR (w : World) (acc : List Rw) (e : Ending) (w' : World) : Prop := ∃ ao c, e = .returned (.slice ao acc.length c) ∧ RItems w' w.heap.size (.slice ao acc.length c) acc ∧ Ext w w'
set_option maxRecDepth 100000 in
set_option maxHeartbeats 2000000 in
theorem rows_any {base kb mb : Nat} {nm : ByteArray} {mk lv : Value} {acc : List Rw} (w : World) (h : KitM w base kb mb nm mk lv acc) (hlim : acc.length ≤ 1000) (hab : ∀ r ∈ acc, r.abs.length ≤ 100) : Calls Tryz.prog 39 #[.pointer (some ⟨kb, 0, none⟩)] w (RowsR w acc) := by
  obtain ⟨k0, k1, k2, k3⟩ := h.four
  have HR := hid h.rows
  have HAB := hid hab
  obtain ⟨ao, lc, hlv⟩ := h.rows.shape
  subst hlv
  obtain ⟨n, hne⟩ : ∃ n, acc.length = n := ⟨_, rfl⟩
  have HNE := hid hne
  rw [hne] at hlim HR k1
  have hlim' : (n : Int) ≤ 1000 := by omega
  clear h hne hab
  go_enter Tryz.func39, Tryz.ntmps39
  go_wp2_with fail
  go_loopw [3, 13] (fun q3 q13 wr => ∃ (j : Nat) (ao : Option Addr) (c : Nat), j ≤ n ∧ q13 = .int .i64 j ∧ q3 = .slice ao j c ∧ RowsLp w acc j ao c wr) (fun _ q13 _ => n - (intOf q13).toNat)
  case atStart => exact ⟨0, none, 0, Nat.zero_le _, rfl, rfl, RItems.nil _ _, Ext.refl _⟩
  case round =>
    obtain ⟨j, a2, c2, hj, rfl, rfl, hit, hx⟩ := hrel
    have HIT := hid hit
    have HX := hid hx
    clear hit hx
    by_cases hlt : j < n
    · have hlt' : (j : Int) < n := by omega
      have hjr : j < acc.length := by rw [HNE.out]; exact hlt
      obtain ⟨g, cap, a, c, hlv, ⟨p0, p1, p2, p3, p4, p5⟩, htb⟩ := (HR.out.later HX.out).read j hjr
      obtain ⟨rfl, hnn, rfl⟩ := Value.slice.inj hlv
      clear hnn hlv
      have HTB := hid htb
      have HTK := hid (show acc.take j ++ [acc[j]] = acc.take (j + 1) from (List.take_succ_eq_append_getElem hjr).symm)
      have HLJ := hid (show (acc.take j).length = j by rw [List.length_take]; omega)
      have HRA := hid (HAB.out _ (List.getElem_mem hjr))
      generalize acc[j] = rj at *
      clear htb hjr
      have hgl := lt_of_cell p0
      obtain ⟨M, hM⟩ : ∃ M, wr.alloc (.cells #[.string rj.kind, .int .i64 rj.min, .int .i64 rj.max, .bool rj.num, .int .i64 rj.text, .slice a rj.abs.length c] 76) = M := ⟨_, rfl⟩
      have XM := hid (show Ext wr M from hM ▸ Ext.alloc _ _)
      have HCP := hid (copied_any rj a c M HRA.out (HTB.out.later XM.out))
      unfold Rw.val at HCP
      obtain ⟨z0, z1, z2, z3, z4, z5⟩ := six_of (show RowAt M wr.heap.size rj a c from hM ▸ blk0 _ _)
      go_wp2_with fail
      clear hM
      refine HCP.out.mono ?_
      rintro e w2 ⟨a9, c9, rfl, htb9, hx9⟩
      have Z1 := hid (XM.out.trans hx9)
      have HTB9 := hid htb9
      clear hx9 htb9 z0 z1 z2 z3 z4 z5
      go_wp2_with (at_builtin; refine app_ritem (ty := 76) _ rfl _ _ rfl rfl w.heap.size w2.heap.size (.slice a2 j c2) (acc.take j) rj a9 c9 rfl rfl (Nat.le_trans HX.out.size (Nat.le_trans Z1.out.size (by rw [blkS]; omega))) (HIT.out.later (Z1.out.trans (Ext.alloc _ _))) (blk0 _ _) (HTB9.out.later (Ext.alloc _ _)) (by rw [HLJ.out]; omega) ?_; intro a5 c5 w5 hit5 hgr5; rw [HLJ.out] at hit5 ⊢; have HIT5 := hid hit5; have HG5 := hid (grown_kp hgr5); clear hit5 hgr5)
      go_roundw
      case rel =>
        refine ⟨j + 1, a5, c5, by omega, by go_num, rfl, ?_, ?_⟩
        · rw [← HTK.out]; exact HIT5.out
        · exact Below.trans ((HX.out.trans Z1.out).trans (Ext.alloc _ _)) (HG5.out.below (fun q hq e => by have := (HIT.out.block e).1; omega) (Nat.le_trans HX.out.size (Nat.le_trans Z1.out.size (by rw [blkS]; omega))))
      case measure => simp [intOf]; omega
    · have hje : j = n := by omega
      have hlt2 : decide ((j : Int) < n) = false := decide_eq_false (by omega)
      have hlt3 : ¬ (j : Int) < n := by omega
      have HIF := hid (show RItems wr w.heap.size (.slice a2 acc.length c2) acc by
        have := HIT.out
        rw [List.take_of_length_le (by have := HNE.out; omega)] at this
        rwa [show acc.length = j by have := HNE.out; omega])
      have HJE := hid (show acc.length = j by have := HNE.out; omega)
      clear hje
      go_wp2_with fail
      go_ret
      exact ⟨a2, c2, by rw [HJE.out]; rfl, HIF.out, HX.out⟩
set_option maxRecDepth 100000 in
set_option maxHeartbeats 2000000 in
theorem eqNames_any (a b : Option Addr) (c d : Nat) (xs : List ByteArray) (w : World) (hn : xs.length ≤ 1000) (h1 : TRow w a xs) (h2 : TRow w b xs) : Calls Tryz.prog 82 #[.slice a xs.length c, .slice b xs.length d] w fun e w' => e = .returned (.bool true) ∧ Ext w w' := by
  obtain ⟨n, hne⟩ : ∃ n, xs.length = n := ⟨_, rfl⟩
  have HNE := hid hne
  have H1 := hid h1
  have H2 := hid h2
  rw [hne] at hn ⊢
  have hn' : (n : Int) ≤ 1000 := by omega
  clear h1 h2 hne
  go_enter Tryz.func82, Tryz.ntmps82
  go_wp2_with fail
  go_loopw [5] (fun q5 wr => ∃ j : Nat, j ≤ n ∧ q5 = .int .i64 j ∧ Ext w wr) (fun q5 _ => n - (intOf q5).toNat)
  case atStart => exact ⟨0, Nat.zero_le _, rfl, Ext.refl _⟩
  case round =>
    obtain ⟨j, hj, rfl, hx⟩ := hrel
    have HX := hid hx
    clear hx
    by_cases hlt : j < n
    · have hlt' : (j : Int) < n := by omega
      have hjx : j < xs.length := by rw [HNE.out]; exact hlt
      rcases H1.out.later HX.out with e0 | ⟨g1, o1, rfl, hc1⟩
      · rw [e0] at hjx; exact absurd hjx (Nat.not_lt_zero _)
      rcases H2.out.later HX.out with e0 | ⟨g2, o2, rfl, hc2⟩
      · rw [e0] at hjx; exact absurd hjx (Nat.not_lt_zero _)
      have p1 := hc1 j hjx
      have p2 := hc2 j hjx
      have hse := str_eqb xs[j] xs[j]
      rw [decide_eq_true rfl] at hse
      generalize xs[j] = x at *
      have hse2 : (x.toList != x.toList) = false := by unfold bne; rw [hse]; rfl
      clear hc1 hc2 hjx
      go_wp2_with fail
      go_region
      go_wp2_with fail
      go_roundw
      case rel => exact ⟨j + 1, by omega, by go_num, HX.out.drew⟩
      case measure => simp [intOf]; omega
    · have hlt2 : decide ((j : Int) < n) = false := decide_eq_false (by omega)
      have hlt3 : ¬ (j : Int) < n := by omega
      go_wp2_with fail
      go_ret
      exact ⟨rfl, HX.out⟩
set_option maxRecDepth 100000 in
set_option maxHeartbeats 2000000 in
theorem eqRow_any (r : Rw) (a b : Option Addr) (c d : Nat) (w : World) (hn : r.abs.length ≤ 100) (h1 : TB w a r.abs) (h2 : TB w b r.abs) : Calls Tryz.prog 41 #[r.val a c, r.val b d] w fun e w' => e = .returned (.bool true) ∧ Ext w w' := by
  have HE := hid (fun w1 (hx : Ext w w1) => eqNames_any a b c d r.abs w1 (by omega) (h1.later hx).row (h2.later hx).row)
  unfold Rw.val
  obtain ⟨k, mn, mx, nm, tx, abs⟩ := r
  dsimp only at *
  generalize abs.length = l at *
  clear h1 h2 hn
  have hse := str_eqb k k
  rw [decide_eq_true rfl] at hse
  obtain ⟨M, hM⟩ : ∃ M, (w.alloc (.cells #[.string k, .int .i64 mn, .int .i64 mx, .bool nm, .int .i64 tx, .slice a l c] 76)).alloc (.cells #[.string k, .int .i64 mn, .int .i64 mx, .bool nm, .int .i64 tx, .slice b l d] 76) = M := ⟨_, rfl⟩
  have XM := hid (show Ext w M from hM ▸ Ext.alloc2 _ _ _)
  obtain ⟨z0, z1, z2, z3, z4, z5⟩ := six_of (show M.heap[w.heap.size]? = some (.cells #[.string k, .int .i64 mn, .int .i64 mx, .bool nm, .int .i64 tx, .slice a l c] 76) from hM ▸ blkOld _ (blk0 _ _))
  obtain ⟨y0, y1, y2, y3, y4, y5⟩ := six_of (show M.heap[w.heap.size + 1]? = some (.cells #[.string k, .int .i64 mn, .int .i64 mx, .bool nm, .int .i64 tx, .slice b l d] 76) from hM ▸ blk1 _ _ _)
  go_enter Tryz.func41, Tryz.ntmps41
  go_wp2_with fail
  clear hM
  refine (HE.out _ XM.out).mono ?_
  rintro e w1 ⟨rfl, hx1⟩
  have X1 := hid (XM.out.trans hx1)
  clear hx1
  go_wp2_with fail
  go_ret
  exact ⟨rfl, X1.out⟩
/-- What Row tells. -/
def RowR (w : World) (r : Rw) (e : Ending) (w' : World) : Prop := ∃ a c, e = .returned (.tuple #[r.val a c, .bool true]) ∧ TB w' a r.abs ∧ Ext w w'
set_option maxRecDepth 100000 in
set_option maxHeartbeats 2000000 in
theorem row_any {base kb mb : Nat} {nm : ByteArray} {mk lv : Value} {acc : List Rw} (w : World) (h : KitM w base kb mb nm mk lv acc) (kind : ByteArray) (hks : kind.size ≤ 4000) (j : Nat) (hj : j < acc.length) (hix : kIx acc kind = some j) (hab : acc[j].abs.length ≤ 100) : Calls Tryz.prog 40 #[.pointer (some ⟨kb, 0, none⟩), .string kind] w (RowR w acc[j]) := by
  obtain ⟨M, hM⟩ : ∃ M, w.alloc (.cells #[.string ⟨#[]⟩, .int .i64 0, .int .i64 0, .bool false, .int .i64 0, .slice none 0 0] 76) = M := ⟨_, rfl⟩
  have XM := hid (show Ext w M from hM ▸ Ext.alloc _ _)
  have HM0 := hid (show M.heap[w.heap.size]? = some (.cells #[.string ⟨#[]⟩, .int .i64 0, .int .i64 0, .bool false, .int .i64 0, .slice none 0 0] 76) from hM ▸ blk0 _ _)
  have HK := hid (h.later XM.out)
  obtain ⟨k0, k1, k2, k3⟩ := HK.out.four
  have hl := HK.out.map.look kind (by omega)
  rw [hix] at hl
  have hl' : (Instr.lookup 92 (.map (some mb)) (.string kind) true).run Tryz.prog M = .ok (.tuple #[.int .i64 (j : Int), .bool true]) M := hl
  obtain ⟨g, cap, a, c, hlv, ⟨p0, p1, p2, p3, p4, p5⟩, htb⟩ := HK.out.rows.read j hj
  subst hlv
  have HTB := hid htb
  have HCP := hid (copied_any acc[j] a c M hab htb)
  unfold Rw.val at HCP
  have hj1 : (j : Int) < acc.length := by omega
  have HP := hid (show ∀ (e : Ending) (w' : World), RowR w acc[j] e w' ↔ ∃ a c, e = .returned (.tuple #[acc[j].val a c, .bool true]) ∧ TB w' a acc[j].abs ∧ Ext w w' from fun _ _ => Iff.rfl)
  clear h hl htb hix hab
  obtain ⟨n, hn⟩ : ∃ n, acc.length = n := ⟨_, rfl⟩
  rw [hn] at hj1 k1
  clear HK
  generalize acc[j] = rj at *
  clear hj hn
  obtain ⟨f0, f1, f2, f3, f4, f5⟩ : True ∧ True ∧ True ∧ True ∧ True ∧ True := ⟨trivial, trivial, trivial, trivial, trivial, trivial⟩
  go_enter Tryz.func40, Tryz.ntmps40
  go_wp2_with fail
  clear hM
  refine HCP.out.mono ?_
  rintro e w2 ⟨a9, c9, rfl, htb9, hx9⟩
  have HTB9 := hid htb9
  have B1 := hid (hx9.block HM0.out)
  have X2 := hid (XM.out.trans hx9)
  obtain ⟨x0, x1, x2, x3, x4, x5⟩ := six_of B1.out
  obtain ⟨f0, f1, f2, f3, f4, f5⟩ : w2.frozen? ⟨w.heap.size, 0, none⟩ = false ∧ w2.frozen? ⟨w.heap.size, 1, none⟩ = false ∧ w2.frozen? ⟨w.heap.size, 2, none⟩ = false ∧ w2.frozen? ⟨w.heap.size, 3, none⟩ = false ∧ w2.frozen? ⟨w.heap.size, 4, none⟩ = false ∧ w2.frozen? ⟨w.heap.size, 5, none⟩ = false := ⟨frozen_of B1.out, frozen_of B1.out, frozen_of B1.out, frozen_of B1.out, frozen_of B1.out, frozen_of B1.out⟩
  clear hx9 htb9
  go_wp2_with fail
  obtain ⟨q0, q1, q2, q3, q4, q5⟩ := six_of (six_set (u0 := .string rj.kind) (u1 := .int .i64 rj.min) (u2 := .int .i64 rj.max) (u3 := .bool rj.num) (u4 := .int .i64 rj.text) (u5 := .slice a9 rj.abs.length c9) B1.out)
  refine bodyPost_ret (v := .tuple #[.agg #[.string rj.kind, .int .i64 rj.min, .int .i64 rj.max, .bool rj.num, .int .i64 rj.text, .slice a9 rj.abs.length c9], .bool true]) (by simp [results, Tryz.results40, go_sem, q0, q1, q2, q3, q4, q5]) rfl ?_
  have K1 := Kp.set6 w2 w.heap.size (.string rj.kind) (.int .i64 rj.min) (.int .i64 rj.max) (.bool rj.num) (.int .i64 rj.text) (.slice a9 rj.abs.length c9)
  refine ⟨a9, c9, rfl, HTB9.out.keep K1 (fun q cur hq e => ?_), Kp.extOf X2.out K1 (Nat.le_refl _)⟩
  rw [e, B1.out] at hq
  cases hq
end Go.Proofs.YtgpggkepgoelfaaGreatDoor
/-
  espalierlaw8.Rows of a kit and the rows that it bears, in general.
-/
namespace Go.Proofs.YtgpggkepgoelfaaGreatDoor
open Go.RowKit
/-- A block of rows, new and full. -/
theorem ritems_new {w : World} {base g n : Nat} {cur : Array Value} {acc : List Rw} (hn : acc.length = n) (hb : base ≤ g) (hg : w.heap[g]? = some (.cells cur 76)) (hs : cur.size = n * 6) (hlim : n ≤ 1000) (hall : ∀ j, (h : j < acc.length) → ∃ a c, RAt cur.toList (j * 6) acc[j] a c ∧ TB w a acc[j].abs) : RItems w base (.slice (some ⟨g, 0, none⟩) n n) acc := by
  subst hn
  refine ⟨cur.toList, ⟨by simpa using hs, .inr ⟨g, acc.length, cur, rfl, hb, hg, Nat.le_refl _, ?_, hs, ?_⟩⟩, hall⟩
  · unfold maxLen; omega
  · exact List.take_of_length_le (Nat.le_of_eq (by simpa using hs))
theorem tb_new {w : World} {g : Nat} {cur : Array Value} {xs : List ByteArray} (hb : w.heap[g]? = some (.cells cur 9)) (h : cur = (xs.map Value.string).toArray) : TB w (some ⟨g, 0, none⟩) xs := by
  subst h
  exact .inr ⟨g, _, rfl, hb, fun j hj => by simp [hj]⟩
set_option maxRecDepth 100000 in
set_option maxHeartbeats 4000000 in
theorem lawRows_any {base base2 kb mb : Nat} {nm : ByteArray} {mk lv : Value} {acc : List Rw} (ao : Option Addr) (cw : Nat) (w : World) (h : KitM w base kb mb nm mk lv acc) (hlim : acc.length ≤ 1000) (hab : ∀ r ∈ acc, r.abs.length ≤ 100) (hks : ∀ r ∈ acc, r.kind.size ≤ 4000)
    (hix : ∀ j, (hj : j < acc.length) → kIx acc acc[j].kind = some j) (hw : RItems w base2 (.slice ao acc.length cw) acc) : Calls Tryz.prog 16 #[.pointer (some ⟨kb, 0, none⟩), .string nm, .slice ao acc.length cw] w fun e w' => e = .returned (.bool true) ∧ Ext w w' := by
  have HK := hid h
  have HW := hid hw
  have HAB := hid hab
  have HKS := hid hks
  have HIX := hid hix
  have HNM := hid (name_any h)
  have HRS := hid (rows_any w h hlim hab)
  have hse := str_eqb nm nm
  rw [decide_eq_true rfl] at hse
  obtain ⟨n, hne⟩ : ∃ n, acc.length = n := ⟨_, rfl⟩
  have HNE := hid hne
  have hlim' : (n : Int) ≤ 1000 := by omega
  rw [hne] at HW ⊢
  clear h hw hab hks hix hlim hne
  go_enter Tryz.func16, Tryz.ntmps16
  go_wp2_with fail
  refine HNM.out.mono ?_
  rintro e w0 ⟨rfl, rfl⟩
  go_wp2_with fail
  refine HRS.out.mono ?_
  rintro e w1 ⟨a1, c1, rfl, hit1, hx1⟩
  have X1 := hid hx1
  have HIT := hid hit1
  rw [HNE.out] at HIT ⊢
  clear hit1 hx1
  go_wp2_with fail
  go_loopw [8] (fun q8 wr => ∃ j : Nat, j ≤ n ∧ q8 = .int .i64 j ∧ Ext w1 wr) (fun q8 _ => n - (intOf q8).toNat)
  case atStart => exact ⟨0, Nat.zero_le _, rfl, Ext.refl _⟩
  case round =>
    obtain ⟨j, hj, rfl, hx⟩ := hrel
    have HX := hid hx
    clear hx
    by_cases hlt : j < n
    · have hlt' : (j : Int) < n := by omega
      have hjr : j < acc.length := by rw [HNE.out]; exact hlt
      have HRW := hid (row_any wr (HK.out.later (X1.out.trans HX.out)) acc[j].kind (HKS.out _ (List.getElem_mem hjr)) j hjr (HIX.out j hjr) (HAB.out _ (List.getElem_mem hjr)))
      have HRA := hid (HAB.out _ (List.getElem_mem hjr))
      obtain ⟨g, cap, a, c, hlv, hg6, htb⟩ := (HIT.out.later HX.out).read j hjr
      obtain ⟨g2, cap2, a2, c2, hlv2, hh6, htb2⟩ := (HW.out.later (X1.out.trans HX.out)).read j hjr
      obtain ⟨rfl, hnn, rfl⟩ := Value.slice.inj hlv
      obtain ⟨rfl, hnn2, rfl⟩ := Value.slice.inj hlv2
      clear hnn hnn2 hlv hlv2
      have HT1 := hid htb
      have HT2 := hid htb2
      generalize acc[j] = rj at *
      clear htb htb2 hjr
      have HG6 := hid hg6
      have HH6 := hid hh6
      obtain ⟨y0, y1, y2, y3, y4, y5⟩ := hh6
      clear hg6
      go_wp2_with fail
      refine HRW.out.mono ?_
      rintro e w2 ⟨a9, c9, rfl, htb9, hx9⟩
      unfold Rw.val
      obtain ⟨M, hM⟩ : ∃ M, w2.alloc (.cells #[.string rj.kind, .int .i64 rj.min, .int .i64 rj.max, .bool rj.num, .int .i64 rj.text, .slice a9 rj.abs.length c9] 76) = M := ⟨_, rfl⟩
      have XM := hid (show Ext wr M from hM ▸ hx9.trans (Ext.alloc _ _))
      have HB := hid (show M.heap[w2.heap.size]? = some (.cells #[.string rj.kind, .int .i64 rj.min, .int .i64 rj.max, .bool rj.num, .int .i64 rj.text, .slice a9 rj.abs.length c9] 76) from hM ▸ blk0 _ _)
      have HE1 := hid (fun (W' : World) (X : Ext M W') => eqRow_any rj a a2 c c2 W' HRA.out (HT1.out.later (XM.out.trans X)) (HT2.out.later (XM.out.trans X)))
      have HE2 := hid (fun (W' : World) (X : Ext M W') => eqRow_any rj a9 a2 c9 c2 W' HRA.out (htb9.later (show Ext w2 W' from (hM ▸ Ext.alloc _ _ : Ext w2 M).trans X)) (HT2.out.later (XM.out.trans X)))
      unfold Rw.val at HE1 HE2
      clear htb9 hx9 y0 y1 y2 y3 y4 y5
      obtain ⟨k0, k1, k2, k3, k4, kabs⟩ := rj
      dsimp only at *
      generalize kabs.length = kl at *
      have HSK := hid (show ∀ W', Ext M W' → (W'.cell? ⟨g, j * 6, none⟩ = some (.string k0) ∧ W'.cell? ⟨g, j * 6 + 1, none⟩ = some (.int .i64 k1) ∧ W'.cell? ⟨g, j * 6 + 2, none⟩ = some (.int .i64 k2) ∧ W'.cell? ⟨g, j * 6 + 3, none⟩ = some (.bool k3) ∧ W'.cell? ⟨g, j * 6 + 4, none⟩ = some (.int .i64 k4) ∧ W'.cell? ⟨g, j * 6 + 5, none⟩ = some (.slice a kl c) ∧ W'.cell? ⟨g2, j * 6, none⟩ = some (.string k0) ∧ W'.cell? ⟨g2, j * 6 + 1, none⟩ = some (.int .i64 k1) ∧ W'.cell? ⟨g2, j * 6 + 2, none⟩ = some (.int .i64 k2) ∧ W'.cell? ⟨g2, j * 6 + 3, none⟩ = some (.bool k3) ∧ W'.cell? ⟨g2, j * 6 + 4, none⟩ = some (.int .i64 k4) ∧ W'.cell? ⟨g2, j * 6 + 5, none⟩ = some (.slice a2 kl c2) ∧ W'.cell? ⟨w2.heap.size, 0, none⟩ = some (.string k0) ∧ W'.cell? ⟨w2.heap.size, 1, none⟩ = some (.int .i64 k1) ∧ W'.cell? ⟨w2.heap.size, 2, none⟩ = some (.int .i64 k2) ∧ W'.cell? ⟨w2.heap.size, 3, none⟩ = some (.bool k3) ∧ W'.cell? ⟨w2.heap.size, 4, none⟩ = some (.int .i64 k4) ∧ W'.cell? ⟨w2.heap.size, 5, none⟩ = some (.slice a9 kl c9)) from fun W' X => by
        obtain ⟨p0, p1, p2, p3, p4, p5⟩ := HG6.out
        obtain ⟨q0, q1, q2, q3, q4, q5⟩ := HH6.out
        obtain ⟨s0, s1, s2, s3, s4, s5⟩ := six_of (X.block HB.out)
        have Y : ∀ {x : Addr} {v : Value}, wr.cell? x = some v → W'.cell? x = some v := fun e => (Below.cell (XM.out.trans X) (lt_of_cell e)).trans e
        exact ⟨Y p0, Y p1, Y p2, Y p3, Y p4, Y p5, Y q0, Y q1, Y q2, Y q3, Y q4, Y q5, s0, s1, s2, s3, s4, s5⟩)
      go_upto_region 10 with fail
      clear hM
      go_cut [64] from 26 to 64 (fun s64 wx => s64 = .bool false ∧ Ext M wx)
      case first =>
        go_region_held3 (fun W' => W'.cell? ⟨g, j * 6, none⟩ = some (.string k0) ∧ W'.cell? ⟨g, j * 6 + 1, none⟩ = some (.int .i64 k1) ∧ W'.cell? ⟨g, j * 6 + 2, none⟩ = some (.int .i64 k2) ∧ W'.cell? ⟨g, j * 6 + 3, none⟩ = some (.bool k3) ∧ W'.cell? ⟨g, j * 6 + 4, none⟩ = some (.int .i64 k4) ∧ W'.cell? ⟨g, j * 6 + 5, none⟩ = some (.slice a kl c) ∧ W'.cell? ⟨g2, j * 6, none⟩ = some (.string k0) ∧ W'.cell? ⟨g2, j * 6 + 1, none⟩ = some (.int .i64 k1) ∧ W'.cell? ⟨g2, j * 6 + 2, none⟩ = some (.int .i64 k2) ∧ W'.cell? ⟨g2, j * 6 + 3, none⟩ = some (.bool k3) ∧ W'.cell? ⟨g2, j * 6 + 4, none⟩ = some (.int .i64 k4) ∧ W'.cell? ⟨g2, j * 6 + 5, none⟩ = some (.slice a2 kl c2) ∧ W'.cell? ⟨w2.heap.size, 0, none⟩ = some (.string k0) ∧ W'.cell? ⟨w2.heap.size, 1, none⟩ = some (.int .i64 k1) ∧ W'.cell? ⟨w2.heap.size, 2, none⟩ = some (.int .i64 k2) ∧ W'.cell? ⟨w2.heap.size, 3, none⟩ = some (.bool k3) ∧ W'.cell? ⟨w2.heap.size, 4, none⟩ = some (.int .i64 k4) ∧ W'.cell? ⟨w2.heap.size, 5, none⟩ = some (.slice a9 kl c9))
          (first | with_reducible exact HSK.out _ (Ext.refl _) | with_reducible exact HSK.out _ (Ext.refl _).drew | with_reducible exact HSK.out _ Z2 | with_reducible exact HSK.out _ Z1 | go_keep)
          (first
            | (go_at_call 41; with_reducible refine (HE1.out _ (by repeat (first | with_reducible exact Ext.refl _ | with_reducible refine Ext.drew ?_))).mono ?_; rintro r u1 ⟨rfl, hy⟩; have Z1 : Ext M u1 := Ext.trans (by repeat (first | with_reducible exact Ext.refl _ | with_reducible refine Ext.drew ?_)) hy)
            | (go_at_call 41; with_reducible refine (HE2.out _ (by repeat (first | with_reducible exact Z1 | with_reducible refine Ext.drew ?_))).mono ?_; rintro r u2 ⟨rfl, hy⟩; have Z2 : Ext M u2 := Ext.trans (by repeat (first | with_reducible exact Z1 | with_reducible refine Ext.drew ?_)) hy))
        all_goals
          go_wp2_with fail
          go_meet
          case rel => exact ⟨rfl, Z2⟩
      case rest =>
        obtain ⟨rfl, hxc⟩ := hcut
        have XC := hid hxc
        clear hxc
        go_wp2_with fail
        go_roundw
        case rel => exact ⟨j + 1, by omega, by go_num, HX.out.trans (XM.out.trans XC.out)⟩
        case measure => simp [intOf]; omega

    · have hlt2 : decide ((j : Int) < n) = false := decide_eq_false (by omega)
      have hlt3 : ¬ (j : Int) < n := by omega
      go_wp2_with fail
      go_ret
      exact ⟨rfl, X1.out.trans HX.out⟩
end Go.Proofs.YtgpggkepgoelfaaGreatDoor
