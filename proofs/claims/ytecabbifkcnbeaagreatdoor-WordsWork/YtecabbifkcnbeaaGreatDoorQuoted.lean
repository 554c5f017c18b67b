/-
  plain, Plain and Is of the statements' own, each by a contract: of values that are not too great.
-/
import Derived.Test.YtecabbifkcnbeaaGreatDoorKItems
import Derived.Test.YtecabbifkcnbeaaGreatDoorCIn
import Derived.Test.YtecabbifkcnbeaaGreatDoorWord
import Derived.Test.YtecabbifkcnbeaaGreatDoorNumber
namespace Go.Proofs.YtecabbifkcnbeaaGreatDoor
open Go.RowKit
theorem vs_un_un (v : Value) (w : World) : (Instr.typeAssert (.iface 137 v) 29 137 true).run Tryz.prog w = .ok (.tuple #[v, .bool true]) w := by kernel_rfl
theorem vs_un_tu (v : Value) (w : World) : (Instr.typeAssert (.iface 137 v) 29 138 true).run Tryz.prog w = .ok (.tuple #[(.bool false), .bool false]) w := by kernel_rfl
theorem vs_un_in (v : Value) (w : World) : (Instr.typeAssert (.iface 137 v) 29 51 true).run Tryz.prog w = .ok (.tuple #[(.int .i64 0), .bool false]) w := by kernel_rfl
theorem vs_un_tx (v : Value) (w : World) : (Instr.typeAssert (.iface 137 v) 29 98 true).run Tryz.prog w = .ok (.tuple #[(.string ByteArray.empty), .bool false]) w := by kernel_rfl
theorem vs_un_li (v : Value) (w : World) : (Instr.typeAssert (.iface 137 v) 29 139 true).run Tryz.prog w = .ok (.tuple #[(.slice none 0 0), .bool false]) w := by kernel_rfl
theorem vs_tu_un (v : Value) (w : World) : (Instr.typeAssert (.iface 138 v) 29 137 true).run Tryz.prog w = .ok (.tuple #[(.agg #[]), .bool false]) w := by kernel_rfl
theorem vs_tu_tu (v : Value) (w : World) : (Instr.typeAssert (.iface 138 v) 29 138 true).run Tryz.prog w = .ok (.tuple #[v, .bool true]) w := by kernel_rfl
theorem vs_tu_in (v : Value) (w : World) : (Instr.typeAssert (.iface 138 v) 29 51 true).run Tryz.prog w = .ok (.tuple #[(.int .i64 0), .bool false]) w := by kernel_rfl
theorem vs_tu_tx (v : Value) (w : World) : (Instr.typeAssert (.iface 138 v) 29 98 true).run Tryz.prog w = .ok (.tuple #[(.string ByteArray.empty), .bool false]) w := by kernel_rfl
theorem vs_tu_li (v : Value) (w : World) : (Instr.typeAssert (.iface 138 v) 29 139 true).run Tryz.prog w = .ok (.tuple #[(.slice none 0 0), .bool false]) w := by kernel_rfl
theorem vs_in_un (v : Value) (w : World) : (Instr.typeAssert (.iface 51 v) 29 137 true).run Tryz.prog w = .ok (.tuple #[(.agg #[]), .bool false]) w := by kernel_rfl
theorem vs_in_tu (v : Value) (w : World) : (Instr.typeAssert (.iface 51 v) 29 138 true).run Tryz.prog w = .ok (.tuple #[(.bool false), .bool false]) w := by kernel_rfl
theorem vs_in_in (v : Value) (w : World) : (Instr.typeAssert (.iface 51 v) 29 51 true).run Tryz.prog w = .ok (.tuple #[v, .bool true]) w := by kernel_rfl
theorem vs_in_tx (v : Value) (w : World) : (Instr.typeAssert (.iface 51 v) 29 98 true).run Tryz.prog w = .ok (.tuple #[(.string ByteArray.empty), .bool false]) w := by kernel_rfl
theorem vs_in_li (v : Value) (w : World) : (Instr.typeAssert (.iface 51 v) 29 139 true).run Tryz.prog w = .ok (.tuple #[(.slice none 0 0), .bool false]) w := by kernel_rfl
theorem vs_tx_un (v : Value) (w : World) : (Instr.typeAssert (.iface 98 v) 29 137 true).run Tryz.prog w = .ok (.tuple #[(.agg #[]), .bool false]) w := by kernel_rfl
theorem vs_tx_tu (v : Value) (w : World) : (Instr.typeAssert (.iface 98 v) 29 138 true).run Tryz.prog w = .ok (.tuple #[(.bool false), .bool false]) w := by kernel_rfl
theorem vs_tx_in (v : Value) (w : World) : (Instr.typeAssert (.iface 98 v) 29 51 true).run Tryz.prog w = .ok (.tuple #[(.int .i64 0), .bool false]) w := by kernel_rfl
theorem vs_tx_tx (v : Value) (w : World) : (Instr.typeAssert (.iface 98 v) 29 98 true).run Tryz.prog w = .ok (.tuple #[v, .bool true]) w := by kernel_rfl
theorem vs_tx_li (v : Value) (w : World) : (Instr.typeAssert (.iface 98 v) 29 139 true).run Tryz.prog w = .ok (.tuple #[(.slice none 0 0), .bool false]) w := by kernel_rfl
theorem vs_li_un (v : Value) (w : World) : (Instr.typeAssert (.iface 139 v) 29 137 true).run Tryz.prog w = .ok (.tuple #[(.agg #[]), .bool false]) w := by kernel_rfl
theorem vs_li_tu (v : Value) (w : World) : (Instr.typeAssert (.iface 139 v) 29 138 true).run Tryz.prog w = .ok (.tuple #[(.bool false), .bool false]) w := by kernel_rfl
theorem vs_li_in (v : Value) (w : World) : (Instr.typeAssert (.iface 139 v) 29 51 true).run Tryz.prog w = .ok (.tuple #[(.int .i64 0), .bool false]) w := by kernel_rfl
theorem vs_li_tx (v : Value) (w : World) : (Instr.typeAssert (.iface 139 v) 29 98 true).run Tryz.prog w = .ok (.tuple #[(.string ByteArray.empty), .bool false]) w := by kernel_rfl
theorem vs_li_li (v : Value) (w : World) : (Instr.typeAssert (.iface 139 v) 29 139 true).run Tryz.prog w = .ok (.tuple #[v, .bool true]) w := by kernel_rfl
attribute [local go_sem] vs_un_un vs_un_tu vs_un_in vs_un_tx vs_un_li vs_tu_un vs_tu_tu vs_tu_in vs_tu_tx vs_tu_li vs_in_un vs_in_tu vs_in_in vs_in_tx vs_in_li vs_tx_un vs_tx_tu vs_tx_in vs_tx_tx vs_tx_li vs_li_un vs_li_tu vs_li_in vs_li_tx vs_li_li
mutual
/-- How many values a value has in it, itself too. -/
def T.nodes : T → Nat | .node _ _ _ ks => 1 + T.nodesL ks
def T.nodesL : List T → Nat | [] => 0 | t :: r => T.nodes t + T.nodesL r
end
mutual
theorem T.nodes_size : ∀ t : T, T.nodes t ≤ T.size t
  | .node k n x ks => by have := T.nodesL_size ks; simp only [T.nodes, T.size]; omega
theorem T.nodesL_size : ∀ l : List T, T.nodesL l ≤ T.sizeL l
  | [] => by simp [T.nodesL, T.sizeL]
  | t :: r => by have := T.nodes_size t; have := T.nodesL_size r; simp only [T.nodesL, T.sizeL]; omega
end
theorem T.nodesL_append (a b : List T) : T.nodesL (a ++ b) = T.nodesL a + T.nodesL b := by
  induction a with
  | nil => simp [T.nodesL]
  | cons x r ih => simp only [List.cons_append, T.nodesL, ih]; omega
theorem T.nodesL_take (l : List T) (i : Nat) (h : i < l.length) : T.nodesL (l.take (i + 1)) = T.nodesL (l.take i) + T.nodes l[i] := by
  rw [T.take_succ' l i h, T.nodesL_append]; simp [T.nodesL]
theorem T.nodesL_split (l : List T) (i : Nat) : T.nodesL l = T.nodesL (l.take i) + T.nodesL (l.drop i) := by rw [← T.nodesL_append, List.take_append_drop]
theorem T.nodesL_len (a : List T) : a.length ≤ T.nodesL a := by
  induction a with
  | nil => simp [T.nodesL]
  | cons x r ih => obtain ⟨k, n, y, ks⟩ := x; simp only [T.nodesL, T.nodes, List.length_cons]; omega
theorem Kp.under {K : Nat → Prop} {B : Nat} {w w1 w2 : World} (h : Kp K w w1) (hb : Below B w1 w2) (hB : w.heap.size ≤ B := by omega) : Kp K w w2 :=
  ⟨hb.os.trans h.os, hb.tape.trans h.tape, hb.output.trans h.output, Nat.le_trans h.size hb.size, fun i hi hK => (Below.block hb i (Nat.lt_of_lt_of_le hi hB)).trans (h.block i hi hK)⟩
theorem Kp.setNew {K : Nat → Prop} {a b : World} (h : Kp K a b) (g i : Nat) (v : Value) (hg : a.heap.size ≤ g := by omega) : Kp K a (b.setCell ⟨g, i, none⟩ v) :=
  h.trans' (n := a.heap.size) (L := fun _ => False) (Kp.set b g i v (fun h => h.elim (fun h => absurd h (by omega)) id))
/-- What plain answers. -/
def PlnR (w : World) (nb n0 d : Nat) (t : T) (e : Ending) (w' : World) : Prop := Kp (· ≠ nb) w w' ∧ w'.heap[nb]? = some (.cells #[.int .i64 (n0 + t.nodes : Nat)] 3) ∧ ∃ u0 u1 u2 u3, e = .returned (.tuple #[.agg #[u0, u1, u2, u3], .bool true]) ∧ Rd (fun x => w.heap.size ≤ x) w' d (.agg #[u0, u1, u2, u3]) t
def PlnTo (d : Nat) : Prop := ∀ (v : Value) (t : T) (K : Nat → Prop) (w : World) (nb n0 dp : Nat), VRd K w d v t → ¬ K nb → w.heap[nb]? = some (.cells #[.int .i64 n0] 3) → n0 + t.nodes ≤ 70000 → dp + t.deep ≤ 70 →
  Calls Tryz.prog 40 #[v, .pointer (some ⟨nb, 0, none⟩), .int .i64 dp] w (PlnR w nb n0 d t)
set_option maxRecDepth 100000 in
set_option maxHeartbeats 4000000 in
theorem pln_any : ∀ d, PlnTo d := by
  intro d
  induction d with
  | zero => intro v t K w nb n0 dp h; exact h.elim
  | succ d ih =>
    intro v t K w nb n0 dp h hK hnb hn hd
    obtain ⟨k, n, x, ks⟩ := t
    have HNB := hid hnb
    have hbl := lt_of_block hnb
    have c0 : w.cell? ⟨nb, 0, none⟩ = some (.int .i64 n0) := cell_of hnb rfl
    have f0 := frozen_of (i := 0) hnb
    have hpos : n0 + 1 ≤ 70000 := by simp only [T.nodes] at hn; omega
    have hn0 : (n0 : Int) + 1 ≤ 70000 := by omega
    have hdp : (dp : Int) ≤ 70 := by omega
    have q1 : decide ((70000 : Int) < (n0 : Int) + 1) = false := decide_eq_false (by omega)
    have q2 : decide ((70 : Int) < (dp : Int)) = false := decide_eq_false (by omega)
    have HPOS := hid hpos
    have HN0 := hid hn0
    clear hpos hn0
    have hn1 : (n0 : Int) ≤ 140737488355328 := by have := HPOS.out; omega
    have HB1 := hid (show (((w.setCell ⟨nb, 0, none⟩ (.int .i64 ((n0 : Int) + 1)))).heap[nb]? = some (.cells #[.int .i64 (n0 + 1 : Nat)] 3)) from (set_at hnb 0 _).trans rfl)
    have HK1 := hid (show Kp (· ≠ nb) w (w.setCell ⟨nb, 0, none⟩ (.int .i64 ((n0 : Int) + 1))) from Kp.set _ _ _ _ (fun h => h rfl))
    clear hnb
    rcases h with ⟨rfl, rfl, rfl, rfl, rfl⟩ | ⟨rfl, rfl, rfl, b, hb, rfl⟩ | ⟨rfl, rfl, rfl, rfl⟩ | ⟨rfl, rfl, rfl, hxs, rfl⟩ | ⟨rfl, rfl, rfl, hll, a, c, rfl, hks⟩
    · clear ih hn hd
      go_enter Tryz.func40, Tryz.ntmps40
      go_wp2_with fail
      refine bodyPost_ret (v := .tuple #[.agg #[.int .i64 1, .int .i64 0, .string ⟨#[]⟩, .slice none 0 0], .bool true]) (by simp [results, Tryz.results40, go_sem]) rfl ?_
      exact ⟨((HK1.out.alloc _).alloc _), (blkOld _ (blkOld _ HB1.out)), _, _, _, _, rfl, none, 0, rfl, by decide, by decide, .inl rfl⟩
    · clear ih hn hd
      cases b with
      | true =>
        have hb' : n = 1 := hb
        subst hb'
        clear hb
        go_enter Tryz.func40, Tryz.ntmps40
        go_wp2_with fail
        refine bodyPost_ret (v := .tuple #[.agg #[.int .i64 2, .int .i64 1, .string ⟨#[]⟩, .slice none 0 0], .bool true]) (by simp [results, Tryz.results40, go_sem]) rfl ?_
        exact ⟨((HK1.out.alloc _).alloc _), (blkOld _ (blkOld _ HB1.out)), _, _, _, _, rfl, none, 0, rfl, by decide, by decide, .inl rfl⟩
      | false =>
        have hb' : n = 0 := hb
        subst hb'
        clear hb
        go_enter Tryz.func40, Tryz.ntmps40
        go_wp2_with fail
        refine bodyPost_ret (v := .tuple #[.agg #[.int .i64 2, .int .i64 0, .string ⟨#[]⟩, .slice none 0 0], .bool true]) (by simp [results, Tryz.results40, go_sem]) rfl ?_
        exact ⟨((HK1.out.alloc _).alloc _), (blkOld _ (blkOld _ HB1.out)), _, _, _, _, rfl, none, 0, rfl, by decide, by decide, .inl rfl⟩
    · clear ih hn hd
      go_enter Tryz.func40, Tryz.ntmps40
      go_wp2_with fail
      refine bodyPost_ret (v := .tuple #[.agg #[.int .i64 3, .int .i64 n, .string ⟨#[]⟩, .slice none 0 0], .bool true]) (by simp [results, Tryz.results40, go_sem]) rfl ?_
      exact ⟨(HK1.out.alloc _), (blkOld _ HB1.out), _, _, _, _, rfl, none, 0, rfl, by decide, by decide, .inl rfl⟩
    · clear ih hn hd
      go_enter Tryz.func40, Tryz.ntmps40
      go_wp2_with fail
      refine bodyPost_ret (v := .tuple #[.agg #[.int .i64 4, .int .i64 0, .string x, .slice none 0 0], .bool true]) (by simp [results, Tryz.results40, go_sem]) rfl ?_
      exact ⟨(HK1.out.alloc _), (blkOld _ HB1.out), _, _, _, _, rfl, none, 0, rfl, hxs, by decide, .inl rfl⟩
    · have HA := hid (show VRdL K w d a ks from ⟨hll, hks⟩)
      have HIH := hid ih
      have HKB := hid hK
      have HN := hid (show n0 + 1 + T.nodesL ks ≤ 70000 by simp only [T.nodes] at hn; omega)
      have HD := hid (show dp + 1 + T.deepL ks ≤ 70 by simp only [T.deep, if_pos] at hd; omega)
      have hl : (ks.length : Int) ≤ 140737488355328 := by omega
      clear ih hks hK hn hd
      go_enter Tryz.func40, Tryz.ntmps40
      go_wp2_with fail
      have HR0 := hid (show ((((w.setCell ⟨nb, 0, none⟩ (.int .i64 ((n0 : Int) + 1))).alloc (.cells #[.int .i64 0, .int .i64 0, .string ⟨#[]⟩, .slice none 0 0] 34)).alloc (.cells #[.int .i64 5, .int .i64 0, .string ⟨#[]⟩, .slice none 0 0] 34)).heap[w.heap.size]? = some (.cells #[.int .i64 0, .int .i64 0, .string ⟨#[]⟩, .slice none 0 0] 34)) from blkOld _ (blkN (by rw [size_set])))
      have HP0 := hid (show ((((w.setCell ⟨nb, 0, none⟩ (.int .i64 ((n0 : Int) + 1))).alloc (.cells #[.int .i64 0, .int .i64 0, .string ⟨#[]⟩, .slice none 0 0] 34)).alloc (.cells #[.int .i64 5, .int .i64 0, .string ⟨#[]⟩, .slice none 0 0] 34)).heap[w.heap.size + 1]? = some (.cells #[.int .i64 5, .int .i64 0, .string ⟨#[]⟩, .slice none 0 0] 34)) from blkN (by rw [blkS, size_set]))
      go_loopw [15] (fun i wr => ∃ (j : Nat) (lv : Value) (acc : List T), j ≤ ks.length ∧ i = .int .i64 j ∧ acc = ks.take j ∧ Kp (· ≠ nb) w wr ∧ wr.heap[nb]? = some (.cells #[.int .i64 (n0 + 1 + T.nodesL acc : Nat)] 3) ∧ wr.heap[w.heap.size]? = some (.cells #[.int .i64 0, .int .i64 0, .string ⟨#[]⟩, .slice none 0 0] 34) ∧ wr.heap[w.heap.size + 1]? = some (.cells #[.int .i64 5, .int .i64 0, .string ⟨#[]⟩, lv] 34) ∧ PItems wr (w.heap.size + 2) wr.heap.size d lv acc) (fun i _ => ks.length - (intOf i).toNat)
      case atStart => exact ⟨0, .slice none 0 0, [], Nat.zero_le _, rfl, rfl, (HK1.out.alloc _).alloc _, blkOld _ (blkOld _ HB1.out), HR0.out, HP0.out, PItems.nil _ _⟩
      case round =>
        obtain ⟨j, lv, acc, hj, rfl, hacc, hkp, hnb, hr0, hp0, hit⟩ := hrel
        have HKP := hid hkp
        have HNBR := hid hnb
        have HRB := hid hr0
        have HPB := hid hp0
        have HIT := hid hit
        have HACC := hid hacc
        obtain ⟨ao, cl, rfl⟩ := hit.shape
        clear hkp hnb hr0 hp0 hit hacc
        by_cases hlt : j < ks.length
        · have hlt' : (j : Int) < ks.length := by omega
          obtain ⟨g, off, τ, p, rfl, hg, h4, hr⟩ := HA.out.kid hlt
          have hgn : g ≠ nb := fun e => HKB.out (e ▸ hg)
          have m0 := HKP.out.cell h4 hgn
          have hgl := lt_of_cell m0
          have hKK : Kp K w wr := HKP.out.mono (fun k _ hk e => HKB.out (e ▸ hk))
          have n1 := T.nodesL_take ks j hlt
          have n2 := T.nodesL_split ks (j + 1)
          have n3 := HN.out
          have n4 := T.deepL_mem (List.getElem_mem hlt)
          have n5 := HD.out
          have HT := hid (show ks.take (j + 1) = acc ++ [ks[j]] by rw [T.take_succ' ks j hlt, HACC.out])
          have HAL := hid (show acc.length = j by rw [HACC.out, List.length_take]; omega)
          have HNL := hid (show T.nodesL (acc ++ [ks[j]]) = T.nodesL acc + T.nodes ks[j] by rw [T.nodesL_append]; simp [T.nodesL])
          have HC := hid (show Calls Tryz.prog 40 #[.iface τ p, .pointer (some ⟨nb, 0, none⟩), .int .i64 ((dp : Int) + 1)] wr (PlnR wr nb (n0 + 1 + T.nodesL acc) d ks[j]) by
            have h := HIH.out (.iface τ p) ks[j] K wr nb (n0 + 1 + T.nodesL acc) (dp + 1) (hr.keep hKK) HKB.out HNBR.out (by rw [HACC.out]; omega) (by omega)
            rw [show ((dp + 1 : Nat) : Int) = (dp : Int) + 1 by omega] at h
            exact h)
          have HBW := hid (show w.heap.size + 2 ≤ wr.heap.size by have := lt_of_block HPB.out; omega)
          have hlim : acc.length ≤ 2000000 := by have := HAL.out; have := T.nodesL_len ks; have := HN.out; omega
          have HLIM := hid hlim
          clear hr h4 hg hKK n1 n2 n3 n4 n5 hlim q1 q2
          go_wp2_with fail
          refine HC.out.mono ?_
          rintro e w2 ⟨hk2, hb2, u0, u1, u2, u3, rfl, hrd2⟩
          obtain ⟨k', n', x', a', c', rfl, rfl, rfl, rfl⟩ := hrd2.shape
          have HK2 := hid (HKP.out.trans hk2)
          have HNB2 := hid hb2
          have HRD2 := hid hrd2
          have HR2 := hid (hk2.block' HRB.out (show w.heap.size ≠ nb by omega))
          have HP2 := hid (hk2.block' HPB.out (show w.heap.size + 1 ≠ nb by omega))
          have HIT2 := hid (HIT.out.keep hk2 (fun k hk e => by have e' : k = nb := e; omega))
          have HBW2 := hid (show w.heap.size + 2 ≤ w2.heap.size by have := lt_of_block HP2.out; have := hk2.size; have := HBW.out; omega)
          generalize ks[j].kids.length = lk at *
          have e3 := cell_of (i := 3) HP2.out rfl
          simp only [List.getElem_toArray, List.getElem_cons_zero, List.getElem_cons_succ] at e3
          have hpl := lt_of_block HP2.out
          clear hk2 hb2 hrd2 m0 hgl
          go_wp2_with (at_builtin; refine app_pitem rfl _ _ rfl rfl (w.heap.size + 2) wr.heap.size d (.slice ao acc.length cl) acc k' n' x' a' lk c' ks[j] rfl (by first | (rw [blkS]; done) | (rw [blkS]; rfl)) (by have := HBW2.out; rw [blkS]; omega) (HIT2.out.keep ((Ext.alloc w2 _).kp (fun _ => True)) (fun _ _ => trivial)) (HRD2.out.later (Ext.alloc w2 _)) HBW.out HLIM.out ?_; intro a5 c5 w5 hit5 hb5; have HP5 := hid ((Below.block hb5 (w.heap.size + 1) (by omega)).trans (blkOld _ HP2.out)); have g3 := frozen_of (i := 3) HP5.out; have e5 := cell_of (i := 3) HP5.out rfl; simp only [List.getElem_toArray, List.getElem_cons_zero, List.getElem_cons_succ] at e5)
          go_roundw
          case rel =>
            have hkw : Kp (· ≠ nb) w (w5.setCell ⟨w.heap.size + 1, 3, none⟩ (.slice a5 (acc.length + 1) c5)) := ((HK2.out.alloc _).under hb5 (by omega)).setNew _ _ _ (by omega)
            have hk6 : Kp (· ≠ w.heap.size + 1) w5 (w5.setCell ⟨w.heap.size + 1, 3, none⟩ (.slice a5 (acc.length + 1) c5)) := Kp.set _ _ _ _ (fun h => h rfl)
            have hnb6 := (Below.block hb5 nb (by omega)).trans (blkOld _ HNB2.out)
            have hr6 := (Below.block hb5 w.heap.size (by omega)).trans (blkOld _ HR2.out)
            have hp6 := set_at HP5.out 3 (.slice a5 (acc.length + 1) c5)
            refine ⟨j + 1, .slice a5 (acc.length + 1) c5, acc ++ [ks[j]], hlt, by go_num, HT.out.symm, hkw, ?_, hk6.block' hr6 (by show w.heap.size ≠ _; omega), hp6, ?_⟩
            · rw [HNL.out, ← Nat.add_assoc]
              exact hk6.block' hnb6 (by show nb ≠ _; omega)
            · rw [size_set]
              exact hit5.keep hk6 (fun k hk e => by have e' : k = _ := e; omega)
          case measure => simp [intOf]; omega
        · have hje : j = ks.length := by omega
          have HJE := hid hje
          have hge : ¬ (j : Int) < ks.length := by omega
          have e0 := cell_of (i := 0) HPB.out rfl
          have e1 := cell_of (i := 1) HPB.out rfl
          have e2 := cell_of (i := 2) HPB.out rfl
          have e3 := cell_of (i := 3) HPB.out rfl
          have r0 := cell_of (i := 0) HRB.out rfl
          have r1 := cell_of (i := 1) HRB.out rfl
          have r2 := cell_of (i := 2) HRB.out rfl
          have r3 := cell_of (i := 3) HRB.out rfl
          simp only [List.getElem_toArray, List.getElem_cons_zero, List.getElem_cons_succ] at e0 e1 e2 e3 r0 r1 r2 r3
          have f0 := frozen_of (i := 0) HRB.out
          have f1 := frozen_of (i := 1) HRB.out
          have f2 := frozen_of (i := 2) HRB.out
          have f3 := frozen_of (i := 3) HRB.out
          clear hje q1 q2
          go_wp2_with fail
          have hb5 := set4_block HRB.out 0 (.int .i64 5) (.int .i64 0) (.string ⟨#[]⟩) (.slice ao acc.length cl)
          have hk2 := Kp.set4 wr w.heap.size 0 (.int .i64 5) (.int .i64 0) (.string ⟨#[]⟩) (.slice ao acc.length cl)
          have hkw : Kp (· ≠ nb) w ((((wr.setCell ⟨w.heap.size, 0, none⟩ (.int .i64 5)).setCell ⟨w.heap.size, 0 + 1, none⟩ (.int .i64 0)).setCell ⟨w.heap.size, 0 + 2, none⟩ (.string ⟨#[]⟩)).setCell ⟨w.heap.size, 0 + 3, none⟩ (.slice ao acc.length cl)) := (((HKP.out.setNew _ _ _ (Nat.le_refl _)).setNew _ _ _ (Nat.le_refl _)).setNew _ _ _ (Nat.le_refl _)).setNew _ _ _ (Nat.le_refl _)
          generalize ((((wr.setCell ⟨w.heap.size, 0, none⟩ (.int .i64 5)).setCell ⟨w.heap.size, 0 + 1, none⟩ (.int .i64 0)).setCell ⟨w.heap.size, 0 + 2, none⟩ (.string ⟨#[]⟩)).setCell ⟨w.heap.size, 0 + 3, none⟩ (.slice ao acc.length cl)) = W at hb5 hk2 hkw ⊢
          have z0 : W.cell? ⟨w.heap.size, 0, none⟩ = some (.int .i64 5) := cell_of hb5 (by simp [set4A])
          have z1 : W.cell? ⟨w.heap.size, 1, none⟩ = some (.int .i64 0) := cell_of hb5 (by simp [set4A])
          have z2 : W.cell? ⟨w.heap.size, 2, none⟩ = some (.string ⟨#[]⟩) := cell_of hb5 (by simp [set4A])
          have z3 : W.cell? ⟨w.heap.size, 3, none⟩ = some (.slice ao acc.length cl) := cell_of hb5 (by simp [set4A])
          refine bodyPost_ret (v := .tuple #[.agg #[.int .i64 5, .int .i64 0, .string ⟨#[]⟩, .slice ao acc.length cl], .bool true]) (by simp [results, Tryz.results40, go_sem, z0, z1, z2, z3]) rfl ?_
          have hak : acc = ks := by rw [HACC.out, HJE.out, List.take_length]
          have hnw := hk2.block' HNBR.out (by show nb ≠ w.heap.size; omega)
          have hlen : acc.length ≤ 2000000 := by rw [hak]; have := T.nodesL_len ks; have := HN.out; omega
          have hR := ((HIT.out.keep hk2 (fun k hk e => by have e' : k = _ := e; omega)).list hlen).mono (L := fun x => w.heap.size ≤ x) (fun q _ hq => by have hq' : w.heap.size + 2 ≤ q := hq; show w.heap.size ≤ q; omega)
          refine ⟨hkw, ?_, _, _, _, _, rfl, ?_⟩
          · rw [hnw, hak, T.nodes, ← Nat.add_assoc]
          · rw [hak] at hR ⊢; exact hR
end Go.Proofs.YtecabbifkcnbeaaGreatDoor
/-
  The reader's quoted by a contract.
-/
namespace Go.Proofs.YtecabbifkcnbeaaGreatDoor
open Go.RowKit
/-- A text from i on, behind acc. -/
def quoL (s : ByteArray) : Nat → Nat → List UInt8 → Rs
  | 0, _, _ => .bad 1 0
  | f + 1, i, acc =>
    if nxt s i = 34 then .ok (.node 4 0 ⟨acc.toArray⟩ []) (i + 1)
    else if ¬ (32 ≤ nxt s i ∧ nxt s i ≤ 126) then .bad 5 i
    else if nxt s i = 92 then (match escD s (i + 1) with
      | (none, a) => .bad 5 a
      | (some c, a) => quoL s f a (acc ++ [c.toUInt8]))
    else quoL s f (i + 1) (acc ++ [(nxt s i).toUInt8])
/-- What quoted reads at i. -/
def quoQ (s : ByteArray) (i : Nat) : Rs := quoL s (s.size + 1) (i + 1) []
theorem builder_kp {T e : TypeId} {B bb b : Nat} {bs : List Value} {w w' : World} (h : Lib.IsBuilderF T e B bb bs w) (hk : Kp (· ≠ b) w w') (hb : b < B) : Lib.IsBuilderF T e B bb bs w' := by
  have row : ∀ {v : Value} {n : Nat} {xs : List Value}, w.ownsRowF B e 1 v n xs → w'.ownsRowF B e 1 v n xs := fun {v n xs} h => by
    refine ⟨h.1, ?_⟩
    rcases h.2 with h | ⟨g, cap, cur, fz, h1, h2, h3, h4⟩
    · exact .inl h
    · exact .inr ⟨g, cap, cur, fz, h1, h2, hk.block' h3 (by show g ≠ b; omega), h4⟩
  have key : ∀ p, Lib.BuilderAtF T e B bb p bs w → Lib.BuilderAtF T e B bb p bs w' := fun p ⟨hB, v, hbk, hown, hne⟩ => ⟨hB, v, hk.block' hbk (by show bb ≠ b; omega), row hown, hne⟩
  exact h.elim (fun x => .inl (key _ x)) (fun x => .inr (key _ x))
theorem byD_some {s : ByteArray} {i c a : Nat} (h : byD s i = (some c, a)) : a = i + 2 ∧ c < 256 := by
  have h1 := hexV_bounds s i
  have h2 := hexV_bounds s (i + 1)
  simp only [byD] at h
  split at h
  · cases h
  split at h
  · cases h
  · cases h; omega
theorem byD_none {s : ByteArray} {i a : Nat} (h : byD s i = (none, a)) : i ≤ a := by
  simp only [byD] at h
  split at h
  · cases h; omega
  split at h
  · cases h; omega
  · cases h
theorem escD_some {s : ByteArray} {i c a : Nat} (h : escD s i = (some c, a)) : i < a ∧ c < 256 := by
  unfold escD at h
  split at h
  · rename_i hq; cases h; omega
  split at h
  · have := byD_some h; omega
  · cases h
theorem builder_new (w : World) : Lib.IsBuilderF 233 5 w.heap.size w.heap.size (Lib.byteCells []) (w.alloc (.cells #[.pointer none, .slice none 0 0] 233)) :=
  .inl ⟨Nat.le_refl _, .slice none 0 0, blk0 w _, World.ownsRowF_nil _ _ _ _, by simp [Value.ownBlock]⟩
theorem u8_cell (acc : List UInt8) (c : Nat) (h : c < 256) : Lib.byteCells acc ++ [.int .u8 (c : Int)] = Lib.byteCells (acc ++ [Nat.toUInt8 c]) := by
  rw [app_len]
  congr 1
  simp only [Lib.byteCells, List.map_cons, List.map_nil]
  have e : (Nat.toUInt8 c).toNat = c := by simp; omega
  rw [e]
theorem byteCells_len' (l : List UInt8) : (Lib.byteCells l).length = l.length := by simp [Lib.byteCells]
end Go.Proofs.YtecabbifkcnbeaaGreatDoor
