/-
  plain, Plain and Is of the statements' own, each by a contract: of values that are not too great.
-/
import Derived.Test.YtaafcmmmkalgjaaGreatDoorEqs
namespace Go.Proofs.YtaafcmmmkalgjaaGreatDoor
open Go.RowKit
theorem vs_un_un (v : Value) (w : World) : (Instr.typeAssert (.iface 172 v) 35 172 true).run Tryz.prog w = .ok (.tuple #[v, .bool true]) w := by kernel_rfl
theorem vs_un_tu (v : Value) (w : World) : (Instr.typeAssert (.iface 172 v) 35 173 true).run Tryz.prog w = .ok (.tuple #[(.bool false), .bool false]) w := by kernel_rfl
theorem vs_un_in (v : Value) (w : World) : (Instr.typeAssert (.iface 172 v) 35 83 true).run Tryz.prog w = .ok (.tuple #[(.int .i64 0), .bool false]) w := by kernel_rfl
theorem vs_un_tx (v : Value) (w : World) : (Instr.typeAssert (.iface 172 v) 35 174 true).run Tryz.prog w = .ok (.tuple #[(.string ByteArray.empty), .bool false]) w := by kernel_rfl
theorem vs_un_li (v : Value) (w : World) : (Instr.typeAssert (.iface 172 v) 35 81 true).run Tryz.prog w = .ok (.tuple #[(.slice none 0 0), .bool false]) w := by kernel_rfl
theorem vs_tu_un (v : Value) (w : World) : (Instr.typeAssert (.iface 173 v) 35 172 true).run Tryz.prog w = .ok (.tuple #[(.agg #[]), .bool false]) w := by kernel_rfl
theorem vs_tu_tu (v : Value) (w : World) : (Instr.typeAssert (.iface 173 v) 35 173 true).run Tryz.prog w = .ok (.tuple #[v, .bool true]) w := by kernel_rfl
theorem vs_tu_in (v : Value) (w : World) : (Instr.typeAssert (.iface 173 v) 35 83 true).run Tryz.prog w = .ok (.tuple #[(.int .i64 0), .bool false]) w := by kernel_rfl
theorem vs_tu_tx (v : Value) (w : World) : (Instr.typeAssert (.iface 173 v) 35 174 true).run Tryz.prog w = .ok (.tuple #[(.string ByteArray.empty), .bool false]) w := by kernel_rfl
theorem vs_tu_li (v : Value) (w : World) : (Instr.typeAssert (.iface 173 v) 35 81 true).run Tryz.prog w = .ok (.tuple #[(.slice none 0 0), .bool false]) w := by kernel_rfl
theorem vs_in_un (v : Value) (w : World) : (Instr.typeAssert (.iface 83 v) 35 172 true).run Tryz.prog w = .ok (.tuple #[(.agg #[]), .bool false]) w := by kernel_rfl
theorem vs_in_tu (v : Value) (w : World) : (Instr.typeAssert (.iface 83 v) 35 173 true).run Tryz.prog w = .ok (.tuple #[(.bool false), .bool false]) w := by kernel_rfl
theorem vs_in_in (v : Value) (w : World) : (Instr.typeAssert (.iface 83 v) 35 83 true).run Tryz.prog w = .ok (.tuple #[v, .bool true]) w := by kernel_rfl
theorem vs_in_tx (v : Value) (w : World) : (Instr.typeAssert (.iface 83 v) 35 174 true).run Tryz.prog w = .ok (.tuple #[(.string ByteArray.empty), .bool false]) w := by kernel_rfl
theorem vs_in_li (v : Value) (w : World) : (Instr.typeAssert (.iface 83 v) 35 81 true).run Tryz.prog w = .ok (.tuple #[(.slice none 0 0), .bool false]) w := by kernel_rfl
theorem vs_tx_un (v : Value) (w : World) : (Instr.typeAssert (.iface 174 v) 35 172 true).run Tryz.prog w = .ok (.tuple #[(.agg #[]), .bool false]) w := by kernel_rfl
theorem vs_tx_tu (v : Value) (w : World) : (Instr.typeAssert (.iface 174 v) 35 173 true).run Tryz.prog w = .ok (.tuple #[(.bool false), .bool false]) w := by kernel_rfl
theorem vs_tx_in (v : Value) (w : World) : (Instr.typeAssert (.iface 174 v) 35 83 true).run Tryz.prog w = .ok (.tuple #[(.int .i64 0), .bool false]) w := by kernel_rfl
theorem vs_tx_tx (v : Value) (w : World) : (Instr.typeAssert (.iface 174 v) 35 174 true).run Tryz.prog w = .ok (.tuple #[v, .bool true]) w := by kernel_rfl
theorem vs_tx_li (v : Value) (w : World) : (Instr.typeAssert (.iface 174 v) 35 81 true).run Tryz.prog w = .ok (.tuple #[(.slice none 0 0), .bool false]) w := by kernel_rfl
theorem vs_li_un (v : Value) (w : World) : (Instr.typeAssert (.iface 81 v) 35 172 true).run Tryz.prog w = .ok (.tuple #[(.agg #[]), .bool false]) w := by kernel_rfl
theorem vs_li_tu (v : Value) (w : World) : (Instr.typeAssert (.iface 81 v) 35 173 true).run Tryz.prog w = .ok (.tuple #[(.bool false), .bool false]) w := by kernel_rfl
theorem vs_li_in (v : Value) (w : World) : (Instr.typeAssert (.iface 81 v) 35 83 true).run Tryz.prog w = .ok (.tuple #[(.int .i64 0), .bool false]) w := by kernel_rfl
theorem vs_li_tx (v : Value) (w : World) : (Instr.typeAssert (.iface 81 v) 35 174 true).run Tryz.prog w = .ok (.tuple #[(.string ByteArray.empty), .bool false]) w := by kernel_rfl
theorem vs_li_li (v : Value) (w : World) : (Instr.typeAssert (.iface 81 v) 35 81 true).run Tryz.prog w = .ok (.tuple #[v, .bool true]) w := by kernel_rfl
attribute [local go_sem] vs_un_un vs_un_tu vs_un_in vs_un_tx vs_un_li vs_tu_un vs_tu_tu vs_tu_in vs_tu_tx vs_tu_li vs_in_un vs_in_tu vs_in_in vs_in_tx vs_in_li vs_tx_un vs_tx_tu vs_tx_in vs_tx_tx vs_tx_li vs_li_un vs_li_tu vs_li_in vs_li_tx vs_li_li
mutual
/-- How many values a value has in it, itself too. -/
def T.nodes : T → Nat | .node _ _ _ ks => 1 + T.nodesL ks
def T.nodesL : List T → Nat | [] => 0 | t :: r => T.nodes t + T.nodesL r
end
mutual
theorem T.nodes_size : ∀ t : T, T.nodes t ≤ T.size t
  | .node k n x ks => by have := T.nodesL_size ks; simp only [T.nodes, T.size]; omega
theorem T.nodesL_size : ∀ l : List T, T.nodesL l ≤ T.sizeL l
  | [] => by simp [T.nodesL, T.sizeL]
  | t :: r => by have := T.nodes_size t; have := T.nodesL_size r; simp only [T.nodesL, T.sizeL]; omega
end
theorem T.nodesL_append (a b : List T) : T.nodesL (a ++ b) = T.nodesL a + T.nodesL b := by
  induction a with
  | nil => simp [T.nodesL]
  | cons x r ih => simp only [List.cons_append, T.nodesL, ih]; omega
theorem T.nodesL_take (l : List T) (i : Nat) (h : i < l.length) : T.nodesL (l.take (i + 1)) = T.nodesL (l.take i) + T.nodes l[i] := by
  rw [T.take_succ' l i h, T.nodesL_append]; simp [T.nodesL]
theorem T.nodesL_split (l : List T) (i : Nat) : T.nodesL l = T.nodesL (l.take i) + T.nodesL (l.drop i) := by rw [← T.nodesL_append, List.take_append_drop]
theorem T.nodesL_len (a : List T) : a.length ≤ T.nodesL a := by
  induction a with
  | nil => simp [T.nodesL]
  | cons x r ih => obtain ⟨k, n, y, ks⟩ := x; simp only [T.nodesL, T.nodes, List.length_cons]; omega
theorem Kp.under {K : Nat → Prop} {B : Nat} {w w1 w2 : World} (h : Kp K w w1) (hb : Below B w1 w2) (hB : w.heap.size ≤ B := by omega) : Kp K w w2 :=
  ⟨hb.os.trans h.os, hb.tape.trans h.tape, hb.output.trans h.output, Nat.le_trans h.size hb.size, fun i hi hK => (Below.block hb i (Nat.lt_of_lt_of_le hi hB)).trans (h.block i hi hK)⟩
theorem Kp.setNew {K : Nat → Prop} {a b : World} (h : Kp K a b) (g i : Nat) (v : Value) (hg : a.heap.size ≤ g := by omega) : Kp K a (b.setCell ⟨g, i, none⟩ v) :=
  h.trans' (n := a.heap.size) (L := fun _ => False) (Kp.set b g i v (fun h => h.elim (fun h => absurd h (by omega)) id))
/-- What plain answers. -/
def PlnR (w : World) (nb n0 d : Nat) (t : T) (e : Ending) (w' : World) : Prop := Kp (· ≠ nb) w w' ∧ w'.heap[nb]? = some (.cells #[.int .i64 (n0 + t.nodes : Nat)] 3) ∧ ∃ u0 u1 u2 u3, e = .returned (.tuple #[.agg #[u0, u1, u2, u3], .bool true]) ∧ Rd (fun x => w.heap.size ≤ x) w' d (.agg #[u0, u1, u2, u3]) t
def PlnTo (d : Nat) : Prop := ∀ (v : Value) (t : T) (K : Nat → Prop) (w : World) (nb n0 dp : Nat), VRd K w d v t → ¬ K nb → w.heap[nb]? = some (.cells #[.int .i64 n0] 3) → n0 + t.nodes ≤ 70000 → dp + t.deep ≤ 70 →
  Calls Tryz.prog 54 #[v, .pointer (some ⟨nb, 0, none⟩), .int .i64 dp] w (PlnR w nb n0 d t)
set_option maxRecDepth 100000 in
set_option maxHeartbeats 4000000 in
theorem pln_any : ∀ d, PlnTo d := by
  intro d
  induction d with
  | zero => intro v t K w nb n0 dp h; exact h.elim
  | succ d ih =>
    intro v t K w nb n0 dp h hK hnb hn hd
    obtain ⟨k, n, x, ks⟩ := t
    have HNB := hid hnb
    have hbl := lt_of_block hnb
    have c0 : w.cell? ⟨nb, 0, none⟩ = some (.int .i64 n0) := cell_of hnb rfl
    have f0 := frozen_of (i := 0) hnb
    have hpos : n0 + 1 ≤ 70000 := by simp only [T.nodes] at hn; omega
    have hn0 : (n0 : Int) + 1 ≤ 70000 := by omega
    have hdp : (dp : Int) ≤ 70 := by omega
    have q1 : decide ((70000 : Int) < (n0 : Int) + 1) = false := decide_eq_false (by omega)
    have q2 : decide ((70 : Int) < (dp : Int)) = false := decide_eq_false (by omega)
    have HPOS := hid hpos
    have HN0 := hid hn0
    clear hpos hn0
    have hn1 : (n0 : Int) ≤ 140737488355328 := by have := HPOS.out; omega
    have HB1 := hid (show (((w.setCell ⟨nb, 0, none⟩ (.int .i64 ((n0 : Int) + 1)))).heap[nb]? = some (.cells #[.int .i64 (n0 + 1 : Nat)] 3)) from (set_at hnb 0 _).trans rfl)
    have HK1 := hid (show Kp (· ≠ nb) w (w.setCell ⟨nb, 0, none⟩ (.int .i64 ((n0 : Int) + 1))) from Kp.set _ _ _ _ (fun h => h rfl))
    clear hnb
    rcases h with ⟨rfl, rfl, rfl, rfl, rfl⟩ | ⟨rfl, rfl, rfl, b, hb, rfl⟩ | ⟨rfl, rfl, rfl, rfl⟩ | ⟨rfl, rfl, rfl, hxs, rfl⟩ | ⟨rfl, rfl, rfl, hll, a, c, rfl, hks⟩
    · clear ih hn hd
      go_enter Tryz.func54, Tryz.ntmps54
      go_wp2_with fail
      refine bodyPost_ret (v := .tuple #[.agg #[.int .i64 1, .int .i64 0, .string ⟨#[]⟩, .slice none 0 0], .bool true]) (by simp [results, Tryz.results54, go_sem]) rfl ?_
      exact ⟨((HK1.out.alloc _).alloc _), (blkOld _ (blkOld _ HB1.out)), _, _, _, _, rfl, none, 0, rfl, by decide, by decide, .inl rfl⟩
    · clear ih hn hd
      cases b with
      | true =>
        have hb' : n = 1 := hb
        subst hb'
        clear hb
        go_enter Tryz.func54, Tryz.ntmps54
        go_wp2_with fail
        refine bodyPost_ret (v := .tuple #[.agg #[.int .i64 2, .int .i64 1, .string ⟨#[]⟩, .slice none 0 0], .bool true]) (by simp [results, Tryz.results54, go_sem]) rfl ?_
        exact ⟨((HK1.out.alloc _).alloc _), (blkOld _ (blkOld _ HB1.out)), _, _, _, _, rfl, none, 0, rfl, by decide, by decide, .inl rfl⟩
      | false =>
        have hb' : n = 0 := hb
        subst hb'
        clear hb
        go_enter Tryz.func54, Tryz.ntmps54
        go_wp2_with fail
        refine bodyPost_ret (v := .tuple #[.agg #[.int .i64 2, .int .i64 0, .string ⟨#[]⟩, .slice none 0 0], .bool true]) (by simp [results, Tryz.results54, go_sem]) rfl ?_
        exact ⟨((HK1.out.alloc _).alloc _), (blkOld _ (blkOld _ HB1.out)), _, _, _, _, rfl, none, 0, rfl, by decide, by decide, .inl rfl⟩
    · clear ih hn hd
      go_enter Tryz.func54, Tryz.ntmps54
      go_wp2_with fail
      refine bodyPost_ret (v := .tuple #[.agg #[.int .i64 3, .int .i64 n, .string ⟨#[]⟩, .slice none 0 0], .bool true]) (by simp [results, Tryz.results54, go_sem]) rfl ?_
      exact ⟨(HK1.out.alloc _), (blkOld _ HB1.out), _, _, _, _, rfl, none, 0, rfl, by decide, by decide, .inl rfl⟩
    · clear ih hn hd
      go_enter Tryz.func54, Tryz.ntmps54
      go_wp2_with fail
      refine bodyPost_ret (v := .tuple #[.agg #[.int .i64 4, .int .i64 0, .string x, .slice none 0 0], .bool true]) (by simp [results, Tryz.results54, go_sem]) rfl ?_
      exact ⟨(HK1.out.alloc _), (blkOld _ HB1.out), _, _, _, _, rfl, none, 0, rfl, hxs, by decide, .inl rfl⟩
    · have HA := hid (show VRdL K w d a ks from ⟨hll, hks⟩)
      have HIH := hid ih
      have HKB := hid hK
      have HN := hid (show n0 + 1 + T.nodesL ks ≤ 70000 by simp only [T.nodes] at hn; omega)
      have HD := hid (show dp + 1 + T.deepL ks ≤ 70 by simp only [T.deep, if_pos] at hd; omega)
      have hl : (ks.length : Int) ≤ 140737488355328 := by omega
      clear ih hks hK hn hd
      go_enter Tryz.func54, Tryz.ntmps54
      go_wp2_with fail
      have HR0 := hid (show ((((w.setCell ⟨nb, 0, none⟩ (.int .i64 ((n0 : Int) + 1))).alloc (.cells #[.int .i64 0, .int .i64 0, .string ⟨#[]⟩, .slice none 0 0] 30)).alloc (.cells #[.int .i64 5, .int .i64 0, .string ⟨#[]⟩, .slice none 0 0] 30)).heap[w.heap.size]? = some (.cells #[.int .i64 0, .int .i64 0, .string ⟨#[]⟩, .slice none 0 0] 30)) from blkOld _ (blkN (by rw [size_set])))
      have HP0 := hid (show ((((w.setCell ⟨nb, 0, none⟩ (.int .i64 ((n0 : Int) + 1))).alloc (.cells #[.int .i64 0, .int .i64 0, .string ⟨#[]⟩, .slice none 0 0] 30)).alloc (.cells #[.int .i64 5, .int .i64 0, .string ⟨#[]⟩, .slice none 0 0] 30)).heap[w.heap.size + 1]? = some (.cells #[.int .i64 5, .int .i64 0, .string ⟨#[]⟩, .slice none 0 0] 30)) from blkN (by rw [blkS, size_set]))
      go_loopw [15] (fun i wr => ∃ (j : Nat) (lv : Value) (acc : List T), j ≤ ks.length ∧ i = .int .i64 j ∧ acc = ks.take j ∧ Kp (· ≠ nb) w wr ∧ wr.heap[nb]? = some (.cells #[.int .i64 (n0 + 1 + T.nodesL acc : Nat)] 3) ∧ wr.heap[w.heap.size]? = some (.cells #[.int .i64 0, .int .i64 0, .string ⟨#[]⟩, .slice none 0 0] 30) ∧ wr.heap[w.heap.size + 1]? = some (.cells #[.int .i64 5, .int .i64 0, .string ⟨#[]⟩, lv] 30) ∧ PItems wr (w.heap.size + 2) wr.heap.size d lv acc) (fun i _ => ks.length - (intOf i).toNat)
      case atStart => exact ⟨0, .slice none 0 0, [], Nat.zero_le _, rfl, rfl, (HK1.out.alloc _).alloc _, blkOld _ (blkOld _ HB1.out), HR0.out, HP0.out, PItems.nil _ _⟩
      case round =>
        obtain ⟨j, lv, acc, hj, rfl, hacc, hkp, hnb, hr0, hp0, hit⟩ := hrel
        have HKP := hid hkp
        have HNBR := hid hnb
        have HRB := hid hr0
        have HPB := hid hp0
        have HIT := hid hit
        have HACC := hid hacc
        obtain ⟨ao, cl, rfl⟩ := hit.shape
        clear hkp hnb hr0 hp0 hit hacc
        by_cases hlt : j < ks.length
        · have hlt' : (j : Int) < ks.length := by omega
          obtain ⟨g, off, τ, p, rfl, hg, h4, hr⟩ := HA.out.kid hlt
          have hgn : g ≠ nb := fun e => HKB.out (e ▸ hg)
          have m0 := HKP.out.cell h4 hgn
          have hgl := lt_of_cell m0
          have hKK : Kp K w wr := HKP.out.mono (fun k _ hk e => HKB.out (e ▸ hk))
          have n1 := T.nodesL_take ks j hlt
          have n2 := T.nodesL_split ks (j + 1)
          have n3 := HN.out
          have n4 := T.deepL_mem (List.getElem_mem hlt)
          have n5 := HD.out
          have HT := hid (show ks.take (j + 1) = acc ++ [ks[j]] by rw [T.take_succ' ks j hlt, HACC.out])
          have HAL := hid (show acc.length = j by rw [HACC.out, List.length_take]; omega)
          have HNL := hid (show T.nodesL (acc ++ [ks[j]]) = T.nodesL acc + T.nodes ks[j] by rw [T.nodesL_append]; simp [T.nodesL])
          have HC := hid (show Calls Tryz.prog 54 #[.iface τ p, .pointer (some ⟨nb, 0, none⟩), .int .i64 ((dp : Int) + 1)] wr (PlnR wr nb (n0 + 1 + T.nodesL acc) d ks[j]) by
            have h := HIH.out (.iface τ p) ks[j] K wr nb (n0 + 1 + T.nodesL acc) (dp + 1) (hr.keep hKK) HKB.out HNBR.out (by rw [HACC.out]; omega) (by omega)
            rw [show ((dp + 1 : Nat) : Int) = (dp : Int) + 1 by omega] at h
            exact h)
          have HBW := hid (show w.heap.size + 2 ≤ wr.heap.size by have := lt_of_block HPB.out; omega)
          have hlim : acc.length ≤ 2000000 := by have := HAL.out; have := T.nodesL_len ks; have := HN.out; omega
          have HLIM := hid hlim
          clear hr h4 hg hKK n1 n2 n3 n4 n5 hlim q1 q2
          go_wp2_with fail
          refine HC.out.mono ?_
          rintro e w2 ⟨hk2, hb2, u0, u1, u2, u3, rfl, hrd2⟩
          obtain ⟨k', n', x', a', c', rfl, rfl, rfl, rfl⟩ := hrd2.shape
          have HK2 := hid (HKP.out.trans hk2)
          have HNB2 := hid hb2
          have HRD2 := hid hrd2
          have HR2 := hid (hk2.block' HRB.out (show w.heap.size ≠ nb by omega))
          have HP2 := hid (hk2.block' HPB.out (show w.heap.size + 1 ≠ nb by omega))
          have HIT2 := hid (HIT.out.keep hk2 (fun k hk e => by have e' : k = nb := e; omega))
          have HBW2 := hid (show w.heap.size + 2 ≤ w2.heap.size by have := lt_of_block HP2.out; have := hk2.size; have := HBW.out; omega)
          generalize ks[j].kids.length = lk at *
          have e3 := cell_of (i := 3) HP2.out rfl
          simp only [List.getElem_toArray, List.getElem_cons_zero, List.getElem_cons_succ] at e3
          have hpl := lt_of_block HP2.out
          clear hk2 hb2 hrd2 m0 hgl
          go_wp2_with (at_builtin; refine app_pitem rfl _ _ rfl rfl (w.heap.size + 2) wr.heap.size d (.slice ao acc.length cl) acc k' n' x' a' lk c' ks[j] rfl (by first | (rw [blkS]; done) | (rw [blkS]; rfl)) (by have := HBW2.out; rw [blkS]; omega) (HIT2.out.keep ((Ext.alloc w2 _).kp (fun _ => True)) (fun _ _ => trivial)) (HRD2.out.later (Ext.alloc w2 _)) HBW.out HLIM.out ?_; intro a5 c5 w5 hit5 hb5; have HP5 := hid ((Below.block hb5 (w.heap.size + 1) (by omega)).trans (blkOld _ HP2.out)); have g3 := frozen_of (i := 3) HP5.out; have e5 := cell_of (i := 3) HP5.out rfl; simp only [List.getElem_toArray, List.getElem_cons_zero, List.getElem_cons_succ] at e5)
          go_roundw
          case rel =>
            have hkw : Kp (· ≠ nb) w (w5.setCell ⟨w.heap.size + 1, 3, none⟩ (.slice a5 (acc.length + 1) c5)) := ((HK2.out.alloc _).under hb5 (by omega)).setNew _ _ _ (by omega)
            have hk6 : Kp (· ≠ w.heap.size + 1) w5 (w5.setCell ⟨w.heap.size + 1, 3, none⟩ (.slice a5 (acc.length + 1) c5)) := Kp.set _ _ _ _ (fun h => h rfl)
            have hnb6 := (Below.block hb5 nb (by omega)).trans (blkOld _ HNB2.out)
            have hr6 := (Below.block hb5 w.heap.size (by omega)).trans (blkOld _ HR2.out)
            have hp6 := set_at HP5.out 3 (.slice a5 (acc.length + 1) c5)
            refine ⟨j + 1, .slice a5 (acc.length + 1) c5, acc ++ [ks[j]], hlt, by go_num, HT.out.symm, hkw, ?_, hk6.block' hr6 (by show w.heap.size ≠ _; omega), hp6, ?_⟩
            · rw [HNL.out, ← Nat.add_assoc]
              exact hk6.block' hnb6 (by show nb ≠ _; omega)
            · rw [size_set]
              exact hit5.keep hk6 (fun k hk e => by have e' : k = _ := e; omega)
          case measure => simp [intOf]; omega
        · have hje : j = ks.length := by omega
          have HJE := hid hje
          have hge : ¬ (j : Int) < ks.length := by omega
          have e0 := cell_of (i := 0) HPB.out rfl
          have e1 := cell_of (i := 1) HPB.out rfl
          have e2 := cell_of (i := 2) HPB.out rfl
          have e3 := cell_of (i := 3) HPB.out rfl
          have r0 := cell_of (i := 0) HRB.out rfl
          have r1 := cell_of (i := 1) HRB.out rfl
          have r2 := cell_of (i := 2) HRB.out rfl
          have r3 := cell_of (i := 3) HRB.out rfl
          simp only [List.getElem_toArray, List.getElem_cons_zero, List.getElem_cons_succ] at e0 e1 e2 e3 r0 r1 r2 r3
          have f0 := frozen_of (i := 0) HRB.out
          have f1 := frozen_of (i := 1) HRB.out
          have f2 := frozen_of (i := 2) HRB.out
          have f3 := frozen_of (i := 3) HRB.out
          clear hje q1 q2
          go_wp2_with fail
          have hb5 := set4_block HRB.out 0 (.int .i64 5) (.int .i64 0) (.string ⟨#[]⟩) (.slice ao acc.length cl)
          have hk2 := Kp.set4 wr w.heap.size 0 (.int .i64 5) (.int .i64 0) (.string ⟨#[]⟩) (.slice ao acc.length cl)
          have hkw : Kp (· ≠ nb) w ((((wr.setCell ⟨w.heap.size, 0, none⟩ (.int .i64 5)).setCell ⟨w.heap.size, 0 + 1, none⟩ (.int .i64 0)).setCell ⟨w.heap.size, 0 + 2, none⟩ (.string ⟨#[]⟩)).setCell ⟨w.heap.size, 0 + 3, none⟩ (.slice ao acc.length cl)) := (((HKP.out.setNew _ _ _ (Nat.le_refl _)).setNew _ _ _ (Nat.le_refl _)).setNew _ _ _ (Nat.le_refl _)).setNew _ _ _ (Nat.le_refl _)
          generalize ((((wr.setCell ⟨w.heap.size, 0, none⟩ (.int .i64 5)).setCell ⟨w.heap.size, 0 + 1, none⟩ (.int .i64 0)).setCell ⟨w.heap.size, 0 + 2, none⟩ (.string ⟨#[]⟩)).setCell ⟨w.heap.size, 0 + 3, none⟩ (.slice ao acc.length cl)) = W at hb5 hk2 hkw ⊢
          have z0 : W.cell? ⟨w.heap.size, 0, none⟩ = some (.int .i64 5) := cell_of hb5 (by simp [set4A])
          have z1 : W.cell? ⟨w.heap.size, 1, none⟩ = some (.int .i64 0) := cell_of hb5 (by simp [set4A])
          have z2 : W.cell? ⟨w.heap.size, 2, none⟩ = some (.string ⟨#[]⟩) := cell_of hb5 (by simp [set4A])
          have z3 : W.cell? ⟨w.heap.size, 3, none⟩ = some (.slice ao acc.length cl) := cell_of hb5 (by simp [set4A])
          refine bodyPost_ret (v := .tuple #[.agg #[.int .i64 5, .int .i64 0, .string ⟨#[]⟩, .slice ao acc.length cl], .bool true]) (by simp [results, Tryz.results54, go_sem, z0, z1, z2, z3]) rfl ?_
          have hak : acc = ks := by rw [HACC.out, HJE.out, List.take_length]
          have hnw := hk2.block' HNBR.out (by show nb ≠ w.heap.size; omega)
          have hlen : acc.length ≤ 2000000 := by rw [hak]; have := T.nodesL_len ks; have := HN.out; omega
          have hR := ((HIT.out.keep hk2 (fun k hk e => by have e' : k = _ := e; omega)).list hlen).mono (L := fun x => w.heap.size ≤ x) (fun q _ hq => by have hq' : w.heap.size + 2 ≤ q := hq; show w.heap.size ≤ q; omega)
          refine ⟨hkw, ?_, _, _, _, _, rfl, ?_⟩
          · rw [hnw, hak, T.nodes, ← Nat.add_assoc]
          · rw [hak] at hR ⊢; exact hR
end Go.Proofs.YtaafcmmmkalgjaaGreatDoor
/-
  Twin of the statements, by a contract: the same plain value, in lists that were not there, a mark behind each.
-/
namespace Go.Proofs.YtaafcmmmkalgjaaGreatDoor
open Go.RowKit
theorem four_free {w : World} {b : Nat} {v0 v1 v2 v3 : Value} {t : TypeId} (h : w.heap[b]? = some (.cells #[v0, v1, v2, v3] t)) :
    w.frozen? ⟨b, 0, none⟩ = false ∧ w.frozen? ⟨b, 1, none⟩ = false ∧ w.frozen? ⟨b, 2, none⟩ = false ∧ w.frozen? ⟨b, 3, none⟩ = false :=
  ⟨frozen_of (i := 0) h, frozen_of (i := 1) h, frozen_of (i := 2) h, frozen_of (i := 3) h⟩
theorem four_set {w : World} {b : Nat} {v0 v1 v2 v3 u0 u1 u2 u3 : Value} {t : TypeId} (h : w.heap[b]? = some (.cells #[v0, v1, v2, v3] t)) :
    ((((w.setCell ⟨b, 0, none⟩ u0).setCell ⟨b, 1, none⟩ u1).setCell ⟨b, 2, none⟩ u2).setCell ⟨b, 3, none⟩ u3).heap[b]? = some (.cells #[u0, u1, u2, u3] t) := by
  have := set4_block h 0 u0 u1 u2 u3
  simpa [set4A] using this
theorem row4_slice {w : World} {base : Nat} {v : Value} {n : Nat} {xs : List Value} (h : w.ownsRow base 30 4 v n xs) : ∃ a c, v = .slice a n c := by
  rcases h.2 with ⟨rfl, rfl⟩ | ⟨g, cap, _, rfl, _⟩
  · exact ⟨_, _, rfl⟩
  · exact ⟨_, _, rfl⟩
theorem row4_keep {K : Nat → Prop} {w w' : World} {base : Nat} {v : Value} {n : Nat} {xs : List Value} (h : w.ownsRow base 30 4 v n xs) (hk : Kp K w w') (hb : ∀ b, v.ownBlock = some b → K b) : w'.ownsRow base 30 4 v n xs := by
  refine ⟨h.1, ?_⟩
  rcases h.2 with h | ⟨g, cap, cur, rfl, h1, h2, h3⟩
  · exact .inl h
  · exact .inr ⟨g, cap, cur, rfl, h1, hk.block' h2 (hb g rfl), h3⟩
/-- What a plain value reads as whose lists, in blocks of K, have a mark behind them. -/
def MRd (K : Nat → Prop) (w : World) : Nat → Value → T → Prop
  | 0, _, _ => False
  | d + 1, v, .node k n x ks => ∃ a c, v = .agg #[.int .i64 k, .int .i64 n, .string x, .slice a ks.length c] ∧ x.size ≤ 140737488351232 ∧ ks.length * 56 ≤ 140737488351232 ∧
      ((a = none ∧ ks = []) ∨ ∃ g off, a = some ⟨g, off, none⟩ ∧ K g ∧ (∃ cs, w.heap[g]? = some (.cells cs 30)) ∧ ks.length < c ∧ (∃ u1 u2 u3, Four w g (off + ks.length * 4) (.int .i64 (-7)) u1 u2 u3) ∧ ∀ j, (h : j < ks.length) → ∃ u0 u1 u2 u3, Four w g (off + j * 4) u0 u1 u2 u3 ∧ MRd K w d (.agg #[u0, u1, u2, u3]) ks[j])
theorem MRd.rd {K : Nat → Prop} {w : World} : ∀ {d : Nat} {v : Value} {t : T}, MRd K w d v t → Rd K w d v t
  | 0, _, _, h => h
  | d + 1, v, .node k n x ks, ⟨a, c, h1, h3, h4, h5⟩ => ⟨a, c, h1, h3, h4, by
      rcases h5 with ⟨_, h0⟩ | ⟨g, off, ha, hg, _, _, _, hc⟩
      · exact .inl h0
      · refine .inr ⟨g, off, ha, hg, fun j hj => ?_⟩
        obtain ⟨u0, u1, u2, u3, hf, hr⟩ := hc j hj
        exact ⟨u0, u1, u2, u3, hf, MRd.rd hr⟩⟩
theorem MRd.keep {K : Nat → Prop} {w w' : World} (hk : Kp K w w') : ∀ {d : Nat} {v : Value} {t : T}, MRd K w d v t → MRd K w' d v t
  | 0, _, _, h => h
  | d + 1, v, .node k n x ks, ⟨a, c, h1, h3, h4, h5⟩ => ⟨a, c, h1, h3, h4, h5.imp id fun ⟨g, off, ha, hg, ⟨cs, hcs⟩, hlt, ⟨m1, m2, m3, hm⟩, hc⟩ => ⟨g, off, ha, hg, ⟨cs, hk.block' hcs hg⟩, hlt, ⟨m1, m2, m3, hm.keep hk hg⟩, fun j hj => by
      obtain ⟨u0, u1, u2, u3, hf, hr⟩ := hc j hj
      exact ⟨u0, u1, u2, u3, hf.keep hk hg, MRd.keep hk hr⟩⟩⟩
theorem MRd.mono {K L : Nat → Prop} {w : World} (hl : ∀ k, k < w.heap.size → K k → L k) : ∀ {d : Nat} {v : Value} {t : T}, MRd K w d v t → MRd L w d v t
  | 0, _, _, h => h
  | d + 1, v, .node k n x ks, ⟨a, c, h1, h3, h4, h5⟩ => ⟨a, c, h1, h3, h4, h5.imp id fun ⟨g, off, ha, hg, hcs, hlt, ⟨m1, m2, m3, hm⟩, hc⟩ => ⟨g, off, ha, hl g (lt_of_cell hm.1) hg, hcs, hlt, ⟨m1, m2, m3, hm⟩, fun j hj => by
      obtain ⟨u0, u1, u2, u3, hf, hr⟩ := hc j hj
      exact ⟨u0, u1, u2, u3, hf, MRd.mono hl hr⟩⟩⟩
theorem MRd.later {K : Nat → Prop} {w w' : World} {d : Nat} {v : Value} {t : T} (h : MRd K w d v t) (hx : Ext w w') : MRd K w' d v t := h.keep (hx.kp K)
theorem eql_nil (a : Option Addr) (l c : Nat) (W : World) : (binOp .eql 25 (.slice a l c) (.slice none 0 0)).run Tryz.prog W = .ok (.bool a.isNone) W := by
  simp [binOp, go_sem, run_equal_slice_nil W 25 30 a l c Tryz.underlying25]
theorem row4_some {w : World} {base : Nat} {v : Value} {n : Nat} {xs : List Value} (h : w.ownsRow base 30 4 v (n + 1) xs) : ∃ g c, v = .slice (some ⟨g, 0, none⟩) (n + 1) c ∧ n + 1 ≤ c ∧ base ≤ g := by
  rcases h.2 with ⟨_, h0⟩ | ⟨g, cap, cur, rfl, hb, _, hc, _⟩
  · omega
  · exact ⟨g, cap, rfl, hc, hb⟩
/-- The plain values of a row. -/
def RowM (w : World) (base d : Nat) (v : Value) (ks : List T) (xs : List Value) : Prop :=
  ∀ j, (h : j < ks.length) → ∃ u0 u1 u2 u3, xs[j * 4]? = some u0 ∧ xs[j * 4 + 1]? = some u1 ∧ xs[j * 4 + 2]? = some u2 ∧ xs[j * 4 + 3]? = some u3 ∧ MRd (fun q => base ≤ q ∧ v.ownBlock ≠ some q) w d (.agg #[u0, u1, u2, u3]) ks[j]
set_option maxRecDepth 100000 in
set_option maxHeartbeats 2000000 in
theorem twin_any : ∀ (d : Nat) (v : Value) (t : T) (K : Nat → Prop) (w : World), Rd K w d v t →
    Calls Tryz.prog 25 #[v] w fun e w' => ∃ v', e = .returned v' ∧ MRd (fun q => w.heap.size ≤ q) w' d v' t ∧ Ext w w' := by
  intro d
  induction d with
  | zero => intro v t K w h; exact h.elim
  | succ d ih =>
    intro v t K w hr
    obtain ⟨k, n, x, ks⟩ := t
    obtain ⟨a, c, rfl, hkl⟩ := hr.kidsL
    have hks : x.size ≤ 140737488351232 := by obtain ⟨_, _, _, h2, _⟩ := hr; exact h2
    have HK := hid hkl
    have HIH := hid ih
    have HKS := hid hks
    have hl' : (ks.length : Int) ≤ 140737488355328 := by have := hkl.1; omega
    have hl2 : ks.length * 56 ≤ 140737488351232 := hkl.1
    clear hr hkl ih hks
    cases a with
    | none =>
      have h0 : ks = [] := by
        cases ks with
        | nil => rfl
        | cons t r => obtain ⟨g, off, _, _, _, _, _, _, h, _⟩ := HK.out.kid (j := 0) (by simp); cases h
      subst h0
      have hnil := eql_nil none 0 c
      simp only [Option.isNone_none] at hnil
      go_enter Tryz.func25, Tryz.ntmps25
      go_wp2_with fail
      refine bodyPost_ret (v := .agg #[.int .i64 k, .int .i64 n, .string x, .slice none 0 c]) (by simp [results, Tryz.results25, go_sem]) rfl ?_
      exact ⟨_, rfl, ⟨none, c, rfl, HKS.out, HK.out.1, .inl ⟨rfl, rfl⟩⟩, Ext.alloc2 _ _ _⟩
    | some a =>
    obtain ⟨ti, hi, hy0, hy1, hy2⟩ := info_parts plainInfo
    obtain ⟨cz, hcz, hmk⟩ : ∃ cz : Array Value, cz.size = (ks.length + 1) * 4 ∧ ∀ w, (Instr.makeSlice 25 (.int .i64 0) (.int .i64 ((ks.length : Int) + 1))).run Tryz.prog w = .ok (.slice (some ⟨w.heap.size, 0, none⟩) 0 (ks.length + 1)) (w.alloc (.cells cz 30)) := by
      refine ⟨madeCells (Value.agg #[.int .i64 0, .int .i64 0, .string ⟨#[]⟩, .slice none 0 0]).cells ((ks.length + 1) * 4), size_madeCells _ _, fun w => ?_⟩
      have := run_make (P := Tryz.prog) w 25 30 ti _ Tryz.underlying25 hi hy0 .i64 .i64 0 ((ks.length : Int) + 1) (by omega) (by omega) (by rw [hy2]; omega) (by omega)
      rw [hy1, show ((ks.length : Int) + 1).toNat = ks.length + 1 by omega] at this
      simpa using this
    have HCZ := hid hcz
    have hnil := eql_nil (some a) ks.length c
    simp only [Option.isNone_some] at hnil
    clear hcz
    go_enter Tryz.func25, Tryz.ntmps25
    go_wp2_with fail
    have HMK := hid hmk
    clear hmk
    have hb0 : w.heap.size ≤ w.heap.size := Nat.le_refl _
    obtain ⟨i0, hi0, hz0, hz1, hz2⟩ := info_parts plainInfo
    go_loopw [3, 4] (fun l i wr => ∃ (j : Nat) (xs : List Value), j ≤ ks.length ∧ i = .int .i64 j ∧ Ext w wr ∧ wr.heap[w.heap.size]? = some (.cells #[.int .i64 k, .int .i64 n, .string x, .slice (some a) ks.length c] 30) ∧
        wr.heap[w.heap.size + 1]? = some (.cells #[.int .i64 0, .int .i64 0, .string ⟨#[]⟩, .slice none 0 0] 30) ∧ wr.ownsRow (w.heap.size + 1 + 1) 30 4 l j xs ∧ RowM wr (w.heap.size + 1 + 1) d l (ks.take j) xs) (fun _ i _ => ks.length - (intOf i).toNat)
    case atStart => exact ⟨0, [], Nat.zero_le _, rfl, Ext.alloc3 _ _ _ _, blkOld _ (blkOld _ (blk0 _ _)), blkOld _ (blk1 _ _ _), (by have h := World.ownsRow_made (base := w.heap.size + 1 + 1) (e := 30) (size := 4) ((w.alloc (.cells #[.int .i64 k, .int .i64 n, .string x, .slice (some a) ks.length c] 30)).alloc (.cells #[.int .i64 0, .int .i64 0, .string ⟨#[]⟩, .slice none 0 0] 30)) cz (ks.length + 1) (by simp) (by unfold maxLen; omega) HCZ.out; simpa using h), fun j h => absurd h (by simp)⟩
    case round =>
      obtain ⟨j, xs, hj, rfl, hx, hbt, hbr, hrow, hok⟩ := hrel
      have HX := hid hx
      have HBT := hid hbt
      have HBR := hid hbr
      have HROW := hid hrow
      have HOK := hid hok
      obtain ⟨av, cv, rfl⟩ := row4_slice hrow
      obtain ⟨t0, t1, t2, t3⟩ := four_of hbt
      have hsw : w.heap.size + 1 < wr.heap.size := lt_of_block hbr
      clear hx hbr hrow hok
      by_cases hlt : j < ks.length
      · have hlt' : (j : Int) < ks.length := by omega
        obtain ⟨g, off, k', n', x', a', l', c', ha, hg, h4, hr⟩ := HK.out.kid hlt
        cases ha
        obtain ⟨m0, m1, m2, m3⟩ := h4.keep (HX.out.kp K) hg
        have hgl := lt_of_cell m0
        have HC := hid (HIH.out _ ks[j] K wr (hr.later HX.out))
        clear h4 hr hg hbt
        go_wp2_with fail
        refine HC.out.mono ?_
        rintro e w2 ⟨v', rfl, hrd, hy⟩
        obtain ⟨u0, u1, u2, u3, rfl⟩ := hrd.rd.agg
        obtain ⟨k2, n2, x2, a2, c2, rfl, rfl, rfl, rfl⟩ := hrd.rd.shape
        have HRD := hid hrd
        have HY := hid hy
        have hy1 := hy.size
        clear hrd hy m0 m1 m2 m3 t0 t1 t2 t3 HC
        generalize (T.kids ks[j]).length = kl at HRD
        obtain ⟨q0, q1, q2, q3⟩ := four_of (blk0 w2 (.cells #[.int .i64 k2, .int .i64 n2, .string x2, .slice a2 kl c2] 30))
        have hb64 := HK.out.1
        have HNEWS := hid (show ∀ (e : Nat) (u : Value), [Value.int .i64 k2, .int .i64 n2, .string x2, .slice a2 kl c2][e]? = some u → ((w2.alloc (.cells #[.int .i64 k2, .int .i64 n2, .string x2, .slice a2 kl c2] 30)).alloc (.cells #[.int .i64 k2, .int .i64 n2, .string x2, .slice a2 kl c2] 30)).cell? ((⟨w2.heap.size + 1, 0, none⟩ : Addr).add e) = some u from fun e u he => by
          have hb := blk1 w2 (.cells #[.int .i64 k2, .int .i64 n2, .string x2, .slice a2 kl c2] 30) (.cells #[.int .i64 k2, .int .i64 n2, .string x2, .slice a2 kl c2] 30)
          match e, he with
          | 0, he => cases he; exact cell_of (i := 0) hb rfl
          | 1, he => cases he; exact cell_of (i := 1) hb rfl
          | 2, he => cases he; exact cell_of (i := 2) hb rfl
          | 3, he => cases he; exact cell_of (i := 3) hb rfl)
        have xr2 := row4_keep HROW.out ((HY.out.trans (Ext.alloc2 w2 (.cells #[.int .i64 k2, .int .i64 n2, .string x2, .slice a2 kl c2] 30) (.cells #[.int .i64 k2, .int .i64 n2, .string x2, .slice a2 kl c2] 30))).kp (fun _ => True)) (fun _ _ => trivial)
        have hlow : ∀ q, (Value.slice av j cv).ownBlock = some q → w.heap.size + 1 + 1 ≤ q ∧ q < wr.heap.size := fun q hq => HROW.out.lt q hq
        have HLOW := hid hlow
        clear hlow
        go_wp2_with (at_builtin; refine wpList_append_own_at _ rfl _ _ 25 rfl (w.heap.size + 1 + 1) 30 i0 (.agg #[.int .i64 0, .int .i64 0, .string ⟨#[]⟩, .slice none 0 0]) 4 56 Tryz.underlying25 hi0 hz0 hz1 hz2 rfl (by decide) _ _ _ rfl xr2 ⟨w2.heap.size + 1, 0, none⟩ 1 1 [Value.int .i64 k2, .int .i64 n2, .string x2, .slice a2 kl c2] rfl rfl HNEWS.out (by simp [Value.oneCell']) (by unfold maxLen; omega) (by omega) (by simp; omega) ?_; intro v9 w9 hown9 hgrow9 _ hat9; obtain ⟨a9, c9, rfl⟩ := row4_slice hown9)
        go_roundw
        case rel =>
          have K9 : Kp (fun q => some q ≠ (Value.slice av j cv).ownBlock) w2 w9 := ((Ext.alloc2 w2 (.cells #[.int .i64 k2, .int .i64 n2, .string x2, .slice a2 kl c2] 30) (.cells #[.int .i64 k2, .int .i64 n2, .string x2, .slice a2 kl c2] 30)).kp _).trans ⟨hgrow9.os, hgrow9.tape, hgrow9.output, hgrow9.size, fun q hq hne => hgrow9.block q hq hne⟩
          have K8 : Kp (fun q => some q ≠ (Value.slice av j cv).ownBlock) wr w9 := (HY.out.kp _).trans K9
          have hat : ∀ q, q < w2.heap.size → some q ≠ (Value.slice av j cv).ownBlock → (Value.slice a9 (j + 1) c9).ownBlock ≠ some q := fun q hq hne e => by
            rcases hat9 with h | h
            · exact hne (e.symm.trans h)
            · rw [h] at e
              simp only [Option.some.injEq, World.size_alloc] at e
              omega
          have hxl : xs.length = j * 4 := HROW.out.1
          refine ⟨j + 1, xs ++ [Value.int .i64 k2, .int .i64 n2, .string x2, .slice a2 kl c2], hlt, by go_num, ?_, ?_, ?_, hown9, fun i hi => ?_⟩
          · exact Kp.ext ((HX.out.kp (fun q => some q ≠ (Value.slice av j cv).ownBlock)).trans K8) (fun q hq e => by have := (HLOW.out q e.symm).1; omega)
          · exact K8.block' HBT.out (fun e => by have := (HLOW.out _ e.symm).1; omega)
          · exact K8.block' HBR.out (fun e => by have := (HLOW.out _ e.symm).1; omega)
          · have hi' : i < j + 1 := by simp at hi; omega
            by_cases hij : i < j
            · obtain ⟨y0, y1, y2, y3, z0, z1, z2, z3, hrd⟩ := HOK.out i (by simp; omega)
              have e : (ks.take (j + 1))[i] = (ks.take j)[i]'(by simp; omega) := by simp
              rw [e]
              refine ⟨y0, y1, y2, y3, by rw [List.getElem?_append_left (by omega)]; exact z0, by rw [List.getElem?_append_left (by omega)]; exact z1, by rw [List.getElem?_append_left (by omega)]; exact z2, by rw [List.getElem?_append_left (by omega)]; exact z3, ?_⟩
              refine ((hrd.mono (L := fun q => (w.heap.size + 1 + 1 ≤ q ∧ q < wr.heap.size) ∧ some q ≠ (Value.slice av j cv).ownBlock) (fun q hq h => ⟨⟨h.1, hq⟩, fun e => h.2 e.symm⟩)).keep (K8.mono (fun q _ h => h.2))).mono (fun q _ h => ⟨h.1.1, hat q (by omega) h.2⟩)
            · have hij' : i = j := by omega
              subst hij'
              have e : (ks.take (i + 1))[i] = ks[i] := by simp
              rw [e]
              refine ⟨_, _, _, _, by rw [List.getElem?_append_right (by omega), hxl, Nat.sub_self]; rfl, by rw [List.getElem?_append_right (by omega), hxl, show i * 4 + 1 - i * 4 = 1 by omega]; rfl, by rw [List.getElem?_append_right (by omega), hxl, show i * 4 + 2 - i * 4 = 2 by omega]; rfl, by rw [List.getElem?_append_right (by omega), hxl, show i * 4 + 3 - i * 4 = 3 by omega]; rfl, ?_⟩
              refine ((HRD.out.mono (L := fun q => (wr.heap.size ≤ q ∧ q < w2.heap.size) ∧ some q ≠ (Value.slice av i cv).ownBlock) (fun q hq h => ⟨⟨h, hq⟩, fun e => by have := (HLOW.out q e.symm).2; have h' : wr.heap.size ≤ q := h; omega⟩)).keep (K9.mono (fun q _ h => h.2))).mono (fun q _ h => ⟨by have := h.1.1; omega, hat q h.1.2 h.2⟩)
        case measure => simp [intOf]; omega
      · have hje : j = ks.length := by omega
        subst hje
        obtain ⟨f0, f1, f2, f3⟩ := four_free hbt
        have r4 := four_of HBR.out
        have e4 := four_free HBR.out
        have hxl : xs.length = ks.length * 4 := HROW.out.1
        have HNEWS := hid (show ∀ (e : Nat) (u : Value), [Value.int .i64 (-7), .int .i64 0, .string ⟨#[]⟩, .slice none 0 0][e]? = some u → (wr.alloc (.cells #[.int .i64 (-7), .int .i64 0, .string ⟨#[]⟩, .slice none 0 0] 30)).cell? ((⟨wr.heap.size, 0, none⟩ : Addr).add e) = some u from fun e u he => by
          have hb := blk0 wr (.cells #[.int .i64 (-7), .int .i64 0, .string ⟨#[]⟩, .slice none 0 0] 30)
          match e, he with
          | 0, he => cases he; exact cell_of (i := 0) hb rfl
          | 1, he => cases he; exact cell_of (i := 1) hb rfl
          | 2, he => cases he; exact cell_of (i := 2) hb rfl
          | 3, he => cases he; exact cell_of (i := 3) hb rfl)
        have xr2 := row4_keep HROW.out ((Ext.alloc wr (.cells #[.int .i64 (-7), .int .i64 0, .string ⟨#[]⟩, .slice none 0 0] 30)).kp (fun _ => True)) (fun _ _ => trivial)
        have HLOW := hid (show ∀ q, (Value.slice av ks.length cv).ownBlock = some q → w.heap.size + 1 + 1 ≤ q ∧ q < wr.heap.size from fun q hq => HROW.out.lt q hq)
        have hln : (ks.length : Int) + 1 - 1 = ks.length := by omega
        have HK9 := hid (show ∀ w9 : World, (wr.alloc (.cells #[.int .i64 (-7), .int .i64 0, .string ⟨#[]⟩, .slice none 0 0] 30)).grownBy w9 (Value.slice av ks.length cv).ownBlock → Kp (fun q => some q ≠ (Value.slice av ks.length cv).ownBlock) wr w9 from fun w9 hg => ((Ext.alloc wr _).kp _).trans ⟨hg.os, hg.tape, hg.output, hg.size, fun q hq hne => hg.block q hq hne⟩)
        have HB9 := hid (show ∀ w9 : World, Kp (fun q => some q ≠ (Value.slice av ks.length cv).ownBlock) wr w9 → w9.heap[w.heap.size]? = some (.cells #[.int .i64 k, .int .i64 n, .string x, .slice (some a) ks.length c] 30) ∧ w9.heap[w.heap.size + 1]? = some (.cells #[.int .i64 0, .int .i64 0, .string ⟨#[]⟩, .slice none 0 0] 30) from fun w9 hk => ⟨hk.block' HBT.out (fun e => by have := (HLOW.out _ e.symm).1; omega), hk.block' HBR.out (fun e => by have := (HLOW.out _ e.symm).1; omega)⟩)
        clear f0 f1 f2 f3 r4 e4
        go_wp2_with (at_builtin; refine wpList_append_own_at _ rfl _ _ 25 rfl (w.heap.size + 1 + 1) 30 i0 (.agg #[.int .i64 0, .int .i64 0, .string ⟨#[]⟩, .slice none 0 0]) 4 56 Tryz.underlying25 hi0 hz0 hz1 hz2 rfl (by decide) _ _ _ rfl xr2 ⟨wr.heap.size, 0, none⟩ 1 1 [Value.int .i64 (-7), .int .i64 0, .string ⟨#[]⟩, .slice none 0 0] rfl rfl HNEWS.out (by simp [Value.oneCell']) (by unfold maxLen; omega) (by omega) (by simp; omega) ?_; intro v9 w9 hown9 hgrow9 _ hat9; obtain ⟨g9, c9, rfl, hc9, hge9⟩ := row4_some hown9; obtain ⟨hb9, hr9⟩ := HB9.out w9 (HK9.out w9 hgrow9); obtain ⟨y0, y1, y2, y3⟩ := four_of hb9; obtain ⟨f0, f1, f2, f3⟩ := four_free hb9; obtain ⟨r0, r1, r2, r3⟩ := four_of hr9; obtain ⟨e0, e1, e2, e3⟩ := four_free hr9; have hc9' : (ks.length : Int) + 1 ≤ c9 := by omega)
        have k9 := HK9.out w9 hgrow9
        have k1 := Kp.set (K := fun q => q ≠ w.heap.size ∧ q ≠ w.heap.size + 1) w9 w.heap.size 3 (.slice (some ⟨g9, 0, none⟩) ks.length c9) (fun h => h.1 rfl)
        have k2 := (Kp.set4 (w9.setCell ⟨w.heap.size, 3, none⟩ (.slice (some ⟨g9, 0, none⟩) ks.length c9)) (w.heap.size + 1) 0 (.int .i64 k) (.int .i64 n) (.string x) (.slice (some ⟨g9, 0, none⟩) ks.length c9)).mono (L := fun q => q ≠ w.heap.size ∧ q ≠ w.heap.size + 1) (fun q _ h => h.2)
        have k3 := k1.trans k2
        have hbr2 := set_other (i := 3) hr9 (show w.heap.size + 1 ≠ w.heap.size by omega) (.slice (some ⟨g9, 0, none⟩) ks.length c9)
        obtain ⟨z0, z1, z2, z3⟩ := four_of (four_set (u0 := .int .i64 k) (u1 := .int .i64 n) (u2 := .string x) (u3 := .slice (some ⟨g9, 0, none⟩) ks.length c9) hbr2)
        refine bodyPost_ret (v := .agg #[.int .i64 k, .int .i64 n, .string x, .slice (some ⟨g9, 0, none⟩) ks.length c9]) (by simp [results, Tryz.results25, go_sem, z0, z1, z2, z3]) rfl ?_
        have hKg : g9 ≠ w.heap.size ∧ g9 ≠ w.heap.size + 1 := ⟨by omega, by omega⟩
        have ce : ∀ (e : Nat) (y : Value), e < (ks.length + 1) * 4 → (xs ++ [Value.int .i64 (-7), .int .i64 0, .string ⟨#[]⟩, .slice none 0 0])[e]? = some y → _ := fun e y he hy => k3.cell ((hown9.cellAt e he).trans hy) hKg
        have HCU := (show ∃ cur, w9.heap[g9]? = some (.cells cur 30) by
          rcases hown9.2 with ⟨h, _⟩ | ⟨g', _, cur, h, _, hc', _⟩
          · cases h
          · cases h; exact ⟨cur, hc'⟩).imp (fun cur hc => k3.block' hc hKg)
        refine ⟨_, rfl, ⟨some ⟨g9, 0, none⟩, c9, rfl, HKS.out, HK.out.1, .inr ⟨g9, 0, rfl, by show w.heap.size ≤ g9; omega, HCU, by omega, ⟨.int .i64 0, .string ⟨#[]⟩, .slice none 0 0, ⟨?_, ?_, ?_, ?_⟩⟩, fun i hi => ?_⟩⟩, Kp.ext (Kp.trans ((HX.out.kp (fun q => q < w.heap.size)).trans (k9.mono (fun q _ h e => by have h' : q < _ := h; have := (HLOW.out _ e.symm).1; omega))) (k3.mono (fun q _ h => ⟨by have h' : q < _ := h; omega, by have h' : q < _ := h; omega⟩))) (fun q hq => hq)⟩
        · rw [Nat.zero_add]; exact ce _ (.int .i64 (-7)) (by omega) (by rw [List.getElem?_append_right (by omega), hxl, Nat.sub_self]; rfl)
        · rw [Nat.zero_add]; exact ce _ (.int .i64 0) (by omega) (by rw [List.getElem?_append_right (by omega), hxl, show ks.length * 4 + 1 - ks.length * 4 = 1 by omega]; rfl)
        · rw [Nat.zero_add]; exact ce _ (.string ⟨#[]⟩) (by omega) (by rw [List.getElem?_append_right (by omega), hxl, show ks.length * 4 + 2 - ks.length * 4 = 2 by omega]; rfl)
        · rw [Nat.zero_add]; exact ce _ (.slice none 0 0) (by omega) (by rw [List.getElem?_append_right (by omega), hxl, show ks.length * 4 + 3 - ks.length * 4 = 3 by omega]; rfl)
        · obtain ⟨y0, y1, y2, y3, o0, o1, o2, o3, hrd⟩ := HOK.out i (by simpa using hi)
          have e : (ks.take ks.length)[i]'(by simpa using hi) = ks[i] := by simp
          rw [e] at hrd
          refine ⟨y0, y1, y2, y3, ⟨?_, ?_, ?_, ?_⟩, ?_⟩
          · rw [Nat.zero_add]; exact ce _ y0 (by omega) (by rw [List.getElem?_append_left (by omega)]; exact o0)
          · rw [Nat.zero_add]; exact ce _ y1 (by omega) (by rw [List.getElem?_append_left (by omega)]; exact o1)
          · rw [Nat.zero_add]; exact ce _ y2 (by omega) (by rw [List.getElem?_append_left (by omega)]; exact o2)
          · rw [Nat.zero_add]; exact ce _ y3 (by omega) (by rw [List.getElem?_append_left (by omega)]; exact o3)
          · refine ((hrd.keep (k9.mono (fun q _ h e => h.2 e.symm))).keep (k3.mono (fun q _ h => ⟨by have := h.1; omega, by have := h.1; omega⟩))).mono (fun q _ h => by have := h.1; show w.heap.size ≤ q; omega)
end Go.Proofs.YtaafcmmmkalgjaaGreatDoor
