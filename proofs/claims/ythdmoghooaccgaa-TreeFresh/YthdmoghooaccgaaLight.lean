/-
  The reference's At by a contract.
-/
import Derived.Test.YthdmoghooaccgaaRefCopy
import Derived.Test.YthdmoghooaccgaaPutOwn
namespace Go.Proofs.Ythdmoghooaccgaa
open Go.RowKit
def RAtF (w : World) (t : T) (p : List Int) (e : Ending) (w' : World) : Prop :=
  Ext w w' ∧ ((¬ t.small ∧ e = .returned (.tuple #[zeroTree, .int .i64 2])) ∨ (t.small ∧ T.at? t p = none ∧ e = .returned (.tuple #[zeroTree, .int .i64 23])) ∨ (t.small ∧ ∃ u d, T.at? t p = some u ∧ NewR w d u e w'))
set_option maxRecDepth 100000 in
set_option maxHeartbeats 2000000 in
theorem refAt_any {K : Nat → Prop} {d : Nat} {v : Value} {t : T} (w : World) (pa : Option Addr) (pc : Nat) (p : List Int) (hr : Rd K w d v t) (hI : Ints w (.slice pa p.length pc) p) (hb : p.length * 8 ≤ 140737488355328) : Calls Try.prog 38 #[v, .slice pa p.length pc] w (RAtF w t p) := by
  obtain ⟨u0, u1, u2, u3, rfl⟩ := hr.agg
  obtain ⟨k, n, x, a, c, rfl, rfl, rfl, rfl⟩ := hr.shape
  have C1 := hid (fun w1 (h : Ext w w1) => refSmall_any w1 (hr.later h))
  have HR := hid hr.low
  have HI := hid hI
  have hl : (p.length : Int) ≤ 140737488355328 := by omega
  clear hr hI
  generalize (T.kids t).length = kt at *
  by_cases h1 : t.small
  · rw [decide_eq_true h1] at C1
    have HS := hid h1
    clear h1
    go_enter Try.func38, Try.ntmps38
    go_wp2_with fail
    refine (C1.out _ (Ext.alloc2 _ _ _)).mono ?_
    rintro e w1 ⟨rfl, hx1⟩
    have HX1 := hid ((Ext.alloc2 w _ _).trans hx1)
    have HBT := hid (hx1.block (blkOld _ (blk0 w _)))
    have HBR := hid (hx1.block (blk1 w _ _))
    have hsz := hx1.size
    simp only [World.size_alloc] at hsz
    clear hx1
    go_wp2_with fail
    go_loopw [6] (fun i wr => ∃ (j d' : Nat) (y : T) (y0 y1 y2 y3 : Value), j ≤ p.length ∧ i = .int .i64 j ∧ Ext w wr ∧ w1.heap.size ≤ wr.heap.size ∧ wr.heap[w.heap.size]? = some (.cells #[y0, y1, y2, y3] 26) ∧ wr.heap[w.heap.size + 1]? = some (.cells #[.string ⟨#[]⟩, .int .i64 0, .string ⟨#[]⟩, .slice none 0 0] 26) ∧
        T.at? t (p.take j) = some y ∧ Rd (· < w.heap.size) wr d' (.agg #[y0, y1, y2, y3]) y) (fun i _ => p.length - (intOf i).toNat)
    case atStart => exact ⟨0, d, t, _, _, _, _, Nat.zero_le _, rfl, HX1.out, Nat.le_refl _, HBT.out, HBR.out, rfl, HR.out.later HX1.out⟩
    case round =>
      obtain ⟨j, d', y, y0, y1, y2, y3, hj, rfl, hx, hsz2, hbt, hbr, hat, hrd⟩ := hrel
      obtain ⟨k4, n4, x4, a4, c4, rfl, rfl, rfl, rfl⟩ := hrd.shape
      obtain ⟨kk, nn, xx, ks⟩ := y
      have HX := hid hx
      have HBT2 := hid hbt
      have HBR2 := hid hbr
      have HAT := hid hat
      have HRD := hid hrd
      obtain ⟨t0, t1, t2, t3⟩ := four_of hbt
      obtain ⟨e0, e1, e2, e3⟩ := four_free hbt
      obtain ⟨r0, r1, r2, r3⟩ := four_of hbr
      obtain ⟨f0, f1, f2, f3⟩ := four_free hbr
      clear hx hbt hbr hat hrd
      simp only [T.kids] at t3
      by_cases hlt : j < p.length
      · have hlt' : (j : Int) < p.length := by omega
        obtain ⟨g, off, rfl, hc⟩ := (HI.out.later HX.out).cell.2 j hlt
        have HTK := hid (T.take_succ' p j hlt)
        have HSP := hid (show p = p.take (j + 1) ++ p.drop (j + 1) from (List.take_append_drop _ _).symm)
        generalize hv : p[j] = v at hc HTK
        have hw1 : Hid (T.at? t (p.take (j + 1)) = if 0 ≤ v ∧ v < ks.length then ks[v.toNat]? else none) := by
          show _ = _
          rw [HTK.out, T.at_snoc _ _ _ _ HAT.out, T.at_one]
        have BAD := hid (show ¬ (0 ≤ v ∧ v < ks.length) → T.at? t p = none from fun h => by rw [HSP.out]; exact T.at_none _ _ _ (by rw [hw1.out, if_neg h]))
        by_cases h0 : v < 0
        · have HN := hid (BAD.out (by omega))
          go_wp2_with fail
          go_quiet (fail)
          go_wp2_with fail
          have hk4 := Kp.set4 (wr.drewN nq) (w.heap.size + 1) 0 (.string ⟨#[]⟩) (.int .i64 0) (.string ⟨#[]⟩) (.slice none 0 0)
          obtain ⟨z0, z1, z2, z3⟩ := four_of (four_set (u0 := .string ⟨#[]⟩) (u1 := .int .i64 0) (u2 := .string ⟨#[]⟩) (u3 := .slice none 0 0) (show (wr.drewN nq).heap[w.heap.size + 1]? = _ from HBR2.out))
          refine bodyPost_ret (v := .tuple #[zeroTree, .int .i64 23]) (by simp [results, Try.results38, go_sem, z0, z1, z2, z3]) rfl ?_
          exact ⟨Kp.extOf (HX.out.drewN nq) hk4 (Nat.le_succ _), .inr (.inl ⟨HS.out, HN.out, rfl⟩)⟩
        · have h0' : decide (v < 0) = false := decide_eq_false h0
          by_cases h1 : (ks.length : Int) ≤ v
          · have HN := hid (BAD.out (by omega))
            have h1' : decide ((ks.length : Int) ≤ v) = true := decide_eq_true h1
            go_wp2_with fail
            go_quiet (fail)
            go_wp2_with fail
            have hk4 := Kp.set4 (wr.drewN nq) (w.heap.size + 1) 0 (.string ⟨#[]⟩) (.int .i64 0) (.string ⟨#[]⟩) (.slice none 0 0)
            obtain ⟨z0, z1, z2, z3⟩ := four_of (four_set (u0 := .string ⟨#[]⟩) (u1 := .int .i64 0) (u2 := .string ⟨#[]⟩) (u3 := .slice none 0 0) (show (wr.drewN nq).heap[w.heap.size + 1]? = _ from HBR2.out))
            refine bodyPost_ret (v := .tuple #[zeroTree, .int .i64 23]) (by simp [results, Try.results38, go_sem, z0, z1, z2, z3]) rfl ?_
            exact ⟨Kp.extOf (HX.out.drewN nq) hk4 (Nat.le_succ _), .inr (.inl ⟨HS.out, HN.out, rfl⟩)⟩
          · have h1' : decide ((ks.length : Int) ≤ v) = false := decide_eq_false h1
            obtain ⟨vn, rfl⟩ : ∃ vn : Nat, v = vn := ⟨v.toNat, by omega⟩
            have hvl : vn < ks.length := by omega
            have hvl' : (vn : Int) < ks.length := by omega
            cases d' with
            | zero => exact HRD.out.elim
            | succ d' =>
            obtain ⟨a2, c2, he, hL⟩ := HRD.out.kidsL
            simp only [Value.agg.injEq, Array.mk.injEq, List.cons.injEq, and_true, Value.slice.injEq] at he
            obtain ⟨_, _, _, rfl, _, rfl⟩ := he
            obtain ⟨g', off', k', n', x', b', l', cc', rfl, hg', h4', hr'⟩ := hL.kid hvl
            obtain ⟨m0, m1, m2, m3⟩ := h4'
            have hgl : g' < w.heap.size := hg'
            have HU := hid (show T.at? t (p.take (j + 1)) = some ks[vn] by rw [hw1.out, if_pos (by omega)]; simp [hvl])
            have HR4 := hid hr'
            clear hr' hg' hL
            go_wp2_with fail
            go_quiet (fail)
            go_wp2_with fail
            go_region
            all_goals
              go_wp2_with fail
              go_roundw
              case rel =>
                have hk4 := Kp.set4 (wr.drewN (nq + 1)) w.heap.size 0 (.string k') (.int .i64 n') (.string x') (.slice b' l' cc')
                have hkw : Kp (· ≠ w.heap.size) wr (((((wr.drewN (nq + 1)).setCell ⟨w.heap.size, 0, none⟩ (.string k')).setCell ⟨w.heap.size, 1, none⟩ (.int .i64 n')).setCell ⟨w.heap.size, 2, none⟩ (.string x')).setCell ⟨w.heap.size, 3, none⟩ (.slice b' l' cc')) := (((Ext.refl wr).drewN (nq + 1)).kp _).trans hk4
                exact ⟨j + 1, d', ks[vn], _, _, _, _, hlt, by go_num, Kp.extOf HX.out hkw (Nat.le_refl _), Nat.le_trans hsz2 hkw.size, four_set (show (wr.drewN (nq + 1)).heap[w.heap.size]? = _ from HBT2.out), hkw.block' HBR2.out (show w.heap.size + 1 ≠ w.heap.size by omega), HU.out, HR4.out.keep (hkw.mono (fun q _ hq e => by have hq' : q < w.heap.size := hq; have e' : q = _ := e; omega))⟩
              case measure => simp [intOf]; omega
      · have hje : j = p.length := by omega
        have HT := hid (show p.take j = p by rw [hje, List.take_length])
        have C2 := hid (own_any d' _ _ _ wr HRD.out)
        clear hje
        go_wp2_with fail
        refine C2.out.mono ?_
        rintro e w2 ⟨v', rfl, hrd, hx2⟩
        obtain ⟨u0, u1, u2, u3, rfl⟩ := hrd.agg
        obtain ⟨k3, n3, x3, a3, c3, rfl, rfl, rfl, rfl⟩ := hrd.shape
        have hb4 := hx2.block HBR2.out
        have HB3 := hid hb4
        clear r0 r1 r2 r3 f0 f1 f2 f3 t0 t1 t2 t3
        obtain ⟨q0, q1, q2, q3⟩ := four_of hb4
        obtain ⟨f0, f1, f2, f3⟩ := four_free hb4
        have HRD3 := hid hrd
        have HX2 := hid (HX.out.trans hx2)
        clear hb4 hrd hx2
        generalize (T.kids (T.node kk nn xx ks)).length = kt2 at HRD3
        go_wp2_with fail
        have hk4 := Kp.set4 w2 (w.heap.size + 1) 0 (.string k3) (.int .i64 n3) (.string x3) (.slice a3 kt2 c3)
        obtain ⟨z0, z1, z2, z3⟩ := four_of (four_set (u0 := .string k3) (u1 := .int .i64 n3) (u2 := .string x3) (u3 := .slice a3 kt2 c3) HB3.out)
        refine bodyPost_ret (v := .tuple #[.agg #[.string k3, .int .i64 n3, .string x3, .slice a3 kt2 c3], .int .i64 0]) (by simp [results, Try.results38, go_sem, z0, z1, z2, z3]) rfl ?_
        have hat := HAT.out
        rw [HT.out] at hat
        exact ⟨Kp.extOf HX2.out hk4 (Nat.le_succ _), .inr (.inr ⟨HS.out, _, d', hat, _, rfl, (HRD3.out.keep (hk4.mono (fun q _ hq e => by have hq' : wr.heap.size ≤ q := hq; have e' : q = _ := e; omega))).mono (fun q _ hq => by have hq' : wr.heap.size ≤ q := hq; show w.heap.size ≤ q; omega)⟩)⟩
  · rw [decide_eq_false h1] at C1
    have HS := hid h1
    clear h1
    go_enter Try.func38, Try.ntmps38
    go_wp2_with fail
    refine (C1.out _ (Ext.alloc2 _ _ _)).mono ?_
    rintro e w1 ⟨rfl, hx1⟩
    have hb := hx1.block (blk1 w _ _)
    have HB := hid hb
    obtain ⟨q0, q1, q2, q3⟩ := four_of hb
    obtain ⟨f0, f1, f2, f3⟩ := four_free hb
    have HX := hid ((Ext.alloc2 w _ _).trans hx1)
    clear hb hx1
    go_wp2_with fail
    have hk4 := Kp.set4 w1 (w.heap.size + 1) 0 (.string ⟨#[]⟩) (.int .i64 0) (.string ⟨#[]⟩) (.slice none 0 0)
    obtain ⟨z0, z1, z2, z3⟩ := four_of (four_set (u0 := .string ⟨#[]⟩) (u1 := .int .i64 0) (u2 := .string ⟨#[]⟩) (u3 := .slice none 0 0) HB.out)
    refine bodyPost_ret (v := .tuple #[zeroTree, .int .i64 2]) (by simp [results, Try.results38, go_sem, z0, z1, z2, z3]) rfl ?_
    exact ⟨Kp.extOf HX.out hk4 (Nat.le_succ _), .inl ⟨HS.out, rfl⟩⟩
end Go.Proofs.Ythdmoghooaccgaa
/-
  Light of the statements, by a contract.
-/
namespace Go.Proofs.Ythdmoghooaccgaa
open Go.RowKit
mutual
/-- What light counts down to. -/
def lightN : T → Int → Int | .node _ _ x ks, n => lightL ks (n - 1 - ((x.size / 64 : Nat) : Int))
def lightL : List T → Int → Int | [], n => n | t :: r, n => if 0 ≤ n then lightL r (lightN t n) else n
end
theorem lightL_append (l r : List T) (n : Int) : lightL (l ++ r) n = lightL r (lightL l n) := by
  induction l generalizing n with
  | nil => simp [lightL]
  | cons t q ih =>
    simp only [List.cons_append, lightL]
    split
    · exact ih _
    · rename_i h
      cases r with
      | nil => simp [lightL]
      | cons u s => simp only [lightL]; rw [if_neg h]
theorem lightL_neg (l : List T) {n : Int} (h : n < 0) : lightL l n = n := by
  cases l with
  | nil => rfl
  | cons t r => simp only [lightL]; rw [if_neg (by omega)]
theorem lightL_take (l : List T) (i : Nat) (h : i < l.length) (n : Int) (h0 : 0 ≤ lightL (l.take i) n) : lightL (l.take (i + 1)) n = lightN l[i] (lightL (l.take i) n) := by
  rw [T.take_succ' l i h, lightL_append]
  simp only [lightL]
  rw [if_pos h0]
set_option maxRecDepth 100000 in
set_option maxHeartbeats 2000000 in
theorem light_any : ∀ (d : Nat) (v : Value) (t : T) (K : Nat → Prop) (w : World) (n : Int), Rd K w d v t → 0 ≤ n → n ≤ 3000 →
    Calls Try.prog 33 #[v, .int .i64 n] w fun e w' => e = .returned (.int .i64 (lightN t n)) ∧ (-140737488355328 ≤ lightN t n ∧ lightN t n ≤ n) ∧ Ext w w' := by
  intro d
  induction d with
  | zero => intro v t K w n h; exact h.elim
  | succ d ih =>
    intro v t K w m hr hm0 hm1
    obtain ⟨k, n, x, ks⟩ := t
    obtain ⟨a, c, rfl, hkl⟩ := hr.kidsL
    have hxs : x.size ≤ 140737488351232 := by obtain ⟨_, _, _, _, h, _⟩ := hr; exact h
    have hl' : (ks.length : Int) ≤ 140737488355328 := by have := hkl.1; omega
    have hx' : (x.size : Int) ≤ 140737488355328 := by omega
    have HK := hid hkl
    have HIH := hid ih
    clear hr hkl ih
    obtain ⟨s, hs⟩ : ∃ s : Int, m - 1 - ((x.size / 64 : Nat) : Int) = s := ⟨_, rfl⟩
    have hs1 : -140737488355328 ≤ s ∧ s < m := by omega
    have HE := hid (show lightN (.node k n x ks) m = lightL ks s by simp only [lightN]; rw [hs])
    have HSS := hid hs
    go_enter Try.func33, Try.ntmps33
    go_wp2_with fail
    go_loopw [1, 5] (fun nn i wr => ∃ j : Nat, j ≤ ks.length ∧ i = .int .i64 j ∧ nn = .int .i64 (lightL (ks.take j) s) ∧ (-140737488355328 ≤ lightL (ks.take j) s ∧ lightL (ks.take j) s ≤ s) ∧ wr.heap[w.heap.size]? = some (.cells #[.string k, .int .i64 n, .string x, .slice a ks.length c] 26) ∧ Ext w wr) (fun _ i _ => ks.length - (intOf i).toNat)
    case atStart =>
      refine ⟨0, Nat.zero_le _, rfl, ?_, ?_, blk0 _ _, Ext.alloc _ _⟩
      · simp only [List.take_zero, lightL]
        rw [← HSS.out]
        congr 1
      · simp only [List.take_zero, lightL]; omega
    case round =>
      obtain ⟨j, hj, rfl, rfl, hbd, hbt, hx⟩ := hrel
      have HX := hid hx
      have HBT := hid hbt
      obtain ⟨t0, t1, t2, t3⟩ := four_of hbt
      obtain ⟨r, hr⟩ : ∃ r, lightL (ks.take j) s = r := ⟨_, rfl⟩
      rw [hr] at hbd ⊢
      have HRR := hid hr
      clear hx hbt hr
      by_cases hlt : j < ks.length
      · have hlt' : (j : Int) < ks.length := by omega
        by_cases h0 : 0 ≤ r
        · obtain ⟨g, off, k', n', x', a', l', c', rfl, hg, h4, hrd⟩ := HK.out.kid hlt
          obtain ⟨m0, m1, m2, m3⟩ := h4.keep (HX.out.kp K) hg
          have hgl := lt_of_cell m0
          have HC := hid (HIH.out _ ks[j] K wr r (hrd.later HX.out) h0 (by omega))
          clear h4 hrd hg
          go_wp2_with fail
          refine HC.out.mono ?_
          rintro e w2 ⟨rfl, hb2, hy⟩
          have HY := hid hy
          have HB2 := hid hb2
          clear hy hb2 m0 m1 m2 m3 t0 t1 t2 t3 HC
          go_wp2_with fail
          go_roundw
          case rel =>
            have e := lightL_take ks j hlt s (by rw [HRR.out]; exact h0)
            rw [HRR.out] at e
            exact ⟨j + 1, hlt, by go_num, by rw [e], by rw [e]; have := HB2.out; omega, HY.out.block HBT.out, HX.out.trans HY.out⟩
          case measure => simp [intOf]; omega
        · have HN := hid (show lightL ks s = r by
            have := lightL_append (ks.take j) (ks.drop j) s
            rw [List.take_append_drop, HRR.out] at this
            rw [this]
            exact lightL_neg _ (by omega))
          have h0' : decide (0 ≤ r) = false := decide_eq_false h0
          go_wp2_with fail
          go_ret
          exact ⟨by rw [HE.out, HN.out]; rfl, by rw [HE.out, HN.out]; omega, HX.out⟩
      · have HN := hid (show lightL ks s = r by rw [← HRR.out, show j = ks.length by omega, List.take_length])
        go_wp2_with fail
        go_ret
        exact ⟨by rw [HE.out, HN.out]; rfl, by rw [HE.out, HN.out]; omega, HX.out⟩
set_option maxRecDepth 100000 in
theorem light_ok {K : Nat → Prop} {d : Nat} {v : Value} {t : T} (w : World) (hr : Rd K w d v t) : Calls Try.prog 9 #[v] w fun e w' => e = .returned (.bool (decide (0 ≤ lightN t 3000))) ∧ Ext w w' := by
  obtain ⟨u0, u1, u2, u3, rfl⟩ := hr.agg
  obtain ⟨k, n, x, a, c, rfl, rfl, rfl, rfl⟩ := hr.shape
  have HR := hid hr
  clear hr
  go_enter Try.func9, Try.ntmps9
  go_wp2_with fail
  refine (light_any d _ t K _ 3000 (HR.out.later (Ext.alloc _ _)) (by decide) (by decide)).mono ?_
  rintro e w2 ⟨rfl, hb, hx⟩
  have HX := hid ((Ext.alloc w _).trans hx)
  clear hx
  obtain ⟨r, hr⟩ : ∃ r, lightN t 3000 = r := ⟨_, rfl⟩
  have HRR := hid hr
  rw [hr] at hb ⊢
  clear hr
  go_wp2_with fail
  go_ret
  exact ⟨ret_bool (by rw [HRR.out]), HX.out⟩
end Go.Proofs.Ythdmoghooaccgaa
