/-
  The reference's May by a contract.
-/
import Derived.Test.YthdmoghooaccgaaRefKd
namespace Go.Proofs.Ythdmoghooaccgaa
open Go.RowKit Go.Shelf
theorem kind_rany (s : ByteArray) (w : World) (hb : s.size ≤ 140737488355328) : Calls Try.prog 68 #[.string s] w fun e w' => ∃ a b, e = .returned (.tuple #[.string a, .string b, .bool (kindOk s.data.toList)]) ∧ Ext w w' := by
  by_cases h : (46 : UInt8) ∈ s.data.toList
  · obtain ⟨h1, h2⟩ := kind_split _ h
    refine (kind_ref_found s _ _ w h1 h2 hb).mono (fun e w' hh => ?_)
    obtain ⟨rfl, hx⟩ := hh
    unfold kindOk kindV
    rw [decide_eq_true h]
    by_cases hq : (speltB wordI 16 (s.data.toList.takeWhile (· != 46)) && speltB wordI 16 (s.data.toList.dropWhile (· != 46)).tail) = true
    · rw [if_pos hq, hq]; exact ⟨_, _, rfl, hx⟩
    · have hq' : (speltB wordI 16 (s.data.toList.takeWhile (· != 46)) && speltB wordI 16 (s.data.toList.dropWhile (· != 46)).tail) = false := by simpa using hq
      rw [if_neg hq, hq']; exact ⟨_, _, rfl, hx⟩
  · refine (kind_ref_none s w hb h).mono (fun e w' hh => ?_)
    obtain ⟨rfl, hx⟩ := hh
    unfold kindOk
    rw [decide_eq_false h]
    exact ⟨_, _, rfl, hx⟩
mutual
/-- Whether all kinds are names of kinds. -/
def namedB : T → Bool | .node k _ _ ks => kindOk k.data.toList && namedL ks
def namedL : List T → Bool | [] => true | t :: r => namedB t && namedL r
end
theorem namedL_append (l r : List T) : namedL (l ++ r) = (namedL l && namedL r) := by
  induction l with
  | nil => simp [namedL]
  | cons t q ih => simp only [List.cons_append, namedL, ih, Bool.and_assoc]
theorem namedL_take (l : List T) (i : Nat) (h : i < l.length) : namedL (l.take (i + 1)) = (namedL (l.take i) && namedB l[i]) := by
  rw [T.take_succ' l i h, namedL_append]
  simp [namedL]
mutual
theorem named_all : ∀ (t : T) (p : List Int), (∀ y ∈ T.all p t, kindOk y.2.kind.data.toList = true) ↔ namedB t = true
  | .node k n x ks, p => by
    have h := named_allL ks p 0
    simp only [T.all, namedB, List.mem_cons, Bool.and_eq_true]
    constructor
    · intro hh
      exact ⟨hh _ (.inl rfl), h.1 (fun y hy => hh y (.inr hy))⟩
    · rintro ⟨h1, h2⟩ y (rfl | hy)
      · exact h1
      · exact h.2 h2 y hy
theorem named_allL : ∀ (l : List T) (p : List Int) (i : Nat), (∀ y ∈ T.allL p i l, kindOk y.2.kind.data.toList = true) ↔ namedL l = true
  | [], p, i => by simp [T.allL, namedL]
  | t :: r, p, i => by
    have h1 := named_all t (p ++ [(i : Int)])
    have h2 := named_allL r p (i + 1)
    simp only [T.allL, namedL, List.mem_append, Bool.and_eq_true]
    constructor
    · intro hh
      exact ⟨h1.1 (fun y hy => hh y (.inl hy)), h2.1 (fun y hy => hh y (.inr hy))⟩
    · rintro ⟨g1, g2⟩ y (hy | hy)
      · exact h1.2 g1 y hy
      · exact h2.2 g2 y hy
end
theorem mayN_eq (t : T) : mayN t = if t.small then (if namedB t = true then 0 else 10) else 2 := by
  unfold mayN
  by_cases h : namedB t = true
  · have h' : t.named := (named_all t []).2 h
    simp [h, h']
  · have h' : ¬ t.named := fun hh => h ((named_all t []).1 hh)
    simp [h, h']
set_option maxRecDepth 100000 in
set_option maxHeartbeats 2000000 in
theorem named_any : ∀ (d : Nat) (v : Value) (t : T) (K : Nat → Prop) (w : World), Rd K w d v t →
    Calls Try.prog 58 #[v] w fun e w' => e = .returned (.bool (namedB t)) ∧ Ext w w' := by
  intro d
  induction d with
  | zero => intro v t K w h; exact h.elim
  | succ d ih =>
    intro v t K w hr
    obtain ⟨k, n, x, ks⟩ := t
    obtain ⟨a, c, rfl, hkl⟩ := hr.kidsL
    have hks : k.size ≤ 140737488355328 := by obtain ⟨_, _, _, h, _⟩ := hr; omega
    have hl' : (ks.length : Int) ≤ 140737488355328 := by have := hkl.1; omega
    have HK := hid hkl
    have HIH := hid ih
    have HKS := hid hks
    clear hr hkl ih hks
    have HE := hid (show namedB (.node k n x ks) = (kindOk k.data.toList && namedL ks) from rfl)
    go_enter Try.func58, Try.ntmps58
    go_wp2_with fail
    refine (kind_rany k _ HKS.out).mono ?_
    rintro e w1 ⟨n1, n2, rfl, hx1⟩
    have HX1 := hid ((Ext.alloc w _).trans hx1)
    have HB1 := hid (hx1.block (blk0 w _))
    clear hx1
    generalize hk0 : kindOk k.data.toList = k0
    rw [hk0] at HE
    clear hk0
    go_wp2_with fail
    go_loopw [5, 6] (fun ok i wr => ∃ j : Nat, j ≤ ks.length ∧ i = .int .i64 j ∧ ok = .bool (k0 && namedL (ks.take j)) ∧ wr.heap[w.heap.size]? = some (.cells #[.string k, .int .i64 n, .string x, .slice a ks.length c] 26) ∧ Ext w wr) (fun _ i _ => ks.length - (intOf i).toNat)
    case atStart => exact ⟨0, Nat.zero_le _, rfl, by simp [namedL], HB1.out, HX1.out⟩
    case round =>
      obtain ⟨j, hj, rfl, rfl, hbt, hx⟩ := hrel
      have HX := hid hx
      have HBT := hid hbt
      obtain ⟨t0, t1, t2, t3⟩ := four_of hbt
      clear hx hbt
      generalize hr : (k0 && namedL (ks.take j)) = r
      have HRR := hid hr
      clear hr
      by_cases hlt : j < ks.length
      · have hlt' : (j : Int) < ks.length := by omega
        cases r with
        | true =>
          obtain ⟨g, off, k', n', x', a', l', c', rfl, hg, h4, hrd⟩ := HK.out.kid hlt
          obtain ⟨m0, m1, m2, m3⟩ := h4.keep (HX.out.kp K) hg
          have hgl := lt_of_cell m0
          have HC := hid (HIH.out _ ks[j] K wr (hrd.later HX.out))
          clear h4 hrd hg
          go_wp2_with fail
          refine HC.out.mono ?_
          rintro e w2 ⟨rfl, hy⟩
          have HY := hid hy
          clear hy m0 m1 m2 m3 t0 t1 t2 t3 HC
          go_wp2_with fail
          go_roundw
          case rel => exact ⟨j + 1, hlt, by go_num, by rw [namedL_take ks j hlt, ← Bool.and_assoc, HRR.out, Bool.true_and], HY.out.block HBT.out, HX.out.trans HY.out⟩
          case measure => simp [intOf]; omega
        | false =>
          have HN := hid (show (k0 && namedL ks) = false by
            have := namedL_append (ks.take j) (ks.drop j)
            rw [List.take_append_drop] at this
            rw [this, ← Bool.and_assoc, HRR.out, Bool.false_and])
          go_wp2_with fail
          go_ret
          exact ⟨by rw [HE.out, HN.out]; rfl, HX.out⟩
      · have HN := hid (show (k0 && namedL ks) = r by rw [← HRR.out, show j = ks.length by omega, List.take_length])
        go_wp2_with fail
        go_ret
        exact ⟨by rw [HE.out, HN.out]; rfl, HX.out⟩
set_option maxRecDepth 100000 in
theorem refMay_any {K : Nat → Prop} {d : Nat} {v : Value} {t : T} (w : World) (hr : Rd K w d v t) : Calls Try.prog 34 #[v] w fun e w' => e = .returned (.int .i64 (mayN t)) ∧ Ext w w' := by
  obtain ⟨u0, u1, u2, u3, rfl⟩ := hr.agg
  obtain ⟨k, n, x, a, c, rfl, rfl, rfl, rfl⟩ := hr.shape
  have C1 := hid (fun w1 (h : Ext w w1) => refSmall_any w1 (hr.later h))
  have C2 := hid (fun w1 (h : Ext w w1) => named_any d _ t K w1 (hr.later h))
  have HM := hid (mayN_eq t)
  clear hr
  generalize (T.kids t).length = kt at *
  by_cases h1 : t.small
  · rw [decide_eq_true h1] at C1
    rw [if_pos h1] at HM
    clear h1
    go_enter Try.func34, Try.ntmps34
    go_wp2_with fail
    refine (C1.out _ (Ext.alloc _ _)).mono ?_
    rintro e w1 ⟨rfl, hx1⟩
    obtain ⟨p0, p1, p2, p3⟩ := four_of (hx1.block (blk0 w _))
    have hX1 := (Ext.alloc w _).trans hx1
    clear hx1
    go_wp2_with fail
    refine (C2.out _ hX1).mono ?_
    rintro e w2 ⟨rfl, hx2⟩
    have HX2 := hid (hX1.trans hx2)
    clear hx2 p0 p1 p2 p3
    generalize hb : namedB t = b
    rw [hb] at HM
    clear hb
    cases b with
    | true =>
      go_wp2_with fail
      go_ret
      exact ⟨by rw [HM.out]; rfl, HX2.out⟩
    | false =>
      go_wp2_with fail
      go_ret
      exact ⟨by rw [HM.out]; rfl, HX2.out⟩
  · rw [decide_eq_false h1] at C1
    rw [if_neg h1] at HM
    clear h1
    go_enter Try.func34, Try.ntmps34
    go_wp2_with fail
    refine (C1.out _ (Ext.alloc _ _)).mono ?_
    rintro e w1 ⟨rfl, hx1⟩
    have HX := hid ((Ext.alloc w _).trans hx1)
    clear hx1
    go_wp2_with fail
    go_ret
    exact ⟨by rw [HM.out]; rfl, HX.out⟩
end Go.Proofs.Ythdmoghooaccgaa
