/-
  Light of the statements, by a contract.
-/
import Derived.Test.YthdmoghooaccgaaRefAt
namespace Go.Proofs.Ythdmoghooaccgaa
open Go.RowKit
mutual
/-- What light counts down to. -/
def lightN : T → Int → Int | .node _ _ x ks, n => lightL ks (n - 1 - ((x.size / 64 : Nat) : Int))
def lightL : List T → Int → Int | [], n => n | t :: r, n => if 0 ≤ n then lightL r (lightN t n) else n
end
theorem lightL_append (l r : List T) (n : Int) : lightL (l ++ r) n = lightL r (lightL l n) := by
  induction l generalizing n with
  | nil => simp [lightL]
  | cons t q ih =>
    simp only [List.cons_append, lightL]
    split
    · exact ih _
    · rename_i h
      cases r with
      | nil => simp [lightL]
      | cons u s => simp only [lightL]; rw [if_neg h]
theorem lightL_neg (l : List T) {n : Int} (h : n < 0) : lightL l n = n := by
  cases l with
  | nil => rfl
  | cons t r => simp only [lightL]; rw [if_neg (by omega)]
theorem lightL_take (l : List T) (i : Nat) (h : i < l.length) (n : Int) (h0 : 0 ≤ lightL (l.take i) n) : lightL (l.take (i + 1)) n = lightN l[i] (lightL (l.take i) n) := by
  rw [T.take_succ' l i h, lightL_append]
  simp only [lightL]
  rw [if_pos h0]
set_option maxRecDepth 100000 in
set_option maxHeartbeats 2000000 in
theorem light_any : ∀ (d : Nat) (v : Value) (t : T) (K : Nat → Prop) (w : World) (n : Int), Rd K w d v t → 0 ≤ n → n ≤ 3000 →
    Calls Try.prog 33 #[v, .int .i64 n] w fun e w' => e = .returned (.int .i64 (lightN t n)) ∧ (-140737488355328 ≤ lightN t n ∧ lightN t n ≤ n) ∧ Ext w w' := by
  intro d
  induction d with
  | zero => intro v t K w n h; exact h.elim
  | succ d ih =>
    intro v t K w m hr hm0 hm1
    obtain ⟨k, n, x, ks⟩ := t
    obtain ⟨a, c, rfl, hkl⟩ := hr.kidsL
    have hxs : x.size ≤ 140737488351232 := by obtain ⟨_, _, _, _, h, _⟩ := hr; exact h
    have hl' : (ks.length : Int) ≤ 140737488355328 := by have := hkl.1; omega
    have hx' : (x.size : Int) ≤ 140737488355328 := by omega
    have HK := hid hkl
    have HIH := hid ih
    clear hr hkl ih
    obtain ⟨s, hs⟩ : ∃ s : Int, m - 1 - ((x.size / 64 : Nat) : Int) = s := ⟨_, rfl⟩
    have hs1 : -140737488355328 ≤ s ∧ s < m := by omega
    have HE := hid (show lightN (.node k n x ks) m = lightL ks s by simp only [lightN]; rw [hs])
    have HSS := hid hs
    go_enter Try.func33, Try.ntmps33
    go_wp2_with fail
    go_loopw [1, 5] (fun nn i wr => ∃ j : Nat, j ≤ ks.length ∧ i = .int .i64 j ∧ nn = .int .i64 (lightL (ks.take j) s) ∧ (-140737488355328 ≤ lightL (ks.take j) s ∧ lightL (ks.take j) s ≤ s) ∧ wr.heap[w.heap.size]? = some (.cells #[.string k, .int .i64 n, .string x, .slice a ks.length c] 26) ∧ Ext w wr) (fun _ i _ => ks.length - (intOf i).toNat)
    case atStart =>
      refine ⟨0, Nat.zero_le _, rfl, ?_, ?_, blk0 _ _, Ext.alloc _ _⟩
      · simp only [List.take_zero, lightL]
        rw [← HSS.out]
        congr 1
      · simp only [List.take_zero, lightL]; omega
    case round =>
      obtain ⟨j, hj, rfl, rfl, hbd, hbt, hx⟩ := hrel
      have HX := hid hx
      have HBT := hid hbt
      obtain ⟨t0, t1, t2, t3⟩ := four_of hbt
      obtain ⟨r, hr⟩ : ∃ r, lightL (ks.take j) s = r := ⟨_, rfl⟩
      rw [hr] at hbd ⊢
      have HRR := hid hr
      clear hx hbt hr
      by_cases hlt : j < ks.length
      · have hlt' : (j : Int) < ks.length := by omega
        by_cases h0 : 0 ≤ r
        · obtain ⟨g, off, k', n', x', a', l', c', rfl, hg, h4, hrd⟩ := HK.out.kid hlt
          obtain ⟨m0, m1, m2, m3⟩ := h4.keep (HX.out.kp K) hg
          have hgl := lt_of_cell m0
          have HC := hid (HIH.out _ ks[j] K wr r (hrd.later HX.out) h0 (by omega))
          clear h4 hrd hg
          go_wp2_with fail
          refine HC.out.mono ?_
          rintro e w2 ⟨rfl, hb2, hy⟩
          have HY := hid hy
          have HB2 := hid hb2
          clear hy hb2 m0 m1 m2 m3 t0 t1 t2 t3 HC
          go_wp2_with fail
          go_roundw
          case rel =>
            have e := lightL_take ks j hlt s (by rw [HRR.out]; exact h0)
            rw [HRR.out] at e
            exact ⟨j + 1, hlt, by go_num, by rw [e], by rw [e]; have := HB2.out; omega, HY.out.block HBT.out, HX.out.trans HY.out⟩
          case measure => simp [intOf]; omega
        · have HN := hid (show lightL ks s = r by
            have := lightL_append (ks.take j) (ks.drop j) s
            rw [List.take_append_drop, HRR.out] at this
            rw [this]
            exact lightL_neg _ (by omega))
          have h0' : decide (0 ≤ r) = false := decide_eq_false h0
          go_wp2_with fail
          go_ret
          exact ⟨by rw [HE.out, HN.out]; rfl, by rw [HE.out, HN.out]; omega, HX.out⟩
      · have HN := hid (show lightL ks s = r by rw [← HRR.out, show j = ks.length by omega, List.take_length])
        go_wp2_with fail
        go_ret
        exact ⟨by rw [HE.out, HN.out]; rfl, by rw [HE.out, HN.out]; omega, HX.out⟩
set_option maxRecDepth 100000 in
theorem light_ok {K : Nat → Prop} {d : Nat} {v : Value} {t : T} (w : World) (hr : Rd K w d v t) : Calls Try.prog 9 #[v] w fun e w' => e = .returned (.bool (decide (0 ≤ lightN t 3000))) ∧ Ext w w' := by
  obtain ⟨u0, u1, u2, u3, rfl⟩ := hr.agg
  obtain ⟨k, n, x, a, c, rfl, rfl, rfl, rfl⟩ := hr.shape
  have HR := hid hr
  clear hr
  go_enter Try.func9, Try.ntmps9
  go_wp2_with fail
  refine (light_any d _ t K _ 3000 (HR.out.later (Ext.alloc _ _)) (by decide) (by decide)).mono ?_
  rintro e w2 ⟨rfl, hb, hx⟩
  have HX := hid ((Ext.alloc w _).trans hx)
  clear hx
  obtain ⟨r, hr⟩ : ∃ r, lightN t 3000 = r := ⟨_, rfl⟩
  have HRR := hid hr
  rw [hr] at hb ⊢
  clear hr
  go_wp2_with fail
  go_ret
  exact ⟨ret_bool (by rw [HRR.out]), HX.out⟩
end Go.Proofs.Ythdmoghooaccgaa
