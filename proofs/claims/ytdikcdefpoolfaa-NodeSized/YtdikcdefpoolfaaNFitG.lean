/-
  takes and fits of a kind of the kit base with no kids, of any number and text; by contracts.
-/
import Derived.Test.YtdikcdefpoolfaaNUse
import Derived.Test.YtdikcdefpoolfaaNMakeI
namespace Go.Proofs.Ytdikcdefpoolfaa
open Go.RowKit
/-- What text a kind takes, by its class. -/
def takesP (c : Int) (x : ByteArray) : Prop := (c = 0 ∧ x = ⟨#[]⟩) ∨ c = 1 ∨ (c = 4 ∧ useB x.data.toList)
/-- An answer of takes. -/
def TkP (tk : Bool) (c : Int) (x : ByteArray) : Prop := tk = true ↔ takesP c x
theorem takesP_no0 {x : ByteArray} (h : x ≠ ⟨#[]⟩) : ¬ takesP 0 x := fun t => by
  rcases t with ⟨_, t⟩ | t | ⟨t, _⟩
  · exact h t
  · exact absurd t (by decide)
  · exact absurd t (by decide)
theorem takesP_no4 {x : ByteArray} (h : ¬ useB x.data.toList) : ¬ takesP 4 x := fun t => by
  rcases t with ⟨t, _⟩ | t | ⟨_, t⟩
  · exact absurd t (by decide)
  · exact absurd t (by decide)
  · exact h t
theorem nonempty_list {x : ByteArray} (h : x ≠ ⟨#[]⟩) : (x.toList == []) = false ∧ (x.toList != []) = true := by
  have e : x.toList ≠ [] := fun h' => h (data_inj (by rw [ByteArray.toList_eq] at h'; simpa using h'))
  cases hq : x.toList with
  | nil => exact absurd hq e
  | cons a r => exact ⟨rfl, rfl⟩
set_option maxRecDepth 100000 in
set_option maxHeartbeats 1000000 in
theorem takes_any (nj hj : ByteArray) (mj xj c : Int) (bj : Bool) (fv : Value) (x : ByteArray) (w : World) (hf : ∃ fn c d, fv = .func fn c d) (hc : c = 0 ∨ c = 1 ∨ c = 4) (hx : x.size ≤ 140737488355328) : Calls Try.prog 31 #[.agg #[.string nj, .int .i64 mj, .int .i64 xj, .bool bj, .int .i64 c, .string hj, fv], .string x] w fun e w' => ∃ tk, e = .returned (.bool tk) ∧ TkP tk c x ∧ Ext w w' := by
  obtain ⟨fn, cc, d, rfl⟩ := hf
  have HX := hid hx
  clear hx
  rcases hc with rfl | rfl | rfl
  · by_cases h0 : x = ⟨#[]⟩
    · subst h0
      go_enter Try.func31, Try.ntmps31
      go_wp2_with fail
      go_ret
      exact ⟨true, rfl, ⟨fun _ => .inl ⟨rfl, rfl⟩, fun _ => rfl⟩, Ext.alloc _ _⟩
    · obtain ⟨e1, e2⟩ := nonempty_list h0
      have H0 := hid h0
      clear h0
      go_enter Try.func31, Try.ntmps31
      go_wp2_with fail
      go_ret
      exact ⟨false, rfl, ⟨fun h => absurd h (by decide), fun h => absurd h (takesP_no0 H0.out)⟩, Ext.alloc _ _⟩
  · go_enter Try.func31, Try.ntmps31
    go_wp2_with fail
    go_ret
    exact ⟨true, rfl, ⟨fun _ => .inr (.inl rfl), fun _ => rfl⟩, Ext.alloc _ _⟩
  · go_enter Try.func31, Try.ntmps31
    go_wp2_with fail
    go_at_call 64
    refine (use_any x _ HX.out).mono ?_
    rintro e w1 ⟨he, hx1⟩
    have X1 := hid ((Ext.alloc w _).trans hx1)
    clear hx1
    rcases he with ⟨rfl, hu⟩ | ⟨rfl, hu⟩
    · have HU := hid hu
      clear hu
      go_wp2_with fail
      go_ret
      exact ⟨true, rfl, ⟨fun _ => .inr (.inr ⟨rfl, HU.out⟩), fun _ => rfl⟩, X1.out⟩
    · have HU := hid hu
      clear hu
      go_wp2_with fail
      go_ret
      exact ⟨false, rfl, ⟨fun h => absurd h (by decide), fun h => absurd h (takesP_no4 HU.out)⟩, X1.out⟩
/-- What fits answers of a tree with no kids: 0 just where it fits. -/
def FitR (bj : Bool) (c n : Int) (x : ByteArray) (w : World) (e : Ending) (w' : World) : Prop := Ext w w' ∧ ∃ r : Int, e = .returned (.int .i64 r) ∧ ((r = 0 ∧ x.size ≤ 16384 ∧ (n = 0 ∨ bj = true) ∧ takesP c x) ∨ ((r = 2 ∨ r = 12) ∧ ¬ (x.size ≤ 16384 ∧ (n = 0 ∨ bj = true) ∧ takesP c x)))
set_option maxRecDepth 100000 in
set_option maxHeartbeats 2000000 in
theorem fits_zero (nj hj : ByteArray) (c : Int) (bj : Bool) (fv : Value) (k x : ByteArray) (n : Int) (kv : Value) (w : World) (hf : ∃ fn c d, fv = .func fn c d) (hc : c = 0 ∨ c = 1 ∨ c = 4) (hx : x.size ≤ 140737488355328) : Calls Try.prog 15 #[.agg #[.string nj, .int .i64 0, .int .i64 0, .bool bj, .int .i64 c, .string hj, fv], .agg #[.string k, .int .i64 n, .string x, kv], .int .i64 0] w (FitR bj c n x w) := by
  have HT := hid (fun w1 => takes_any nj hj 0 0 c bj fv x w1 hf hc hx)
  obtain ⟨fn, cc, d, rfl⟩ := hf
  obtain ⟨M, hM⟩ : ∃ M, (w.alloc (.cells #[.string nj, .int .i64 0, .int .i64 0, .bool bj, .int .i64 c, .string hj, .func fn cc d] 71)).alloc (.cells #[.string k, .int .i64 n, .string x, kv] 30) = M := ⟨_, rfl⟩
  have XM := hid (show Ext w M from hM ▸ Ext.alloc2 _ _ _)
  have HM0 := hid (show M.heap[w.heap.size]? = some (.cells #[.string nj, .int .i64 0, .int .i64 0, .bool bj, .int .i64 c, .string hj, .func fn cc d] 71) from hM ▸ blkOld _ (blk0 _ _))
  have HM1 := hid (show M.heap[w.heap.size + 1]? = some (.cells #[.string k, .int .i64 n, .string x, kv] 30) from hM ▸ blk1 _ _ _)
  obtain ⟨t0, t1, t2, t3⟩ := four_of HM1.out
  obtain ⟨r0, r1, r2, r3, r4, r5, r6⟩ := seven_of HM0.out
  have hx' : (x.size : Int) ≤ 140737488355328 := by omega
  clear hc hx
  by_cases g1 : 16384 < x.size
  · have q1 : (16384 : Int) < (x.size : Int) := by omega
    have G1 := hid g1
    clear g1
    go_enter Try.func15, Try.ntmps15
    go_wp2_with fail
    go_ret
    exact ⟨XM.out, _, rfl, .inr ⟨.inl rfl, fun h => by have := G1.out; omega⟩⟩
  have q1 : ¬ ((16384 : Int) < (x.size : Int)) := by omega
  have G1 := hid (show x.size ≤ 16384 by omega)
  clear g1
  by_cases hn : n = 0
  · subst hn
    go_enter Try.func15, Try.ntmps15
    go_wp2_with fail
    go_at_call 31
    refine (HT.out M).mono ?_
    rintro r w1 ⟨tk, rfl, htk, hx⟩
    have X1 := hid (XM.out.trans hx)
    have HTK := hid htk
    clear hx htk
    cases tk
    · go_wp2_with fail
      go_ret
      exact ⟨X1.out, _, rfl, .inr ⟨.inr rfl, fun h => absurd (HTK.out.2 h.2.2) (by decide)⟩⟩
    · go_wp2_with fail
      go_ret
      exact ⟨X1.out, _, rfl, .inl ⟨rfl, G1.out, .inl rfl, HTK.out.1 rfl⟩⟩
  · have hq : (n != 0) = true := by rw [bne_iff_ne]; exact hn
    have hq2 : (n == 0) = false := by rw [beq_eq_false_iff_ne]; exact hn
    have HN := hid hn
    clear hn
    cases bj
    · go_enter Try.func15, Try.ntmps15
      go_wp2_with fail
      go_ret
      exact ⟨XM.out, _, rfl, .inr ⟨.inr rfl, fun h => h.2.1.elim HN.out (fun e => by cases e)⟩⟩
    · go_enter Try.func15, Try.ntmps15
      go_wp2_with fail
      go_at_call 31
      refine (HT.out M).mono ?_
      rintro r w1 ⟨tk, rfl, htk, hx⟩
      have X1 := hid (XM.out.trans hx)
      have HTK := hid htk
      clear hx htk
      cases tk
      · go_wp2_with fail
        go_ret
        exact ⟨X1.out, _, rfl, .inr ⟨.inr rfl, fun h => absurd (HTK.out.2 h.2.2) (by decide)⟩⟩
      · go_wp2_with fail
        go_ret
        exact ⟨X1.out, _, rfl, .inl ⟨rfl, G1.out, .inr rfl, HTK.out.1 rfl⟩⟩
end Go.Proofs.Ytdikcdefpoolfaa
