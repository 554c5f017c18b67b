/-
  May by a contract.
-/
import Derived.Test.YthdmoghooaccgaaNodesIt
import Derived.Test.YthdmoghooaccgaaFace
import Derived.Test.YthdmoghooaccgaaCut
import Derived.RangeFuncCalls
namespace Go.Proofs.Ythdmoghooaccgaa
open Go.RowKit Go.Shelf
attribute [local go_sem] Oper.semAt_some
/-- Whether a text is a kind's name. -/
def kindOk (l : List UInt8) : Bool := decide (46 ∈ l) && (speltB wordI 16 (l.takeWhile (· != 46)) && speltB wordI 16 (l.dropWhile (· != 46)).tail)
theorem kind_split (l : List UInt8) (h : 46 ∈ l) : l = l.takeWhile (· != 46) ++ 46 :: (l.dropWhile (· != 46)).tail ∧ 46 ∉ l.takeWhile (· != 46) := by
  induction l with
  | nil => cases h
  | cons x r ih =>
    by_cases hx : x = 46
    · subst hx; simp
    · have h' : 46 ∈ r := by
        rcases List.mem_cons.1 h with e | h
        · exact absurd e.symm hx
        · exact h
      obtain ⟨h1, h2⟩ := ih h'
      have hb : (x != 46) = true := by simpa using hx
      simp only [List.takeWhile_cons, List.dropWhile_cons, hb, if_true, List.cons_append]
      refine ⟨by rw [← h1], fun hm => ?_⟩
      rcases List.mem_cons.1 hm with e | hm
      · exact hx e.symm
      · exact h2 hm
theorem kind_any (s : ByteArray) (w : World) (hb : s.size ≤ 140737488355328) : Calls Try.prog 52 #[.string s] w fun e w' => ∃ a b, e = .returned (.tuple #[.string a, .string b, .bool (kindOk s.data.toList)]) ∧ Ext w w' := by
  by_cases h : (46 : UInt8) ∈ s.data.toList
  · obtain ⟨h1, h2⟩ := kind_split _ h
    refine (kind_found s _ _ w h1 h2 hb).mono (fun e w' hh => ?_)
    obtain ⟨rfl, hx⟩ := hh
    unfold kindOk kindV
    rw [decide_eq_true h]
    by_cases hq : (speltB wordI 16 (s.data.toList.takeWhile (· != 46)) && speltB wordI 16 (s.data.toList.dropWhile (· != 46)).tail) = true
    · rw [if_pos hq, hq]; exact ⟨_, _, rfl, hx⟩
    · have hq' : (speltB wordI 16 (s.data.toList.takeWhile (· != 46)) && speltB wordI 16 (s.data.toList.dropWhile (· != 46)).tail) = false := by simpa using hq
      rw [if_neg hq, hq']; exact ⟨_, _, rfl, hx⟩
  · refine (kind_none s w h).mono (fun e w' hh => ?_)
    obtain ⟨rfl, hx⟩ := hh
    unfold kindOk
    rw [decide_eq_false h]
    exact ⟨_, _, rfl, hx⟩
theorem Rd.kindOf {K : Nat → Prop} {w : World} {d : Nat} {k : ByteArray} {u1 u2 u3 : Value} {t : T} (h : Rd K w d (.agg #[.string k, u1, u2, u3]) t) : k = t.kind ∧ k.size ≤ 140737488355328 := by
  obtain ⟨k', n, x, ks⟩ := t
  cases d with
  | zero => exact h.elim
  | succ d =>
    obtain ⟨a, c, h, hk, _⟩ := h
    simp only [Value.agg.injEq, Array.mk.injEq, List.cons.injEq, and_true, Value.string.injEq] at h
    exact ⟨h.1, by rw [h.1]; omega⟩
/-- Whether all kinds are names. -/
def T.named (t : T) : Prop := ∀ y ∈ T.all [] t, kindOk y.2.kind.data.toList = true
instance (t : T) : Decidable t.named := by unfold T.named; exact inferInstance
/-- What May tells. -/
def mayN (t : T) : Int := if t.small then (if t.named then 0 else 10) else 2
def mayI (t : T) (B : Nat) (M' : Nat → Prop) (i : Nat) (Z : World) : Prop := (M' = fun q => q = B) ∧ Z.heap[B]? = some (.cells #[.int .i64 0] 42) ∧ ∀ j y, j < i → (T.all [] t)[j]? = some y → kindOk y.2.kind.data.toList = true
def mayIx (t : T) (B : Nat) (c : Code) (M' : Nat → Prop) (Z : World) : Prop := c = .ret ∧ (M' = fun q => q = B) ∧ Z.heap[B]? = some (.cells #[.int .i64 10] 42) ∧ ¬ t.named
theorem set_one {w : World} {b : Nat} {v u : Value} {t : TypeId} (h : w.heap[b]? = some (.cells #[v] t)) : (w.setCell ⟨b, 0, none⟩ u).heap[b]? = some (.cells #[u] t) := by
  have := set_at h 0 u
  simpa using this
set_option maxRecDepth 100000 in
set_option maxHeartbeats 2000000 in
theorem may_face {K : Nat → Prop} {d : Nat} {v : Value} {t : T} (w : World) (hr : Rd K w d v t) : Calls Try.prog 21 #[v] w fun e w' => e = .returned (.int .i64 (mayN t)) ∧ Ext w w' := by
  obtain ⟨u0, u1, u2, u3, rfl⟩ := hr.agg
  obtain ⟨k, n, x, a, c, rfl, rfl, rfl, rfl⟩ := hr.shape
  have C1 := hid (fun w1 (h : Ext w w1) => great_any w1 (hr.later h))
  have HR := hid hr.low
  clear hr
  generalize (T.kids t).length = kt at *
  by_cases h1 : t.small
  · rw [decide_eq_true h1] at C1
    have HS := hid h1
    have HN := hid (show mayN t = if t.named then 0 else 10 by unfold mayN; rw [if_pos h1])
    have HH := hid h1.2.1
    clear h1
    refine (callsIn_wide (n := 0)).1 ?_
    refine callsIn_of_wp_marks Try.func21 rfl trivial ?_ rfl
    show Code.wpIn _ _ _ _ _ _ _
    simp only [Try.ntmps21, List.size_toArray, List.length_cons, List.length_nil, Nat.reduceAdd, Nat.reduceSub, Array.replicate_succ, Array.replicate_zero, List.push_toArray, List.append_toArray, List.nil_append, List.cons_append]
    gi_wp2_with fail
    refine ⟨trivial, rfl, (callsIn_wide.2 (C1.out _ (Ext.alloc2 _ _ _))).mono ?_⟩
    rintro e w1 ⟨rfl, hx1⟩
    obtain ⟨p0, p1, p2, p3⟩ := four_of (hx1.block (blkOld _ (blk0 w _)))
    gi_wp2_with fail
    refine ⟨trivial, rfl, (callsIn_wide.2 (nodes_any k n x a kt c _)).mono ?_⟩
    rintro e w' ⟨rfl, rfl⟩
    gi_wp2_with fail
    have hb2 := hx1.block (blk1 w _ _)
    obtain ⟨V, hV⟩ : ∃ V, w1.alloc (.cells #[.string k, .int .i64 n, .string x, .slice a kt c] 26) = V := ⟨_, rfl⟩
    have htb : V.heap[w1.heap.size]? = some (.cells #[.string k, .int .i64 n, .string x, .slice a kt c] 26) := hV ▸ blk0 _ _
    have hXV : Ext w V := hV ▸ ((Ext.alloc2 w _ _).trans hx1).trans (Ext.alloc _ _)
    have hbV : V.heap[w.heap.size + 1]? = some (.cells #[.int .i64 0] 42) := hV ▸ blkOld _ hb2
    have hlV := lt_of_block hbV
    rw [hV]
    clear p0 p1 p2 p3 hV hb2 hx1
    refine rangeM rfl (enters_of Try.func63 (by kernel_rfl) rfl) t.size (fun q => q = w.heap.size + 1) (nodesX t V.heap.size) (nodes_iter (d := d) htb ((HR.out.later hXV).mono (fun q _ hq e => by have hq' : q < _ := hq; omega)) HH.out) nodesX_size nodesX_mono nodesX_new
      (mayI t (w.heap.size + 1)) (mayIx t (w.heap.size + 1))
      (fun M' i Z h q hq => by rw [h.1] at hq; subst hq; exact lt_of_block h.2.1) (fun M' i Z Z' h hk => ⟨h.1, hk.block' h.2.1 (.inl hlV), h.2.2⟩)
      (fun c M' Z h q hq => by rw [h.2.1] at hq; subst hq; exact lt_of_block h.2.2.1) (fun c M' Z Z' h hk => ⟨h.1, h.2.1, hk.block' h.2.2.1 (.inl hlV), h.2.2.2⟩)
      ⟨rfl, hbV, fun j y h => absurd h (Nat.not_lt_zero _)⟩ ?round ?done ?stop
    case round =>
      rintro l2 M' i Z args E hl2 ⟨r2, hr2⟩ hml hel hi ⟨rfl, hcb, hall⟩ ⟨pv, tv, p, u, d', rfl, hL, hI, hpm, hrd, rfl⟩ hk5 h4
      obtain ⟨u0, u1, u2, u3, rfl⟩ := hrd.agg
      obtain ⟨k', n', x', a', c', rfl, rfl, rfl, rfl⟩ := hrd.shape
      obtain ⟨rfl, hks⟩ := hrd.kindOf
      generalize hkl : (T.kids u).length = kl at hrd
      gi_wp2_with fail
      refine ⟨Ext.alloc _ _, fun W₂ hk2 r3 hr3 => ?_⟩
      have hzl : Z.heap.size ≠ l2 := by have := lt_of_block hr2; omega
      have hbx := hk2.block' (blk0 Z _) hzl
      have hbl : w.heap.size + 1 ≠ l2 := by omega
      have hcb2 := hk2.block' (blkOld _ hcb) hbl
      have HCB := hid hcb2
      have q0 := cell_of (i := 0) hbx rfl
      simp only [List.getElem_toArray, List.getElem_cons_zero] at q0
      have HAL := hid hall
      have HL := hid hL
      have hsz : Z.heap.size ≤ W₂.heap.size := Nat.le_of_lt (lt_of_block hbx)
      clear hbx hcb2 hI hrd hall hL hr3 hr2 hk2
      gi_wp2_with fail
      refine ⟨trivial, rfl, (CallsIn.inRound l2 (callsIn_wide.2 (kind_any u.kind _ hks))).mono ?_⟩
      rintro e W₃ ⟨s1, s2, rfl, hx3⟩
      have HX3 := hid hx3
      have hb3 := hx3.block HCB.out
      have HB3 := hid hb3
      have c0 := cell_of (i := 0) hb3 rfl
      have f0 := frozen_of (i := 0) hb3
      simp only [List.getElem_toArray, List.getElem_cons_zero] at c0
      clear q0 hb3 hx3
      by_cases hq : kindOk u.kind.data.toList = true
      · have HQ := hid hq
        rw [hq]
        clear hq
        gi_wp2_with fail
        refine ⟨HX3.out.kp _, fun q => q = w.heap.size + 1, ⟨rfl, HB3.out, fun j y hj hy => ?_⟩, fun q hq => .inl hq⟩
        rcases Nat.lt_or_eq_of_le (Nat.le_of_lt_succ hj) with h | rfl
        · exact HAL.out j y h hy
        · rw [HL.out] at hy; cases hy; exact HQ.out
      · have hq' : kindOk u.kind.data.toList = false := by simpa using hq
        have HQ := hid (show ¬ t.named from fun h => by
          have := h _ (List.mem_of_getElem? HL.out)
          rw [hq'] at this
          cases this)
        rw [hq']
        clear hq hq'
        gi_wp2_with fail
        refine ⟨(HX3.out.kp _).trans (Kp.set _ _ _ _ (fun h => h (.inl rfl))), fun q => q = w.heap.size + 1, ⟨rfl, rfl, set_one HB3.out, HQ.out⟩, fun q hq => .inl hq⟩
    case done =>
      rintro D Z M' hD ⟨rfl, hcb, hall⟩ hd hmd hsub hk
      have c0 := cell_of (i := 0) hcb rfl
      have f0 := frozen_of (i := 0) hcb
      simp only [List.getElem_toArray, List.getElem_cons_zero] at c0
      have hne : D ≠ w.heap.size + 1 := by omega
      have hd2 := set_other (i := 0) hd hne (.int .i64 0)
      have hk6 := Kp.putObj (Z.setCell ⟨w.heap.size + 1, 0, none⟩ (.int .i64 0)) D (.deferred none)
      have hb6 := hk6.block' (set_one (u := .int .i64 0) hcb) (Ne.symm hne)
      have z0 := cell_of (i := 0) hb6 rfl
      simp only [List.getElem_toArray, List.getElem_cons_zero] at z0
      have HE := hid (show Ext w ((Z.setCell ⟨w.heap.size + 1, 0, none⟩ (.int .i64 0)).putObj D (.deferred none)) from
        Kp.extOf (Kp.extOf (Kp.ext ((hXV.kp _).trans (hk.mono (fun q _ hq => hq))) (fun q hq e => by have e' : q = _ := e; omega)) (Kp.set Z (w.heap.size + 1) 0 (.int .i64 0) (fun h => h rfl)) (Nat.le_succ _)) hk6 (by have := hXV.size; omega))
      have HNM := hid (show t.named from fun y hy => by
        obtain ⟨j, hj⟩ := List.getElem?_of_mem hy
        exact hall j y (by have := (List.getElem?_eq_some_iff.1 hj).1; rwa [T.all_length] at this) hj)
      clear hcb hall hb6 hk6
      gi_wp2_with fail
      refine ⟨by simp, .inl ⟨_, _, rfl, run_takeDeferred hd2, ?_⟩⟩
      exact ⟨.int .i64 0, by simp [results, Try.results21, go_sem, z0], by rw [HN.out, if_pos HNM.out], HE.out⟩
    case stop =>
      rintro D Z c' M' hD ⟨rfl, rfl, hcb, hnn⟩ hd hmd hsub hk
      have hne : D ≠ w.heap.size + 1 := by omega
      have hk6 := Kp.putObj Z D (.deferred none)
      have hb6 := hk6.block' hcb (Ne.symm hne)
      have z0 := cell_of (i := 0) hb6 rfl
      simp only [List.getElem_toArray, List.getElem_cons_zero] at z0
      have HE := hid (show Ext w (Z.putObj D (.deferred none)) from
        Kp.extOf (Kp.ext ((hXV.kp _).trans (hk.mono (fun q _ hq => hq))) (fun q hq e => by have e' : q = _ := e; omega)) hk6 (by have := hXV.size; omega))
      clear hcb hb6 hk6
      gi_wp2_with fail
      refine ⟨by simp, .inl ⟨_, _, rfl, run_takeDeferred hd, ?_⟩⟩
      exact ⟨.int .i64 10, by simp [results, Try.results21, go_sem, z0], by rw [HN.out, if_neg hnn], HE.out⟩
  · rw [decide_eq_false h1] at C1
    have HN := hid (show mayN t = 2 by unfold mayN; rw [if_neg h1])
    clear h1
    refine (callsIn_wide (n := 0)).1 ?_
    refine callsIn_of_wp_marks Try.func21 rfl trivial ?_ rfl
    show Code.wpIn _ _ _ _ _ _ _
    simp only [Try.ntmps21, List.size_toArray, List.length_cons, List.length_nil, Nat.reduceAdd, Nat.reduceSub, Array.replicate_succ, Array.replicate_zero, List.push_toArray, List.append_toArray, List.nil_append, List.cons_append]
    gi_wp2_with fail
    refine ⟨trivial, rfl, (callsIn_wide.2 (C1.out _ (Ext.alloc2 _ _ _))).mono ?_⟩
    rintro e w1 ⟨rfl, hx1⟩
    have hb2 := hx1.block (blk1 w _ _)
    have c0 := cell_of (i := 0) hb2 rfl
    have f0 := frozen_of (i := 0) hb2
    simp only [List.getElem_toArray, List.getElem_cons_zero] at c0
    have HX := hid ((Ext.alloc2 w _ _).trans hx1)
    have HB := hid hb2
    clear hb2 hx1
    gi_wp2_with fail
    have z0 := cell_of (i := 0) (set_one (u := .int .i64 2) HB.out) rfl
    simp only [List.getElem_toArray, List.getElem_cons_zero] at z0
    exact ⟨.int .i64 2, by simp [results, Try.results21, go_sem, z0], by rw [HN.out], Kp.extOf HX.out (Kp.set _ _ _ _ (fun h => h rfl)) (Nat.le_succ _)⟩
end Go.Proofs.Ythdmoghooaccgaa
