/-
  Whether a node fits its kind of the kit base: (kind).takes, (kind).fits; by contracts.
-/
import Derived.Test.YtaafcmmmkalgjaaGreatDoorJMk
import Derived.Test.YtaafcmmmkalgjaaGreatDoorNames
import Derived.LoopTactic
import Derived.Test.YtaafcmmmkalgjaaGreatDoorCWork
import Derived.Deep.Cut
import Derived.LaidEql
namespace Go.Proofs.YtaafcmmmkalgjaaGreatDoor.Nd
open Go.RowKit
/-- Whether a variable may be used by a text, as a truth. -/
noncomputable def useQ (x : ByteArray) : Bool := @decide (useB x.data.toList) (Classical.propDecidable _)
theorem use_dec (x : ByteArray) (w : World) (hb : x.size ≤ 140737488355328) : Calls Tryz.prog 120 #[.string x] w fun e w' => e = .returned (.bool (useQ x)) ∧ Ext w w' := by
  refine (use_any x w hb).mono ?_
  rintro e w' ⟨h | h, hx⟩
  · exact ⟨by rw [h.1]; unfold useQ; exact congrArg (fun b => Ending.returned (.bool b)) (@decide_eq_true _ (Classical.propDecidable _) h.2).symm, hx⟩
  · exact ⟨by rw [h.1]; unfold useQ; exact congrArg (fun b => Ending.returned (.bool b)) (@decide_eq_false _ (Classical.propDecidable _) h.2).symm, hx⟩
theorem empty_of {x : ByteArray} (h : x.size = 0) : x = ⟨#[]⟩ := by
  obtain ⟨d⟩ := x
  have : d.size = 0 := h
  rw [Array.eq_empty_of_size_eq_zero this]
theorem not_empty {x : ByteArray} (h : ¬ x.size = 0) : x.toList.isEmpty = false := by
  rw [Bool.eq_false_iff]
  intro e
  rw [List.isEmpty_iff] at e
  have h1 : ¬ x = ByteArray.empty := fun e => h (by rw [e]; rfl)
  exact h1 (toList_inj (e.trans (by first | kernel_rfl | simp)))
/-- Whether a text is as a kind of the kit base asks. -/
noncomputable def takesK (tx : Int) (x : ByteArray) : Bool := if tx = 1 then true else if tx = 4 then useQ x else decide (x.size = 0)
set_option maxRecDepth 100000 in
set_option maxHeartbeats 1000000 in
theorem ktakes_any (nj hj : ByteArray) (mj xj tj : Int) (bj : Bool) (fn : Nat) (cj : Array Value) (x : ByteArray) (w : World) (hx : x.size ≤ 140737488355328) : Calls Tryz.prog 92 #[.agg #[.string nj, .int .i64 mj, .int .i64 xj, .bool bj, .int .i64 tj, .string hj, .func (.func fn) #[] cj], .string x] w fun e w' => e = .returned (.bool (takesK tj x)) ∧ Ext w w' := by
  obtain ⟨M, hM⟩ : ∃ M, w.alloc (.cells #[.string nj, .int .i64 mj, .int .i64 xj, .bool bj, .int .i64 tj, .string hj, .func (.func fn) #[] cj] 125) = M := ⟨_, rfl⟩
  have XM := hid (show Ext w M from hM ▸ Ext.alloc _ _)
  have HM0 := hid (show M.heap[w.heap.size]? = some (.cells #[.string nj, .int .i64 mj, .int .i64 xj, .bool bj, .int .i64 tj, .string hj, .func (.func fn) #[] cj] 125) from hM ▸ blk0 _ _)
  obtain ⟨r0, r1, r2, r3, r4, r5, r6⟩ := seven_of HM0.out
  by_cases h1 : tj = 1
  · have HV := hid (show takesK tj x = true from if_pos h1)
    have e1 : (tj == 1) = true := by rw [beq_iff_eq]; exact h1
    clear h1 hx
    go_enter Tryz.func92, Tryz.ntmps92
    go_wp2_with fail
    go_ret
    exact ⟨by rw [HV.out]; rfl, XM.out⟩
  · have e1 : (tj == 1) = false := by rw [beq_eq_false_iff_ne]; exact h1
    by_cases h4 : tj = 4
    · have HV := hid (show takesK tj x = useQ x by unfold takesK; rw [if_neg h1, if_pos h4])
      have e4 : (tj == 4) = true := by rw [beq_iff_eq]; exact h4
      have HU := hid (fun w => use_dec x w hx)
      clear h1 h4 hx
      generalize useQ x = b at *
      go_enter Tryz.func92, Tryz.ntmps92
      go_wp2_with fail
      refine (HU.out _).mono ?_
      rintro e w1 ⟨rfl, hy⟩
      have HX := hid (XM.out.trans hy)
      clear hy
      go_wp2_with fail
      go_ret
      exact ⟨by rw [HV.out]; rfl, HX.out⟩
    · have e4 : (tj == 4) = false := by rw [beq_eq_false_iff_ne]; exact h4
      have HV := hid (show takesK tj x = decide (x.size = 0) by unfold takesK; rw [if_neg h1, if_neg h4])
      clear h1 h4 hx
      by_cases h : x.size = 0
      · obtain rfl := empty_of h
        clear h
        go_enter Tryz.func92, Tryz.ntmps92
        go_wp2_with fail
        go_ret
        exact ⟨by rw [HV.out]; rfl, XM.out⟩
      · rw [decide_eq_false h] at HV
        have h2 := not_empty h
        have h3 : ¬ x = ByteArray.empty := fun e => h (by rw [e]; rfl)
        clear h
        go_enter Tryz.func92, Tryz.ntmps92
        go_wp2_with fail
        go_ret
        exact ⟨by rw [HV.out]; rfl, XM.out⟩
/-- What is amiss with a node of a kind of the kit base. -/
noncomputable def fitsK (mn mx : Int) (num : Bool) (tx n : Int) (x : ByteArray) (nk : Int) : Int := if nk < mn ∨ mx < nk then 11 else if 16384 < x.size then 2 else if n ≠ 0 ∧ num = false then 12 else if takesK tx x = true then 0 else 12
set_option maxRecDepth 100000 in
set_option maxHeartbeats 2000000 in
theorem kfits_any (nj hj : ByteArray) (mj xj tj : Int) (bj : Bool) (fn : Nat) (cj : Array Value) (k x : ByteArray) (n : Int) (ka : Option Addr) (kl kc : Nat) (nk : Nat) (w : World) (hx : x.size ≤ 140737488355328) : Calls Tryz.prog 66 #[.agg #[.string nj, .int .i64 mj, .int .i64 xj, .bool bj, .int .i64 tj, .string hj, .func (.func fn) #[] cj], .agg #[.string k, .int .i64 n, .string x, .slice ka kl kc], .int .i64 nk] w fun e w' => e = .returned (.int .i64 (fitsK mj xj bj tj n x nk)) ∧ Ext w w' := by
  have HT := hid (fun w => ktakes_any nj hj mj xj tj bj fn cj x w hx)
  have HV := hid (show fitsK mj xj bj tj n x nk = if (nk : Int) < mj ∨ xj < (nk : Int) then 11 else if 16384 < x.size then 2 else if n ≠ 0 ∧ bj = false then 12 else if takesK tj x = true then 0 else 12 from rfl)
  have hx' : (x.size : Int) ≤ 140737488355328 := by omega
  clear hx
  generalize takesK tj x = b at *
  generalize fitsK mj xj bj tj n x nk = V at *
  obtain ⟨M, hM⟩ : ∃ M, (w.alloc (.cells #[.string nj, .int .i64 mj, .int .i64 xj, .bool bj, .int .i64 tj, .string hj, .func (.func fn) #[] cj] 125)).alloc (.cells #[.string k, .int .i64 n, .string x, .slice ka kl kc] 54) = M := ⟨_, rfl⟩
  have XM := hid (show Ext w M from hM ▸ Ext.alloc2 _ _ _)
  have HM0 := hid (show M.heap[w.heap.size]? = some (.cells #[.string nj, .int .i64 mj, .int .i64 xj, .bool bj, .int .i64 tj, .string hj, .func (.func fn) #[] cj] 125) from hM ▸ blkOld _ (blk0 _ _))
  have HM1 := hid (show M.heap[w.heap.size + 1]? = some (.cells #[.string k, .int .i64 n, .string x, .slice ka kl kc] 54) from hM ▸ blk1 _ _ _)
  obtain ⟨r0, r1, r2, r3, r4, r5, r6⟩ := seven_of HM0.out
  obtain ⟨t0, t1, t2, t3⟩ := four_of HM1.out
  by_cases h1 : (nk : Int) < mj
  · have HW := hid (show V = 11 by rw [HV.out, if_pos (.inl h1)])
    go_enter Tryz.func66, Tryz.ntmps66
    go_wp2_with fail
    go_ret
    exact ⟨by rw [HW.out]; rfl, XM.out⟩
  by_cases h2 : xj < (nk : Int)
  · have HW := hid (show V = 11 by rw [HV.out, if_pos (.inr h2)])
    go_enter Tryz.func66, Tryz.ntmps66
    go_wp2_with fail
    go_ret
    exact ⟨by rw [HW.out]; rfl, XM.out⟩
  by_cases h3 : 16384 < x.size
  · have HW := hid (show V = 2 by rw [HV.out, if_neg (show ¬ ((nk : Int) < mj ∨ xj < (nk : Int)) by omega), if_pos h3])
    have h3q : (16384 : Int) < x.size := by omega
    go_enter Tryz.func66, Tryz.ntmps66
    go_wp2_with fail
    go_ret
    exact ⟨by rw [HW.out]; rfl, XM.out⟩
  have h3q : ¬ (16384 : Int) < x.size := by omega
  by_cases h4 : n = 0
  · subst h4
    go_enter Tryz.func66, Tryz.ntmps66
    go_wp2_with fail
    refine (HT.out _).mono ?_
    rintro e w1 ⟨rfl, hx1⟩
    have X1 := hid (XM.out.trans hx1)
    clear hx1
    cases b with
    | true =>
      have HW := hid (show V = 0 by rw [HV.out, if_neg (show ¬ ((nk : Int) < mj ∨ xj < (nk : Int)) by omega), if_neg h3, if_neg (fun h => h.1 rfl)]; rfl)
      clear HV
      go_wp2_with fail
      go_ret
      exact ⟨by rw [HW.out]; rfl, X1.out⟩
    | false =>
      have HW := hid (show V = 12 by rw [HV.out, if_neg (show ¬ ((nk : Int) < mj ∨ xj < (nk : Int)) by omega), if_neg h3, if_neg (fun h => h.1 rfl)]; rfl)
      clear HV
      go_wp2_with fail
      go_ret
      exact ⟨by rw [HW.out]; rfl, X1.out⟩
  have h4q : (n == 0) = false := by rw [beq_eq_false_iff_ne]; exact h4
  have h4r : (n != 0) = true := by unfold bne; rw [h4q]; rfl
  cases bj with
  | true =>
    go_enter Tryz.func66, Tryz.ntmps66
    go_wp2_with fail
    refine (HT.out _).mono ?_
    rintro e w1 ⟨rfl, hx1⟩
    have X1 := hid (XM.out.trans hx1)
    clear hx1
    cases b with
    | true =>
      have HW := hid (show V = 0 by rw [HV.out, if_neg (show ¬ ((nk : Int) < mj ∨ xj < (nk : Int)) by omega), if_neg h3, if_neg (fun h => by cases h.2)]; rfl)
      clear HV
      go_wp2_with fail
      go_ret
      exact ⟨by rw [HW.out]; rfl, X1.out⟩
    | false =>
      have HW := hid (show V = 12 by rw [HV.out, if_neg (show ¬ ((nk : Int) < mj ∨ xj < (nk : Int)) by omega), if_neg h3, if_neg (fun h => by cases h.2)]; rfl)
      clear HV
      go_wp2_with fail
      go_ret
      exact ⟨by rw [HW.out]; rfl, X1.out⟩
  | false =>
    have HW := hid (show V = 12 by rw [HV.out, if_neg (show ¬ ((nk : Int) < mj ∨ xj < (nk : Int)) by omega), if_neg h3, if_pos ⟨h4, rfl⟩])
    clear h4
    go_enter Tryz.func66, Tryz.ntmps66
    go_wp2_with fail
    go_ret
    exact ⟨by rw [HW.out]; rfl, XM.out⟩

end Go.Proofs.YtaafcmmmkalgjaaGreatDoor.Nd
/-
  node.Make of any tree and kids: the node, or why there is none; by contracts.
-/
namespace Go.Proofs.YtaafcmmmkalgjaaGreatDoor.Nd
open Go.RowKit
theorem fnew_j (c : Int) (hc : (c == 0) = false) (w : World) : Calls Tryz.prog 65 #[.int .i64 c] w fun e w' => e = .returned (.iface 184 (.pointer (some ⟨w.heap.size, 0, none⟩))) ∧ w' = w.alloc (.cells #[.int .i64 c] 186) := by
  go_enter Tryz.func65, Tryz.ntmps65
  go_wp2_with fail
  go_ret
  exact ⟨rfl, rfl⟩
/-- An error that is a number, beside no handle. -/
def MakeNo (w : World) (c : Int) (e : Ending) (w' : World) : Prop := ∃ b, e = .returned (.tuple #[.pointer none, .iface 184 (.pointer (some ⟨b, 0, none⟩))]) ∧ w'.cell? ⟨b, 0, none⟩ = some (.int .i64 c) ∧ Ext w w'
theorem MakeNo.base {w w1 w' : World} {c : Int} {e : Ending} (h : MakeNo w1 c e w') (hx : Ext w w1) : MakeNo w c e w' := by
  obtain ⟨b, h1, h2, h3⟩ := h
  exact ⟨b, h1, h2, hx.trans h3⟩
/-- A node of the j-th kind that was made, in its handle. -/
def MakeYes (w : World) (j : Nat) (k : ByteArray) (n : Int) (x : ByteArray) (nk : Nat) (t : Nat → TypeId) (v : Nat → Value) (e : Ending) (w' : World) : Prop := ∃ h b a c, e = .returned (.tuple #[.pointer (some ⟨h, 0, none⟩), .nilIface]) ∧ HandAt w' h (.iface (tyK j) (.pointer (some ⟨b, 0, none⟩))) (.iface (tyK j) (.pointer (some ⟨b, 0, none⟩))) ∧ NodeK j k n x (.slice a nk c) w.heap.size (.iface (tyK j) (.pointer (some ⟨b, 0, none⟩))) w' ∧ w'.ownsRow w.heap.size 50 1 (.slice a nk c) nk ((List.range nk).map fun i => .iface (t i) (v i)) ∧ w.heap.size ≤ h ∧ Ext w w'
/-- What node.Make answers of a tree and handles that hold nodes. -/
noncomputable def makeC (k : ByteArray) (n : Int) (x : ByteArray) (nk : Nat) : Int := match kdFind k with
  | none => 3
  | some j => fitsK (minK j) (maxK j) (numK j) (textK j) n x nk
set_option maxRecDepth 100000 in
set_option maxHeartbeats 1000000 in
theorem make_kind (k x : ByteArray) (n : Int) (ka : Option Addr) (kl kc : Nat) (ao : Option Addr) (nk c : Nat) (w : World) (hf : kdFind k = none) : Calls Tryz.prog 31 #[.agg #[.string k, .int .i64 n, .string x, .slice ka kl kc], .slice ao nk c] w (MakeNo w 3) := by
  have HF := hid hf
  clear hf
  obtain ⟨M, hM⟩ : ∃ M, w.alloc (.cells #[.string k, .int .i64 n, .string x, .slice ka kl kc] 54) = M := ⟨_, rfl⟩
  have XM := hid (show Ext w M from hM ▸ Ext.alloc _ _)
  have HM0 := hid (show M.heap[w.heap.size]? = some (.cells #[.string k, .int .i64 n, .string x, .slice ka kl kc] 54) from hM ▸ blk0 _ _)
  obtain ⟨t0, t1, t2, t3⟩ := four_of HM0.out
  go_enter Tryz.func31, Tryz.ntmps31
  go_wp2_with fail
  clear hM
  refine (kindOf_any k M).mono ?_
  rintro e w1 ⟨hx1, hk⟩
  rw [HF.out] at hk
  dsimp only at hk
  subst hk
  go_wp2_with fail
  refine (fnew_j 3 (by decide) _).mono ?_
  rintro e w4 ⟨rfl, hw4⟩
  have HC4 := hid (show w4.cell? ⟨_, 0, none⟩ = some (.int .i64 3) from hw4 ▸ cell_of (blk0 _ _) rfl)
  have X4 := hid (show Ext w w4 from hw4 ▸ (XM.out.trans (hx1.trans (Ext.alloc _ _))).trans (Ext.alloc _ _))
  clear hw4 hx1
  go_wp2_with fail
  go_ret2
  exact ⟨_, rfl, by simpa using HC4.out, X4.out⟩
set_option maxRecDepth 100000 in
set_option maxHeartbeats 1000000 in
theorem make_kids (j : Nat) (k x : ByteArray) (n : Int) (ka : Option Addr) (kl kc : Nat) (ao : Option Addr) (nk c : Nat) (w : World) (hf : kdFind k = some j) (hno : ∀ w1, Ext w w1 → Calls Tryz.prog 59 #[.slice ao nk c] w1 fun e w' => e = .returned (.tuple #[.slice none 0 0, .bool false]) ∧ Ext w1 w') : Calls Tryz.prog 31 #[.agg #[.string k, .int .i64 n, .string x, .slice ka kl kc], .slice ao nk c] w (MakeNo w 1) := by
  have HF := hid hf
  have HNO := hid hno
  clear hf hno
  obtain ⟨M, hM⟩ : ∃ M, w.alloc (.cells #[.string k, .int .i64 n, .string x, .slice ka kl kc] 54) = M := ⟨_, rfl⟩
  have XM := hid (show Ext w M from hM ▸ Ext.alloc _ _)
  have HM0 := hid (show M.heap[w.heap.size]? = some (.cells #[.string k, .int .i64 n, .string x, .slice ka kl kc] 54) from hM ▸ blk0 _ _)
  obtain ⟨t0, t1, t2, t3⟩ := four_of HM0.out
  go_enter Tryz.func31, Tryz.ntmps31
  go_wp2_with fail
  clear hM
  refine (kindOf_any k M).mono ?_
  rintro e w1 ⟨hx1, hk⟩
  rw [HF.out] at hk
  obtain ⟨g, hg, hO, rfl⟩ := hk
  have HV := hid (show ∀ g, kdV g j = .agg #[.string (nmK j), .int .i64 (minK j), .int .i64 (maxK j), .bool (numK j), .int .i64 (textK j), .string (hasK j), .func (.func (fnK j)) #[] (capV g j)] from fun g => rfl)
  rw [HV.out]
  clear HV HF hg hO
  generalize capV g j = cj at *
  generalize nmK j = nj at *
  generalize minK j = mj at *
  generalize maxK j = xj at *
  generalize numK j = bj at *
  generalize textK j = tj at *
  generalize hasK j = hj at *
  generalize fnK j = fj at *
  obtain ⟨V, hV⟩ : ∃ V, w1.alloc (.cells #[.string nj, .int .i64 mj, .int .i64 xj, .bool bj, .int .i64 tj, .string hj, .func (.func fj) #[] cj] 125) = V := ⟨_, rfl⟩
  have XV := hid (show Ext w V from hV ▸ XM.out.trans (hx1.trans (Ext.alloc _ _)))
  clear hx1
  go_wp2_with fail
  first | rw [hV] | skip
  clear hV
  refine (HNO.out _ XV.out).mono ?_
  rintro e w2 ⟨rfl, hx2⟩
  have X2 := hid (XV.out.trans hx2)
  clear hx2
  go_wp2_with fail
  refine (fnew_j 1 (by decide) _).mono ?_
  rintro e w4 ⟨rfl, hw4⟩
  have HC4 := hid (show w4.cell? ⟨w2.heap.size, 0, none⟩ = some (.int .i64 1) from hw4 ▸ cell_of (blk0 _ _) rfl)
  have X4 := hid (show Ext w w4 from hw4 ▸ X2.out.trans (Ext.alloc _ _))
  clear hw4
  go_wp2_with fail
  go_ret2
  exact ⟨_, rfl, HC4.out, X4.out⟩
set_option maxRecDepth 100000 in
set_option maxHeartbeats 4000000 in
theorem make_some (j : Nat) (hj7 : j < 7) (k x : ByteArray) (n : Int) (ka : Option Addr) (kl kc : Nat) (ao : Option Addr) (nk c : Nat) (t : Nat → TypeId) (v : Nat → Value) (w : World) (hf : kdFind k = some j) (hn : nk ≤ 100000) (hx : x.size ≤ 140737488355328) (hh : HandsO w ao nk t v) : Calls Tryz.prog 31 #[.agg #[.string k, .int .i64 n, .string x, .slice ka kl kc], .slice ao nk c] w fun e w' => (fitsK (minK j) (maxK j) (numK j) (textK j) n x nk = 0 ∧ MakeYes w j k n x nk t v e w') ∨ ((fitsK (minK j) (maxK j) (numK j) (textK j) n x nk == 0) = false ∧ MakeNo w (fitsK (minK j) (maxK j) (numK j) (textK j) n x nk) e w') := by
  have HF := hid hf
  have HNO := hid (fun w1 (hx : Ext w w1) => knodesOf_any ao nk c t v w1 hn (hh.later hx))
  have HFI := hid (fun cj w => kfits_any (nmK j) (hasK j) (minK j) (maxK j) (textK j) (numK j) (fnK j) cj k x n ka kl kc nk w hx)
  obtain ⟨V2, hV2⟩ : ∃ V, fitsK (minK j) (maxK j) (numK j) (textK j) n x nk = V := ⟨_, rfl⟩
  rw [hV2] at HFI ⊢
  clear hV2
  have HPM := hid (fun a c g w1 h => pmakeK j hj7 k x n a nk c g w1 h)
  have HXS := hid (one_cells nk t v)
  have HNEW := hid (fun q B xs w1 h1 h => new_row k x n (.slice ka kl kc) q B nk xs w1 hn h1 h)
  have HBR := hid (bareK j hj7)
  have hnk : (nk : Int) ≤ 100000 := by omega
  clear hf hh hx hn
  obtain ⟨M, hM⟩ : ∃ M, w.alloc (.cells #[.string k, .int .i64 n, .string x, .slice ka kl kc] 54) = M := ⟨_, rfl⟩
  have XM := hid (show Ext w M from hM ▸ Ext.alloc _ _)
  have HM0 := hid (show M.heap[w.heap.size]? = some (.cells #[.string k, .int .i64 n, .string x, .slice ka kl kc] 54) from hM ▸ blk0 _ _)
  obtain ⟨t0, t1, t2, t3⟩ := four_of HM0.out
  go_enter Tryz.func31, Tryz.ntmps31
  go_wp2_with fail
  clear hM
  refine (kindOf_any k M).mono ?_
  rintro e w1 ⟨hx1, hk⟩
  rw [HF.out] at hk
  obtain ⟨g, hg, hO, rfl⟩ := hk
  have HV := hid (show ∀ g, kdV g j = .agg #[.string (nmK j), .int .i64 (minK j), .int .i64 (maxK j), .bool (numK j), .int .i64 (textK j), .string (hasK j), .func (.func (fnK j)) #[] (capV g j)] from fun g => rfl)
  have HMK := hid (show mkK g j = .func (.func (fnK j)) #[] (capV g j) from rfl)
  have HPM := hid (fun a c w1 (h : OfAt w1 g) => HPM.out a c g w1 h)
  rw [HMK.out] at HPM
  rw [HV.out]
  clear HV HF HMK hg
  generalize capV g j = cj at *
  generalize nmK j = nj at *
  generalize minK j = mj at *
  generalize maxK j = xj at *
  generalize numK j = bj at *
  generalize textK j = tj at *
  generalize hasK j = hj at *
  generalize fnK j = fj at *
  obtain ⟨V, hV⟩ : ∃ V, w1.alloc (.cells #[.string nj, .int .i64 mj, .int .i64 xj, .bool bj, .int .i64 tj, .string hj, .func (.func fj) #[] cj] 125) = V := ⟨_, rfl⟩
  have XV := hid (show Ext M V from hV ▸ hx1.trans (Ext.alloc _ _))
  have HKB := hid (show V.heap[w1.heap.size]? = some (.cells #[.string nj, .int .i64 mj, .int .i64 xj, .bool bj, .int .i64 tj, .string hj, .func (.func fj) #[] cj] 125) from hV ▸ blk0 _ _)
  have HOV := hid (show OfAt V g from hV ▸ blkOld _ hO)
  clear hx1 hO t0 t1 t2 t3
  obtain ⟨r0, r1, r2, r3, r4, r5, r6⟩ := seven_of HKB.out
  go_wp2_with fail
  first | rw [hV] | skip
  clear hV
  generalize w1.heap.size = kx at *
  refine (HNO.out _ (XM.out.trans XV.out)).mono ?_
  rintro e w2 ⟨q, rfl, hq, hx2⟩
  obtain ⟨qa, qc, rfl⟩ := ownsRow_slice hq
  have HQ := hid hq
  have X2 := hid (XV.out.trans hx2)
  have X22 := hid hx2
  clear hq hx2 r0 r1 r2 r3 r4 r5 r6
  obtain ⟨r0, r1, r2, r3, r4, r5, r6⟩ := seven_of (X22.out.block HKB.out)
  obtain ⟨t0, t1, t2, t3⟩ := four_of (X2.out.block HM0.out)
  go_wp2_with fail
  refine (HFI.out _ _).mono ?_
  rintro e w3 ⟨rfl, hx3⟩
  have X3 := hid (X2.out.trans hx3)
  have X33 := hid (X22.out.trans hx3)
  have X23 := hid hx3
  clear hx3 r0 r1 r2 r3 r4 r5 r6 t0 t1 t2 t3
  by_cases hv : V2 = 0
  · have hv1 : (V2 == 0) = true := by rw [beq_iff_eq]; exact hv
    have hv2 : (V2 != 0) = false := by unfold bne; rw [hv1]; rfl
    have HVV := hid hv
    clear hv
    have HSK := hid (show ∀ W', Ext w3 W' → (Ext w3 W' ∧ W'.cell? ⟨kx, 6, none⟩ = some (.func (.func fj) #[] cj) ∧ W'.cell? ⟨w.heap.size, 0, none⟩ = some (.string k) ∧ W'.cell? ⟨w.heap.size, 1, none⟩ = some (.int .i64 n) ∧ W'.cell? ⟨w.heap.size, 2, none⟩ = some (.string x) ∧ W'.cell? ⟨w.heap.size, 3, none⟩ = some (.slice ka kl kc)) from fun W' X => by
      obtain ⟨s0, s1, s2, s3⟩ := four_of ((X3.out.trans X).block HM0.out)
      exact ⟨X, cell_of ((X33.out.trans X).block HKB.out) rfl, s0, s1, s2, s3⟩)
    have HOF := hid (fun W' (X : Ext w3 W') => (X33.out.trans X).block HOV.out)
    go_wp2_with fail
    go_region_held3 (fun W' => Ext w3 W' ∧ W'.cell? ⟨kx, 6, none⟩ = some (.func (.func fj) #[] cj) ∧ W'.cell? ⟨w.heap.size, 0, none⟩ = some (.string k) ∧ W'.cell? ⟨w.heap.size, 1, none⟩ = some (.int .i64 n) ∧ W'.cell? ⟨w.heap.size, 2, none⟩ = some (.string x) ∧ W'.cell? ⟨w.heap.size, 3, none⟩ = some (.slice ka kl kc))
      (first | with_reducible exact HSK.out _ (Ext.refl _) | with_reducible exact HSK.out _ (Ext.refl _).drew | with_reducible exact HSK.out _ Z3 | with_reducible exact HSK.out _ Z2 | with_reducible exact HSK.out _ Z1 | go_keep)
      (first
        | (go_at_call 62; (with_reducible refine (HNEW.out _ _ _ _ HXS.out (row_ext HQ.out (X23.out.trans (by repeat (first | with_reducible exact Ext.refl _ | with_reducible refine Ext.drew ?_))))).mono ?_); rintro r u1 ⟨ra, rc, rfl, hr, hy⟩; have Z1 : Ext w3 u1 := Ext.trans (by repeat (first | with_reducible exact Ext.refl _ | with_reducible refine Ext.drew ?_)) hy; have HR2 := hid hr)
        | (go_at_call 61; (with_reducible refine (HPM.out _ _ _ (HOF.out _ (by repeat (first | with_reducible exact Z1 | with_reducible refine Ext.drew ?_)))).mono ?_); rintro r u2 ⟨nv, rfl, hnv, hy⟩; obtain ⟨b, rfl, hbb⟩ := hnv; have HNB := hid hbb; have Z2 : Ext w3 u2 := Ext.trans (by repeat (first | with_reducible exact Z1 | with_reducible refine Ext.drew ?_)) hy; have ZY2 := hy; clear hbb)
        | (go_at_call 60; (with_reducible refine (hold_gen _ HBR.out _ _).mono ?_); rintro r u3 ⟨rfl, hhd, hy⟩; have Z3 : Ext w3 u3 := Ext.trans (by repeat (first | with_reducible exact Z2 | with_reducible refine Ext.drew ?_)) hy; have ZY3 := hy))
    all_goals
      go_wp2_with fail
      go_ret2
      have hb1 := XM.out.trans X3.out
      refine .inl ⟨HVV.out, u2.heap.size, b, ra, rc, rfl, hhd, ⟨b, rfl, ?_, HNB.out.2.1.later ZY3, fun hj => (HNB.out.2.2 hj).later ZY3⟩, row_base (row_ext (row_ext HR2.out ZY2) ZY3) hb1.size, (hb1.trans Z2).size, hb1.trans Z3⟩
      exact Nat.le_trans (hb1.trans Z1).size HNB.out.1
  · have hv1 : (V2 == 0) = false := by rw [beq_eq_false_iff_ne]; exact hv
    have hv2 : (V2 != 0) = true := by unfold bne; rw [hv1]; rfl
    have HVV := hid hv1
    clear hv
    go_wp2_with fail
    refine (fnew_j V2 HVV.out _).mono ?_
    rintro e w4 ⟨rfl, hw4⟩
    have HC4 := hid (show w4.cell? ⟨w3.heap.size, 0, none⟩ = some (.int .i64 V2) from hw4 ▸ cell_of (blk0 _ _) rfl)
    have X4 := hid (show Ext w w4 from hw4 ▸ XM.out.trans (X3.out.trans (Ext.alloc _ _)))
    clear hw4
    go_wp2_with fail
    go_ret2
    exact .inr ⟨HVV.out, _, rfl, HC4.out, X4.out⟩

end Go.Proofs.YtaafcmmmkalgjaaGreatDoor.Nd
/-
  kit.takes and kit.fits of any row and any node; by contracts.
-/
namespace Go.Proofs.YtaafcmmmkalgjaaGreatDoor.Nd
open Go.RowKit
/-- Whether a text is of names, as many as m. -/
noncomputable def namesQ (x : ByteArray) (m : Int) : Bool := @decide (∃ l, NamesOf x.data.toList l ∧ (l.length : Int) = m) (Classical.propDecidable _)
theorem namesQ_yes {x : ByteArray} {l : List (List UInt8)} (m : Int) (h : NamesOf x.data.toList l) : namesQ x m = ((l.length : Int) == m) := by
  unfold namesQ
  by_cases e : (l.length : Int) = m
  · rw [beq_iff_eq.2 e]
    exact @decide_eq_true _ (Classical.propDecidable _) ⟨l, h, e⟩
  · rw [beq_eq_false_iff_ne.2 e]
    refine @decide_eq_false _ (Classical.propDecidable _) ?_
    rintro ⟨l', h', e'⟩
    rw [NamesOf.one h' h] at e'
    exact e e'
theorem namesQ_no {x : ByteArray} (m : Int) (h : ∀ l, ¬ NamesOf x.data.toList l) : namesQ x m = false :=
  @decide_eq_false _ (Classical.propDecidable _) fun ⟨l, h', _⟩ => h l h'
theorem joinS_big : ∀ l : List (List UInt8), l ≠ [] → l.length ≤ (joinS l).length + 1
  | [], h => absurd rfl h
  | [a], _ => by simp
  | a :: b :: r, _ => by
    have := joinS_big (b :: r) (by simp)
    have e : joinS (a :: b :: r) = a ++ 32 :: joinS (b :: r) := rfl
    rw [e]
    simp only [List.length_cons, List.length_append] at this ⊢
    omega
theorem names_big {x : ByteArray} {l : List (List UInt8)} (h : NamesOf x.data.toList l) : l.length ≤ x.size + 1 := by
  rcases h with ⟨_, rfl⟩ | ⟨hne, hj, _⟩
  · simp
  · have := joinS_big l hne
    rw [hj] at this
    have e : x.data.toList.length = x.size := by simp
    omega
/-- Whether a text is as a row asks of a node of so many kids. -/
noncomputable def takesR (tx : Int) (x : ByteArray) (nk : Int) : Bool := if tx = 1 then true else if tx = 2 then speltB nameI 32 x.data.toList else if tx = 3 then namesQ x (nk - 1) else if tx = 4 then useQ x else decide (x.size = 0)
set_option maxRecDepth 100000 in
set_option maxHeartbeats 1000000 in
theorem rtakes_any (tx : Int) (x : ByteArray) (nk : Nat) (w : World) (hx : x.size ≤ 16384) (hnk : nk ≤ 140737488355328) : Calls Tryz.prog 93 #[.int .i64 tx, .string x, .int .i64 nk] w fun e w' => e = .returned (.bool (takesR tx x nk)) ∧ Ext w w' := by
  have hnk' : (nk : Int) ≤ 140737488355328 := by omega
  by_cases h1 : tx = 1
  · have HV := hid (show takesR tx x nk = true from if_pos h1)
    subst h1
    go_enter Tryz.func93, Tryz.ntmps93
    go_wp2_with fail
    go_ret
    exact ⟨by rw [HV.out]; rfl, Ext.refl _⟩
  by_cases h2 : tx = 2
  · have HV := hid (show takesR tx x nk = speltB nameI 32 x.data.toList by unfold takesR; rw [if_neg h1, if_pos h2])
    have HN := hid (fun w => name_any x w)
    subst h2
    generalize speltB nameI 32 x.data.toList = b at *
    go_enter Tryz.func93, Tryz.ntmps93
    go_wp2_with fail
    refine (HN.out _).mono ?_
    rintro e w1 ⟨rfl, hy⟩
    have HX := hid hy
    clear hy
    go_wp2_with fail
    go_ret
    exact ⟨by rw [HV.out]; rfl, HX.out⟩
  by_cases h3 : tx = 3
  · have HV := hid (show takesR tx x nk = namesQ x (nk - 1) by unfold takesR; rw [if_neg h1, if_neg h2, if_pos h3])
    have HN := hid (fun w => names_any x.data.toList w (by simp; omega))
    have HB := hid (fun l h => names_big (x := x) (l := l) h)
    have HY := hid (fun l h => namesQ_yes (x := x) (l := l) ((nk : Int) - 1) h)
    have HO := hid (fun h => namesQ_no (x := x) ((nk : Int) - 1) h)
    have hxe : (⟨x.data.toList.toArray⟩ : ByteArray) = x := by simp
    rw [hxe] at HN
    subst h3
    clear hxe
    go_enter Tryz.func93, Tryz.ntmps93
    go_wp2_with fail
    refine (HN.out _).mono ?_
    rintro e w1 ⟨he, hy⟩
    have HX := hid hy
    clear hy
    rcases he with ⟨l, v, rfl, hl, ho⟩ | ⟨rfl, hno⟩
    · obtain ⟨va, vc, rfl⟩ := ownsRow_slice ho
      have HL := hid (HY.out l hl)
      have hb := HB.out l hl
      have hb' : (l.length : Int) ≤ 16385 := by omega
      clear hl ho hb
      generalize l.length = m at *
      go_wp2_with fail
      go_ret
      exact ⟨ret_bool (by rw [HV.out, HL.out]), HX.out⟩
    · have HL := hid (HO.out hno)
      clear hno
      go_wp2_with fail
      go_ret
      exact ⟨ret_bool (by rw [HV.out, HL.out]), HX.out⟩
  by_cases h4 : tx = 4
  · have HV := hid (show takesR tx x nk = useQ x by unfold takesR; rw [if_neg h1, if_neg h2, if_neg h3, if_pos h4])
    have HU := hid (fun w => use_dec x w (by omega))
    subst h4
    generalize useQ x = b at *
    go_enter Tryz.func93, Tryz.ntmps93
    go_wp2_with fail
    refine (HU.out _).mono ?_
    rintro e w1 ⟨rfl, hy⟩
    have HX := hid hy
    clear hy
    go_wp2_with fail
    go_ret
    exact ⟨by rw [HV.out]; rfl, HX.out⟩
  have HV := hid (show takesR tx x nk = decide (x.size = 0) by unfold takesR; rw [if_neg h1, if_neg h2, if_neg h3, if_neg h4])
  have e1 : (tx == 1) = false := by rw [beq_eq_false_iff_ne]; exact h1
  have e2 : (tx == 2) = false := by rw [beq_eq_false_iff_ne]; exact h2
  have e3 : (tx == 3) = false := by rw [beq_eq_false_iff_ne]; exact h3
  have e4 : (tx == 4) = false := by rw [beq_eq_false_iff_ne]; exact h4
  clear h1 h2 h3 h4 hx
  by_cases h : x.size = 0
  · obtain rfl := empty_of h
    clear h
    go_enter Tryz.func93, Tryz.ntmps93
    go_wp2_with fail
    go_ret
    exact ⟨by rw [HV.out]; rfl, Ext.refl _⟩
  · rw [decide_eq_false h] at HV
    have h2 := not_empty h
    have h3 : ¬ x = ByteArray.empty := fun e => h (by rw [e]; rfl)
    clear h
    go_enter Tryz.func93, Tryz.ntmps93
    go_wp2_with fail
    go_ret
    exact ⟨by rw [HV.out]; rfl, Ext.refl _⟩
/-- What is amiss with a node by a row, its kind aside. -/
noncomputable def fitsR (r : Rw) (k : ByteArray) (n : Int) (x : ByteArray) (nk : Int) : Int := if k = r.kind then (if nk < r.min ∨ (r.max ≠ -1 ∧ r.max < nk) then 11 else if 16384 < x.size then 2 else if n ≠ 0 ∧ r.num = false then 12 else if takesR r.text x nk = true then 0 else 12) else 10
set_option maxRecDepth 100000 in
set_option maxHeartbeats 2000000 in
theorem rfits_any (r : Rw) (ra : Option Addr) (rc : Nat) (k x : ByteArray) (n : Int) (ka : Option Addr) (kl kc : Nat) (nk : Nat) (w : World) (hx : x.size ≤ 140737488355328) (hnk : nk ≤ 140737488355328) : Calls Tryz.prog 67 #[r.val ra rc, .agg #[.string k, .int .i64 n, .string x, .slice ka kl kc], .int .i64 nk] w fun e w' => e = .returned (.int .i64 (fitsR r k n x nk)) ∧ Ext w w' := by
  have HT := hid (fun h w => rtakes_any r.text x nk w h hnk)
  have HV := hid (show fitsR r k n x nk = if k = r.kind then (if (nk : Int) < r.min ∨ (r.max ≠ -1 ∧ r.max < (nk : Int)) then 11 else if 16384 < x.size then 2 else if n ≠ 0 ∧ r.num = false then 12 else if takesR r.text x nk = true then 0 else 12) else 10 from rfl)
  have hx' : (x.size : Int) ≤ 140737488355328 := by omega
  have hnk' : (nk : Int) ≤ 140737488355328 := by omega
  clear hx hnk
  generalize fitsR r k n x nk = V at *
  unfold Rw.val
  obtain ⟨rk, mn, mx, bj, tj, abs⟩ := r
  dsimp only at *
  generalize abs.length = al at *
  generalize takesR tj x nk = b at *
  obtain ⟨M, hM⟩ : ∃ M, (w.alloc (.cells #[.string rk, .int .i64 mn, .int .i64 mx, .bool bj, .int .i64 tj, .slice ra al rc] 102)).alloc (.cells #[.string k, .int .i64 n, .string x, .slice ka kl kc] 54) = M := ⟨_, rfl⟩
  have XM := hid (show Ext w M from hM ▸ Ext.alloc2 _ _ _)
  have HM0 := hid (show M.heap[w.heap.size]? = some (.cells #[.string rk, .int .i64 mn, .int .i64 mx, .bool bj, .int .i64 tj, .slice ra al rc] 102) from hM ▸ blkOld _ (blk0 _ _))
  have HM1 := hid (show M.heap[w.heap.size + 1]? = some (.cells #[.string k, .int .i64 n, .string x, .slice ka kl kc] 54) from hM ▸ blk1 _ _ _)
  obtain ⟨r0, r1, r2, r3, r4, r5⟩ := jsix_of HM0.out
  obtain ⟨t0, t1, t2, t3⟩ := four_of HM1.out
  by_cases hk : k = rk
  case neg =>
    have HW := hid (show V = 10 by rw [HV.out, if_neg hk])
    have e1 : (k.toList == rk.toList) = false := by rw [beq_eq_false_iff_ne]; exact fun e => hk (toList_inj e)
    have e1' : (k.toList != rk.toList) = true := by unfold bne; rw [e1]; rfl
    clear hk HV HT
    go_enter Tryz.func67, Tryz.ntmps67
    go_wp2_with fail
    go_ret
    exact ⟨by rw [HW.out]; rfl, XM.out⟩
  have HV := hid (HV.out.trans (if_pos hk))
  have e1 : (k.toList == rk.toList) = true := by rw [hk]; exact beq_self_eq_true _
  have e1' : (k.toList != rk.toList) = false := by unfold bne; rw [e1]; rfl
  clear hk
  by_cases h1 : (nk : Int) < mn
  · have HW := hid (show V = 11 by rw [HV.out, if_pos (.inl h1)])
    clear HV HT
    go_enter Tryz.func67, Tryz.ntmps67
    go_wp2_with fail
    go_ret
    exact ⟨by rw [HW.out]; rfl, XM.out⟩
  by_cases hm : mx = -1
  · subst hm
    have HNO := hid (show ¬ ((nk : Int) < mn ∨ ((-1 : Int) ≠ -1 ∧ (-1 : Int) < (nk : Int))) by omega)
    by_cases h3 : 16384 < x.size
    · have HW := hid (show V = 2 by rw [HV.out, if_neg HNO.out, if_pos h3])
      have h3q : (16384 : Int) < x.size := by omega
      go_enter Tryz.func67, Tryz.ntmps67
      go_wp2_with fail
      go_ret
      exact ⟨by rw [HW.out]; rfl, XM.out⟩
    have h3q : ¬ (16384 : Int) < x.size := by omega
    by_cases h4 : n = 0
    · subst h4
      go_enter Tryz.func67, Tryz.ntmps67
      go_wp2_with fail
      refine (HT.out (by omega) _).mono ?_
      rintro e w1 ⟨rfl, hx1⟩
      have X1 := hid (XM.out.trans hx1)
      clear hx1
      cases b with
      | true =>
        have HW := hid (show V = 0 by rw [HV.out, if_neg HNO.out, if_neg h3, if_neg (fun h => h.1 rfl)]; rfl)
        clear HV
        go_wp2_with fail
        go_ret
        exact ⟨by rw [HW.out]; rfl, X1.out⟩
      | false =>
        have HW := hid (show V = 12 by rw [HV.out, if_neg HNO.out, if_neg h3, if_neg (fun h => h.1 rfl)]; rfl)
        clear HV
        go_wp2_with fail
        go_ret
        exact ⟨by rw [HW.out]; rfl, X1.out⟩
    have h4q : (n == 0) = false := by rw [beq_eq_false_iff_ne]; exact h4
    have h4r : (n != 0) = true := by unfold bne; rw [h4q]; rfl
    cases bj with
    | true =>
      go_enter Tryz.func67, Tryz.ntmps67
      go_wp2_with fail
      refine (HT.out (by omega) _).mono ?_
      rintro e w1 ⟨rfl, hx1⟩
      have X1 := hid (XM.out.trans hx1)
      clear hx1
      cases b with
      | true =>
        have HW := hid (show V = 0 by rw [HV.out, if_neg HNO.out, if_neg h3, if_neg (fun h => by cases h.2)]; rfl)
        clear HV
        go_wp2_with fail
        go_ret
        exact ⟨by rw [HW.out]; rfl, X1.out⟩
      | false =>
        have HW := hid (show V = 12 by rw [HV.out, if_neg HNO.out, if_neg h3, if_neg (fun h => by cases h.2)]; rfl)
        clear HV
        go_wp2_with fail
        go_ret
        exact ⟨by rw [HW.out]; rfl, X1.out⟩
    | false =>
      have HW := hid (show V = 12 by rw [HV.out, if_neg HNO.out, if_neg h3, if_pos ⟨h4, rfl⟩])
      clear h4
      go_enter Tryz.func67, Tryz.ntmps67
      go_wp2_with fail
      go_ret
      exact ⟨by rw [HW.out]; rfl, XM.out⟩
  have m1 : (mx == -1) = false := by rw [beq_eq_false_iff_ne]; exact hm
  have m2 : (mx != -1) = true := by unfold bne; rw [m1]; rfl
  by_cases h2 : mx < (nk : Int)
  · have HW := hid (show V = 11 by rw [HV.out, if_pos (.inr ⟨hm, h2⟩)])
    clear HV HT hm
    go_enter Tryz.func67, Tryz.ntmps67
    go_wp2_with fail
    go_ret
    exact ⟨by rw [HW.out]; rfl, XM.out⟩
  have HNO := hid (show ¬ ((nk : Int) < mn ∨ (mx ≠ -1 ∧ mx < (nk : Int))) by omega)
  by_cases h3 : 16384 < x.size
  · have HW := hid (show V = 2 by rw [HV.out, if_neg HNO.out, if_pos h3])
    have h3q : (16384 : Int) < x.size := by omega
    go_enter Tryz.func67, Tryz.ntmps67
    go_wp2_with fail
    go_ret
    exact ⟨by rw [HW.out]; rfl, XM.out⟩
  have h3q : ¬ (16384 : Int) < x.size := by omega
  by_cases h4 : n = 0
  · subst h4
    go_enter Tryz.func67, Tryz.ntmps67
    go_wp2_with fail
    refine (HT.out (by omega) _).mono ?_
    rintro e w1 ⟨rfl, hx1⟩
    have X1 := hid (XM.out.trans hx1)
    clear hx1
    cases b with
    | true =>
      have HW := hid (show V = 0 by rw [HV.out, if_neg HNO.out, if_neg h3, if_neg (fun h => h.1 rfl)]; rfl)
      clear HV
      go_wp2_with fail
      go_ret
      exact ⟨by rw [HW.out]; rfl, X1.out⟩
    | false =>
      have HW := hid (show V = 12 by rw [HV.out, if_neg HNO.out, if_neg h3, if_neg (fun h => h.1 rfl)]; rfl)
      clear HV
      go_wp2_with fail
      go_ret
      exact ⟨by rw [HW.out]; rfl, X1.out⟩
  have h4q : (n == 0) = false := by rw [beq_eq_false_iff_ne]; exact h4
  have h4r : (n != 0) = true := by unfold bne; rw [h4q]; rfl
  cases bj with
  | true =>
    go_enter Tryz.func67, Tryz.ntmps67
    go_wp2_with fail
    refine (HT.out (by omega) _).mono ?_
    rintro e w1 ⟨rfl, hx1⟩
    have X1 := hid (XM.out.trans hx1)
    clear hx1
    cases b with
    | true =>
      have HW := hid (show V = 0 by rw [HV.out, if_neg HNO.out, if_neg h3, if_neg (fun h => by cases h.2)]; rfl)
      clear HV
      go_wp2_with fail
      go_ret
      exact ⟨by rw [HW.out]; rfl, X1.out⟩
    | false =>
      have HW := hid (show V = 12 by rw [HV.out, if_neg HNO.out, if_neg h3, if_neg (fun h => by cases h.2)]; rfl)
      clear HV
      go_wp2_with fail
      go_ret
      exact ⟨by rw [HW.out]; rfl, X1.out⟩
  | false =>
    have HW := hid (show V = 12 by rw [HV.out, if_neg HNO.out, if_neg h3, if_pos ⟨h4, rfl⟩])
    clear h4
    go_enter Tryz.func67, Tryz.ntmps67
    go_wp2_with fail
    go_ret
    exact ⟨by rw [HW.out]; rfl, XM.out⟩

end Go.Proofs.YtaafcmmmkalgjaaGreatDoor.Nd
/-
  kit.matches of a node that was made: it is what was asked for; by contracts.
-/
namespace Go.Proofs.YtaafcmmmkalgjaaGreatDoor.Nd
open Go.RowKit
theorem bKind (b : Nat) (k : ByteArray) (w : World) (h : w.cell? ⟨b, 0, none⟩ = some (.string k)) : Calls Tryz.prog 184 #[.pointer (some ⟨b, 0, none⟩)] w fun e w' => e = .returned (.string k) ∧ w' = w := by
  go_enter Tryz.func184, Tryz.ntmps184
  go_wp2
  go_ret
  exact ⟨rfl, rfl⟩
theorem bLen (b : Nat) (a : Option Addr) (n c : Nat) (w : World) (h : w.cell? ⟨b, 4, none⟩ = some (.slice a n c)) : Calls Tryz.prog 185 #[.pointer (some ⟨b, 0, none⟩)] w fun e w' => e = .returned (.int .i64 n) ∧ w' = w := by
  go_enter Tryz.func185, Tryz.ntmps185
  go_wp2
  go_ret
  exact ⟨rfl, rfl⟩
set_option maxRecDepth 100000 in
theorem bKid (b g off n c j : Nat) (u : Value) (w : World) (h : w.cell? ⟨b, 4, none⟩ = some (.slice (some ⟨g, off, none⟩) n c)) (hj : j < n) (hu : w.cell? ⟨g, off + j, none⟩ = some u) : Calls Tryz.prog 183 #[.pointer (some ⟨b, 0, none⟩), .int .i64 j] w fun e w' => e = .returned u ∧ w' = w := by
  have h1 : ¬ (j : Int) < 0 := by omega
  have h2 : (j : Int) < n := by omega
  have h3 : ¬ (n : Int) ≤ j := by omega
  have hb := lt_of_cell h
  have hg := lt_of_cell hu
  go_enter Tryz.func183, Tryz.ntmps183
  go_wp2_with fail
  go_ret
  exact ⟨rfl, rfl⟩
theorem eqLit (b : Nat) (w : World) : (binOp .neq 50 (.iface 226 (.pointer (some ⟨b, 0, none⟩))) (.iface 226 (.pointer (some ⟨b, 0, none⟩)))).run Tryz.prog w = .ok (.bool false) w := by
  obtain ⟨i, hi, hc⟩ := Option.map_eq_some_iff.1 (show (Tryz.prog.info? 226).map (·.comparable) = some true by kernel_rfl)
  obtain ⟨j, hj⟩ := Option.isSome_iff_exists.1 (show (Tryz.prog.info? 230).isSome = true by kernel_rfl)
  simp only [binOp]
  simp [Op.equal, Op.maxDepth, run_equalIn_iface_ptr_same w 9998 ⟨b, 0, none⟩ Tryz.underlying50 Tryz.underlying226 hi hc hj]
theorem row_cell {w : World} {B : Nat} {a : Option Addr} {n c : Nat} {t : Nat → Value} (h : w.ownsRow B 50 1 (.slice a n c) n ((List.range n).map t)) (j : Nat) (hj : j < n) : ∃ g, a = some ⟨g, 0, none⟩ ∧ w.cell? ⟨g, j, none⟩ = some (t j) := by
  rcases h.2 with ⟨_, h1⟩ | ⟨gg, cap, cur, hv, hbg, hbk, h3, h4, h5, h6⟩
  · omega
  injection hv with e1 _ _
  subst e1
  refine ⟨gg, rfl, cell_of hbk ?_⟩
  have e : ((List.range n).map t)[j]? = some (t j) := by rw [List.getElem?_map, List.getElem?_range hj]; rfl
  rw [← h6, List.getElem?_take_of_lt (by omega)] at e
  simpa using e
attribute [local go_sem] mLitKind mLitNum mLitText mLitLen mLitKid
set_option maxRecDepth 100000 in
set_option maxHeartbeats 4000000 in
theorem matches_Lit {B B2 : Nat} (b nk c cq : Nat) (a qa ka : Option Addr) (kl kc : Nat) (k x : ByteArray) (n : Int) (bs : Nat → Nat) (w : World) (hN : NodeB w b k n x (.slice a nk c)) (hn : nk ≤ 100000) (ho : w.ownsRow B 50 1 (.slice a nk c) nk ((List.range nk).map fun i => .iface 226 (.pointer (some ⟨bs i, 0, none⟩)))) (hq : w.ownsRow B2 50 1 (.slice qa nk cq) nk ((List.range nk).map fun i => .iface 226 (.pointer (some ⟨bs i, 0, none⟩)))) :
    Calls Tryz.prog 69 #[.iface 226 (.pointer (some ⟨b, 0, none⟩)), .agg #[.string k, .int .i64 n, .string x, .slice ka kl kc], .slice qa nk cq] w fun e w' => e = .returned (.bool true) ∧ Ext w w' := by
  have HN := hid hN
  have HO := hid ho
  have HQ := hid hq
  have hn' : (nk : Int) ≤ 100000 := by omega
  clear hN ho hq hn
  obtain ⟨M, hM⟩ : ∃ M, w.alloc (.cells #[.string k, .int .i64 n, .string x, .slice ka kl kc] 54) = M := ⟨_, rfl⟩
  have XM := hid (show Ext w M from hM ▸ Ext.alloc _ _)
  have HM0 := hid (show M.heap[w.heap.size]? = some (.cells #[.string k, .int .i64 n, .string x, .slice ka kl kc] 54) from hM ▸ blk0 _ _)
  have HSK := hid (show ∀ W', Ext M W' → (W'.cell? ⟨b, 0, none⟩ = some (.string k) ∧ W'.cell? ⟨b, 2, none⟩ = some (.int .i64 n) ∧ W'.cell? ⟨b, 3, none⟩ = some (.string x) ∧ W'.cell? ⟨b, 4, none⟩ = some (.slice a nk c) ∧ W'.cell? ⟨w.heap.size, 0, none⟩ = some (.string k) ∧ W'.cell? ⟨w.heap.size, 1, none⟩ = some (.int .i64 n) ∧ W'.cell? ⟨w.heap.size, 2, none⟩ = some (.string x)) from fun W' X => by
    obtain ⟨s0, s1, s2, s3⟩ := four_of (X.block HM0.out)
    obtain ⟨r0, r1, r2, r3⟩ := (HN.out.later (XM.out.trans X)).cells
    exact ⟨r0, r1, r2, r3, s0, s1, s2⟩)
  go_enter Tryz.func69, Tryz.ntmps69
  go_upto_region 1 with fail
  first | rw [hM] | skip
  clear hM
  go_cut [34] from 9 to 34 (fun s34 wx => s34 = .bool false ∧ Ext M wx)
  case first =>
    go_region_held3 (fun W' => W'.cell? ⟨b, 0, none⟩ = some (.string k) ∧ W'.cell? ⟨b, 2, none⟩ = some (.int .i64 n) ∧ W'.cell? ⟨b, 3, none⟩ = some (.string x) ∧ W'.cell? ⟨b, 4, none⟩ = some (.slice a nk c) ∧ W'.cell? ⟨w.heap.size, 0, none⟩ = some (.string k) ∧ W'.cell? ⟨w.heap.size, 1, none⟩ = some (.int .i64 n) ∧ W'.cell? ⟨w.heap.size, 2, none⟩ = some (.string x))
      (first | with_reducible exact HSK.out _ (Ext.refl _) | with_reducible exact HSK.out _ (Ext.refl _).drew | go_keep)
      (first
        | (go_at_call 184; refine (bKind b k _ (HSK.out _ (by repeat (first | with_reducible exact Ext.refl _ | with_reducible refine Ext.drew ?_))).1).mono ?_; rintro r u1 ⟨rfl, rfl⟩)
        | (go_at_call 115; refine (bNum b n _ (HSK.out _ (by repeat (first | with_reducible exact Ext.refl _ | with_reducible refine Ext.drew ?_))).2.1).mono ?_; rintro r u1 ⟨rfl, rfl⟩)
        | (go_at_call 117; refine (bText b x _ (HSK.out _ (by repeat (first | with_reducible exact Ext.refl _ | with_reducible refine Ext.drew ?_))).2.2.1).mono ?_; rintro r u1 ⟨rfl, rfl⟩)
        | (go_at_call 185; refine (bLen b a nk c _ (HSK.out _ (by repeat (first | with_reducible exact Ext.refl _ | with_reducible refine Ext.drew ?_))).2.2.2.1).mono ?_; rintro r u1 ⟨rfl, rfl⟩))
    all_goals
      go_wp2_with fail
      go_meet
      case rel => exact ⟨rfl, (by repeat (first | with_reducible exact Ext.refl _ | with_reducible refine Ext.drew ?_))⟩
  case rest =>
    obtain ⟨rfl, hxc⟩ := hcut
    have XC := hid hxc
    clear hxc
    go_wp2_with fail
    go_loopw [37] (fun q37 wr => ∃ j : Nat, j ≤ nk ∧ q37 = .int .i64 j ∧ Ext M wr) (fun q37 _ => nk - (intOf q37).toNat)
    case atStart => exact ⟨0, Nat.zero_le _, rfl, XC.out⟩
    case round =>
      obtain ⟨j, hj, rfl, hx⟩ := hrel
      have HX := hid (XM.out.trans hx)
      have HX1 := hid hx
      clear hx
      by_cases hlt : j < nk
      · have hlt' : (j : Int) < nk := by omega
        obtain ⟨g1, e1, p1⟩ := row_cell (row_ext HO.out HX.out) j hlt
        obtain ⟨g2, e2, p2⟩ := row_cell (row_ext HQ.out HX.out) j hlt
        have r3 := (HN.out.later HX.out).cells.2.2.2
        subst e1 e2
        have hg2 := lt_of_cell p2
        have HKID := hid (bKid b g1 0 nk c j _ _ r3 hlt (by rw [Nat.zero_add]; exact p1))
        have heq := eqLit (bs j)
        generalize bs j = bj at *
        clear p1 r3
        go_wp2_with fail
        refine HKID.out.mono ?_
        rintro e w7 ⟨rfl, hw7⟩
        rw [hw7]
        clear hw7 w7
        go_wp2_with fail
        go_roundw
        case rel => exact ⟨j + 1, hlt, by go_num, HX1.out⟩
        case measure => simp [intOf]; omega
      · have hlt3 : ¬ (j : Int) < nk := by omega
        go_wp2_with fail
        go_ret
        exact ⟨rfl, HX.out⟩
attribute [local go_sem] mVarKind mVarNum mVarText mVarLen mVarKid
set_option maxRecDepth 100000 in
set_option maxHeartbeats 4000000 in
theorem matches_Var {B B2 : Nat} (b nk c cq : Nat) (a qa ka : Option Addr) (kl kc : Nat) (k x : ByteArray) (n : Int) (bs : Nat → Nat) (w : World) (hN : NodeB w b k n x (.slice a nk c)) (hn : nk ≤ 100000) (ho : w.ownsRow B 50 1 (.slice a nk c) nk ((List.range nk).map fun i => .iface 226 (.pointer (some ⟨bs i, 0, none⟩)))) (hq : w.ownsRow B2 50 1 (.slice qa nk cq) nk ((List.range nk).map fun i => .iface 226 (.pointer (some ⟨bs i, 0, none⟩)))) :
    Calls Tryz.prog 69 #[.iface 232 (.pointer (some ⟨b, 0, none⟩)), .agg #[.string k, .int .i64 n, .string x, .slice ka kl kc], .slice qa nk cq] w fun e w' => e = .returned (.bool true) ∧ Ext w w' := by
  have HN := hid hN
  have HO := hid ho
  have HQ := hid hq
  have hn' : (nk : Int) ≤ 100000 := by omega
  clear hN ho hq hn
  obtain ⟨M, hM⟩ : ∃ M, w.alloc (.cells #[.string k, .int .i64 n, .string x, .slice ka kl kc] 54) = M := ⟨_, rfl⟩
  have XM := hid (show Ext w M from hM ▸ Ext.alloc _ _)
  have HM0 := hid (show M.heap[w.heap.size]? = some (.cells #[.string k, .int .i64 n, .string x, .slice ka kl kc] 54) from hM ▸ blk0 _ _)
  have HSK := hid (show ∀ W', Ext M W' → (W'.cell? ⟨b, 0, none⟩ = some (.string k) ∧ W'.cell? ⟨b, 2, none⟩ = some (.int .i64 n) ∧ W'.cell? ⟨b, 3, none⟩ = some (.string x) ∧ W'.cell? ⟨b, 4, none⟩ = some (.slice a nk c) ∧ W'.cell? ⟨w.heap.size, 0, none⟩ = some (.string k) ∧ W'.cell? ⟨w.heap.size, 1, none⟩ = some (.int .i64 n) ∧ W'.cell? ⟨w.heap.size, 2, none⟩ = some (.string x)) from fun W' X => by
    obtain ⟨s0, s1, s2, s3⟩ := four_of (X.block HM0.out)
    obtain ⟨r0, r1, r2, r3⟩ := (HN.out.later (XM.out.trans X)).cells
    exact ⟨r0, r1, r2, r3, s0, s1, s2⟩)
  go_enter Tryz.func69, Tryz.ntmps69
  go_upto_region 1 with fail
  first | rw [hM] | skip
  clear hM
  go_cut [34] from 9 to 34 (fun s34 wx => s34 = .bool false ∧ Ext M wx)
  case first =>
    go_region_held3 (fun W' => W'.cell? ⟨b, 0, none⟩ = some (.string k) ∧ W'.cell? ⟨b, 2, none⟩ = some (.int .i64 n) ∧ W'.cell? ⟨b, 3, none⟩ = some (.string x) ∧ W'.cell? ⟨b, 4, none⟩ = some (.slice a nk c) ∧ W'.cell? ⟨w.heap.size, 0, none⟩ = some (.string k) ∧ W'.cell? ⟨w.heap.size, 1, none⟩ = some (.int .i64 n) ∧ W'.cell? ⟨w.heap.size, 2, none⟩ = some (.string x))
      (first | with_reducible exact HSK.out _ (Ext.refl _) | with_reducible exact HSK.out _ (Ext.refl _).drew | go_keep)
      (first
        | (go_at_call 184; refine (bKind b k _ (HSK.out _ (by repeat (first | with_reducible exact Ext.refl _ | with_reducible refine Ext.drew ?_))).1).mono ?_; rintro r u1 ⟨rfl, rfl⟩)
        | (go_at_call 115; refine (bNum b n _ (HSK.out _ (by repeat (first | with_reducible exact Ext.refl _ | with_reducible refine Ext.drew ?_))).2.1).mono ?_; rintro r u1 ⟨rfl, rfl⟩)
        | (go_at_call 117; refine (bText b x _ (HSK.out _ (by repeat (first | with_reducible exact Ext.refl _ | with_reducible refine Ext.drew ?_))).2.2.1).mono ?_; rintro r u1 ⟨rfl, rfl⟩)
        | (go_at_call 185; refine (bLen b a nk c _ (HSK.out _ (by repeat (first | with_reducible exact Ext.refl _ | with_reducible refine Ext.drew ?_))).2.2.2.1).mono ?_; rintro r u1 ⟨rfl, rfl⟩))
    all_goals
      go_wp2_with fail
      go_meet
      case rel => exact ⟨rfl, (by repeat (first | with_reducible exact Ext.refl _ | with_reducible refine Ext.drew ?_))⟩
  case rest =>
    obtain ⟨rfl, hxc⟩ := hcut
    have XC := hid hxc
    clear hxc
    go_wp2_with fail
    go_loopw [37] (fun q37 wr => ∃ j : Nat, j ≤ nk ∧ q37 = .int .i64 j ∧ Ext M wr) (fun q37 _ => nk - (intOf q37).toNat)
    case atStart => exact ⟨0, Nat.zero_le _, rfl, XC.out⟩
    case round =>
      obtain ⟨j, hj, rfl, hx⟩ := hrel
      have HX := hid (XM.out.trans hx)
      have HX1 := hid hx
      clear hx
      by_cases hlt : j < nk
      · have hlt' : (j : Int) < nk := by omega
        obtain ⟨g1, e1, p1⟩ := row_cell (row_ext HO.out HX.out) j hlt
        obtain ⟨g2, e2, p2⟩ := row_cell (row_ext HQ.out HX.out) j hlt
        have r3 := (HN.out.later HX.out).cells.2.2.2
        subst e1 e2
        have hg2 := lt_of_cell p2
        have HKID := hid (bKid b g1 0 nk c j _ _ r3 hlt (by rw [Nat.zero_add]; exact p1))
        have heq := eqLit (bs j)
        generalize bs j = bj at *
        clear p1 r3
        go_wp2_with fail
        refine HKID.out.mono ?_
        rintro e w7 ⟨rfl, hw7⟩
        rw [hw7]
        clear hw7 w7
        go_wp2_with fail
        go_roundw
        case rel => exact ⟨j + 1, hlt, by go_num, HX1.out⟩
        case measure => simp [intOf]; omega
      · have hlt3 : ¬ (j : Int) < nk := by omega
        go_wp2_with fail
        go_ret
        exact ⟨rfl, HX.out⟩
attribute [local go_sem] mFraKind mFraNum mFraText mFraLen mFraKid
set_option maxRecDepth 100000 in
set_option maxHeartbeats 4000000 in
theorem matches_Fra {B B2 : Nat} (b nk c cq : Nat) (a qa ka : Option Addr) (kl kc : Nat) (k x : ByteArray) (n : Int) (bs : Nat → Nat) (w : World) (hN : NodeB w b k n x (.slice a nk c)) (hn : nk ≤ 100000) (ho : w.ownsRow B 50 1 (.slice a nk c) nk ((List.range nk).map fun i => .iface 226 (.pointer (some ⟨bs i, 0, none⟩)))) (hq : w.ownsRow B2 50 1 (.slice qa nk cq) nk ((List.range nk).map fun i => .iface 226 (.pointer (some ⟨bs i, 0, none⟩)))) :
    Calls Tryz.prog 69 #[.iface 235 (.pointer (some ⟨b, 0, none⟩)), .agg #[.string k, .int .i64 n, .string x, .slice ka kl kc], .slice qa nk cq] w fun e w' => e = .returned (.bool true) ∧ Ext w w' := by
  have HN := hid hN
  have HO := hid ho
  have HQ := hid hq
  have hn' : (nk : Int) ≤ 100000 := by omega
  clear hN ho hq hn
  obtain ⟨M, hM⟩ : ∃ M, w.alloc (.cells #[.string k, .int .i64 n, .string x, .slice ka kl kc] 54) = M := ⟨_, rfl⟩
  have XM := hid (show Ext w M from hM ▸ Ext.alloc _ _)
  have HM0 := hid (show M.heap[w.heap.size]? = some (.cells #[.string k, .int .i64 n, .string x, .slice ka kl kc] 54) from hM ▸ blk0 _ _)
  have HSK := hid (show ∀ W', Ext M W' → (W'.cell? ⟨b, 0, none⟩ = some (.string k) ∧ W'.cell? ⟨b, 2, none⟩ = some (.int .i64 n) ∧ W'.cell? ⟨b, 3, none⟩ = some (.string x) ∧ W'.cell? ⟨b, 4, none⟩ = some (.slice a nk c) ∧ W'.cell? ⟨w.heap.size, 0, none⟩ = some (.string k) ∧ W'.cell? ⟨w.heap.size, 1, none⟩ = some (.int .i64 n) ∧ W'.cell? ⟨w.heap.size, 2, none⟩ = some (.string x)) from fun W' X => by
    obtain ⟨s0, s1, s2, s3⟩ := four_of (X.block HM0.out)
    obtain ⟨r0, r1, r2, r3⟩ := (HN.out.later (XM.out.trans X)).cells
    exact ⟨r0, r1, r2, r3, s0, s1, s2⟩)
  go_enter Tryz.func69, Tryz.ntmps69
  go_upto_region 1 with fail
  first | rw [hM] | skip
  clear hM
  go_cut [34] from 9 to 34 (fun s34 wx => s34 = .bool false ∧ Ext M wx)
  case first =>
    go_region_held3 (fun W' => W'.cell? ⟨b, 0, none⟩ = some (.string k) ∧ W'.cell? ⟨b, 2, none⟩ = some (.int .i64 n) ∧ W'.cell? ⟨b, 3, none⟩ = some (.string x) ∧ W'.cell? ⟨b, 4, none⟩ = some (.slice a nk c) ∧ W'.cell? ⟨w.heap.size, 0, none⟩ = some (.string k) ∧ W'.cell? ⟨w.heap.size, 1, none⟩ = some (.int .i64 n) ∧ W'.cell? ⟨w.heap.size, 2, none⟩ = some (.string x))
      (first | with_reducible exact HSK.out _ (Ext.refl _) | with_reducible exact HSK.out _ (Ext.refl _).drew | go_keep)
      (first
        | (go_at_call 184; refine (bKind b k _ (HSK.out _ (by repeat (first | with_reducible exact Ext.refl _ | with_reducible refine Ext.drew ?_))).1).mono ?_; rintro r u1 ⟨rfl, rfl⟩)
        | (go_at_call 115; refine (bNum b n _ (HSK.out _ (by repeat (first | with_reducible exact Ext.refl _ | with_reducible refine Ext.drew ?_))).2.1).mono ?_; rintro r u1 ⟨rfl, rfl⟩)
        | (go_at_call 117; refine (bText b x _ (HSK.out _ (by repeat (first | with_reducible exact Ext.refl _ | with_reducible refine Ext.drew ?_))).2.2.1).mono ?_; rintro r u1 ⟨rfl, rfl⟩)
        | (go_at_call 185; refine (bLen b a nk c _ (HSK.out _ (by repeat (first | with_reducible exact Ext.refl _ | with_reducible refine Ext.drew ?_))).2.2.2.1).mono ?_; rintro r u1 ⟨rfl, rfl⟩))
    all_goals
      go_wp2_with fail
      go_meet
      case rel => exact ⟨rfl, (by repeat (first | with_reducible exact Ext.refl _ | with_reducible refine Ext.drew ?_))⟩
  case rest =>
    obtain ⟨rfl, hxc⟩ := hcut
    have XC := hid hxc
    clear hxc
    go_wp2_with fail
    go_loopw [37] (fun q37 wr => ∃ j : Nat, j ≤ nk ∧ q37 = .int .i64 j ∧ Ext M wr) (fun q37 _ => nk - (intOf q37).toNat)
    case atStart => exact ⟨0, Nat.zero_le _, rfl, XC.out⟩
    case round =>
      obtain ⟨j, hj, rfl, hx⟩ := hrel
      have HX := hid (XM.out.trans hx)
      have HX1 := hid hx
      clear hx
      by_cases hlt : j < nk
      · have hlt' : (j : Int) < nk := by omega
        obtain ⟨g1, e1, p1⟩ := row_cell (row_ext HO.out HX.out) j hlt
        obtain ⟨g2, e2, p2⟩ := row_cell (row_ext HQ.out HX.out) j hlt
        have r3 := (HN.out.later HX.out).cells.2.2.2
        subst e1 e2
        have hg2 := lt_of_cell p2
        have HKID := hid (bKid b g1 0 nk c j _ _ r3 hlt (by rw [Nat.zero_add]; exact p1))
        have heq := eqLit (bs j)
        generalize bs j = bj at *
        clear p1 r3
        go_wp2_with fail
        refine HKID.out.mono ?_
        rintro e w7 ⟨rfl, hw7⟩
        rw [hw7]
        clear hw7 w7
        go_wp2_with fail
        go_roundw
        case rel => exact ⟨j + 1, hlt, by go_num, HX1.out⟩
        case measure => simp [intOf]; omega
      · have hlt3 : ¬ (j : Int) < nk := by omega
        go_wp2_with fail
        go_ret
        exact ⟨rfl, HX.out⟩
attribute [local go_sem] mEcKind mEcNum mEcText mEcLen mEcKid
set_option maxRecDepth 100000 in
set_option maxHeartbeats 4000000 in
theorem matches_Ec {B B2 : Nat} (b nk c cq : Nat) (a qa ka : Option Addr) (kl kc : Nat) (k x : ByteArray) (n : Int) (bs : Nat → Nat) (w : World) (hN : NodeB w b k n x (.slice a nk c)) (hn : nk ≤ 100000) (ho : w.ownsRow B 50 1 (.slice a nk c) nk ((List.range nk).map fun i => .iface 226 (.pointer (some ⟨bs i, 0, none⟩)))) (hq : w.ownsRow B2 50 1 (.slice qa nk cq) nk ((List.range nk).map fun i => .iface 226 (.pointer (some ⟨bs i, 0, none⟩)))) :
    Calls Tryz.prog 69 #[.iface 164 (.pointer (some ⟨b, 0, none⟩)), .agg #[.string k, .int .i64 n, .string x, .slice ka kl kc], .slice qa nk cq] w fun e w' => e = .returned (.bool true) ∧ Ext w w' := by
  have HN := hid hN
  have HO := hid ho
  have HQ := hid hq
  have hn' : (nk : Int) ≤ 100000 := by omega
  clear hN ho hq hn
  obtain ⟨M, hM⟩ : ∃ M, w.alloc (.cells #[.string k, .int .i64 n, .string x, .slice ka kl kc] 54) = M := ⟨_, rfl⟩
  have XM := hid (show Ext w M from hM ▸ Ext.alloc _ _)
  have HM0 := hid (show M.heap[w.heap.size]? = some (.cells #[.string k, .int .i64 n, .string x, .slice ka kl kc] 54) from hM ▸ blk0 _ _)
  have HSK := hid (show ∀ W', Ext M W' → (W'.cell? ⟨b, 0, none⟩ = some (.string k) ∧ W'.cell? ⟨b, 2, none⟩ = some (.int .i64 n) ∧ W'.cell? ⟨b, 3, none⟩ = some (.string x) ∧ W'.cell? ⟨b, 4, none⟩ = some (.slice a nk c) ∧ W'.cell? ⟨w.heap.size, 0, none⟩ = some (.string k) ∧ W'.cell? ⟨w.heap.size, 1, none⟩ = some (.int .i64 n) ∧ W'.cell? ⟨w.heap.size, 2, none⟩ = some (.string x)) from fun W' X => by
    obtain ⟨s0, s1, s2, s3⟩ := four_of (X.block HM0.out)
    obtain ⟨r0, r1, r2, r3⟩ := (HN.out.later (XM.out.trans X)).cells
    exact ⟨r0, r1, r2, r3, s0, s1, s2⟩)
  go_enter Tryz.func69, Tryz.ntmps69
  go_upto_region 1 with fail
  first | rw [hM] | skip
  clear hM
  go_cut [34] from 9 to 34 (fun s34 wx => s34 = .bool false ∧ Ext M wx)
  case first =>
    go_region_held3 (fun W' => W'.cell? ⟨b, 0, none⟩ = some (.string k) ∧ W'.cell? ⟨b, 2, none⟩ = some (.int .i64 n) ∧ W'.cell? ⟨b, 3, none⟩ = some (.string x) ∧ W'.cell? ⟨b, 4, none⟩ = some (.slice a nk c) ∧ W'.cell? ⟨w.heap.size, 0, none⟩ = some (.string k) ∧ W'.cell? ⟨w.heap.size, 1, none⟩ = some (.int .i64 n) ∧ W'.cell? ⟨w.heap.size, 2, none⟩ = some (.string x))
      (first | with_reducible exact HSK.out _ (Ext.refl _) | with_reducible exact HSK.out _ (Ext.refl _).drew | go_keep)
      (first
        | (go_at_call 184; refine (bKind b k _ (HSK.out _ (by repeat (first | with_reducible exact Ext.refl _ | with_reducible refine Ext.drew ?_))).1).mono ?_; rintro r u1 ⟨rfl, rfl⟩)
        | (go_at_call 115; refine (bNum b n _ (HSK.out _ (by repeat (first | with_reducible exact Ext.refl _ | with_reducible refine Ext.drew ?_))).2.1).mono ?_; rintro r u1 ⟨rfl, rfl⟩)
        | (go_at_call 117; refine (bText b x _ (HSK.out _ (by repeat (first | with_reducible exact Ext.refl _ | with_reducible refine Ext.drew ?_))).2.2.1).mono ?_; rintro r u1 ⟨rfl, rfl⟩)
        | (go_at_call 185; refine (bLen b a nk c _ (HSK.out _ (by repeat (first | with_reducible exact Ext.refl _ | with_reducible refine Ext.drew ?_))).2.2.2.1).mono ?_; rintro r u1 ⟨rfl, rfl⟩))
    all_goals
      go_wp2_with fail
      go_meet
      case rel => exact ⟨rfl, (by repeat (first | with_reducible exact Ext.refl _ | with_reducible refine Ext.drew ?_))⟩
  case rest =>
    obtain ⟨rfl, hxc⟩ := hcut
    have XC := hid hxc
    clear hxc
    go_wp2_with fail
    go_loopw [37] (fun q37 wr => ∃ j : Nat, j ≤ nk ∧ q37 = .int .i64 j ∧ Ext M wr) (fun q37 _ => nk - (intOf q37).toNat)
    case atStart => exact ⟨0, Nat.zero_le _, rfl, XC.out⟩
    case round =>
      obtain ⟨j, hj, rfl, hx⟩ := hrel
      have HX := hid (XM.out.trans hx)
      have HX1 := hid hx
      clear hx
      by_cases hlt : j < nk
      · have hlt' : (j : Int) < nk := by omega
        obtain ⟨g1, e1, p1⟩ := row_cell (row_ext HO.out HX.out) j hlt
        obtain ⟨g2, e2, p2⟩ := row_cell (row_ext HQ.out HX.out) j hlt
        have r3 := (HN.out.later HX.out).cells.2.2.2
        subst e1 e2
        have hg2 := lt_of_cell p2
        have HKID := hid (bKid b g1 0 nk c j _ _ r3 hlt (by rw [Nat.zero_add]; exact p1))
        have heq := eqLit (bs j)
        generalize bs j = bj at *
        clear p1 r3
        go_wp2_with fail
        refine HKID.out.mono ?_
        rintro e w7 ⟨rfl, hw7⟩
        rw [hw7]
        clear hw7 w7
        go_wp2_with fail
        go_roundw
        case rel => exact ⟨j + 1, hlt, by go_num, HX1.out⟩
        case measure => simp [intOf]; omega
      · have hlt3 : ¬ (j : Int) < nk := by omega
        go_wp2_with fail
        go_ret
        exact ⟨rfl, HX.out⟩

end Go.Proofs.YtaafcmmmkalgjaaGreatDoor.Nd
