/-
  What a value in memory stands for; values in memory of their own.
-/
import Derived.Test.YtaafcmmmkalgjaaGreatDoorBase
import Derived.WalkMore
import Derived.Deep.RegionHeld3
import Derived.Deep.Cut
import Derived.BigQuiet
import Derived.Deep.LoopGhost
import Derived.Deep.CutRange
import Derived.Deep.CutBlock
import Derived.Laws.OwnMore
namespace Go.Proofs.YtaafcmmmkalgjaaGreatDoor
open Go.RowKit
/-- The plain value that the value v stands for, within d levels; its lists lie in blocks of K. -/
def VRd (K : Nat → Prop) (w : World) : Nat → Value → T → Prop
  | 0, _, _ => False
  | d + 1, v, .node k n x ks =>
    (k = 1 ∧ n = 0 ∧ x = ⟨#[]⟩ ∧ ks = [] ∧ v = .iface 172 (.agg #[])) ∨
    (k = 2 ∧ x = ⟨#[]⟩ ∧ ks = [] ∧ ∃ b : Bool, n = (if b then 1 else 0) ∧ v = .iface 173 (.bool b)) ∨
    (k = 3 ∧ x = ⟨#[]⟩ ∧ ks = [] ∧ v = .iface 83 (.int .i64 n)) ∨
    (k = 4 ∧ n = 0 ∧ ks = [] ∧ x.size ≤ 140737488351232 ∧ v = .iface 174 (.string x)) ∨
    (k = 5 ∧ n = 0 ∧ x = ⟨#[]⟩ ∧ ks.length * 16 ≤ 140737488351232 ∧ ∃ a c, v = .iface 81 (.slice a ks.length c) ∧
      (ks = [] ∨ ∃ g off, a = some ⟨g, off, none⟩ ∧ K g ∧ ∀ j, (h : j < ks.length) → ∃ u, w.cell? ⟨g, off + j, none⟩ = some u ∧ VRd K w d u ks[j]))
theorem VRd.keep {K : Nat → Prop} {w w' : World} (hk : Kp K w w') : ∀ {d : Nat} {v : Value} {t : T}, VRd K w d v t → VRd K w' d v t
  | 0, _, _, h => h
  | d + 1, v, .node k n x ks, h => by
    rcases h with h | h | h | h | ⟨h1, h2, h3, h4, a, c, h5, h6⟩
    · exact .inl h
    · exact .inr (.inl h)
    · exact .inr (.inr (.inl h))
    · exact .inr (.inr (.inr (.inl h)))
    · refine .inr (.inr (.inr (.inr ⟨h1, h2, h3, h4, a, c, h5, ?_⟩)))
      rcases h6 with h6 | ⟨g, off, ha, hg, hc⟩
      · exact .inl h6
      · refine .inr ⟨g, off, ha, hg, fun j hj => ?_⟩
        obtain ⟨u, hu, hr⟩ := hc j hj
        exact ⟨u, hk.cell hu hg, VRd.keep hk hr⟩
theorem VRd.mono {K L : Nat → Prop} {w : World} (hl : ∀ k, k < w.heap.size → K k → L k) : ∀ {d : Nat} {v : Value} {t : T}, VRd K w d v t → VRd L w d v t
  | 0, _, _, h => h
  | d + 1, v, .node k n x ks, h => by
    rcases h with h | h | h | h | ⟨h1, h2, h3, h4, a, c, h5, h6⟩
    · exact .inl h
    · exact .inr (.inl h)
    · exact .inr (.inr (.inl h))
    · exact .inr (.inr (.inr (.inl h)))
    · refine .inr (.inr (.inr (.inr ⟨h1, h2, h3, h4, a, c, h5, ?_⟩)))
      rcases h6 with h6 | ⟨g, off, ha, hg, hc⟩
      · exact .inl h6
      · by_cases h0 : 0 < ks.length
        · refine .inr ⟨g, off, ha, ?_, fun j hj => ?_⟩
          · obtain ⟨u, hu, _⟩ := hc 0 h0
            exact hl g (lt_of_cell hu) hg
          · obtain ⟨u, hu, hr⟩ := hc j hj
            exact ⟨u, hu, VRd.mono hl hr⟩
        · exact .inl (List.eq_nil_of_length_eq_zero (by omega))
theorem VRd.low {K : Nat → Prop} {w : World} {d : Nat} {v : Value} {t : T} (h : VRd K w d v t) : VRd (· < w.heap.size) w d v t := h.mono (fun _ hk _ => hk)
theorem VRd.later {K : Nat → Prop} {w w' : World} {d : Nat} {v : Value} {t : T} (h : VRd K w d v t) (hx : Ext w w') : VRd K w' d v t := h.keep (hx.kp K)
/-- The value v lies in memory of its own: its lists are the blocks bs. -/
def VOwn (w : World) : Nat → Value → T → List Nat → Prop
  | 0, _, _, _ => False
  | d + 1, v, .node k n x ks, bs =>
    (k = 1 ∧ n = 0 ∧ x = ⟨#[]⟩ ∧ ks = [] ∧ bs = [] ∧ v = .iface 172 (.agg #[])) ∨
    (k = 2 ∧ x = ⟨#[]⟩ ∧ ks = [] ∧ bs = [] ∧ ∃ b : Bool, n = (if b then 1 else 0) ∧ v = .iface 173 (.bool b)) ∨
    (k = 3 ∧ x = ⟨#[]⟩ ∧ ks = [] ∧ bs = [] ∧ v = .iface 83 (.int .i64 n)) ∨
    (k = 4 ∧ n = 0 ∧ ks = [] ∧ bs = [] ∧ x.size ≤ 140737488351232 ∧ v = .iface 174 (.string x)) ∨
    (k = 5 ∧ n = 0 ∧ x = ⟨#[]⟩ ∧ ks.length * 16 ≤ 140737488351232 ∧ ∃ (g c : Nat) (cs : Array Value) (bss : List (List Nat)), v = .iface 81 (.slice (some ⟨g, 0, none⟩) ks.length c) ∧ ks.length ≤ c ∧ w.heap[g]? = some (.cells cs 35) ∧ cs.size = c ∧ bs = g :: bss.flatten ∧ bss.length = ks.length ∧
      ∀ j, (h : j < ks.length) → ∃ u b, cs[j]? = some u ∧ bss[j]? = some b ∧ VOwn w d u ks[j] b)
theorem VOwn.rd {w : World} : ∀ {d : Nat} {v : Value} {t : T} {bs : List Nat}, VOwn w d v t bs → VRd (· ∈ bs) w d v t
  | 0, _, _, _, h => h
  | d + 1, v, .node k n x ks, bs, h => by
    rcases h with ⟨h1, h2, h3, h4, _, h5⟩ | ⟨h1, h2, h3, _, h4⟩ | ⟨h1, h2, h3, _, h4⟩ | ⟨h1, h2, h3, _, h4⟩ | ⟨h1, h2, h3, h4, g, c, cs, bss, h5, h6, h7, h8, rfl, h9, hc⟩
    · exact .inl ⟨h1, h2, h3, h4, h5⟩
    · exact .inr (.inl ⟨h1, h2, h3, h4⟩)
    · exact .inr (.inr (.inl ⟨h1, h2, h3, h4⟩))
    · exact .inr (.inr (.inr (.inl ⟨h1, h2, h3, h4⟩)))
    · refine .inr (.inr (.inr (.inr ⟨h1, h2, h3, h4, _, c, h5, .inr ⟨g, 0, rfl, by simp, fun j hj => ?_⟩⟩)))
      obtain ⟨u, b, hu, hb, ho⟩ := hc j hj
      exact ⟨u, by rw [Nat.zero_add]; exact cell_of h7 hu, (VOwn.rd ho).mono (fun k _ hk => List.mem_cons_of_mem _ (List.mem_flatten.2 ⟨b, List.mem_of_getElem? hb, hk⟩))⟩
theorem VOwn.keep {w w' : World} : ∀ {d : Nat} {v : Value} {t : T} {bs : List Nat}, VOwn w d v t bs → Kp (· ∈ bs) w w' → VOwn w' d v t bs
  | 0, _, _, _, h, _ => h
  | d + 1, v, .node k n x ks, bs, h, hk => by
    rcases h with h | h | h | h | ⟨h1, h2, h3, h4, g, c, cs, bss, h5, h6, h7, h8, rfl, h9, hc⟩
    · exact .inl h
    · exact .inr (.inl h)
    · exact .inr (.inr (.inl h))
    · exact .inr (.inr (.inr (.inl h)))
    · refine .inr (.inr (.inr (.inr ⟨h1, h2, h3, h4, g, c, cs, bss, h5, h6, hk.block' h7 (by simp), h8, rfl, h9, fun j hj => ?_⟩)))
      obtain ⟨u, b, hu, hb, ho⟩ := hc j hj
      exact ⟨u, b, hu, hb, VOwn.keep ho (hk.mono (fun k _ hk => List.mem_cons_of_mem _ (List.mem_flatten.2 ⟨b, List.mem_of_getElem? hb, hk⟩)))⟩
theorem VOwn.lt {w : World} : ∀ {d : Nat} {v : Value} {t : T} {bs : List Nat}, VOwn w d v t bs → ∀ b ∈ bs, b < w.heap.size
  | 0, _, _, _, h => h.elim
  | d + 1, v, .node k n x ks, bs, h => by
    rcases h with ⟨_, _, _, _, rfl, _⟩ | ⟨_, _, _, rfl, _⟩ | ⟨_, _, _, rfl, _⟩ | ⟨_, _, _, rfl, _⟩ | ⟨h1, h2, h3, h4, g, c, cs, bss, h5, h6, h7, h8, rfl, h9, hc⟩
    · intro b hb; cases hb
    · intro b hb; cases hb
    · intro b hb; cases hb
    · intro b hb; cases hb
    · intro b hb
      rcases List.mem_cons.1 hb with rfl | hb
      · exact lt_of_block h7
      · obtain ⟨l, hl, hbl⟩ := List.mem_flatten.1 hb
        obtain ⟨j, hj, rfl⟩ := List.getElem_of_mem hl
        obtain ⟨u, b', _, hb', ho⟩ := hc j (by omega)
        rw [List.getElem?_eq_getElem hj] at hb'
        cases hb'
        exact VOwn.lt ho b hbl
theorem VOwn.later {w w' : World} {d : Nat} {v : Value} {t : T} {bs : List Nat} (h : VOwn w d v t bs) (hx : Ext w w') : VOwn w' d v t bs := h.keep (hx.kp _)
theorem VRd.iface {K : Nat → Prop} {w : World} {d : Nat} {v : Value} {t : T} (h : VRd K w d v t) : ∃ τ p, v = .iface τ p := by
  obtain ⟨k, n, x, ks⟩ := t
  cases d with
  | zero => exact h.elim
  | succ d =>
    rcases h with ⟨_, _, _, _, rfl⟩ | ⟨_, _, _, _, _, rfl⟩ | ⟨_, _, _, rfl⟩ | ⟨_, _, _, _, rfl⟩ | ⟨_, _, _, _, _, _, rfl, _⟩
    all_goals exact ⟨_, _, rfl⟩
end Go.Proofs.YtaafcmmmkalgjaaGreatDoor
/-
  worth.wellFormed by a contract.
-/
namespace Go.Proofs.YtaafcmmmkalgjaaGreatDoor
open Go.RowKit
theorem empty_of {x : ByteArray} (h : x.size = 0) : x = ⟨#[]⟩ := by
  obtain ⟨d⟩ := x
  have : d = #[] := Array.eq_empty_of_size_eq_zero h
  rw [this]
theorem toList_nil {x : ByteArray} : x.toList = [] ↔ x.size = 0 := by
  rw [ByteArray.toList_eq]
  constructor
  · intro h; have := congrArg List.length h; rw [Array.length_toList] at this; exact this
  · intro h; rw [empty_of h]
theorem toList_isEmpty (x : ByteArray) : x.toList.isEmpty = decide (x.size = 0) := by
  rw [Bool.eq_iff_iff, List.isEmpty_iff, toList_nil]; simp
set_option maxRecDepth 100000 in
set_option maxHeartbeats 4000000 in
theorem wellFormed_any (k n : Int) (x : ByteArray) (a : Option Addr) (l c : Nat) (w : World) :
    Calls Tryz.prog 139 #[.agg #[.int .i64 k, .int .i64 n, .string x, .slice a l c]] w fun e w' => e = .returned (.bool (decide (T.wfP k n x.size l))) ∧ Ext w w' := by
  by_cases x0 : x.size = 0
  · obtain rfl := empty_of x0
    by_cases l0 : l = 0
    · subst l0
      by_cases k1 : k = 1
      · subst k1
        go_enter Tryz.func139, Tryz.ntmps139
        go_wp2_with fail
        go_quiet (fail)
        go_wp2_with fail
        all_goals
          go_ret
          refine ⟨ret_bool ?_, (Ext.alloc _ _).drewN _⟩
          first | exact (decide_eq_true (by unfold T.wfP; omega)).symm | exact (decide_eq_false (by unfold T.wfP; omega)).symm
      by_cases k2 : k = 2
      · subst k2
        go_enter Tryz.func139, Tryz.ntmps139
        go_wp2_with fail
        go_quiet (fail)
        go_wp2_with fail
        all_goals
          go_ret
          refine ⟨ret_bool ?_, (Ext.alloc _ _).drewN _⟩
          first | exact (decide_eq_true (by unfold T.wfP; omega)).symm | exact (decide_eq_false (by unfold T.wfP; omega)).symm
      by_cases k3 : k = 3
      · subst k3
        go_enter Tryz.func139, Tryz.ntmps139
        go_wp2_with fail
        go_quiet (fail)
        go_wp2_with fail
        all_goals
          go_ret
          refine ⟨ret_bool ?_, (Ext.alloc _ _).drewN _⟩
          first | exact (decide_eq_true (by unfold T.wfP; omega)).symm | exact (decide_eq_false (by unfold T.wfP; omega)).symm
      by_cases k4 : k = 4
      · subst k4
        go_enter Tryz.func139, Tryz.ntmps139
        go_wp2_with fail
        go_quiet (fail)
        go_wp2_with fail
        all_goals
          go_ret
          refine ⟨ret_bool ?_, (Ext.alloc _ _).drewN _⟩
          first | exact (decide_eq_true (by unfold T.wfP; omega)).symm | exact (decide_eq_false (by unfold T.wfP; omega)).symm
      by_cases k5 : k = 5
      · subst k5
        go_enter Tryz.func139, Tryz.ntmps139
        go_wp2_with fail
        go_quiet (fail)
        go_wp2_with fail
        all_goals
          go_ret
          refine ⟨ret_bool ?_, (Ext.alloc _ _).drewN _⟩
          first | exact (decide_eq_true (by unfold T.wfP; omega)).symm | exact (decide_eq_false (by unfold T.wfP; omega)).symm
      go_enter Tryz.func139, Tryz.ntmps139
      go_wp2_with fail
      go_quiet (fail)
      go_wp2_with fail
      all_goals
        go_ret
        refine ⟨ret_bool ?_, (Ext.alloc _ _).drewN _⟩
        first | exact (decide_eq_true (by unfold T.wfP; omega)).symm | exact (decide_eq_false (by unfold T.wfP; omega)).symm
    · have l1 : ((l : Int) == 0) = false := by simpa using l0
      by_cases k1 : k = 1
      · subst k1
        go_enter Tryz.func139, Tryz.ntmps139
        go_wp2_with fail
        go_quiet (fail)
        go_wp2_with fail
        all_goals
          go_ret
          refine ⟨ret_bool ?_, (Ext.alloc _ _).drewN _⟩
          first | exact (decide_eq_true (by unfold T.wfP; omega)).symm | exact (decide_eq_false (by unfold T.wfP; omega)).symm
      by_cases k2 : k = 2
      · subst k2
        go_enter Tryz.func139, Tryz.ntmps139
        go_wp2_with fail
        go_quiet (fail)
        go_wp2_with fail
        all_goals
          go_ret
          refine ⟨ret_bool ?_, (Ext.alloc _ _).drewN _⟩
          first | exact (decide_eq_true (by unfold T.wfP; omega)).symm | exact (decide_eq_false (by unfold T.wfP; omega)).symm
      by_cases k3 : k = 3
      · subst k3
        go_enter Tryz.func139, Tryz.ntmps139
        go_wp2_with fail
        go_quiet (fail)
        go_wp2_with fail
        all_goals
          go_ret
          refine ⟨ret_bool ?_, (Ext.alloc _ _).drewN _⟩
          first | exact (decide_eq_true (by unfold T.wfP; omega)).symm | exact (decide_eq_false (by unfold T.wfP; omega)).symm
      by_cases k4 : k = 4
      · subst k4
        go_enter Tryz.func139, Tryz.ntmps139
        go_wp2_with fail
        go_quiet (fail)
        go_wp2_with fail
        all_goals
          go_ret
          refine ⟨ret_bool ?_, (Ext.alloc _ _).drewN _⟩
          first | exact (decide_eq_true (by unfold T.wfP; omega)).symm | exact (decide_eq_false (by unfold T.wfP; omega)).symm
      by_cases k5 : k = 5
      · subst k5
        go_enter Tryz.func139, Tryz.ntmps139
        go_wp2_with fail
        go_quiet (fail)
        go_wp2_with fail
        all_goals
          go_ret
          refine ⟨ret_bool ?_, (Ext.alloc _ _).drewN _⟩
          first | exact (decide_eq_true (by unfold T.wfP; omega)).symm | exact (decide_eq_false (by unfold T.wfP; omega)).symm
      go_enter Tryz.func139, Tryz.ntmps139
      go_wp2_with fail
      go_quiet (fail)
      go_wp2_with fail
      all_goals
        go_ret
        refine ⟨ret_bool ?_, (Ext.alloc _ _).drewN _⟩
        first | exact (decide_eq_true (by unfold T.wfP; omega)).symm | exact (decide_eq_false (by unfold T.wfP; omega)).symm
  · have x1 : ¬ x.toList = [] := fun h => x0 (toList_nil.1 h)
    have x2 : x.toList.isEmpty = false := by rw [toList_isEmpty]; simpa using x0
    by_cases l0 : l = 0
    · subst l0
      by_cases k1 : k = 1
      · subst k1
        go_enter Tryz.func139, Tryz.ntmps139
        go_wp2_with fail
        go_quiet (fail)
        go_wp2_with fail
        all_goals
          go_ret
          refine ⟨ret_bool ?_, (Ext.alloc _ _).drewN _⟩
          first | exact (decide_eq_true (by unfold T.wfP; omega)).symm | exact (decide_eq_false (by unfold T.wfP; omega)).symm
      by_cases k2 : k = 2
      · subst k2
        go_enter Tryz.func139, Tryz.ntmps139
        go_wp2_with fail
        go_quiet (fail)
        go_wp2_with fail
        all_goals
          go_ret
          refine ⟨ret_bool ?_, (Ext.alloc _ _).drewN _⟩
          first | exact (decide_eq_true (by unfold T.wfP; omega)).symm | exact (decide_eq_false (by unfold T.wfP; omega)).symm
      by_cases k3 : k = 3
      · subst k3
        go_enter Tryz.func139, Tryz.ntmps139
        go_wp2_with fail
        go_quiet (fail)
        go_wp2_with fail
        all_goals
          go_ret
          refine ⟨ret_bool ?_, (Ext.alloc _ _).drewN _⟩
          first | exact (decide_eq_true (by unfold T.wfP; omega)).symm | exact (decide_eq_false (by unfold T.wfP; omega)).symm
      by_cases k4 : k = 4
      · subst k4
        go_enter Tryz.func139, Tryz.ntmps139
        go_wp2_with fail
        go_quiet (fail)
        go_wp2_with fail
        all_goals
          go_ret
          refine ⟨ret_bool ?_, (Ext.alloc _ _).drewN _⟩
          first | exact (decide_eq_true (by unfold T.wfP; omega)).symm | exact (decide_eq_false (by unfold T.wfP; omega)).symm
      by_cases k5 : k = 5
      · subst k5
        go_enter Tryz.func139, Tryz.ntmps139
        go_wp2_with fail
        go_quiet (fail)
        go_wp2_with fail
        all_goals
          go_ret
          refine ⟨ret_bool ?_, (Ext.alloc _ _).drewN _⟩
          first | exact (decide_eq_true (by unfold T.wfP; omega)).symm | exact (decide_eq_false (by unfold T.wfP; omega)).symm
      go_enter Tryz.func139, Tryz.ntmps139
      go_wp2_with fail
      go_quiet (fail)
      go_wp2_with fail
      all_goals
        go_ret
        refine ⟨ret_bool ?_, (Ext.alloc _ _).drewN _⟩
        first | exact (decide_eq_true (by unfold T.wfP; omega)).symm | exact (decide_eq_false (by unfold T.wfP; omega)).symm
    · have l1 : ((l : Int) == 0) = false := by simpa using l0
      by_cases k1 : k = 1
      · subst k1
        go_enter Tryz.func139, Tryz.ntmps139
        go_wp2_with fail
        go_quiet (fail)
        go_wp2_with fail
        all_goals
          go_ret
          refine ⟨ret_bool ?_, (Ext.alloc _ _).drewN _⟩
          first | exact (decide_eq_true (by unfold T.wfP; omega)).symm | exact (decide_eq_false (by unfold T.wfP; omega)).symm
      by_cases k2 : k = 2
      · subst k2
        go_enter Tryz.func139, Tryz.ntmps139
        go_wp2_with fail
        go_quiet (fail)
        go_wp2_with fail
        all_goals
          go_ret
          refine ⟨ret_bool ?_, (Ext.alloc _ _).drewN _⟩
          first | exact (decide_eq_true (by unfold T.wfP; omega)).symm | exact (decide_eq_false (by unfold T.wfP; omega)).symm
      by_cases k3 : k = 3
      · subst k3
        go_enter Tryz.func139, Tryz.ntmps139
        go_wp2_with fail
        go_quiet (fail)
        go_wp2_with fail
        all_goals
          go_ret
          refine ⟨ret_bool ?_, (Ext.alloc _ _).drewN _⟩
          first | exact (decide_eq_true (by unfold T.wfP; omega)).symm | exact (decide_eq_false (by unfold T.wfP; omega)).symm
      by_cases k4 : k = 4
      · subst k4
        go_enter Tryz.func139, Tryz.ntmps139
        go_wp2_with fail
        go_quiet (fail)
        go_wp2_with fail
        all_goals
          go_ret
          refine ⟨ret_bool ?_, (Ext.alloc _ _).drewN _⟩
          first | exact (decide_eq_true (by unfold T.wfP; omega)).symm | exact (decide_eq_false (by unfold T.wfP; omega)).symm
      by_cases k5 : k = 5
      · subst k5
        go_enter Tryz.func139, Tryz.ntmps139
        go_wp2_with fail
        go_quiet (fail)
        go_wp2_with fail
        all_goals
          go_ret
          refine ⟨ret_bool ?_, (Ext.alloc _ _).drewN _⟩
          first | exact (decide_eq_true (by unfold T.wfP; omega)).symm | exact (decide_eq_false (by unfold T.wfP; omega)).symm
      go_enter Tryz.func139, Tryz.ntmps139
      go_wp2_with fail
      go_quiet (fail)
      go_wp2_with fail
      all_goals
        go_ret
        refine ⟨ret_bool ?_, (Ext.alloc _ _).drewN _⟩
        first | exact (decide_eq_true (by unfold T.wfP; omega)).symm | exact (decide_eq_false (by unfold T.wfP; omega)).symm
end Go.Proofs.YtaafcmmmkalgjaaGreatDoor
/-
  worth.value by a contract: a value in memory of its own.
-/
namespace Go.Proofs.YtaafcmmmkalgjaaGreatDoor
open Go.RowKit
theorem valueInfo : (Tryz.prog.info? 35).map (fun i => (i.zero, i.size, i.bytes)) = some (some .nilIface, 1, 16) := by kernel_rfl
theorem set_get {cs : Array Value} {i : Nat} (v : Value) (h : i < cs.size) : (cs.setIfInBounds i v)[i]? = some v := by simp [h]
theorem set_get_other {cs : Array Value} {i j : Nat} (v : Value) (h : j ≠ i) : (cs.setIfInBounds i v)[j]? = cs[j]? := by rw [Array.getElem?_setIfInBounds, if_neg (fun e => h e.symm)]
/-- What value answers. -/
def ValR (w : World) (d : Nat) (t : T) (e : Ending) (w' : World) : Prop := ∃ u bs, e = .returned u ∧ Ext w w' ∧ VOwn w' d u t bs ∧ (∀ b ∈ bs, w.heap.size ≤ b) ∧ bs.Nodup
set_option maxRecDepth 100000 in
set_option maxHeartbeats 2000000 in
theorem value_any : ∀ (d : Nat) (v : Value) (t : T) (K : Nat → Prop) (w : World), Rd K w d v t → t.good →
    Calls Tryz.prog 82 #[v] w (ValR w d t) := by
  intro d
  induction d with
  | zero => intro v t K w h; exact h.elim
  | succ d ih =>
    intro v t K w hr hg
    obtain ⟨k, n, x, ks⟩ := t
    obtain ⟨a, c, rfl, hx, hl, hks⟩ := hr
    obtain ⟨hw, hgs⟩ := hg
    rcases hw with ⟨rfl, rfl, x0, l0⟩ | ⟨rfl, hn, x0, l0⟩ | ⟨rfl, x0, l0⟩ | ⟨rfl, rfl, l0⟩ | ⟨rfl, rfl, x0⟩
    · obtain rfl := empty_of x0
      obtain rfl := List.eq_nil_of_length_eq_zero l0
      clear ih hks hgs x0 l0
      go_enter Tryz.func82, Tryz.ntmps82
      go_wp2_with fail
      go_ret
      exact ⟨_, [], rfl, Ext.alloc _ _, .inl ⟨rfl, rfl, rfl, rfl, rfl, rfl⟩, fun b h => (by cases h), List.nodup_nil⟩
    · obtain rfl := empty_of x0
      obtain rfl := List.eq_nil_of_length_eq_zero l0
      clear ih hks hgs x0 l0
      go_enter Tryz.func82, Tryz.ntmps82
      go_wp2_with fail
      go_ret
      refine ⟨_, [], rfl, Ext.alloc _ _, .inr (.inl ⟨rfl, rfl, rfl, rfl, _, ?_, rfl⟩), fun b h => (by cases h), List.nodup_nil⟩
      rcases hn with rfl | rfl <;> rfl
    · obtain rfl := empty_of x0
      obtain rfl := List.eq_nil_of_length_eq_zero l0
      clear ih hks hgs x0 l0
      go_enter Tryz.func82, Tryz.ntmps82
      go_wp2_with fail
      go_ret
      exact ⟨_, [], rfl, Ext.alloc _ _, .inr (.inr (.inl ⟨rfl, rfl, rfl, rfl, rfl⟩)), fun b h => (by cases h), List.nodup_nil⟩
    · obtain rfl := List.eq_nil_of_length_eq_zero l0
      clear ih hks hgs l0
      go_enter Tryz.func82, Tryz.ntmps82
      go_wp2_with fail
      go_ret
      exact ⟨_, [], rfl, Ext.alloc _ _, .inr (.inr (.inr (.inl ⟨rfl, rfl, rfl, rfl, hx, rfl⟩))), fun b h => (by cases h), List.nodup_nil⟩
    · obtain rfl := empty_of x0
      have HL := hid hl
      have HKS := hid hks
      have HIH := hid ih
      have HGS := hid hgs
      have hl1 : (ks.length : Int) ≤ 140737488355328 := by omega
      have hl2 : ks.length * 16 ≤ 140737488355328 := by omega
      clear hks ih hgs hx x0 hl
      obtain ⟨ti, hi, hz0, hz1, hz2⟩ := info_parts valueInfo
      obtain ⟨cz, hcz, hmk⟩ : ∃ cz : Array Value, cz.size = ks.length ∧ ∀ w, (Instr.makeSlice 81 (.int .i64 (ks.length : Int)) (.int .i64 (ks.length : Int))).run Tryz.prog w = .ok (.slice (some ⟨w.heap.size, 0, none⟩) ks.length ks.length) (w.alloc (.cells cz 35)) := by
        refine ⟨madeCells (Value.nilIface).cells (ks.length * 1), by rw [size_madeCells]; omega, fun w => ?_⟩
        have := run_make (P := Tryz.prog) w 81 35 ti _ Tryz.underlying81 hi hz0 .i64 .i64 ks.length ks.length (by omega) (Int.le_refl _) (by rw [hz2]; omega) (by omega)
        rw [hz1] at this
        simpa using this
      have HCZ := hid hcz
      clear hcz
      go_enter Tryz.func82, Tryz.ntmps82
      go_wp2_with fail
      have HMK := hid hmk
      clear hmk
      go_loopw [33] (fun i wr => ∃ (j : Nat) (cs : Array Value) (bss : List (List Nat)), j ≤ ks.length ∧ i = .int .i64 j ∧ Ext w wr ∧ wr.heap[w.heap.size + 1]? = some (.cells cs 35) ∧ cs.size = ks.length ∧ bss.length = j ∧
          (∀ i, (h : i < ks.length) → i < j → ∃ u b, cs[i]? = some u ∧ bss[i]? = some b ∧ VOwn wr d u ks[i] b) ∧
          (∀ b ∈ bss.flatten, w.heap.size + 1 < b ∧ b < wr.heap.size) ∧ bss.flatten.Nodup) (fun i _ => ks.length - (intOf i).toNat)
      case atStart => exact ⟨0, cz, [], Nat.zero_le _, rfl, Ext.alloc2 _ _ _, blk1 _ _ _, HCZ.out, rfl, fun i _ h => absurd h (Nat.not_lt_zero _), fun b h => (by cases h), List.nodup_nil⟩
      case round =>
        obtain ⟨j, cs, bss, hj, rfl, hx, hb3, hcs, hbl, hall, hbb, hnd⟩ := hrel
        have HX := hid hx
        have HB3 := hid hb3
        have HCS := hid hcs
        have HBL := hid hbl
        have HALL := hid hall
        have HBB := hid hbb
        have HND := hid hnd
        clear hx hb3 hcs hbl hall hbb hnd
        by_cases hlt : j < ks.length
        · have hlt' : (j : Int) < ks.length := by omega
          rcases HKS.out with e0 | ⟨g, off, rfl, hg, hcells⟩
          · rw [e0] at hlt; exact absurd hlt (Nat.not_lt_zero _)
          obtain ⟨u0, u1, u2, u3, h4, hrd⟩ := hcells j hlt
          obtain ⟨k', n', x', a', c', rfl, rfl, rfl, rfl⟩ := hrd.shape
          have HR := hid (fun o => hrd.later (HX.out.trans (Ext.alloc wr o)))
          obtain ⟨m0, m1, m2, m3⟩ := h4.keep (HX.out.kp K) hg
          have hgl := lt_of_cell m0
          clear hrd hcells hg h4
          generalize hkl : ks[j].kids.length = kl at m3 HR
          go_wp2_with fail
          refine (HIH.out _ ks[j] K _ (HR.out _) (T.goodL_mem HGS.out (List.getElem_mem hlt))).mono ?_
          rintro e w2 ⟨v', bs, rfl, hy, hown, hge, hnd⟩
          obtain ⟨τ, p, rfl⟩ := hown.rd.iface
          have HY := hid ((Ext.alloc wr _).trans hy)
          have HOWN := hid hown
          have HGE := hid hge
          have HN2 := hid hnd
          have hbg := HY.out.block HB3.out
          have HBG := hid hbg
          have hsz : j < cs.size := by rw [HCS.out]; omega
          have d0 := cell_of (i := j) hbg (Array.getElem?_eq_getElem (by omega))
          have f0 := frozen_of (i := j) hbg
          clear hy hown hge hnd hbg m0 m1 m2 m3 hgl
          go_wp2_with fail
          go_roundw
          case rel =>
            have hk4 := (HY.out.kp (· ≠ w.heap.size + 1)).trans (Kp.set w2 (w.heap.size + 1) j (.iface τ p) (fun h => h rfl))
            have hb4 := set_at HBG.out j (.iface τ p)
            have hk5 : Kp (· ≠ w.heap.size + 1) w2 _ := Kp.set w2 (w.heap.size + 1) j (.iface τ p) (fun h => h rfl)
            have hsz2 : w2.heap.size = (w2.setCell ⟨w.heap.size + 1, j, none⟩ (.iface τ p)).heap.size := by simp
            generalize hW : w2.setCell ⟨w.heap.size + 1, j, none⟩ (.iface τ p) = W at hk4 hb4 hk5 hsz2 ⊢
            have hsW : wr.heap.size ≤ W.heap.size := hk4.size
            have hbsz : w.heap.size + 1 < wr.heap.size := lt_of_block HB3.out
            have hgw : ∀ b ∈ bs, w.heap.size + 1 < b ∧ b < W.heap.size := fun b hb => ⟨by have := HGE.out b hb; simp at this; omega, by rw [← hsz2]; exact HOWN.out.lt b hb⟩
            refine ⟨j + 1, cs.setIfInBounds j (.iface τ p), bss ++ [bs], hlt, by go_num, ?_, hb4, by rw [Array.size_setIfInBounds]; exact HCS.out, by rw [List.length_append, HBL.out]; rfl, fun i h hi => ?_, fun b hb => ?_, ?_⟩
            · exact Kp.extOf HX.out hk4 (by omega)
            · by_cases e : i < j
              · obtain ⟨u, b, c0, hb, ho⟩ := HALL.out i h e
                refine ⟨u, b, by rw [set_get_other _ (by omega)]; exact c0, ?_, ?_⟩
                · rw [List.getElem?_append_left (by rw [HBL.out]; exact e)]; exact hb
                · exact ho.keep (hk4.mono (fun q _ hq e => by have := (HBB.out q (List.mem_flatten.2 ⟨b, List.mem_of_getElem? hb, hq⟩)).1; omega))
              · obtain rfl : i = j := by omega
                refine ⟨_, bs, set_get _ hsz, ?_, HOWN.out.keep (hk5.mono (fun q _ hq e => by have := (hgw q hq).1; omega))⟩
                rw [List.getElem?_append_right (by rw [HBL.out]; exact Nat.le_refl _), HBL.out]
                simp
            · rw [List.flatten_append, List.mem_append] at hb
              rcases hb with hb | hb
              · exact ⟨(HBB.out b hb).1, Nat.lt_of_lt_of_le (HBB.out b hb).2 hsW⟩
              · exact hgw b (by simpa using hb)
            · rw [List.flatten_append, List.nodup_append]
              refine ⟨HND.out, by simpa using HN2.out, fun p hp q hq e => ?_⟩
              have h1 := (HBB.out p hp).2
              have h2 := HGE.out q (by simpa using hq)
              simp at h2
              omega
          case measure => simp [intOf]; omega
        · have hje : j = ks.length := by omega
          go_wp2_with fail
          go_ret
          refine ⟨_, (w.heap.size + 1) :: bss.flatten, rfl, HX.out, .inr (.inr (.inr (.inr ⟨rfl, rfl, rfl, by have := HL.out; omega, w.heap.size + 1, ks.length, cs, bss, rfl, Nat.le_refl _, HB3.out, HCS.out, rfl, by rw [HBL.out, hje], fun i h => HALL.out i h (by omega)⟩))), fun b hb => ?_, ?_⟩
          · rcases List.mem_cons.1 hb with rfl | hb
            · omega
            · have := (HBB.out b hb).1; omega
          · exact List.nodup_cons.2 ⟨fun h => by have := (HBB.out _ h).1; omega, HND.out⟩
end Go.Proofs.YtaafcmmmkalgjaaGreatDoor
