/-
  worth.wellFormed by a contract.
-/
import Derived.Test.YtaafcmmmkalgjaaGreatDoorTFit
import Derived.WalkMore
import Derived.Deep.RegionHeld3
import Derived.Deep.Cut
import Derived.BigQuiet
import Derived.Deep.LoopGhost
import Derived.Deep.CutRange
import Derived.Deep.CutBlock
import Derived.Laws.OwnMore
namespace Go.Proofs.YtaafcmmmkalgjaaGreatDoor
open Go.RowKit
theorem empty_of {x : ByteArray} (h : x.size = 0) : x = ⟨#[]⟩ := by
  obtain ⟨d⟩ := x
  have : d = #[] := Array.eq_empty_of_size_eq_zero h
  rw [this]
theorem toList_nil {x : ByteArray} : x.toList = [] ↔ x.size = 0 := by
  rw [ByteArray.toList_eq]
  constructor
  · intro h; have := congrArg List.length h; rw [Array.length_toList] at this; exact this
  · intro h; rw [empty_of h]
theorem toList_isEmpty (x : ByteArray) : x.toList.isEmpty = decide (x.size = 0) := by
  rw [Bool.eq_iff_iff, List.isEmpty_iff, toList_nil]; simp
set_option maxRecDepth 100000 in
set_option maxHeartbeats 4000000 in
theorem wellFormed_any (k n : Int) (x : ByteArray) (a : Option Addr) (l c : Nat) (w : World) :
    Calls Tryz.prog 139 #[.agg #[.int .i64 k, .int .i64 n, .string x, .slice a l c]] w fun e w' => e = .returned (.bool (decide (T.wfP k n x.size l))) ∧ Ext w w' := by
  by_cases x0 : x.size = 0
  · obtain rfl := empty_of x0
    by_cases l0 : l = 0
    · subst l0
      by_cases k1 : k = 1
      · subst k1
        go_enter Tryz.func139, Tryz.ntmps139
        go_wp2_with fail
        go_quiet (fail)
        go_wp2_with fail
        all_goals
          go_ret
          refine ⟨ret_bool ?_, (Ext.alloc _ _).drewN _⟩
          first | exact (decide_eq_true (by unfold T.wfP; omega)).symm | exact (decide_eq_false (by unfold T.wfP; omega)).symm
      by_cases k2 : k = 2
      · subst k2
        go_enter Tryz.func139, Tryz.ntmps139
        go_wp2_with fail
        go_quiet (fail)
        go_wp2_with fail
        all_goals
          go_ret
          refine ⟨ret_bool ?_, (Ext.alloc _ _).drewN _⟩
          first | exact (decide_eq_true (by unfold T.wfP; omega)).symm | exact (decide_eq_false (by unfold T.wfP; omega)).symm
      by_cases k3 : k = 3
      · subst k3
        go_enter Tryz.func139, Tryz.ntmps139
        go_wp2_with fail
        go_quiet (fail)
        go_wp2_with fail
        all_goals
          go_ret
          refine ⟨ret_bool ?_, (Ext.alloc _ _).drewN _⟩
          first | exact (decide_eq_true (by unfold T.wfP; omega)).symm | exact (decide_eq_false (by unfold T.wfP; omega)).symm
      by_cases k4 : k = 4
      · subst k4
        go_enter Tryz.func139, Tryz.ntmps139
        go_wp2_with fail
        go_quiet (fail)
        go_wp2_with fail
        all_goals
          go_ret
          refine ⟨ret_bool ?_, (Ext.alloc _ _).drewN _⟩
          first | exact (decide_eq_true (by unfold T.wfP; omega)).symm | exact (decide_eq_false (by unfold T.wfP; omega)).symm
      by_cases k5 : k = 5
      · subst k5
        go_enter Tryz.func139, Tryz.ntmps139
        go_wp2_with fail
        go_quiet (fail)
        go_wp2_with fail
        all_goals
          go_ret
          refine ⟨ret_bool ?_, (Ext.alloc _ _).drewN _⟩
          first | exact (decide_eq_true (by unfold T.wfP; omega)).symm | exact (decide_eq_false (by unfold T.wfP; omega)).symm
      go_enter Tryz.func139, Tryz.ntmps139
      go_wp2_with fail
      go_quiet (fail)
      go_wp2_with fail
      all_goals
        go_ret
        refine ⟨ret_bool ?_, (Ext.alloc _ _).drewN _⟩
        first | exact (decide_eq_true (by unfold T.wfP; omega)).symm | exact (decide_eq_false (by unfold T.wfP; omega)).symm
    · have l1 : ((l : Int) == 0) = false := by simpa using l0
      by_cases k1 : k = 1
      · subst k1
        go_enter Tryz.func139, Tryz.ntmps139
        go_wp2_with fail
        go_quiet (fail)
        go_wp2_with fail
        all_goals
          go_ret
          refine ⟨ret_bool ?_, (Ext.alloc _ _).drewN _⟩
          first | exact (decide_eq_true (by unfold T.wfP; omega)).symm | exact (decide_eq_false (by unfold T.wfP; omega)).symm
      by_cases k2 : k = 2
      · subst k2
        go_enter Tryz.func139, Tryz.ntmps139
        go_wp2_with fail
        go_quiet (fail)
        go_wp2_with fail
        all_goals
          go_ret
          refine ⟨ret_bool ?_, (Ext.alloc _ _).drewN _⟩
          first | exact (decide_eq_true (by unfold T.wfP; omega)).symm | exact (decide_eq_false (by unfold T.wfP; omega)).symm
      by_cases k3 : k = 3
      · subst k3
        go_enter Tryz.func139, Tryz.ntmps139
        go_wp2_with fail
        go_quiet (fail)
        go_wp2_with fail
        all_goals
          go_ret
          refine ⟨ret_bool ?_, (Ext.alloc _ _).drewN _⟩
          first | exact (decide_eq_true (by unfold T.wfP; omega)).symm | exact (decide_eq_false (by unfold T.wfP; omega)).symm
      by_cases k4 : k = 4
      · subst k4
        go_enter Tryz.func139, Tryz.ntmps139
        go_wp2_with fail
        go_quiet (fail)
        go_wp2_with fail
        all_goals
          go_ret
          refine ⟨ret_bool ?_, (Ext.alloc _ _).drewN _⟩
          first | exact (decide_eq_true (by unfold T.wfP; omega)).symm | exact (decide_eq_false (by unfold T.wfP; omega)).symm
      by_cases k5 : k = 5
      · subst k5
        go_enter Tryz.func139, Tryz.ntmps139
        go_wp2_with fail
        go_quiet (fail)
        go_wp2_with fail
        all_goals
          go_ret
          refine ⟨ret_bool ?_, (Ext.alloc _ _).drewN _⟩
          first | exact (decide_eq_true (by unfold T.wfP; omega)).symm | exact (decide_eq_false (by unfold T.wfP; omega)).symm
      go_enter Tryz.func139, Tryz.ntmps139
      go_wp2_with fail
      go_quiet (fail)
      go_wp2_with fail
      all_goals
        go_ret
        refine ⟨ret_bool ?_, (Ext.alloc _ _).drewN _⟩
        first | exact (decide_eq_true (by unfold T.wfP; omega)).symm | exact (decide_eq_false (by unfold T.wfP; omega)).symm
  · have x1 : ¬ x.toList = [] := fun h => x0 (toList_nil.1 h)
    have x2 : x.toList.isEmpty = false := by rw [toList_isEmpty]; simpa using x0
    by_cases l0 : l = 0
    · subst l0
      by_cases k1 : k = 1
      · subst k1
        go_enter Tryz.func139, Tryz.ntmps139
        go_wp2_with fail
        go_quiet (fail)
        go_wp2_with fail
        all_goals
          go_ret
          refine ⟨ret_bool ?_, (Ext.alloc _ _).drewN _⟩
          first | exact (decide_eq_true (by unfold T.wfP; omega)).symm | exact (decide_eq_false (by unfold T.wfP; omega)).symm
      by_cases k2 : k = 2
      · subst k2
        go_enter Tryz.func139, Tryz.ntmps139
        go_wp2_with fail
        go_quiet (fail)
        go_wp2_with fail
        all_goals
          go_ret
          refine ⟨ret_bool ?_, (Ext.alloc _ _).drewN _⟩
          first | exact (decide_eq_true (by unfold T.wfP; omega)).symm | exact (decide_eq_false (by unfold T.wfP; omega)).symm
      by_cases k3 : k = 3
      · subst k3
        go_enter Tryz.func139, Tryz.ntmps139
        go_wp2_with fail
        go_quiet (fail)
        go_wp2_with fail
        all_goals
          go_ret
          refine ⟨ret_bool ?_, (Ext.alloc _ _).drewN _⟩
          first | exact (decide_eq_true (by unfold T.wfP; omega)).symm | exact (decide_eq_false (by unfold T.wfP; omega)).symm
      by_cases k4 : k = 4
      · subst k4
        go_enter Tryz.func139, Tryz.ntmps139
        go_wp2_with fail
        go_quiet (fail)
        go_wp2_with fail
        all_goals
          go_ret
          refine ⟨ret_bool ?_, (Ext.alloc _ _).drewN _⟩
          first | exact (decide_eq_true (by unfold T.wfP; omega)).symm | exact (decide_eq_false (by unfold T.wfP; omega)).symm
      by_cases k5 : k = 5
      · subst k5
        go_enter Tryz.func139, Tryz.ntmps139
        go_wp2_with fail
        go_quiet (fail)
        go_wp2_with fail
        all_goals
          go_ret
          refine ⟨ret_bool ?_, (Ext.alloc _ _).drewN _⟩
          first | exact (decide_eq_true (by unfold T.wfP; omega)).symm | exact (decide_eq_false (by unfold T.wfP; omega)).symm
      go_enter Tryz.func139, Tryz.ntmps139
      go_wp2_with fail
      go_quiet (fail)
      go_wp2_with fail
      all_goals
        go_ret
        refine ⟨ret_bool ?_, (Ext.alloc _ _).drewN _⟩
        first | exact (decide_eq_true (by unfold T.wfP; omega)).symm | exact (decide_eq_false (by unfold T.wfP; omega)).symm
    · have l1 : ((l : Int) == 0) = false := by simpa using l0
      by_cases k1 : k = 1
      · subst k1
        go_enter Tryz.func139, Tryz.ntmps139
        go_wp2_with fail
        go_quiet (fail)
        go_wp2_with fail
        all_goals
          go_ret
          refine ⟨ret_bool ?_, (Ext.alloc _ _).drewN _⟩
          first | exact (decide_eq_true (by unfold T.wfP; omega)).symm | exact (decide_eq_false (by unfold T.wfP; omega)).symm
      by_cases k2 : k = 2
      · subst k2
        go_enter Tryz.func139, Tryz.ntmps139
        go_wp2_with fail
        go_quiet (fail)
        go_wp2_with fail
        all_goals
          go_ret
          refine ⟨ret_bool ?_, (Ext.alloc _ _).drewN _⟩
          first | exact (decide_eq_true (by unfold T.wfP; omega)).symm | exact (decide_eq_false (by unfold T.wfP; omega)).symm
      by_cases k3 : k = 3
      · subst k3
        go_enter Tryz.func139, Tryz.ntmps139
        go_wp2_with fail
        go_quiet (fail)
        go_wp2_with fail
        all_goals
          go_ret
          refine ⟨ret_bool ?_, (Ext.alloc _ _).drewN _⟩
          first | exact (decide_eq_true (by unfold T.wfP; omega)).symm | exact (decide_eq_false (by unfold T.wfP; omega)).symm
      by_cases k4 : k = 4
      · subst k4
        go_enter Tryz.func139, Tryz.ntmps139
        go_wp2_with fail
        go_quiet (fail)
        go_wp2_with fail
        all_goals
          go_ret
          refine ⟨ret_bool ?_, (Ext.alloc _ _).drewN _⟩
          first | exact (decide_eq_true (by unfold T.wfP; omega)).symm | exact (decide_eq_false (by unfold T.wfP; omega)).symm
      by_cases k5 : k = 5
      · subst k5
        go_enter Tryz.func139, Tryz.ntmps139
        go_wp2_with fail
        go_quiet (fail)
        go_wp2_with fail
        all_goals
          go_ret
          refine ⟨ret_bool ?_, (Ext.alloc _ _).drewN _⟩
          first | exact (decide_eq_true (by unfold T.wfP; omega)).symm | exact (decide_eq_false (by unfold T.wfP; omega)).symm
      go_enter Tryz.func139, Tryz.ntmps139
      go_wp2_with fail
      go_quiet (fail)
      go_wp2_with fail
      all_goals
        go_ret
        refine ⟨ret_bool ?_, (Ext.alloc _ _).drewN _⟩
        first | exact (decide_eq_true (by unfold T.wfP; omega)).symm | exact (decide_eq_false (by unfold T.wfP; omega)).symm
end Go.Proofs.YtaafcmmmkalgjaaGreatDoor
/-
  worth.value by a contract: a value in memory of its own.
-/
namespace Go.Proofs.YtaafcmmmkalgjaaGreatDoor
open Go.RowKit
theorem valueInfo : (Tryz.prog.info? 35).map (fun i => (i.zero, i.size, i.bytes)) = some (some .nilIface, 1, 16) := by kernel_rfl
theorem set_get {cs : Array Value} {i : Nat} (v : Value) (h : i < cs.size) : (cs.setIfInBounds i v)[i]? = some v := by simp [h]
theorem set_get_other {cs : Array Value} {i j : Nat} (v : Value) (h : j ≠ i) : (cs.setIfInBounds i v)[j]? = cs[j]? := by rw [Array.getElem?_setIfInBounds, if_neg (fun e => h e.symm)]
/-- What value answers. -/
def ValR (w : World) (d : Nat) (t : T) (e : Ending) (w' : World) : Prop := ∃ u bs, e = .returned u ∧ Ext w w' ∧ VOwn w' d u t bs ∧ (∀ b ∈ bs, w.heap.size ≤ b) ∧ bs.Nodup
set_option maxRecDepth 100000 in
set_option maxHeartbeats 2000000 in
theorem value_any : ∀ (d : Nat) (v : Value) (t : T) (K : Nat → Prop) (w : World), Rd K w d v t → t.good →
    Calls Tryz.prog 82 #[v] w (ValR w d t) := by
  intro d
  induction d with
  | zero => intro v t K w h; exact h.elim
  | succ d ih =>
    intro v t K w hr hg
    obtain ⟨k, n, x, ks⟩ := t
    obtain ⟨a, c, rfl, hx, hl, hks⟩ := hr
    obtain ⟨hw, hgs⟩ := hg
    rcases hw with ⟨rfl, rfl, x0, l0⟩ | ⟨rfl, hn, x0, l0⟩ | ⟨rfl, x0, l0⟩ | ⟨rfl, rfl, l0⟩ | ⟨rfl, rfl, x0⟩
    · obtain rfl := empty_of x0
      obtain rfl := List.eq_nil_of_length_eq_zero l0
      clear ih hks hgs x0 l0
      go_enter Tryz.func82, Tryz.ntmps82
      go_wp2_with fail
      go_ret
      exact ⟨_, [], rfl, Ext.alloc _ _, .inl ⟨rfl, rfl, rfl, rfl, rfl, rfl⟩, fun b h => (by cases h), List.nodup_nil⟩
    · obtain rfl := empty_of x0
      obtain rfl := List.eq_nil_of_length_eq_zero l0
      clear ih hks hgs x0 l0
      go_enter Tryz.func82, Tryz.ntmps82
      go_wp2_with fail
      go_ret
      refine ⟨_, [], rfl, Ext.alloc _ _, .inr (.inl ⟨rfl, rfl, rfl, rfl, _, ?_, rfl⟩), fun b h => (by cases h), List.nodup_nil⟩
      rcases hn with rfl | rfl <;> rfl
    · obtain rfl := empty_of x0
      obtain rfl := List.eq_nil_of_length_eq_zero l0
      clear ih hks hgs x0 l0
      go_enter Tryz.func82, Tryz.ntmps82
      go_wp2_with fail
      go_ret
      exact ⟨_, [], rfl, Ext.alloc _ _, .inr (.inr (.inl ⟨rfl, rfl, rfl, rfl, rfl⟩)), fun b h => (by cases h), List.nodup_nil⟩
    · obtain rfl := List.eq_nil_of_length_eq_zero l0
      clear ih hks hgs l0
      go_enter Tryz.func82, Tryz.ntmps82
      go_wp2_with fail
      go_ret
      exact ⟨_, [], rfl, Ext.alloc _ _, .inr (.inr (.inr (.inl ⟨rfl, rfl, rfl, rfl, hx, rfl⟩))), fun b h => (by cases h), List.nodup_nil⟩
    · obtain rfl := empty_of x0
      have HL := hid hl
      have HKS := hid hks
      have HIH := hid ih
      have HGS := hid hgs
      have hl1 : (ks.length : Int) ≤ 140737488355328 := by omega
      have hl2 : ks.length * 16 ≤ 140737488355328 := by omega
      clear hks ih hgs hx x0 hl
      obtain ⟨ti, hi, hz0, hz1, hz2⟩ := info_parts valueInfo
      obtain ⟨cz, hcz, hmk⟩ : ∃ cz : Array Value, cz.size = ks.length ∧ ∀ w, (Instr.makeSlice 81 (.int .i64 (ks.length : Int)) (.int .i64 (ks.length : Int))).run Tryz.prog w = .ok (.slice (some ⟨w.heap.size, 0, none⟩) ks.length ks.length) (w.alloc (.cells cz 35)) := by
        refine ⟨madeCells (Value.nilIface).cells (ks.length * 1), by rw [size_madeCells]; omega, fun w => ?_⟩
        have := run_make (P := Tryz.prog) w 81 35 ti _ Tryz.underlying81 hi hz0 .i64 .i64 ks.length ks.length (by omega) (Int.le_refl _) (by rw [hz2]; omega) (by omega)
        rw [hz1] at this
        simpa using this
      have HCZ := hid hcz
      clear hcz
      go_enter Tryz.func82, Tryz.ntmps82
      go_wp2_with fail
      have HMK := hid hmk
      clear hmk
      go_loopw [33] (fun i wr => ∃ (j : Nat) (cs : Array Value) (bss : List (List Nat)), j ≤ ks.length ∧ i = .int .i64 j ∧ Ext w wr ∧ wr.heap[w.heap.size + 1]? = some (.cells cs 35) ∧ cs.size = ks.length ∧ bss.length = j ∧
          (∀ i, (h : i < ks.length) → i < j → ∃ u b, cs[i]? = some u ∧ bss[i]? = some b ∧ VOwn wr d u ks[i] b) ∧
          (∀ b ∈ bss.flatten, w.heap.size + 1 < b ∧ b < wr.heap.size) ∧ bss.flatten.Nodup) (fun i _ => ks.length - (intOf i).toNat)
      case atStart => exact ⟨0, cz, [], Nat.zero_le _, rfl, Ext.alloc2 _ _ _, blk1 _ _ _, HCZ.out, rfl, fun i _ h => absurd h (Nat.not_lt_zero _), fun b h => (by cases h), List.nodup_nil⟩
      case round =>
        obtain ⟨j, cs, bss, hj, rfl, hx, hb3, hcs, hbl, hall, hbb, hnd⟩ := hrel
        have HX := hid hx
        have HB3 := hid hb3
        have HCS := hid hcs
        have HBL := hid hbl
        have HALL := hid hall
        have HBB := hid hbb
        have HND := hid hnd
        clear hx hb3 hcs hbl hall hbb hnd
        by_cases hlt : j < ks.length
        · have hlt' : (j : Int) < ks.length := by omega
          rcases HKS.out with e0 | ⟨g, off, rfl, hg, hcells⟩
          · rw [e0] at hlt; exact absurd hlt (Nat.not_lt_zero _)
          obtain ⟨u0, u1, u2, u3, h4, hrd⟩ := hcells j hlt
          obtain ⟨k', n', x', a', c', rfl, rfl, rfl, rfl⟩ := hrd.shape
          have HR := hid (fun o => hrd.later (HX.out.trans (Ext.alloc wr o)))
          obtain ⟨m0, m1, m2, m3⟩ := h4.keep (HX.out.kp K) hg
          have hgl := lt_of_cell m0
          clear hrd hcells hg h4
          generalize hkl : ks[j].kids.length = kl at m3 HR
          go_wp2_with fail
          refine (HIH.out _ ks[j] K _ (HR.out _) (T.goodL_mem HGS.out (List.getElem_mem hlt))).mono ?_
          rintro e w2 ⟨v', bs, rfl, hy, hown, hge, hnd⟩
          obtain ⟨τ, p, rfl⟩ := hown.rd.iface
          have HY := hid ((Ext.alloc wr _).trans hy)
          have HOWN := hid hown
          have HGE := hid hge
          have HN2 := hid hnd
          have hbg := HY.out.block HB3.out
          have HBG := hid hbg
          have hsz : j < cs.size := by rw [HCS.out]; omega
          have d0 := cell_of (i := j) hbg (Array.getElem?_eq_getElem (by omega))
          have f0 := frozen_of (i := j) hbg
          clear hy hown hge hnd hbg m0 m1 m2 m3 hgl
          go_wp2_with fail
          go_roundw
          case rel =>
            have hk4 := (HY.out.kp (· ≠ w.heap.size + 1)).trans (Kp.set w2 (w.heap.size + 1) j (.iface τ p) (fun h => h rfl))
            have hb4 := set_at HBG.out j (.iface τ p)
            have hk5 : Kp (· ≠ w.heap.size + 1) w2 _ := Kp.set w2 (w.heap.size + 1) j (.iface τ p) (fun h => h rfl)
            have hsz2 : w2.heap.size = (w2.setCell ⟨w.heap.size + 1, j, none⟩ (.iface τ p)).heap.size := by simp
            generalize hW : w2.setCell ⟨w.heap.size + 1, j, none⟩ (.iface τ p) = W at hk4 hb4 hk5 hsz2 ⊢
            have hsW : wr.heap.size ≤ W.heap.size := hk4.size
            have hbsz : w.heap.size + 1 < wr.heap.size := lt_of_block HB3.out
            have hgw : ∀ b ∈ bs, w.heap.size + 1 < b ∧ b < W.heap.size := fun b hb => ⟨by have := HGE.out b hb; simp at this; omega, by rw [← hsz2]; exact HOWN.out.lt b hb⟩
            refine ⟨j + 1, cs.setIfInBounds j (.iface τ p), bss ++ [bs], hlt, by go_num, ?_, hb4, by rw [Array.size_setIfInBounds]; exact HCS.out, by rw [List.length_append, HBL.out]; rfl, fun i h hi => ?_, fun b hb => ?_, ?_⟩
            · exact Kp.extOf HX.out hk4 (by omega)
            · by_cases e : i < j
              · obtain ⟨u, b, c0, hb, ho⟩ := HALL.out i h e
                refine ⟨u, b, by rw [set_get_other _ (by omega)]; exact c0, ?_, ?_⟩
                · rw [List.getElem?_append_left (by rw [HBL.out]; exact e)]; exact hb
                · exact ho.keep (hk4.mono (fun q _ hq e => by have := (HBB.out q (List.mem_flatten.2 ⟨b, List.mem_of_getElem? hb, hq⟩)).1; omega))
              · obtain rfl : i = j := by omega
                refine ⟨_, bs, set_get _ hsz, ?_, HOWN.out.keep (hk5.mono (fun q _ hq e => by have := (hgw q hq).1; omega))⟩
                rw [List.getElem?_append_right (by rw [HBL.out]; exact Nat.le_refl _), HBL.out]
                simp
            · rw [List.flatten_append, List.mem_append] at hb
              rcases hb with hb | hb
              · exact ⟨(HBB.out b hb).1, Nat.lt_of_lt_of_le (HBB.out b hb).2 hsW⟩
              · exact hgw b (by simpa using hb)
            · rw [List.flatten_append, List.nodup_append]
              refine ⟨HND.out, by simpa using HN2.out, fun p hp q hq e => ?_⟩
              have h1 := (HBB.out p hp).2
              have h2 := HGE.out q (by simpa using hq)
              simp at h2
              omega
          case measure => simp [intOf]; omega
        · have hje : j = ks.length := by omega
          go_wp2_with fail
          go_ret
          refine ⟨_, (w.heap.size + 1) :: bss.flatten, rfl, HX.out, .inr (.inr (.inr (.inr ⟨rfl, rfl, rfl, by have := HL.out; omega, w.heap.size + 1, ks.length, cs, bss, rfl, Nat.le_refl _, HB3.out, HCS.out, rfl, by rw [HBL.out, hje], fun i h => HALL.out i h (by omega)⟩))), fun b hb => ?_, ?_⟩
          · rcases List.mem_cons.1 hb with rfl | hb
            · omega
            · have := (HBB.out b hb).1; omega
          · exact List.nodup_cons.2 ⟨fun h => by have := (HBB.out _ h).1; omega, HND.out⟩
end Go.Proofs.YtaafcmmmkalgjaaGreatDoor
/-
  Assertions on values; rank, number, and the comparisons of numbers and texts, each by a contract.
-/
namespace Go.Proofs.YtaafcmmmkalgjaaGreatDoor
open Go.RowKit
theorem as_un_un (v : Value) (w : World) : (Instr.typeAssert (.iface 172 v) 35 172 true).run Tryz.prog w = .ok (.tuple #[v, .bool true]) w := by kernel_rfl
theorem as_un_tu (v : Value) (w : World) : (Instr.typeAssert (.iface 172 v) 35 173 true).run Tryz.prog w = .ok (.tuple #[(.bool false), .bool false]) w := by kernel_rfl
theorem as_un_in (v : Value) (w : World) : (Instr.typeAssert (.iface 172 v) 35 83 true).run Tryz.prog w = .ok (.tuple #[(.int .i64 0), .bool false]) w := by kernel_rfl
theorem as_un_tx (v : Value) (w : World) : (Instr.typeAssert (.iface 172 v) 35 174 true).run Tryz.prog w = .ok (.tuple #[(.string ByteArray.empty), .bool false]) w := by kernel_rfl
theorem as_un_li (v : Value) (w : World) : (Instr.typeAssert (.iface 172 v) 35 81 true).run Tryz.prog w = .ok (.tuple #[(.slice none 0 0), .bool false]) w := by kernel_rfl
theorem as_tu_un (v : Value) (w : World) : (Instr.typeAssert (.iface 173 v) 35 172 true).run Tryz.prog w = .ok (.tuple #[(.agg #[]), .bool false]) w := by kernel_rfl
theorem as_tu_tu (v : Value) (w : World) : (Instr.typeAssert (.iface 173 v) 35 173 true).run Tryz.prog w = .ok (.tuple #[v, .bool true]) w := by kernel_rfl
theorem as_tu_in (v : Value) (w : World) : (Instr.typeAssert (.iface 173 v) 35 83 true).run Tryz.prog w = .ok (.tuple #[(.int .i64 0), .bool false]) w := by kernel_rfl
theorem as_tu_tx (v : Value) (w : World) : (Instr.typeAssert (.iface 173 v) 35 174 true).run Tryz.prog w = .ok (.tuple #[(.string ByteArray.empty), .bool false]) w := by kernel_rfl
theorem as_tu_li (v : Value) (w : World) : (Instr.typeAssert (.iface 173 v) 35 81 true).run Tryz.prog w = .ok (.tuple #[(.slice none 0 0), .bool false]) w := by kernel_rfl
theorem as_in_un (v : Value) (w : World) : (Instr.typeAssert (.iface 83 v) 35 172 true).run Tryz.prog w = .ok (.tuple #[(.agg #[]), .bool false]) w := by kernel_rfl
theorem as_in_tu (v : Value) (w : World) : (Instr.typeAssert (.iface 83 v) 35 173 true).run Tryz.prog w = .ok (.tuple #[(.bool false), .bool false]) w := by kernel_rfl
theorem as_in_in (v : Value) (w : World) : (Instr.typeAssert (.iface 83 v) 35 83 true).run Tryz.prog w = .ok (.tuple #[v, .bool true]) w := by kernel_rfl
theorem as_in_tx (v : Value) (w : World) : (Instr.typeAssert (.iface 83 v) 35 174 true).run Tryz.prog w = .ok (.tuple #[(.string ByteArray.empty), .bool false]) w := by kernel_rfl
theorem as_in_li (v : Value) (w : World) : (Instr.typeAssert (.iface 83 v) 35 81 true).run Tryz.prog w = .ok (.tuple #[(.slice none 0 0), .bool false]) w := by kernel_rfl
theorem as_tx_un (v : Value) (w : World) : (Instr.typeAssert (.iface 174 v) 35 172 true).run Tryz.prog w = .ok (.tuple #[(.agg #[]), .bool false]) w := by kernel_rfl
theorem as_tx_tu (v : Value) (w : World) : (Instr.typeAssert (.iface 174 v) 35 173 true).run Tryz.prog w = .ok (.tuple #[(.bool false), .bool false]) w := by kernel_rfl
theorem as_tx_in (v : Value) (w : World) : (Instr.typeAssert (.iface 174 v) 35 83 true).run Tryz.prog w = .ok (.tuple #[(.int .i64 0), .bool false]) w := by kernel_rfl
theorem as_tx_tx (v : Value) (w : World) : (Instr.typeAssert (.iface 174 v) 35 174 true).run Tryz.prog w = .ok (.tuple #[v, .bool true]) w := by kernel_rfl
theorem as_tx_li (v : Value) (w : World) : (Instr.typeAssert (.iface 174 v) 35 81 true).run Tryz.prog w = .ok (.tuple #[(.slice none 0 0), .bool false]) w := by kernel_rfl
theorem as_li_un (v : Value) (w : World) : (Instr.typeAssert (.iface 81 v) 35 172 true).run Tryz.prog w = .ok (.tuple #[(.agg #[]), .bool false]) w := by kernel_rfl
theorem as_li_tu (v : Value) (w : World) : (Instr.typeAssert (.iface 81 v) 35 173 true).run Tryz.prog w = .ok (.tuple #[(.bool false), .bool false]) w := by kernel_rfl
theorem as_li_in (v : Value) (w : World) : (Instr.typeAssert (.iface 81 v) 35 83 true).run Tryz.prog w = .ok (.tuple #[(.int .i64 0), .bool false]) w := by kernel_rfl
theorem as_li_tx (v : Value) (w : World) : (Instr.typeAssert (.iface 81 v) 35 174 true).run Tryz.prog w = .ok (.tuple #[(.string ByteArray.empty), .bool false]) w := by kernel_rfl
theorem as_li_li (v : Value) (w : World) : (Instr.typeAssert (.iface 81 v) 35 81 true).run Tryz.prog w = .ok (.tuple #[v, .bool true]) w := by kernel_rfl
theorem to_un (v : Value) (w : World) : (Instr.typeAssert (.iface 172 v) 35 172 false).run Tryz.prog w = .ok v w := by kernel_rfl
theorem to_tu (v : Value) (w : World) : (Instr.typeAssert (.iface 173 v) 35 173 false).run Tryz.prog w = .ok v w := by kernel_rfl
theorem to_in (v : Value) (w : World) : (Instr.typeAssert (.iface 83 v) 35 83 false).run Tryz.prog w = .ok v w := by kernel_rfl
theorem to_tx (v : Value) (w : World) : (Instr.typeAssert (.iface 174 v) 35 174 false).run Tryz.prog w = .ok v w := by kernel_rfl
theorem to_li (v : Value) (w : World) : (Instr.typeAssert (.iface 81 v) 35 81 false).run Tryz.prog w = .ok v w := by kernel_rfl
attribute [local go_sem] as_un_un as_un_tu as_un_in as_un_tx as_un_li as_tu_un as_tu_tu as_tu_in as_tu_tx as_tu_li as_in_un as_in_tu as_in_in as_in_tx as_in_li as_tx_un as_tx_tu as_tx_in as_tx_tx as_tx_li as_li_un as_li_tu as_li_in as_li_tx as_li_li to_un to_tu to_in to_tx to_li
theorem less_cmp : ∀ a b : List UInt8, Op.bytesLess a b = decide (Lib.compareBytes a b = -1)
  | [], [] => by simp [Op.bytesLess, Lib.compareBytes]
  | _ :: _, [] => by simp [Op.bytesLess, Lib.compareBytes]
  | [], _ :: _ => by simp [Op.bytesLess, Lib.compareBytes]
  | a :: x, b :: y => by
    have ih := less_cmp x y
    simp only [Op.bytesLess, Lib.compareBytes]
    by_cases h1 : a < b
    · simp [h1]
    · by_cases h2 : b < a
      · have h3 : ¬ a = b := fun e => by subst e; exact h1 h2
        simp [h1, h2, h3]
      · have h3 : a = b := by
          rw [UInt8.lt_iff_toNat_lt] at h1 h2
          exact UInt8.toNat_inj.1 (by omega)
        subst h3
        simp [h1, ih]
end Go.Proofs.YtaafcmmmkalgjaaGreatDoor
/-
  (*scale).holds and May, each by a contract.
-/
namespace Go.Proofs.YtaafcmmmkalgjaaGreatDoor
open Go.RowKit
theorem T.wf_leaf {k n : Int} {s l : Nat} (h : T.wfP k n s l) (hk : ¬ k = 5) : l = 0 := by unfold T.wfP at h; omega
theorem T.wf_list {n : Int} {s l : Nat} (h : T.wfP 5 n s l) : n = 0 ∧ s = 0 := by unfold T.wfP at h; omega
set_option maxRecDepth 100000 in
set_option maxHeartbeats 2000000 in
theorem holds_any : ∀ (d : Nat) (v : Value) (t : T) (K : Nat → Prop) (w : World) (b left nest : Nat), Rd K w d v t → ¬ K b → w.heap[b]? = some (.cells #[.int .i64 left] 207) →
    left ≤ 65536 → nest ≤ 64 →
    Calls Tryz.prog 100 #[.pointer (some ⟨b, 0, none⟩), v, .int .i64 nest] w fun e w' => Kp (· ≠ b) w w' ∧
      ((T.ok left nest t ∧ e = .returned (.bool true) ∧ w'.heap[b]? = some (.cells #[.int .i64 (left - t.size : Nat)] 207)) ∨
       (¬ T.ok left nest t ∧ e = .returned (.bool false) ∧ ∃ x, w'.heap[b]? = some (.cells #[.int .i64 x] 207))) := by
  intro d
  induction d with
  | zero => intro v t K w b left nest h; exact h.elim
  | succ d ih =>
    intro v t K w b left nest hr hb hm hL hN
    obtain ⟨k, n, x, ks⟩ := t
    obtain ⟨a, c, rfl, hx, hl, hks⟩ := hr
    have HB := hid hb
    have HKS := hid hks
    have HIH := hid ih
    have HM := hid hm
    clear hb hks ih hm
    have hlt : b < w.heap.size := lt_of_block HM.out
    have hl' : (ks.length : Int) ≤ 140737488355328 := by omega
    have hx' : (x.size : Int) ≤ 140737488355328 := by omega
    by_cases hw : T.wfP k n x.size ks.length
    · have HW := hid hw
      have WC := hid (fun w1 => wellFormed_any k n x a ks.length c w1)
      rw [decide_eq_true hw] at WC
      clear hw
      go_enter Tryz.func100, Tryz.ntmps100
      go_wp2_with fail
      refine (WC.out _).mono ?_
      rintro e w1 ⟨rfl, hx1⟩
      have HX1 := hid ((Ext.alloc w _).trans hx1)
      have HBX := hid (hx1.block (blk0 w _))
      have HB1 := hid (HX1.out.block HM.out)
      clear hx1
      have c0 : w1.cell? ⟨b, 0, none⟩ = some (.int .i64 left) := cell_of HB1.out rfl
      have f0 := frozen_of (i := 0) HB1.out
      have e2 := cell_of (i := 2) HBX.out rfl
      simp only [List.getElem_toArray, List.getElem_cons_zero, List.getElem_cons_succ] at e2
      go_upto_region 3 with fail
      go_cut [] from 12 (fun wx => Kp (· ≠ b) w wx ∧ wx.heap[b]? = some (.cells #[.int .i64 ((left : Int) - (1 + x.size))] 207) ∧ wx.heap[w.heap.size]? = some (.cells #[.int .i64 k, .int .i64 n, .string x, .slice a ks.length c] 30))
      case first =>
        go_region
        all_goals
          go_wp2_with fail
          go_meet
          case rel =>
            refine ⟨Kp.drew ((HX1.out.kp (· ≠ b)).trans (Kp.set _ _ _ _ (fun h => h rfl))), set_at HB1.out 0 _, ?_⟩
            exact set_other HBX.out (by omega) _
      case rest =>
        obtain ⟨hkp, hbm, hbt⟩ := hcut
        have HKP := hid hkp
        have HBM := hid hbm
        have HBT := hid hbt
        clear c0 f0 e2 hkp
        have c0 := cell_of (i := 0) hbm rfl
        have e0 := cell_of (i := 0) hbt rfl
        have e3 := cell_of (i := 3) hbt rfl
        simp only [List.getElem_toArray, List.getElem_cons_zero, List.getElem_cons_succ] at c0 e0 e3
        clear hbm hbt
        by_cases k5 : k = 5
        · subst k5
          obtain ⟨rfl, x0⟩ := T.wf_list HW.out
          have hL1 : (left : Int) - (1 + (x.size : Int)) = (left : Int) - 1 := by omega
          rw [hL1] at c0 HBM
          clear hL1
          have HX0 := hid x0
          clear x0
          by_cases g1 : nest = 0
          · subst g1
            have NOK := hid (show ¬ T.ok left 0 (.node 5 0 x ks) from fun h => by have := h.2.2; simp only [T.deep, if_pos] at this; omega)
            go_wp2_with fail
            go_quiet (fail)
            go_wp2_with fail
            go_ret
            exact ⟨HKP.out.drewN _, .inr ⟨NOK.out, rfl, _, HBM.out⟩⟩
          have q1 : ((nest : Int) == 0) = false := by simpa using g1
          by_cases g2 : left < 1 + ks.length
          · have q2 : decide ((left : Int) - 1 < (ks.length : Int)) = true := decide_eq_true (by omega)
            have NOK := hid (show ¬ T.ok left nest (.node 5 0 x ks) from fun h => by have := h.2.1; have := T.sizeL_len ks; simp only [T.size] at *; omega)
            go_wp2_with fail
            go_quiet (fail)
            go_wp2_with fail
            go_ret
            exact ⟨HKP.out.drewN _, .inr ⟨NOK.out, rfl, _, HBM.out⟩⟩
          have q2 : decide ((left : Int) - 1 < (ks.length : Int)) = false := decide_eq_false (by omega)
          go_wp2_with fail
          go_quiet (fail)
          go_wp2_with fail
          clear c0 e0 e3 q2
          go_loopw [46] (fun i wr => ∃ j : Nat, j ≤ ks.length ∧ i = .int .i64 j ∧ Kp (· ≠ b) w wr ∧ (T.goodL (ks.take j) ∧ 1 + T.sizeL (ks.take j) ≤ left ∧ 1 + T.deepL (ks.take j) ≤ nest) ∧
              wr.heap[b]? = some (.cells #[.int .i64 (left - 1 - T.sizeL (ks.take j) : Nat)] 207)) (fun i _ => ks.length - (intOf i).toNat)
          case atStart => exact ⟨0, Nat.zero_le _, rfl, HKP.out.drewN _, ⟨by simp [T.goodL], by simp [T.sizeL]; omega, by simp [T.deepL]; omega⟩, by rw [show ((left - 1 - T.sizeL (ks.take 0) : Nat) : Int) = (left : Int) - 1 by simp only [List.take_zero, T.sizeL]; omega]; exact HBM.out⟩
          case round =>
            obtain ⟨j, hj, rfl, hkp, hle, hbm⟩ := hrel
            have HK2 := hid hkp
            have HLE := hid hle
            have HB2 := hid hbm
            clear hkp hle hbm
            by_cases hlt2 : j < ks.length
            · have hlt' : (j : Int) < ks.length := by omega
              rcases HKS.out with h0 | ⟨g, off, rfl, hg, hcells⟩
              · rw [h0] at hlt2; exact absurd hlt2 (Nat.not_lt_zero _)
              obtain ⟨u0, u1, u2, u3, h4, hrd⟩ := hcells j hlt2
              obtain ⟨k', n', x', a', c', rfl, rfl, rfl, rfl⟩ := hrd.shape
              have HR := hid hrd
              have HG := hid hg
              clear hrd hcells hg
              generalize hkl : ks[j].kids.length = kl at h4 HR
              have hne : g ≠ b := fun e => HB.out (e ▸ HG.out)
              obtain ⟨m0, m1, m2, m3⟩ := h4.keep HK2.out hne
              clear h4
              have hsub : (nest : Int) - 1 = ((nest - 1 : Nat) : Int) := by omega
              go_wp2_with fail
              have hKK : Kp K w wr := HK2.out.mono (fun k _ hk e => HB.out (e ▸ hk))
              refine (HIH.out _ ks[j] K _ b (left - 1 - T.sizeL (ks.take j)) (nest - 1) (HR.out.keep (hKK.alloc _)) HB.out (blkOld _ HB2.out) (by omega) (by omega)).mono ?_
              rintro e w2 ⟨hk2, hcase⟩
              have HK3 := hid (show Kp (· ≠ b) w w2 from (HK2.out.alloc _).trans hk2)
              have s1 := T.sizeL_take ks j hlt2
              have s2 := T.deepL_take ks j hlt2
              have s3 := T.goodL_take ks j hlt2
              have s4 := T.sizeL_split ks (j + 1)
              have s5 := T.deepL_split ks (j + 1)
              have s6 := T.goodL_split ks (j + 1)
              have HS := hid (And.intro s1 (And.intro s2 (And.intro s3 (And.intro s4 (And.intro s5 s6)))))
              clear s1 s2 s3 s4 s5 s6 hk2 m0 m1 m2 m3
              rcases hcase with ⟨hok, rfl, hb3⟩ | ⟨hno, rfl, hb3⟩
              · have HOK := hid hok
                have HB3 := hid hb3
                clear hok hb3
                go_wp2_with fail
                go_roundw
                case rel =>
                  obtain ⟨s1, s2, s3, s4, s5, s6⟩ := HS.out
                  obtain ⟨o1, o2, o3⟩ := HOK.out
                  obtain ⟨p1, p2, p3⟩ := HLE.out
                  refine ⟨j + 1, hlt2, by go_num, HK3.out, ⟨s3.2 ⟨p1, o1⟩, by omega, by omega⟩, ?_⟩
                  rw [HB3.out, show left - 1 - T.sizeL (ks.take (j + 1)) = left - 1 - T.sizeL (ks.take j) - ks[j].size by omega]
                case measure => simp [intOf]; omega
              · have HNO := hid hno
                have HB3 := hid hb3
                clear hno hb3
                go_wp2_with fail
                go_ret
                refine ⟨HK3.out, .inr ⟨fun h => HNO.out ?_, rfl, HB3.out⟩⟩
                obtain ⟨s1, s2, s3, s4, s5, s6⟩ := HS.out
                obtain ⟨⟨_, o1⟩, o2, o3⟩ := h
                have o4 := (s3.1 (s6.1 o1).1).2
                simp only [T.size, T.deep, if_pos] at o2 o3
                exact ⟨o4, by omega, by omega⟩
            · have hje : j = ks.length := by omega
              have htk : ks.take j = ks := by rw [hje, List.take_length]
              have HT := hid htk
              clear htk
              go_wp2_with fail
              go_ret
              obtain ⟨p1, p2, p3⟩ := HLE.out
              have hb4 := HB2.out
              rw [HT.out] at p1 p2 p3 hb4
              refine ⟨HK2.out, .inl ⟨⟨⟨HW.out, p1⟩, by simp only [T.size]; have := HX0.out; omega, by simp only [T.deep, if_pos]; omega⟩, rfl, ?_⟩⟩
              rw [hb4]
              simp only [T.size]
              rw [show left - (1 + x.size + T.sizeL ks) = left - 1 - T.sizeL ks by have := HX0.out; omega]
        · have HLF := hid (T.wf_leaf HW.out k5)
          have HK5 := hid k5
          have hgd : T.good (.node k n x ks) := ⟨HW.out, by rw [List.eq_nil_of_length_eq_zero HLF.out]; trivial⟩
          have hsz : T.size (.node k n x ks) = 1 + x.size := by simp only [T.size]; rw [List.eq_nil_of_length_eq_zero HLF.out]; rfl
          have hdp : T.deep (.node k n x ks) = 0 := by simp only [T.deep, if_neg HK5.out]
          have HOK := hid (show T.ok left nest (.node k n x ks) ↔ 1 + x.size ≤ left from ⟨fun h => by have := h.2.1; omega, fun h => ⟨hgd, by omega, by omega⟩⟩)
          have HSZ := hid hsz
          clear hgd hsz hdp
          go_wp2_with fail
          go_ret
          by_cases g1 : 1 + x.size ≤ left
          · refine ⟨HKP.out, .inl ⟨HOK.out.2 g1, ret_bool (decide_eq_true (by omega)), ?_⟩⟩
            rw [HBM.out, HSZ.out, show (left : Int) - (1 + (x.size : Int)) = ((left - (1 + x.size) : Nat) : Int) by omega]
          · exact ⟨HKP.out, .inr ⟨fun h => g1 (HOK.out.1 h), ret_bool (decide_eq_false (by omega)), _, HBM.out⟩⟩
    · have NOK := hid (show ¬ T.ok left nest (.node k n x ks) from fun h => hw h.1.1)
      have WC := hid (fun w1 => wellFormed_any k n x a ks.length c w1)
      rw [decide_eq_false hw] at WC
      clear hw
      go_enter Tryz.func100, Tryz.ntmps100
      go_wp2_with fail
      refine (WC.out _).mono ?_
      rintro e w1 ⟨rfl, hx1⟩
      have HX1 := hid ((Ext.alloc w _).trans hx1)
      have HB1 := hid (HX1.out.block HM.out)
      clear hx1
      go_wp2_with fail
      go_ret
      exact ⟨HX1.out.kp _, .inr ⟨NOK.out, rfl, _, HB1.out⟩⟩
set_option maxRecDepth 100000 in
theorem may_any {K : Nat → Prop} {d : Nat} {v : Value} {t : T} (w : World) (hr : Rd K w d v t) :
    Calls Tryz.prog 81 #[v] w fun e w' => e = .returned (.bool (decide t.may)) ∧ Ext w w' := by
  obtain ⟨u0, u1, u2, u3, rfl⟩ := hr.agg
  obtain ⟨k, n, x, a, c, rfl, rfl, rfl, rfl⟩ := hr.shape
  have HR := hid hr.low
  clear hr
  go_enter Tryz.func81, Tryz.ntmps81
  go_wp2_with fail
  refine (holds_any d _ t (· < w.heap.size) _ (w.heap.size + 1) 65536 64 (HR.out.later (Ext.alloc2 _ _ _)) (by omega) (blk1 _ _ _) (by omega) (by omega)).mono ?_
  rintro e w2 ⟨hk, hcase⟩
  have HX := hid (hk.extOf (Ext.alloc2 w _ _) (Nat.le_succ _))
  clear hk
  rcases hcase with ⟨hok, rfl, _⟩ | ⟨hno, rfl, _⟩
  · have HS := hid (show t.may from hok)
    clear hok
    go_wp2_with fail
    go_ret
    exact ⟨ret_bool (decide_eq_true HS.out).symm, HX.out⟩
  · have HS := hid (show ¬ t.may from hno)
    clear hno
    go_wp2_with fail
    go_ret
    exact ⟨ret_bool (decide_eq_false HS.out).symm, HX.out⟩
end Go.Proofs.YtaafcmmmkalgjaaGreatDoor
