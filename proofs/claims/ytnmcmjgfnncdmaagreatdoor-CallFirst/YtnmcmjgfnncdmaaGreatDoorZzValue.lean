/-
  worth.value by a contract: a value in memory of its own.
-/
import Derived.Test.YtnmcmjgfnncdmaaGreatDoorZzVal
import Derived.Test.YtnmcmjgfnncdmaaGreatDoorZzWf
import Derived.Laws.OwnMore
namespace Go.Proofs.YtnmcmjgfnncdmaaGreatDoor
open Go.RowKit
theorem valueInfo : (Tryz.prog.info? 33).map (fun i => (i.zero, i.size, i.bytes)) = some (some .nilIface, 1, 16) := by kernel_rfl
theorem set_get {cs : Array Value} {i : Nat} (v : Value) (h : i < cs.size) : (cs.setIfInBounds i v)[i]? = some v := by simp [h]
theorem set_get_other {cs : Array Value} {i j : Nat} (v : Value) (h : j ≠ i) : (cs.setIfInBounds i v)[j]? = cs[j]? := by rw [Array.getElem?_setIfInBounds, if_neg (fun e => h e.symm)]
/-- What value answers. -/
def ValR (w : World) (d : Nat) (t : T) (e : Ending) (w' : World) : Prop := ∃ u bs, e = .returned u ∧ Ext w w' ∧ VOwn w' d u t bs ∧ (∀ b ∈ bs, w.heap.size ≤ b) ∧ bs.Nodup
set_option maxRecDepth 100000 in
set_option maxHeartbeats 2000000 in
theorem value_any : ∀ (d : Nat) (v : Value) (t : T) (K : Nat → Prop) (w : World), Rd K w d v t → t.good →
    Calls Tryz.prog 158 #[v] w (ValR w d t) := by
  intro d
  induction d with
  | zero => intro v t K w h; exact h.elim
  | succ d ih =>
    intro v t K w hr hg
    obtain ⟨k, n, x, ks⟩ := t
    obtain ⟨a, c, rfl, hx, hl, hks⟩ := hr
    obtain ⟨hw, hgs⟩ := hg
    rcases hw with ⟨rfl, rfl, x0, l0⟩ | ⟨rfl, hn, x0, l0⟩ | ⟨rfl, x0, l0⟩ | ⟨rfl, rfl, l0⟩ | ⟨rfl, rfl, x0⟩
    · obtain rfl := empty_of x0
      obtain rfl := List.eq_nil_of_length_eq_zero l0
      clear ih hks hgs x0 l0
      go_enter Tryz.func158, Tryz.ntmps158
      go_wp2_with fail
      go_ret
      exact ⟨_, [], rfl, Ext.alloc _ _, .inl ⟨rfl, rfl, rfl, rfl, rfl, rfl⟩, fun b h => (by cases h), List.nodup_nil⟩
    · obtain rfl := empty_of x0
      obtain rfl := List.eq_nil_of_length_eq_zero l0
      clear ih hks hgs x0 l0
      go_enter Tryz.func158, Tryz.ntmps158
      go_wp2_with fail
      go_ret
      refine ⟨_, [], rfl, Ext.alloc _ _, .inr (.inl ⟨rfl, rfl, rfl, rfl, _, ?_, rfl⟩), fun b h => (by cases h), List.nodup_nil⟩
      rcases hn with rfl | rfl <;> rfl
    · obtain rfl := empty_of x0
      obtain rfl := List.eq_nil_of_length_eq_zero l0
      clear ih hks hgs x0 l0
      go_enter Tryz.func158, Tryz.ntmps158
      go_wp2_with fail
      go_ret
      exact ⟨_, [], rfl, Ext.alloc _ _, .inr (.inr (.inl ⟨rfl, rfl, rfl, rfl, rfl⟩)), fun b h => (by cases h), List.nodup_nil⟩
    · obtain rfl := List.eq_nil_of_length_eq_zero l0
      clear ih hks hgs l0
      go_enter Tryz.func158, Tryz.ntmps158
      go_wp2_with fail
      go_ret
      exact ⟨_, [], rfl, Ext.alloc _ _, .inr (.inr (.inr (.inl ⟨rfl, rfl, rfl, rfl, hx, rfl⟩))), fun b h => (by cases h), List.nodup_nil⟩
    · obtain rfl := empty_of x0
      have HL := hid hl
      have HKS := hid hks
      have HIH := hid ih
      have HGS := hid hgs
      have hl1 : (ks.length : Int) ≤ 140737488355328 := by omega
      have hl2 : ks.length * 16 ≤ 140737488355328 := by omega
      clear hks ih hgs hx x0 hl
      obtain ⟨ti, hi, hz0, hz1, hz2⟩ := info_parts valueInfo
      obtain ⟨cz, hcz, hmk⟩ : ∃ cz : Array Value, cz.size = ks.length ∧ ∀ w, (Instr.makeSlice 59 (.int .i64 (ks.length : Int)) (.int .i64 (ks.length : Int))).run Tryz.prog w = .ok (.slice (some ⟨w.heap.size, 0, none⟩) ks.length ks.length) (w.alloc (.cells cz 33)) := by
        refine ⟨madeCells (Value.nilIface).cells (ks.length * 1), by rw [size_madeCells]; omega, fun w => ?_⟩
        have := run_make (P := Tryz.prog) w 59 33 ti _ Tryz.underlying59 hi hz0 .i64 .i64 ks.length ks.length (by omega) (Int.le_refl _) (by rw [hz2]; omega) (by omega)
        rw [hz1] at this
        simpa using this
      have HCZ := hid hcz
      clear hcz
      go_enter Tryz.func158, Tryz.ntmps158
      go_wp2_with fail
      have HMK := hid hmk
      clear hmk
      go_loopw [33] (fun i wr => ∃ (j : Nat) (cs : Array Value) (bss : List (List Nat)), j ≤ ks.length ∧ i = .int .i64 j ∧ Ext w wr ∧ wr.heap[w.heap.size + 1]? = some (.cells cs 33) ∧ cs.size = ks.length ∧ bss.length = j ∧
          (∀ i, (h : i < ks.length) → i < j → ∃ u b, cs[i]? = some u ∧ bss[i]? = some b ∧ VOwn wr d u ks[i] b) ∧
          (∀ b ∈ bss.flatten, w.heap.size + 1 < b ∧ b < wr.heap.size) ∧ bss.flatten.Nodup) (fun i _ => ks.length - (intOf i).toNat)
      case atStart => exact ⟨0, cz, [], Nat.zero_le _, rfl, Ext.alloc2 _ _ _, blk1 _ _ _, HCZ.out, rfl, fun i _ h => absurd h (Nat.not_lt_zero _), fun b h => (by cases h), List.nodup_nil⟩
      case round =>
        obtain ⟨j, cs, bss, hj, rfl, hx, hb3, hcs, hbl, hall, hbb, hnd⟩ := hrel
        have HX := hid hx
        have HB3 := hid hb3
        have HCS := hid hcs
        have HBL := hid hbl
        have HALL := hid hall
        have HBB := hid hbb
        have HND := hid hnd
        clear hx hb3 hcs hbl hall hbb hnd
        by_cases hlt : j < ks.length
        · have hlt' : (j : Int) < ks.length := by omega
          rcases HKS.out with e0 | ⟨g, off, rfl, hg, hcells⟩
          · rw [e0] at hlt; exact absurd hlt (Nat.not_lt_zero _)
          obtain ⟨u0, u1, u2, u3, h4, hrd⟩ := hcells j hlt
          obtain ⟨k', n', x', a', c', rfl, rfl, rfl, rfl⟩ := hrd.shape
          have HR := hid (fun o => hrd.later (HX.out.trans (Ext.alloc wr o)))
          obtain ⟨m0, m1, m2, m3⟩ := h4.keep (HX.out.kp K) hg
          have hgl := lt_of_cell m0
          clear hrd hcells hg h4
          generalize hkl : ks[j].kids.length = kl at m3 HR
          go_wp2_with fail
          refine (HIH.out _ ks[j] K _ (HR.out _) (T.goodL_mem HGS.out (List.getElem_mem hlt))).mono ?_
          rintro e w2 ⟨v', bs, rfl, hy, hown, hge, hnd⟩
          obtain ⟨τ, p, rfl⟩ := hown.rd.iface
          have HY := hid ((Ext.alloc wr _).trans hy)
          have HOWN := hid hown
          have HGE := hid hge
          have HN2 := hid hnd
          have hbg := HY.out.block HB3.out
          have HBG := hid hbg
          have hsz : j < cs.size := by rw [HCS.out]; omega
          have d0 := cell_of (i := j) hbg (Array.getElem?_eq_getElem (by omega))
          have f0 := frozen_of (i := j) hbg
          clear hy hown hge hnd hbg m0 m1 m2 m3 hgl
          go_wp2_with fail
          go_roundw
          case rel =>
            have hk4 := (HY.out.kp (· ≠ w.heap.size + 1)).trans (Kp.set w2 (w.heap.size + 1) j (.iface τ p) (fun h => h rfl))
            have hb4 := set_at HBG.out j (.iface τ p)
            have hk5 : Kp (· ≠ w.heap.size + 1) w2 _ := Kp.set w2 (w.heap.size + 1) j (.iface τ p) (fun h => h rfl)
            have hsz2 : w2.heap.size = (w2.setCell ⟨w.heap.size + 1, j, none⟩ (.iface τ p)).heap.size := by simp
            generalize hW : w2.setCell ⟨w.heap.size + 1, j, none⟩ (.iface τ p) = W at hk4 hb4 hk5 hsz2 ⊢
            have hsW : wr.heap.size ≤ W.heap.size := hk4.size
            have hbsz : w.heap.size + 1 < wr.heap.size := lt_of_block HB3.out
            have hgw : ∀ b ∈ bs, w.heap.size + 1 < b ∧ b < W.heap.size := fun b hb => ⟨by have := HGE.out b hb; simp at this; omega, by rw [← hsz2]; exact HOWN.out.lt b hb⟩
            refine ⟨j + 1, cs.setIfInBounds j (.iface τ p), bss ++ [bs], hlt, by go_num, ?_, hb4, by rw [Array.size_setIfInBounds]; exact HCS.out, by rw [List.length_append, HBL.out]; rfl, fun i h hi => ?_, fun b hb => ?_, ?_⟩
            · exact Kp.extOf HX.out hk4 (by omega)
            · by_cases e : i < j
              · obtain ⟨u, b, c0, hb, ho⟩ := HALL.out i h e
                refine ⟨u, b, by rw [set_get_other _ (by omega)]; exact c0, ?_, ?_⟩
                · rw [List.getElem?_append_left (by rw [HBL.out]; exact e)]; exact hb
                · exact ho.keep (hk4.mono (fun q _ hq e => by have := (HBB.out q (List.mem_flatten.2 ⟨b, List.mem_of_getElem? hb, hq⟩)).1; omega))
              · obtain rfl : i = j := by omega
                refine ⟨_, bs, set_get _ hsz, ?_, HOWN.out.keep (hk5.mono (fun q _ hq e => by have := (hgw q hq).1; omega))⟩
                rw [List.getElem?_append_right (by rw [HBL.out]; exact Nat.le_refl _), HBL.out]
                simp
            · rw [List.flatten_append, List.mem_append] at hb
              rcases hb with hb | hb
              · exact ⟨(HBB.out b hb).1, Nat.lt_of_lt_of_le (HBB.out b hb).2 hsW⟩
              · exact hgw b (by simpa using hb)
            · rw [List.flatten_append, List.nodup_append]
              refine ⟨HND.out, by simpa using HN2.out, fun p hp q hq e => ?_⟩
              have h1 := (HBB.out p hp).2
              have h2 := HGE.out q (by simpa using hq)
              simp at h2
              omega
          case measure => simp [intOf]; omega
        · have hje : j = ks.length := by omega
          go_wp2_with fail
          go_ret
          refine ⟨_, (w.heap.size + 1) :: bss.flatten, rfl, HX.out, .inr (.inr (.inr (.inr ⟨rfl, rfl, rfl, by have := HL.out; omega, w.heap.size + 1, ks.length, cs, bss, rfl, Nat.le_refl _, HB3.out, HCS.out, rfl, by rw [HBL.out, hje], fun i h => HALL.out i h (by omega)⟩))), fun b hb => ?_, ?_⟩
          · rcases List.mem_cons.1 hb with rfl | hb
            · omega
            · have := (HBB.out b hb).1; omega
          · exact List.nodup_cons.2 ⟨fun h => by have := (HBB.out _ h).1; omega, HND.out⟩
end Go.Proofs.YtnmcmjgfnncdmaaGreatDoor
