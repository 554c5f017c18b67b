/-
  copied by a contract: a tree in memory of its own.
-/
import Derived.Test.YthdmoghooaccgaaGreat
import Derived.Laws.OwnMore
namespace Go.Proofs.Ythdmoghooaccgaa
open Go.RowKit
theorem treeInfo : (Try.prog.info? 26).map (fun i => (i.zero, i.size, i.bytes)) = some (some (.agg #[.string ⟨#[]⟩, .int .i64 0, .string ⟨#[]⟩, .slice none 0 0]), 4, 64) := by kernel_rfl
/-- The tree v lies in memory of its own: its lists are the blocks bs. -/
def Own (w : World) : Nat → Value → T → List Nat → Prop
  | 0, _, _, _ => False
  | d + 1, v, .node k n x ks, bs => ∃ a, v = .agg #[.string k, .int .i64 n, .string x, .slice a ks.length ks.length] ∧ k.size ≤ 140737488351232 ∧ x.size ≤ 140737488351232 ∧ ks.length * 64 ≤ 140737488351232 ∧
      ((ks = [] ∧ a = none ∧ bs = []) ∨ ∃ (g : Nat) (cs : Array Value) (bss : List (List Nat)), a = some ⟨g, 0, none⟩ ∧ 0 < ks.length ∧ w.heap[g]? = some (.cells cs 26) ∧ cs.size = ks.length * 4 ∧ bs = g :: bss.flatten ∧ bss.length = ks.length ∧
        ∀ j, (h : j < ks.length) → ∃ u0 u1 u2 u3 b, cs[j * 4]? = some u0 ∧ cs[j * 4 + 1]? = some u1 ∧ cs[j * 4 + 2]? = some u2 ∧ cs[j * 4 + 3]? = some u3 ∧ bss[j]? = some b ∧ Own w d (.agg #[u0, u1, u2, u3]) ks[j] b)
theorem Own.rd {w : World} : ∀ {d : Nat} {v : Value} {t : T} {bs : List Nat}, Own w d v t bs → Rd (· ∈ bs) w d v t
  | 0, _, _, _, h => h
  | d + 1, v, .node k n x ks, bs, ⟨a, h1, h2, h3, h4, h5⟩ => ⟨a, _, h1, h2, h3, h4, by
      rcases h5 with ⟨h0, _, _⟩ | ⟨g, cs, bss, rfl, hp, hg, hs, rfl, hbl, hc⟩
      · exact .inl h0
      · refine .inr ⟨g, 0, rfl, by simp, fun j hj => ?_⟩
        obtain ⟨u0, u1, u2, u3, b, c0, c1, c2, c3, hb, ho⟩ := hc j hj
        refine ⟨u0, u1, u2, u3, ⟨by rw [Nat.zero_add]; exact cell_of hg c0, by rw [Nat.zero_add]; exact cell_of hg c1, by rw [Nat.zero_add]; exact cell_of hg c2, by rw [Nat.zero_add]; exact cell_of hg c3⟩, ?_⟩
        exact (Own.rd ho).mono (fun k _ hk => List.mem_cons_of_mem _ (List.mem_flatten.2 ⟨b, List.mem_of_getElem? hb, hk⟩))⟩
theorem Own.keep {w w' : World} : ∀ {d : Nat} {v : Value} {t : T} {bs : List Nat}, Own w d v t bs → Kp (· ∈ bs) w w' → Own w' d v t bs
  | 0, _, _, _, h, _ => h
  | d + 1, v, .node k n x ks, bs, ⟨a, h1, h2, h3, h4, h5⟩, hk => ⟨a, h1, h2, h3, h4, by
      rcases h5 with h5 | ⟨g, cs, bss, rfl, hp, hg, hs, rfl, hbl, hc⟩
      · exact .inl h5
      · refine .inr ⟨g, cs, bss, rfl, hp, hk.block' hg (by simp), hs, rfl, hbl, fun j hj => ?_⟩
        obtain ⟨u0, u1, u2, u3, b, c0, c1, c2, c3, hb, ho⟩ := hc j hj
        exact ⟨u0, u1, u2, u3, b, c0, c1, c2, c3, hb, Own.keep ho (hk.mono (fun k _ hk => List.mem_cons_of_mem _ (List.mem_flatten.2 ⟨b, List.mem_of_getElem? hb, hk⟩)))⟩⟩
theorem Own.lt {w : World} : ∀ {d : Nat} {v : Value} {t : T} {bs : List Nat}, Own w d v t bs → ∀ b ∈ bs, b < w.heap.size
  | 0, _, _, _, h => h.elim
  | d + 1, v, .node k n x ks, bs, ⟨a, h1, h2, h3, h4, h5⟩ => by
      rcases h5 with ⟨_, _, rfl⟩ | ⟨g, cs, bss, rfl, hp, hg, hs, rfl, hbl, hc⟩
      · intro b hb; cases hb
      · intro b hb
        rcases List.mem_cons.1 hb with rfl | hb
        · exact lt_of_block hg
        · obtain ⟨l, hl, hbl2⟩ := List.mem_flatten.1 hb
          obtain ⟨j, hj, rfl⟩ := List.getElem_of_mem hl
          obtain ⟨u0, u1, u2, u3, b', _, _, _, _, hb', ho⟩ := hc j (by omega)
          rw [List.getElem?_eq_getElem hj] at hb'
          cases hb'
          exact Own.lt ho b hbl2
/-- What copied answers. -/
def CopyR (w : World) (d : Nat) (t : T) (e : Ending) (w' : World) : Prop := ∃ v' bs, e = .returned v' ∧ Ext w w' ∧ Own w' d v' t bs ∧ (∀ b ∈ bs, w.heap.size ≤ b) ∧ bs.Nodup
set_option maxRecDepth 100000 in
set_option maxHeartbeats 2000000 in
theorem copied_any : ∀ (d : Nat) (v : Value) (t : T) (K : Nat → Prop) (w : World), Rd K w d v t →
    Calls Try.prog 48 #[v] w (CopyR w d t) := by
  intro d
  induction d with
  | zero => intro v t K w h; exact h.elim
  | succ d ih =>
    intro v t K w hr
    obtain ⟨k, n, x, ks⟩ := t
    obtain ⟨a, c, rfl, hk, hx, hl, hks⟩ := hr
    have HK := hid (And.intro hk (And.intro hx hl))
    have HKS := hid hks
    have HIH := hid ih
    have hl1 : (ks.length : Int) ≤ 140737488355328 := by omega
    have hl2 : ks.length * 64 ≤ 140737488355328 := by omega
    clear hks ih hk hx hl
    by_cases h0 : ks.length = 0
    · have e0 : ks = [] := List.eq_nil_of_length_eq_zero h0
      subst e0
      go_enter Try.func48, Try.ntmps48
      go_wp2_with fail
      refine bodyPost_ret (v := .agg #[.string k, .int .i64 n, .string x, .slice none 0 0]) (by simp [results, Try.results48, go_sem]) rfl ?_
      exact ⟨_, [], rfl, Ext.alloc2 _ _ _, ⟨none, rfl, HK.out.1, HK.out.2.1, by simp, .inl ⟨rfl, rfl, rfl⟩⟩, fun b h => (by cases h), List.nodup_nil⟩
    · have h0' : ¬ ((ks.length : Int)) = 0 := by omega
      have h0q : ((ks.length : Int) == 0) = false := by simpa using h0'
      obtain ⟨ti, hi, hz0, hz1, hz2⟩ := info_parts treeInfo
      obtain ⟨cz, hcz, hmk⟩ : ∃ cz : Array Value, cz.size = ks.length * 4 ∧ ∀ w, (Instr.makeSlice 24 (.int .i64 (ks.length : Int)) (.int .i64 (ks.length : Int))).run Try.prog w = .ok (.slice (some ⟨w.heap.size, 0, none⟩) ks.length ks.length) (w.alloc (.cells cz 26)) := by
        refine ⟨madeCells (Value.agg #[.string ⟨#[]⟩, .int .i64 0, .string ⟨#[]⟩, .slice none 0 0]).cells (ks.length * 4), size_madeCells _ _, fun w => ?_⟩
        have := run_make (P := Try.prog) w 24 26 ti _ Try.underlying24 hi hz0 .i64 .i64 ks.length ks.length (by omega) (Int.le_refl _) (by rw [hz2]; omega) (by omega)
        rw [hz1] at this
        simpa using this
      have HCZ := hid hcz
      clear hcz h0'
      go_enter Try.func48, Try.ntmps48
      go_wp2_with fail
      have HMK := hid hmk
      clear hmk
      go_loopw [19] (fun i wr => ∃ (j : Nat) (cs : Array Value) (bss : List (List Nat)), j ≤ ks.length ∧ i = .int .i64 j ∧ Ext w wr ∧ wr.heap[w.heap.size]? = some (.cells #[.string k, .int .i64 n, .string x, .slice a ks.length c] 26) ∧
          wr.heap[w.heap.size + 1]? = some (.cells #[.string ⟨#[]⟩, .int .i64 0, .string ⟨#[]⟩, .slice none 0 0] 26) ∧ wr.heap[w.heap.size + 1 + 1]? = some (.cells cs 26) ∧ cs.size = ks.length * 4 ∧ bss.length = j ∧
          (∀ i, (h : i < ks.length) → i < j → ∃ u0 u1 u2 u3 b, cs[i * 4]? = some u0 ∧ cs[i * 4 + 1]? = some u1 ∧ cs[i * 4 + 2]? = some u2 ∧ cs[i * 4 + 3]? = some u3 ∧ bss[i]? = some b ∧ Own wr d (.agg #[u0, u1, u2, u3]) ks[i] b) ∧
          (∀ b ∈ bss.flatten, w.heap.size + 1 + 1 < b ∧ b < wr.heap.size) ∧ bss.flatten.Nodup) (fun i _ => ks.length - (intOf i).toNat)
      case atStart => exact ⟨0, cz, [], Nat.zero_le _, rfl, Ext.alloc3 _ _ _ _, blkOld _ (blkOld _ (blk0 _ _)), blkOld _ (blk1 _ _ _), blk2 _ _ _ _, HCZ.out, rfl, fun i _ h => absurd h (Nat.not_lt_zero _), fun b h => (by cases h), List.nodup_nil⟩
      case round =>
        obtain ⟨j, cs, bss, hj, rfl, hx, hb1, hb2, hb3, hcs, hbl, hall, hbb, hnd⟩ := hrel
        have HX := hid hx
        have HB1 := hid hb1
        have HB2 := hid hb2
        have HB3 := hid hb3
        have HCS := hid hcs
        have HBL := hid hbl
        have HALL := hid hall
        have HBB := hid hbb
        have HND := hid hnd
        clear hx hb1 hb2 hb3 hcs hbl hall hbb hnd
        by_cases hlt : j < ks.length
        · have hlt' : (j : Int) < ks.length := by omega
          rcases HKS.out with e0 | ⟨g, off, rfl, hg, hcells⟩
          · rw [e0] at hlt; exact absurd hlt (Nat.not_lt_zero _)
          obtain ⟨u0, u1, u2, u3, h4, hrd⟩ := hcells j hlt
          obtain ⟨k', n', x', a', c', rfl, rfl, rfl, rfl⟩ := hrd.shape
          have HR := hid (fun o => hrd.later (HX.out.trans (Ext.alloc wr o)))
          obtain ⟨m0, m1, m2, m3⟩ := h4.keep (HX.out.kp K) hg
          have hgl := lt_of_cell m0
          clear hrd hcells hg h4
          generalize hkl : ks[j].kids.length = kl at m3 HR
          go_wp2_with fail
          refine (HIH.out _ ks[j] K _ (HR.out _)).mono ?_
          rintro e w2 ⟨v', bs, rfl, hy, hown, hge, hnd⟩
          obtain ⟨u0, u1, u2, u3, rfl⟩ := hown.rd.agg
          obtain ⟨k2, n2, x2, a2, c2, rfl, rfl, rfl, rfl⟩ := hown.rd.shape
          have HY := hid ((Ext.alloc wr _).trans hy)
          have HOWN := hid hown
          have HGE := hid hge
          have HN2 := hid hnd
          have hbg := HY.out.block HB3.out
          have HBG := hid hbg
          have hsz : j * 4 + 3 < cs.size := by rw [HCS.out]; omega
          have d0 := cell_of (i := j * 4) hbg (Array.getElem?_eq_getElem (by omega))
          have d1 := cell_of (i := j * 4 + 1) hbg (Array.getElem?_eq_getElem (by omega))
          have d2 := cell_of (i := j * 4 + 2) hbg (Array.getElem?_eq_getElem (by omega))
          have d3 := cell_of (i := j * 4 + 3) hbg (Array.getElem?_eq_getElem (by omega))
          have f0 := frozen_of (i := j * 4) hbg
          have f1 := frozen_of (i := j * 4 + 1) hbg
          have f2 := frozen_of (i := j * 4 + 2) hbg
          have f3 := frozen_of (i := j * 4 + 3) hbg
          generalize hkm : ks[j].kids.length = km at HOWN
          clear hy hown hge hnd hbg m0 m1 m2 m3 hgl
          go_wp2_with fail
          go_roundw
          case rel =>
            have hk4 := (HY.out.kp (· ≠ w.heap.size + 1 + 1)).trans (Kp.set4 w2 (w.heap.size + 1 + 1) (j * 4) (.string k2) (.int .i64 n2) (.string x2) (.slice a2 km c2))
            have hb4 := set4_block HBG.out (j * 4) (.string k2) (.int .i64 n2) (.string x2) (.slice a2 km c2)
            generalize hW : ((((w2.setCell ⟨w.heap.size + 1 + 1, j * 4, none⟩ (.string k2)).setCell ⟨w.heap.size + 1 + 1, j * 4 + 1, none⟩ (.int .i64 n2)).setCell ⟨w.heap.size + 1 + 1, j * 4 + 2, none⟩ (.string x2)).setCell ⟨w.heap.size + 1 + 1, j * 4 + 3, none⟩ (.slice a2 km c2)) = W at hk4 hb4 ⊢
            have hsW : wr.heap.size ≤ W.heap.size := hk4.size
            have hbsz : w.heap.size + 1 + 1 < wr.heap.size := lt_of_block HB3.out
            have hk5 : Kp (· ≠ w.heap.size + 1 + 1) w2 W := hW ▸ Kp.set4 w2 (w.heap.size + 1 + 1) (j * 4) (.string k2) (.int .i64 n2) (.string x2) (.slice a2 km c2)
            have hsz2 : w2.heap.size = W.heap.size := by rw [← hW]; simp
            have hgw : ∀ b ∈ bs, w.heap.size + 1 + 1 < b ∧ b < W.heap.size := fun b hb => ⟨by have := HGE.out b hb; simp at this; omega, by rw [← hsz2]; exact HOWN.out.lt b hb⟩
            refine ⟨j + 1, set4A cs (j * 4) (.string k2) (.int .i64 n2) (.string x2) (.slice a2 km c2), bss ++ [bs], hlt, by go_num, ?_, hk4.block' HB1.out (by show w.heap.size ≠ _; omega), hk4.block' HB2.out (by show w.heap.size + 1 ≠ _; omega), hb4, by rw [set4A_size]; exact HCS.out, by rw [List.length_append, HBL.out]; rfl, fun i h hi => ?_, fun b hb => ?_, ?_⟩
            · exact Kp.extOf HX.out hk4 (by omega)
            · by_cases e : i < j
              · obtain ⟨u0, u1, u2, u3, b, c0, c1, c2', c3, hb, ho⟩ := HALL.out i h e
                refine ⟨u0, u1, u2, u3, b, by rw [set4A_other _ _ _ _ (by omega)]; exact c0, by rw [set4A_other _ _ _ _ (by omega)]; exact c1, by rw [set4A_other _ _ _ _ (by omega)]; exact c2', by rw [set4A_other _ _ _ _ (by omega)]; exact c3, ?_, ?_⟩
                · rw [List.getElem?_append_left (by rw [HBL.out]; exact e)]; exact hb
                · exact ho.keep (hk4.mono (fun q _ hq e => by have := (HBB.out q (List.mem_flatten.2 ⟨b, List.mem_of_getElem? hb, hq⟩)).1; omega))
              · obtain rfl : i = j := by omega
                obtain ⟨c0, c1, c2', c3⟩ := set4A_get (.string k2) (.int .i64 n2) (.string x2) (.slice a2 km c2) hsz
                refine ⟨_, _, _, _, bs, c0, c1, c2', c3, ?_, HOWN.out.keep (hk5.mono (fun q _ hq e => by have := (hgw q hq).1; omega))⟩
                rw [List.getElem?_append_right (by rw [HBL.out]; exact Nat.le_refl _), HBL.out]
                simp
            · rw [List.flatten_append, List.mem_append] at hb
              rcases hb with hb | hb
              · exact ⟨(HBB.out b hb).1, Nat.lt_of_lt_of_le (HBB.out b hb).2 hsW⟩
              · exact hgw b (by simpa using hb)
            · rw [List.flatten_append, List.nodup_append]
              refine ⟨HND.out, by simpa using HN2.out, fun p hp q hq e => ?_⟩
              have h1 := (HBB.out p hp).2
              have h2 := HGE.out q (by simpa using hq)
              simp at h2
              omega
          case measure => simp [intOf]; omega
        · have hje : j = ks.length := by omega
          have e0 := cell_of (i := 0) HB1.out rfl
          have e1 := cell_of (i := 1) HB1.out rfl
          have e2 := cell_of (i := 2) HB1.out rfl
          have e3 := cell_of (i := 3) HB1.out rfl
          have r0 := cell_of (i := 0) HB2.out rfl
          have r1 := cell_of (i := 1) HB2.out rfl
          have r2 := cell_of (i := 2) HB2.out rfl
          have r3 := cell_of (i := 3) HB2.out rfl
          simp only [List.getElem_toArray, List.getElem_cons_zero, List.getElem_cons_succ] at e0 e1 e2 e3 r0 r1 r2 r3
          have fe := frozen_of (i := 3) HB1.out
          have f0 := frozen_of (i := 0) HB2.out
          have f1 := frozen_of (i := 1) HB2.out
          have f2 := frozen_of (i := 2) HB2.out
          have f3 := frozen_of (i := 3) HB2.out
          go_wp2_with fail
          have hk1 : Kp (· ≠ w.heap.size) wr (wr.setCell ⟨w.heap.size, 3, none⟩ (.slice (some ⟨w.heap.size + 1 + 1, 0, none⟩) ks.length ks.length)) := Kp.set _ _ _ _ (fun h => h rfl)
          have hk2 := Kp.set4 (wr.setCell ⟨w.heap.size, 3, none⟩ (.slice (some ⟨w.heap.size + 1 + 1, 0, none⟩) ks.length ks.length)) (w.heap.size + 1) 0 (.string k) (.int .i64 n) (.string x) (.slice (some ⟨w.heap.size + 1 + 1, 0, none⟩) ks.length ks.length)
          have hb5 := set4_block (hk1.block' HB2.out (by show w.heap.size + 1 ≠ _; omega)) 0 (.string k) (.int .i64 n) (.string x) (.slice (some ⟨w.heap.size + 1 + 1, 0, none⟩) ks.length ks.length)
          have hkk : Kp (fun q => w.heap.size + 1 + 1 ≤ q) wr _ := (hk1.mono (fun q _ hq e => by have e' : q = _ := e; omega)).trans (hk2.mono (fun q _ hq e => by have e' : q = _ := e; omega))
          have hXX := Kp.extOf (Kp.extOf HX.out hk1 (Nat.le_refl _)) hk2 (Nat.le_succ _)
          generalize ((((wr.setCell ⟨w.heap.size, 3, none⟩ (.slice (some ⟨w.heap.size + 1 + 1, 0, none⟩) ks.length ks.length)).setCell ⟨w.heap.size + 1, 0, none⟩ (.string k)).setCell ⟨w.heap.size + 1, 0 + 1, none⟩ (.int .i64 n)).setCell ⟨w.heap.size + 1, 0 + 2, none⟩ (.string x)).setCell ⟨w.heap.size + 1, 0 + 3, none⟩ (.slice (some ⟨w.heap.size + 1 + 1, 0, none⟩) ks.length ks.length) = W at hb5 hkk hXX ⊢
          have z0 : W.cell? ⟨w.heap.size + 1, 0, none⟩ = some (.string k) := cell_of hb5 (by simp [set4A])
          have z1 : W.cell? ⟨w.heap.size + 1, 1, none⟩ = some (.int .i64 n) := cell_of hb5 (by simp [set4A])
          have z2 : W.cell? ⟨w.heap.size + 1, 2, none⟩ = some (.string x) := cell_of hb5 (by simp [set4A])
          have z3 : W.cell? ⟨w.heap.size + 1, 3, none⟩ = some (.slice (some ⟨w.heap.size + 1 + 1, 0, none⟩) ks.length ks.length) := cell_of hb5 (by simp [set4A])
          refine bodyPost_ret (v := .agg #[.string k, .int .i64 n, .string x, .slice (some ⟨w.heap.size + 1 + 1, 0, none⟩) ks.length ks.length]) (by simp [results, Try.results48, go_sem, z0, z1, z2, z3]) rfl ?_
          refine ⟨_, (w.heap.size + 1 + 1) :: bss.flatten, rfl, hXX, ⟨some ⟨w.heap.size + 1 + 1, 0, none⟩, rfl, HK.out.1, HK.out.2.1, HK.out.2.2, .inr ⟨w.heap.size + 1 + 1, cs, bss, rfl, by omega, hkk.block' HB3.out (Nat.le_refl _), HCS.out, rfl, by rw [HBL.out, hje], fun i h => ?_⟩⟩, fun b hb => ?_, ?_⟩
          · obtain ⟨u0, u1, u2, u3, b, c0, c1, c2', c3, hb, ho⟩ := HALL.out i h (by omega)
            exact ⟨u0, u1, u2, u3, b, c0, c1, c2', c3, hb, ho.keep (hkk.mono (fun q _ hq => by have := (HBB.out q (List.mem_flatten.2 ⟨b, List.mem_of_getElem? hb, hq⟩)).1; omega))⟩
          · rcases List.mem_cons.1 hb with rfl | hb
            · omega
            · have := (HBB.out b hb).1; omega
          · exact List.nodup_cons.2 ⟨fun h => by have := (HBB.out _ h).1; omega, HND.out⟩
end Go.Proofs.Ythdmoghooaccgaa
