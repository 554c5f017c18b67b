/-
  The reference's all, by a contract.
-/
import Derived.Test.YthdmoghooaccgaaRefAllA
namespace Go.Proofs.Ythdmoghooaccgaa
open Go.RowKit
/-- What the loop of all holds. -/
def AllSt (w : World) (base : Nat) (lv : Value) (bx : Obj) (l : Value) (ys : List (List Int × T)) (wr : World) : Prop :=
  (∃ xs, Steps wr base l ys xs) ∧ wr.heap[w.heap.size]? = some bx ∧ Kp (fun q => some q ≠ lv.ownBlock) w wr ∧ (l.ownBlock = lv.ownBlock ∨ ∃ q, l.ownBlock = some q ∧ w.heap.size + 1 ≤ q)
set_option maxRecDepth 100000 in
set_option maxHeartbeats 4000000 in
theorem rall_any : ∀ (d : Nat) (v : Value) (t : T) (K : Nat → Prop) (w : World) (base : Nat) (lv : Value) (ys : List (List Int × T)) (xs : List Value) (pa : Option Addr) (pc : Nat) (p : List Int), Rd K w d v t → Steps w base lv ys xs → (∀ q, lv.ownBlock = some q → ¬ K q) → base ≤ w.heap.size →
    Ints w (.slice pa p.length pc) p → (∀ q, (Value.slice pa p.length pc).ownBlock = some q → lv.ownBlock ≠ some q) → ys.length + t.size ≤ 4000 → p.length + t.height ≤ 4000 →
    Calls Try.prog 54 #[lv, v, .slice pa p.length pc] w fun e w' => ∃ v' xs', e = .returned v' ∧ Steps w' base v' (ys ++ T.all p t) xs' ∧ Kp (fun q => some q ≠ lv.ownBlock) w w' ∧ (v'.ownBlock = lv.ownBlock ∨ ∃ q, v'.ownBlock = some q ∧ w.heap.size ≤ q) := by
  intro d
  induction d with
  | zero => intro v t K w base lv ys xs pa pc p h; exact h.elim
  | succ d ih =>
    intro v t K0 w base lv ys xs pa pc p hr0 hst hlk0 hbs hI hpq hsz hht
    obtain ⟨K, hK⟩ : ∃ K : Nat → Prop, K = fun q => K0 q ∧ q < w.heap.size := ⟨_, rfl⟩
    have hr : Rd K w (d + 1) v t := hr0.mono (fun q hq h => by rw [hK]; exact ⟨h, hq⟩)
    have hlk : ∀ q, lv.ownBlock = some q → ¬ K q := fun q hq h => by rw [hK] at h; exact hlk0 q hq h.1
    have hKl : ∀ q, K q → q < w.heap.size := fun q h => by rw [hK] at h; exact h.2
    clear hr0 hlk0 hK
    obtain ⟨k, n, x, ks⟩ := t
    have HRD := hid hr
    obtain ⟨a, c, rfl, hkl⟩ := hr.kidsL
    obtain ⟨la, lc, rfl⟩ := row5_slice hst.1
    have hl' : (ks.length : Int) ≤ 140737488355328 := by have := hkl.1; omega
    have HK := hid hkl
    have HIH := hid ih
    have HI := hid hI
    have HLK := hid hlk
    have HKL := hid hKl
    have HPQ := hid hpq
    have HLT := hid (show ∀ q, (Value.slice la ys.length lc).ownBlock = some q → q < w.heap.size from fun q hq => (hst.1.lt q hq).2)
    have HSZ := hid (And.intro (show ys.length + 1 + T.sizeL ks ≤ 4000 by simp only [T.size] at hsz; omega) (show p.length + 1 + T.heightL ks ≤ 4000 by simp only [T.height] at hht; omega))
    have hpl : p.length ≤ 4000 := by omega
    have hyl : ys.length ≤ 4000 := by omega
    have HALL := hid (show T.all p (.node k n x ks) = (p, .node k n x ks) :: T.allL p 0 ks from rfl)
    clear hr hkl ih hlk hsz hht hKl hI hpq
    obtain ⟨M, hM⟩ : ∃ M, w.alloc (.cells #[.string k, .int .i64 n, .string x, .slice a ks.length c] 26) = M := ⟨_, rfl⟩
    have HXM := hid (show Ext w M from hM ▸ Ext.alloc _ _)
    have HBT := hid (show M.heap[w.heap.size]? = some (.cells #[.string k, .int .i64 n, .string x, .slice a ks.length c] 26) from hM ▸ blk0 _ _)
    have hsM : M.heap.size = w.heap.size + 1 := by rw [← hM]; simp
    obtain ⟨t0, t1, t2, t3⟩ := four_of HBT.out
    have HSK := hid (show ∀ W', Ext M W' → W'.cell? ⟨w.heap.size, 0, none⟩ = some (.string k) ∧ W'.cell? ⟨w.heap.size, 1, none⟩ = some (.int .i64 n) ∧ W'.cell? ⟨w.heap.size, 2, none⟩ = some (.string x) ∧ W'.cell? ⟨w.heap.size, 3, none⟩ = some (.slice a ks.length c) from fun W' Y => four_of (Y.block HBT.out))
    have HIM := hid (HI.out.later HXM.out)
    have HRM := hid (HRD.out.later HXM.out)
    have HSM := hid (hst.later HXM.out)
    clear hst
    have HK9 := hid (show ∀ (w2 w9 : World) (o : Obj), (w2.alloc o).grownBy w9 (Value.slice la ys.length lc).ownBlock → Kp (fun q => some q ≠ (Value.slice la ys.length lc).ownBlock) w2 w9 from fun w2 w9 o hg => ((Ext.alloc w2 o).kp _).trans ⟨hg.os, hg.tape, hg.output, hg.size, fun q hq hne => hg.block q hq hne⟩)
    obtain ⟨i5, hi5, hy0, hy1, hy2⟩ := info_parts stepInfo
    go_enter Try.func54, Try.ntmps54
    go_wp2_with fail
    go_cut [0] from 8 to 15 (fun l wx => ∃ la2 lc2, l = .slice la2 (ys.length + 1) lc2 ∧ AllSt w base (.slice la ys.length lc) (.cells #[.string k, .int .i64 n, .string x, .slice a ks.length c] 26) l (ys ++ [(p, .node k n x ks)]) wx)
    case first =>
      go_region_held3 (fun W' => W'.cell? ⟨w.heap.size, 0, none⟩ = some (.string k) ∧ W'.cell? ⟨w.heap.size, 1, none⟩ = some (.int .i64 n) ∧ W'.cell? ⟨w.heap.size, 2, none⟩ = some (.string x) ∧ W'.cell? ⟨w.heap.size, 3, none⟩ = some (.slice a ks.length c))
        (first | exact SK9 | exact SK2 | exact SK1 | exact ⟨t0, t1, t2, t3⟩ | go_keep)
        (first
          | (refine step_append_ints _ (by rfl) _ (by rfl) (by rfl) pa p.length pc p (by rfl) (by omega) (HIM.out.later (by repeat (first | with_reducible exact Ext.refl _ | with_reducible exact Z2 | with_reducible refine Ext.drew ?_ | with_reducible refine Ext.more ?_ _))) ?_; intro a1 c1 w1 ho1 hx1; have Z1 : Ext M w1 := Ext.trans (by repeat (first | with_reducible exact Ext.refl _ | with_reducible exact Z2 | with_reducible refine Ext.drew ?_ | with_reducible refine Ext.more ?_ _)) hx1; have SK1 := HSK.out w1 Z1; have hs1 := hx1.size; have ho1' : w1.ownsRow M.heap.size 3 1 (.slice a1 p.length c1) p.length (p.map (Value.int .i64)) := row_mono ho1 (by simp))
          | (go_at_call 60; refine (own_any (d + 1) _ (.node k n x ks) K _ (HRM.out.later (by repeat (first | with_reducible exact Ext.refl _ | with_reducible exact Z1 | with_reducible refine Ext.drew ?_ | with_reducible refine Ext.more ?_ _)))).mono ?_; rintro e w2 ⟨v2, rfl, hr2, hx2⟩; obtain ⟨y0, y1, y2, y3, rfl⟩ := hr2.agg; obtain ⟨k5, n5, x5, a5, c5, rfl, rfl, rfl, rfl⟩ := hr2.shape; have Z2 : Ext M w2 := Ext.trans (by repeat (first | with_reducible exact Ext.refl _ | with_reducible exact Z1 | with_reducible refine Ext.drew ?_ | with_reducible refine Ext.more ?_ _)) hx2; have SK2 := HSK.out w2 Z2; have Y12 : Ext w1 w2 := Ext.trans (by repeat (first | with_reducible exact Ext.refl _ | with_reducible refine Ext.drew ?_ | with_reducible refine Ext.more ?_ _)) hx2; have hs2 := hx2.size; generalize (T.kids (T.node k n x ks)).length = kl5 at hr2)
          | (refine step_append_own _ (by rfl) _ _ 51 (by rfl) base 57 i5 (.agg #[.slice none 0 0, .string ⟨#[]⟩, .int .i64 0, .string ⟨#[]⟩, .slice none 0 0]) 5 88 Try.underlying51 hi5 hy0 hy1 hy2 rfl (by decide) _ ys.length xs (by rfl) (HSM.out.later (by repeat (first | with_reducible exact Z2 | with_reducible refine Ext.drew ?_ | with_reducible refine Ext.more ?_ _))).1 ⟨w2.heap.size, 0, none⟩ 1 1 [.slice a1 p.length c1, .string k5, .int .i64 n5, .string x5, .slice a5 kl5 c5] (by rfl) rfl (news5 w2 _ _ _ _ _ _) (by simp [Value.oneCell']) (by unfold maxLen; omega) (by omega) (by have := Z2.size; simp; omega) ?_; intro v9 w9 hown9 hgrow9 hat9; obtain ⟨a9, c9, rfl⟩ := row5_slice hown9; have K9 := HK9.out w2 w9 _ hgrow9; have SK9 := four_of (K9.block' (Z2.block HBT.out) (fun e => by have := HLT.out _ e.symm; omega))))
      all_goals
        go_wp2_with fail
        go_meet
        case rel =>
          refine ⟨a9, c9, rfl, ⟨_, Steps.snoc (w2 := w2.alloc (.cells #[.slice a1 p.length c1, .string k5, .int .i64 n5, .string x5, .slice a5 kl5 c5] 57)) HSM.out (Z2.more _) (by omega) ⟨(Ints.own rfl ho1').later (Y12.more _), fun q hq => (ho1'.lt q hq).1⟩ (fun q hq => by have h1 := (ho1'.lt q hq).2; have h2 := Y12.size; simp; omega) ((hr2.later (Ext.alloc w2 _)).mono (fun q _ hq => by have hq' : _ ≤ q := hq; have h3 := Z1.size; show M.heap.size ≤ q; omega)) hown9 ⟨hgrow9.os, hgrow9.tape, hgrow9.output, hgrow9.size, fun q hq hne => hgrow9.block q hq hne⟩ (hat9.imp id (fun h => ⟨_, h, Nat.le_refl _⟩))⟩, ?_, ?_, ?_⟩
          · exact K9.block' (Z2.block HBT.out) (fun e => by have := HLT.out _ e.symm; omega)
          · exact ((HXM.out.trans Z2).kp _).trans K9
          · rcases hat9 with h | h
            · exact .inl h
            · exact .inr ⟨_, h, by have := Z2.size; simp; omega⟩
    case rest =>
      obtain ⟨la2, lc2, rfl, hst0⟩ := hcut
      have HST := hid hst0
      clear hst0 t0 t1 t2 t3 HSK HIM HRM HSM HK9 hi5 hy0 hy1 hy2 HXM HBT hsM
      go_wp2_with fail
      go_loopw [0, 7] (fun l i wr => ∃ (j : Nat) (la3 : Option Addr) (n3 lc3 : Nat), j ≤ ks.length ∧ i = .int .i64 j ∧ l = .slice la3 n3 lc3 ∧ AllSt w base (.slice la ys.length lc) (.cells #[.string k, .int .i64 n, .string x, .slice a ks.length c] 26) l (ys ++ (p, .node k n x ks) :: T.allL p 0 (ks.take j)) wr) (fun _ i _ => ks.length - (intOf i).toNat)
      case atStart => exact ⟨0, _, _, _, Nat.zero_le _, rfl, rfl, HST.out⟩
      case round =>
        obtain ⟨j, la3, n3, lc3, hj, rfl, rfl, hst⟩ := hrel
        have HSJ := hid hst
        obtain ⟨t0, t1, t2, t3⟩ := four_of hst.2.1
        clear hst HST
        by_cases hlt : j < ks.length
        · have hlt' : (j : Int) < ks.length := by omega
          have HKP := hid (HSJ.out.2.2.1.mono (L := K) (fun q _ hq e => HLK.out q e.symm hq))
          obtain ⟨g, off, k', n', x', a', l', c', rfl, hg, h4, hrd⟩ := HK.out.kid hlt
          obtain ⟨m0, m1, m2, m3⟩ := h4.keep HKP.out hg
          have hgl := lt_of_cell m0
          have HRK := hid (hrd.keep HKP.out)
          have HIR := hid (show Ints wr (.slice pa p.length pc) p from (IntsK.keep (K := fun q => some q ≠ (Value.slice la ys.length lc).ownBlock) ⟨HI.out, fun q hq e => HPQ.out q hq e.symm⟩ HSJ.out.2.2.1).1)
          have HSK := hid (show ∀ W', Ext wr W' → W'.cell? ⟨w.heap.size, 0, none⟩ = some (.string k) ∧ W'.cell? ⟨w.heap.size, 1, none⟩ = some (.int .i64 n) ∧ W'.cell? ⟨w.heap.size, 2, none⟩ = some (.string x) ∧ W'.cell? ⟨w.heap.size, 3, none⟩ = some (.slice (some ⟨g, off, none⟩) ks.length c) ∧ W'.cell? ⟨g, off + j * 4, none⟩ = some (.string k') ∧ W'.cell? ⟨g, off + j * 4 + 1, none⟩ = some (.int .i64 n') ∧ W'.cell? ⟨g, off + j * 4 + 2, none⟩ = some (.string x') ∧ W'.cell? ⟨g, off + j * 4 + 3, none⟩ = some (.slice a' l' c') from fun W' Y => ⟨(Y.kp (fun _ => True)).cell t0 trivial, (Y.kp (fun _ => True)).cell t1 trivial, (Y.kp (fun _ => True)).cell t2 trivial, (Y.kp (fun _ => True)).cell t3 trivial, (Y.kp (fun _ => True)).cell m0 trivial, (Y.kp (fun _ => True)).cell m1 trivial, (Y.kp (fun _ => True)).cell m2 trivial, (Y.kp (fun _ => True)).cell m3 trivial⟩)
          obtain ⟨xs3, hs3⟩ := HSJ.out.1
          have HS3 := hid hs3
          have HNK := hid (show ∀ q, (Value.slice la3 n3 lc3).ownBlock = some q → ¬ K q from fun q hq hk => by
            rcases HSJ.out.2.2.2 with h | ⟨q', h, hq'⟩
            · rw [h] at hq; exact HLK.out q hq hk
            · rw [h] at hq; cases hq; have := HKL.out _ hk; omega)
          have HNB := hid (show some w.heap.size ≠ (Value.slice la3 n3 lc3).ownBlock from fun e => by
            rcases HSJ.out.2.2.2 with h | ⟨q', h, hq'⟩
            · rw [h] at e; have := HLT.out _ e.symm; omega
            · rw [h] at e; cases e; omega)
          have HG := hid hg
          have HSK9 := hid (show ∀ W', Kp (fun q => some q ≠ (Value.slice la3 n3 lc3).ownBlock) wr W' → W'.cell? ⟨w.heap.size, 0, none⟩ = some (.string k) ∧ W'.cell? ⟨w.heap.size, 1, none⟩ = some (.int .i64 n) ∧ W'.cell? ⟨w.heap.size, 2, none⟩ = some (.string x) ∧ W'.cell? ⟨w.heap.size, 3, none⟩ = some (.slice (some ⟨g, off, none⟩) ks.length c) ∧ W'.cell? ⟨g, off + j * 4, none⟩ = some (.string k') ∧ W'.cell? ⟨g, off + j * 4 + 1, none⟩ = some (.int .i64 n') ∧ W'.cell? ⟨g, off + j * 4 + 2, none⟩ = some (.string x') ∧ W'.cell? ⟨g, off + j * 4 + 3, none⟩ = some (.slice a' l' c') from fun W' Y => ⟨Y.cell t0 HNB.out, Y.cell t1 HNB.out, Y.cell t2 HNB.out, Y.cell t3 HNB.out, Y.cell m0 (fun e => HNK.out g e.symm HG.out), Y.cell m1 (fun e => HNK.out g e.symm HG.out), Y.cell m2 (fun e => HNK.out g e.symm HG.out), Y.cell m3 (fun e => HNK.out g e.symm HG.out)⟩)
          have HTK := hid (show ys ++ (p, T.node k n x ks) :: T.allL p 0 (ks.take (j + 1)) = (ys ++ (p, T.node k n x ks) :: T.allL p 0 (ks.take j)) ++ T.all (p ++ [(j : Int)]) ks[j] by rw [T.allL_take ks p j hlt, List.append_assoc, List.cons_append])
          have HSS := hid (show (ys ++ (p, T.node k n x ks) :: T.allL p 0 (ks.take j)).length + ks[j].size ≤ 4000 ∧ (p ++ [(j : Int)]).length + ks[j].height ≤ 4000 by
            have h1 := HSZ.out
            have h2 := T.sizeL_take ks j hlt
            have h3 := T.sizeL_split ks (j + 1)
            have h4 := T.heightL_mem (List.getElem_mem hlt)
            simp only [List.length_append, List.length_cons, T.allL_length, List.length_nil]
            omega)
          have HCALL := hid (show ∀ (a9 : Option Addr) (c9 : Nat) (w2 : World), Ext wr w2 → w2.ownsRow wr.heap.size 3 1 (.slice a9 (p.length + 1) c9) (p.length + 1) ((p ++ [(j : Int)]).map (Value.int .i64)) → Calls Try.prog 54 #[.slice la3 n3 lc3, .agg #[.string k', .int .i64 n', .string x', .slice a' l' c'], .slice a9 (p.length + 1) c9] w2 fun e w' => ∃ v' xs', e = .returned v' ∧ Steps w' base v' ((ys ++ (p, .node k n x ks) :: T.allL p 0 (ks.take j)) ++ T.all (p ++ [(j : Int)]) ks[j]) xs' ∧ Kp (fun q => some q ≠ (Value.slice la3 n3 lc3).ownBlock) w2 w' ∧ (v'.ownBlock = (Value.slice la3 n3 lc3).ownBlock ∨ ∃ q, v'.ownBlock = some q ∧ w2.heap.size ≤ q) from fun a9 c9 w2 Z2 ho2 => by
            have hlen : (p ++ [(j : Int)]).length = p.length + 1 := by simp
            have h := HIH.out (.agg #[.string k', .int .i64 n', .string x', .slice a' l' c']) ks[j] K w2 base (.slice la3 n3 lc3) (ys ++ (p, .node k n x ks) :: T.allL p 0 (ks.take j)) xs3 a9 c9 (p ++ [(j : Int)]) (HRK.out.later Z2) (HS3.out.later Z2) HNK.out (by have h1 := Z2.size; have h2 := HSJ.out.2.2.1.size; omega) (Ints.own rfl (by rw [hlen]; exact ho2)) (fun q hq e => by have h1 := (ho2.lt q (by rw [hlen] at hq; exact hq)).1; have h2 := (HS3.out.1.lt q e).2; omega) HSS.out.1 HSS.out.2
            rw [hlen] at h
            exact h)
          clear h4 hrd hg hs3
          go_wp2_with fail
          go_region_held3 (fun W' => W'.cell? ⟨w.heap.size, 0, none⟩ = some (.string k) ∧ W'.cell? ⟨w.heap.size, 1, none⟩ = some (.int .i64 n) ∧ W'.cell? ⟨w.heap.size, 2, none⟩ = some (.string x) ∧ W'.cell? ⟨w.heap.size, 3, none⟩ = some (.slice (some ⟨g, off, none⟩) ks.length c) ∧ W'.cell? ⟨g, off + j * 4, none⟩ = some (.string k') ∧ W'.cell? ⟨g, off + j * 4 + 1, none⟩ = some (.int .i64 n') ∧ W'.cell? ⟨g, off + j * 4 + 2, none⟩ = some (.string x') ∧ W'.cell? ⟨g, off + j * 4 + 3, none⟩ = some (.slice a' l' c'))
            (first | exact SK9 | (refine HSK.out _ ?_; (repeat (first | with_reducible exact Z2 | with_reducible exact Z1 | with_reducible exact Ext.refl _ | with_reducible refine Ext.drew ?_ | with_reducible refine Ext.more ?_ _)); done) | go_keep)
            (first
              | (refine step_append_ints _ (by rfl) _ (by rfl) (by rfl) pa p.length pc p (by rfl) (by omega) (HIR.out.later (by repeat (first | with_reducible exact Ext.refl _ | with_reducible refine Ext.drew ?_ | with_reducible refine Ext.more ?_ _))) ?_; intro a1 c1 w1 ho1 hx1; have Z1 : Ext wr w1 := Ext.trans (by repeat (first | with_reducible exact Ext.refl _ | with_reducible refine Ext.drew ?_ | with_reducible refine Ext.more ?_ _)) hx1; have ho1' := row_mono (base' := wr.heap.size) ho1 (by simp); (try have bB : w1.heap[wr.heap.size]? = some (.cells #[.int .i64 j] 3) := hx1.block (blk0 _ _)))
              | (refine step_append_snoc _ (by rfl) _ _ (by rfl) (by rfl) wr.heap.size a1 p.length c1 p _ (j : Int) (by rfl) (by rfl) rfl (by omega) (Below.size (show Ext wr _ from (by repeat (first | with_reducible exact Z1 | with_reducible refine Ext.drew ?_ | with_reducible refine Ext.more ?_ _)))) (row_ext ho1' (by repeat (first | with_reducible exact Ext.refl _ | with_reducible refine Ext.drew ?_ | with_reducible refine Ext.more ?_ _))) (by first | exact cell_of (blk0 w1 _) rfl | exact cell_of (blkOld _ bB) rfl | exact cell_of bB rfl) ?_; intro a9 c9 w2 ho2 hg2; have Z2 : Ext wr w2 := Below.grown (show Ext wr _ from (by repeat (first | with_reducible exact Z1 | with_reducible refine Ext.drew ?_ | with_reducible refine Ext.more ?_ _))) hg2 (Below.size (show Ext wr _ from (by repeat (first | with_reducible exact Z1 | with_reducible refine Ext.drew ?_ | with_reducible refine Ext.more ?_ _)))) (fun q hq => (ho1'.lt q hq).1); simp only [List.length_append, List.length_cons, List.length_nil, Nat.zero_add] at ho2)
              | (go_at_call 54; refine (HCALL.out a9 c9 _ (by repeat (first | with_reducible exact Z2 | with_reducible refine Ext.drew ?_ | with_reducible refine Ext.more ?_ _)) (row_ext ho2 (by repeat (first | with_reducible exact Ext.refl _ | with_reducible refine Ext.drew ?_ | with_reducible refine Ext.more ?_ _)))).mono ?_; rintro e w3 ⟨v3, xs4, rfl, hst3, hk3, ho3⟩; obtain ⟨a8, n8, c8, rfl⟩ := row5_any hst3.1; have KK : Kp (fun q => some q ≠ (Value.slice la3 n3 lc3).ownBlock) wr w3 := (Ext.kp (show Ext wr _ from (by repeat (first | with_reducible exact Z2 | with_reducible refine Ext.drew ?_ | with_reducible refine Ext.more ?_ _))) _).trans hk3; have SK9 := HSK9.out w3 KK; have hz2 := Z2.size))
          all_goals
            go_wp2_with fail
            go_roundw
            case rel =>
              refine ⟨j + 1, a8, n8, c8, hlt, by go_num, rfl, ⟨xs4, by rw [HTK.out]; exact hst3⟩, KK.block' HSJ.out.2.1 HNB.out, HSJ.out.2.2.1.chain KK (fun q hq hne e => ?_), ?_⟩
              · rcases HSJ.out.2.2.2 with h | ⟨q', h, hq'⟩
                · rw [h] at e; exact hne e
                · rw [h] at e; cases e; omega
              · rcases ho3 with h | ⟨q', h, hq'⟩
                · rw [h]; exact HSJ.out.2.2.2
                · exact .inr ⟨q', h, by have h2 := lt_of_block HSJ.out.2.1; first | omega | (simp at hq'; omega)⟩
            case measure => simp [intOf]; omega
        · have hje : j = ks.length := by omega
          have HR := hid (show ys ++ (p, T.node k n x ks) :: T.allL p 0 (ks.take j) = ys ++ T.all p (.node k n x ks) by rw [hje, List.take_length]; rfl)
          clear hje
          go_wp2_with fail
          go_ret
          obtain ⟨⟨xs3, hs3⟩, _, hk3, ho3⟩ := HSJ.out
          rw [HR.out] at hs3
          refine ⟨_, xs3, rfl, hs3, hk3, ?_⟩
          rcases ho3 with h | ⟨q', h, hq'⟩
          · exact .inl h
          · exact .inr ⟨q', h, by omega⟩
end Go.Proofs.Ythdmoghooaccgaa
