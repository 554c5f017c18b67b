/-
  The closure that goes over the nodes of a tree: called with whatever loop's yield it hands it each node with its path.
-/
import Derived.Test.YthdmoghooaccgaaPathAid
import Derived.RangeFuncRecord
import Derived.RangeFuncSeq
import Derived.TacticsIn
import Derived.BigFrameIn
import Derived.LoopIn
import Derived.LoopNIn
import Derived.OwnWalkIn
import Derived.TacticsInMore
import Derived.Deep.RegionWith
namespace Go.Proofs.Ythdmoghooaccgaa
open Go.RowKit
/-- What a loop's round answers to the i-th node: it goes on, its memory being M' now, or it leaves. -/
def YieldR (J : (Nat → Prop) → Nat → World → Prop) (Jx : (Nat → Prop) → World → Prop) (M : Nat → Prop) (i : Nat) (W : World) (e : Ending) (W' : World) : Prop :=
  Kp (fun k => ¬ M k) W W' ∧ ((e = .returned (.bool true) ∧ ∃ M', J M' (i + 1) W' ∧ (∀ k, M' k → M k ∨ W.heap.size ≤ k)) ∨ (e = .returned (.bool false) ∧ ∃ M', Jx M' W' ∧ (∀ k, M' k → M k ∨ W.heap.size ≤ k)))
/-- What is asked of a loop's rounds. -/
def YieldOk (l : Nat) (L : List (List Int × T)) (J : (Nat → Prop) → Nat → World → Prop) (Jx : (Nat → Prop) → World → Prop) (n0 : Nat) : Prop :=
  ∀ (M : Nat → Prop) (i : Nat) (W : World) (pv tv : Value) (p : List Int) (u : T) (d : Nat), J M i W → L[i]? = some (p, u) → Ints W pv p → (∀ b, pv.ownBlock = some b → ¬ M b) → Rd (fun k => k < n0 ∧ ¬ M k) W d tv u →
    YieldAt Fence.wide 0 Try.prog l #[pv, tv] W (YieldR J Jx M i W)
/-- What visit answers. -/
def VisitR (J : (Nat → Prop) → Nat → World → Prop) (Jx : (Nat → Prop) → World → Prop) (n0 : Nat) (M : Nat → Prop) (i : Nat) (pv : Value) (p : List Int) (W : World) (e : Ending) (W' : World) : Prop :=
  ∃ o, e = .returned (.bool o) ∧ Kp (fun k => ¬ M k ∧ some k ≠ pv.ownBlock) W W' ∧ ((o = true ∧ ∃ M', J M' i W' ∧ (∀ k, M' k → M k ∨ W.heap.size ≤ k) ∧ PathW W' n0 pv p) ∨ (o = false ∧ ∃ M', Jx M' W' ∧ (∀ k, M' k → M k ∨ W.heap.size ≤ k)))
theorem own_len (a : Option Addr) (n n' c : Nat) : (Value.slice a n c).ownBlock = (Value.slice a n' c).ownBlock := by cases a <;> rfl
abbrev visitF (yb vb : Nat) : Value := .func (.func 64) #[] #[.pointer (some ⟨yb, 0, none⟩), .pointer (some ⟨vb, 0, none⟩)]
set_option maxRecDepth 100000 in
set_option maxHeartbeats 4000000 in
theorem visit (l n0 yb vb : Nat) (L : List (List Int × T)) (J : (Nat → Prop) → Nat → World → Prop) (Jx : (Nat → Prop) → World → Prop)
    (hlt : ∀ M i W, J M i W → ∀ k, M k → k < W.heap.size) (hst : ∀ M i W W', J M i W → Kp (fun k => k < n0 ∨ M k) W W' → J M i W') (hY : YieldOk l L J Jx n0) :
    ∀ (d : Nat) (v : Value) (t : T) (M : Nat → Prop) (W : World) (i : Nat) (pv : Value) (p : List Int), Rd (fun k => k < n0 ∧ ¬ M k) W d v t → PathW W n0 pv p → (∀ b, pv.ownBlock = some b → ¬ M b) → p.length + t.height ≤ 65 → J M i W →
      (∀ j x, (T.all p t)[j]? = some x → L[i + j]? = some x) → W.heap[yb]? = some (.cells #[.func (.yield l) #[] #[]] 75) → W.heap[vb]? = some (.cells #[visitF yb vb] 75) → n0 ≤ yb → n0 ≤ vb → ¬ M yb → ¬ M vb → n0 ≤ W.heap.size →
      CallsIn Fence.wide 0 Try.prog 64 #[pv, v, .pointer (some ⟨yb, 0, none⟩), .pointer (some ⟨vb, 0, none⟩)] W (VisitR J Jx n0 M (i + t.size) pv p W) := by
  intro d
  induction d with
  | zero => intro v t M W i pv p h; exact h.elim
  | succ d ih =>
    intro v t M W i pv p hr hp hpm hh hJ hall hyb hvb hny hnv hmy hmv hn0
    obtain ⟨a, c, rfl⟩ := hp.shape
    obtain ⟨k, n, x, ks⟩ := t
    obtain ⟨ka, kc, rfl, hL⟩ := hr.kidsL
    have HIH := hid ih
    have HST := hid hst
    have HLT := hid hlt
    have HJ := hid hJ
    have HP := hid hp
    have HPM := hid hpm
    have HL := hid hL
    have HALL := hid hall
    have HYB := hid hyb
    have HVB := hid hvb
    have HM := hid (And.intro hmy hmv)
    have HN := hid (And.intro hny (And.intro hnv hn0))
    have HH := hid hh
    have hl1 : (ks.length : Int) ≤ 140737488355328 := by have := hL.1; omega
    have hyield := hY M i (W.alloc (.cells #[.string k, .int .i64 n, .string x, .slice ka ks.length kc] 26)) (.slice a p.length c) (.agg #[.string k, .int .i64 n, .string x, .slice ka ks.length kc]) p (.node k n x ks) (d + 1)
      (hst _ _ _ _ hJ ((Ext.alloc W _).kp _)) (by have := hall 0 (p, .node k n x ks) (by simp [T.all]); simpa using this) (hp.ints.later (Ext.alloc _ _)) hpm (hr.later (Ext.alloc _ _))
    obtain ⟨fn, tmps, assign, body, hy, hR⟩ := hyield
    have c0 := cell_of (i := 0) hyb rfl
    simp only [List.getElem_toArray, List.getElem_cons_zero] at c0
    have hylt := lt_of_block hyb
    clear ih hst hlt hJ hp hpm hL hall hyb hvb hmy hmv hny hnv hn0 hh hr hY
    refine callsIn_of_wp Try.func64 rfl trivial ?_ rfl
    simp only [Try.ntmps64, List.size_toArray, List.length_cons, List.length_nil, Nat.reduceAdd, Nat.reduceSub, Array.replicate_succ, Array.replicate_zero, List.push_toArray, List.append_toArray, List.nil_append, List.cons_append]
    gi_wp2
    refine ⟨rfl, hR.mono ?_⟩
    clear hR hy c0
    rintro e W2 ⟨hk1, (⟨rfl, M1, hJ1, hM1⟩ | ⟨rfl, M1, hjx, hM1⟩)⟩
    · have hbox : ¬ M W.heap.size := fun h => Nat.lt_irrefl _ (HLT.out _ _ _ HJ.out _ h)
      have e3 := cell_of (i := 3) (hk1.block' (blk0 W _) hbox) rfl
      simp only [List.getElem_toArray, List.getElem_cons_zero, List.getElem_cons_succ] at e3
      have HJ1 := hid hJ1
      have HM1 := hid (show ∀ k, M1 k → M k ∨ W.heap.size ≤ k from fun k hk => (hM1 k hk).imp id (fun h => by simp at h; omega))
      have HK1 := hid (show Kp (fun k => ¬ M k) W W2 from ((Ext.alloc W _).kp _).trans hk1)
      clear hJ1 hM1 hk1
      gi_wp2
      refine wpIn_wide.2 ?_
      clear e3
      go_loopw [17] (fun s17 wr => ∃ (j : Nat) (M' : Nat → Prop), j ≤ ks.length ∧ s17 = .int .i64 j ∧ J M' (i + 1 + T.sizeL (ks.take j)) wr ∧ (∀ k, M' k → M k ∨ W.heap.size ≤ k) ∧ Kp (fun k => ¬ M k ∧ some k ≠ (Value.slice a p.length c).ownBlock) W wr ∧ PathW wr n0 (.slice a p.length c) p ∧ (∀ b, (Value.slice a p.length c).ownBlock = some b → ¬ M' b)) (fun s17 _ => ks.length - (intOf s17).toNat)
      case atStart => exact ⟨0, M1, Nat.zero_le _, rfl, by simpa [T.sizeL] using HJ1.out, HM1.out, HK1.out.mono (fun k _ h => h.1), HP.out.keep HK1.out HPM.out, fun b hb hm => by
          rcases HM1.out b hm with h | h
          · exact HPM.out b hb h
          · obtain ⟨_, cur, hc⟩ := HP.out.block hb
            have := lt_of_block hc
            omega⟩
      case round =>
        obtain ⟨j, M', hj, rfl, hJ', hM', hk', hp', hpm'⟩ := hrel
        have HJ' := hid hJ'
        have HM' := hid hM'
        have HK' := hid hk'
        have HP' := hid hp'
        have HPM' := hid hpm'
        clear hJ' hM' hk' hp' hpm'
        by_cases hlt : j < ks.length
        · have hlt' : (j : Int) < ks.length := by omega
          obtain ⟨g, off, k', n', x', b', l', cc', rfl, hg, h4, hrd⟩ := HL.out.kid hlt
          have hsub : ∀ q, q < W.heap.size → q < n0 ∧ ¬ M q → ¬ M q ∧ some q ≠ (Value.slice a p.length c).ownBlock := fun q _ hq => ⟨hq.2, fun e => by have := (HP.out.block e.symm).1; omega⟩
          obtain ⟨m0, m1, m2, m3⟩ := h4.keep (HK'.out.mono hsub) hg
          have HR := hid (hrd.keep (HK'.out.mono hsub))
          clear h4 hrd
          go_wp2_with fail
          have hpb : ∀ b, (Value.slice a p.length c).ownBlock = some b → b < wr.heap.size := fun b hb => by obtain ⟨_, cur, hc⟩ := HP'.out.block hb; exact lt_of_block hc
          have hne : ∀ {b o}, W.heap[b]? = some (.cells o 75) → some b ≠ (Value.slice a p.length c).ownBlock := fun hb e => by
            obtain ⟨_, cur, hc⟩ := HP.out.block e.symm
            rw [hc] at hb
            injection hb with hb
            injection hb with _ h2
            revert h2
            decide
          have hvw : wr.heap[vb]? = some (.cells #[visitF yb vb] 75) := HK'.out.block' HVB.out ⟨HM.out.2, hne HVB.out⟩
          have hyw : wr.heap[yb]? = some (.cells #[.func (.yield l) #[] #[]] 75) := HK'.out.block' HYB.out ⟨HM.out.1, hne HYB.out⟩
          have HNE := hid (And.intro (hne HVB.out) (hne HYB.out))
          have HVW := hid hvw
          have HYW := hid hyw
          have hsz : W.heap.size ≤ wr.heap.size := HK'.out.size
          have HPB := hid hpb
          obtain ⟨V, hV⟩ : ∃ V, wr.alloc (.cells #[.string k', .int .i64 n', .string x', .slice b' l' cc'] 26) = V := ⟨_, rfl⟩
          have HXV := hid (show Ext wr V from hV ▸ Ext.alloc _ _)
          have hbx : V.heap[wr.heap.size]? = some (.cells #[.string k', .int .i64 n', .string x', .slice b' l' cc'] 26) := hV ▸ blk0 wr _
          have q0 := cell_of (i := 0) hbx rfl
          have q1 := cell_of (i := 1) hbx rfl
          have q2 := cell_of (i := 2) hbx rfl
          have q3 := cell_of (i := 3) hbx rfl
          have q4 := cell_of (i := 0) (HXV.out.block hvw) rfl
          simp only [List.getElem_toArray, List.getElem_cons_zero, List.getElem_cons_succ] at q0 q1 q2 q3 q4
          have HPV := hid (show PathW V n0 (.slice a p.length c) p from HP'.out.keep (HXV.out.kp (fun _ => True)) (fun _ _ => trivial))
          have hnV : n0 ≤ V.heap.size := Nat.le_trans HN.out.2.2 (Nat.le_trans hsz HXV.out.size)
          have hVs : wr.heap.size < V.heap.size := by rw [← hV]; simp
          rw [hV]
          have hkl : p.length + (1 + T.height ks[j]) ≤ 65 := by
            have h1 := HH.out
            have h2 := T.heightL_mem (List.getElem_mem hlt)
            simp only [T.height] at h1
            omega
          have HC := hid (show ∀ (wx : World) (a' : Option Addr) (c' : Nat), Kp (fun b => some b ≠ (Value.slice a p.length c).ownBlock) wr wx → PathW wx n0 (.slice a' (p.length + 1) c') (p ++ [(j : Int)]) → (∀ b, (Value.slice a' (p.length + 1) c').ownBlock = some b → ¬ M' b) →
              Calls Try.prog 64 #[.slice a' (p.length + 1) c', .agg #[.string k', .int .i64 n', .string x', .slice b' l' cc'], .pointer (some ⟨yb, 0, none⟩), .pointer (some ⟨vb, 0, none⟩)] wx (VisitR J Jx n0 M' (i + 1 + T.sizeL (ks.take j) + ks[j].size) (.slice a' (p.length + 1) c') (p ++ [(j : Int)]) wx) from fun wx a' c' hkx hpx hmx => by
            refine callsIn_wide.1 (HIH.out _ ks[j] M' wx (i + 1 + T.sizeL (ks.take j)) _ (p ++ [(j : Int)]) ?_ hpx hmx (by rw [List.length_append]; simp; omega) ?_ ?_ (hkx.block' HYW.out HNE.out.2) (hkx.block' HVW.out HNE.out.1) HN.out.1 HN.out.2.1 ?_ ?_ (Nat.le_trans HN.out.2.2 (Nat.le_trans hsz hkx.size)))
            · refine ((HR.out.mono (fun q hq hh => (⟨hh.1, fun hm => ?_⟩ : q < n0 ∧ ¬ M' q))).keep (hkx.mono (fun q _ hq e => ?_)))
              · rcases HM'.out q hm with h | h
                · exact hh.2 h
                · have := HN.out.2.2; omega
              · have := (HP.out.block e.symm).1; have := hq.1; omega
            · exact HST.out _ _ _ _ HJ'.out (hkx.mono (fun q _ hq e => by
                rcases hq with h | h
                · have := (HP.out.block e.symm).1; omega
                · exact HPM'.out q e.symm h))
            · intro m y hy
              have hA : (T.all p (.node k n x ks))[1 + T.sizeL (ks.take j) + m]? = some y := by
                simp only [T.all]
                rw [show 1 + T.sizeL (ks.take j) + m = (T.sizeL (ks.take j) + m) + 1 by omega, List.getElem?_cons_succ]
                have e := T.allL_append (ks.take (j + 1)) (ks.drop (j + 1)) p 0
                rw [List.take_append_drop] at e
                have hm : m < T.size ks[j] := by
                  have := (List.getElem?_eq_some_iff.1 hy).1
                  rwa [T.all_length] at this
                rw [e, List.getElem?_append_left (by rw [T.allL_length, T.sizeL_take ks j hlt]; omega), T.allL_take ks p j hlt, List.getElem?_append_right (by rw [T.allL_length]; omega), T.allL_length, show T.sizeL (ks.take j) + m - T.sizeL (ks.take j) = m by omega]
                exact hy
              have := HALL.out _ _ hA
              rw [show i + 1 + T.sizeL (ks.take j) + m = i + (1 + T.sizeL (ks.take j) + m) by omega]
              exact this
            · intro h
              rcases HM'.out _ h with h | h
              · exact HM.out.1 h
              · have := lt_of_block HYB.out; omega
            · intro h
              rcases HM'.out _ h with h | h
              · exact HM.out.2 h
              · have := lt_of_block HVB.out; omega)
          have HVNE := hid (show some vb ≠ (Value.slice a p.length c).ownBlock from hne HVB.out)
          have HWNE := hid (show some wr.heap.size ≠ (Value.slice a p.length c).ownBlock from fun e => Nat.lt_irrefl _ (hpb _ e.symm))
          clear hvw hyw hne hpb hbx m0 m1 m2 m3
          have hbl2 : ∀ (w3 : World) (a9 : Option Addr) (c9 : Nat) (w1 : World), ((a9 = a ∧ c9 = c) ∨ (PathW w1 n0 (.slice a p.length c) p ∧ ∀ b, (Value.slice a9 (p.length + 1) c9).ownBlock = some b → V.heap.size ≤ b)) → Kp (fun b => some b ≠ (Value.slice a p.length c).ownBlock) V w1 → Kp (fun q => ¬ M' q ∧ some q ≠ (Value.slice a9 (p.length + 1) c9).ownBlock) w1 w3 →
              w3.cell? ⟨wr.heap.size, 0, none⟩ = some (.string k') ∧ w3.cell? ⟨wr.heap.size, 1, none⟩ = some (.int .i64 n') ∧ w3.cell? ⟨wr.heap.size, 2, none⟩ = some (.string x') ∧ w3.cell? ⟨wr.heap.size, 3, none⟩ = some (.slice b' l' cc') ∧ w3.cell? ⟨vb, 0, none⟩ = some (visitF yb vb) := fun w3 a9 c9 w1 hPB hZ1 hk3 => by
            have hbl : ∀ q, q < V.heap.size → some q ≠ (Value.slice a p.length c).ownBlock → some q ≠ (Value.slice a9 (p.length + 1) c9).ownBlock := fun q hq hne e => by
              rcases hPB with h | h
              · rw [h.1, h.2, own_len a _ p.length c] at e; exact hne e
              · have := h.2 q e.symm; omega
            have hmm : ¬ M' wr.heap.size := fun h => Nat.lt_irrefl _ (HLT.out _ _ _ HJ'.out _ h)
            have hmv : ¬ M' vb := fun h => by
              rcases HM'.out _ h with h | h
              · exact HM.out.2 h
              · have := lt_of_block HVB.out; omega
            have h1 : ¬ M' wr.heap.size ∧ some wr.heap.size ≠ (Value.slice a9 (p.length + 1) c9).ownBlock := ⟨hmm, hbl _ hVs HWNE.out⟩
            have h2 : ¬ M' vb ∧ some vb ≠ (Value.slice a9 (p.length + 1) c9).ownBlock := ⟨hmv, hbl _ (lt_of_cell q4) HVNE.out⟩
            exact ⟨hk3.cell (hZ1.cell q0 HWNE.out) h1, hk3.cell (hZ1.cell q1 HWNE.out) h1, hk3.cell (hZ1.cell q2 HWNE.out) h1, hk3.cell (hZ1.cell q3 HWNE.out) h1, hk3.cell (hZ1.cell q4 HVNE.out) h2⟩
          go_region_held3 (fun w' => w'.cell? ⟨vb, 0, none⟩ = some (visitF yb vb) ∧ w'.cell? ⟨wr.heap.size, 0, none⟩ = some (.string k') ∧ w'.cell? ⟨wr.heap.size, 1, none⟩ = some (.int .i64 n') ∧ w'.cell? ⟨wr.heap.size, 2, none⟩ = some (.string x') ∧ w'.cell? ⟨wr.heap.size, 3, none⟩ = some (.slice b' l' cc')) (first | exact ⟨z4, z0, z1, z2, z3⟩ | exact ⟨r4, r0, r1, r2, r3⟩ | exact ⟨q4, q0, q1, q2, q3⟩ | go_keep) (first
            | (refine step_append_path _ (by rfl) _ _ (by rfl) (by rfl) n0 a p.length c p _ (j : Int) (by rfl) (by rfl) rfl (by omega) (Nat.le_trans hnV (Below.size (show Ext V _ from (by repeat (first | with_reducible exact Ext.refl _ | with_reducible refine Ext.drew ?_ | with_reducible refine Ext.more ?_ _))))) (HPV.out.keep ((show Ext V _ from (by repeat (first | with_reducible exact Ext.refl _ | with_reducible refine Ext.drew ?_ | with_reducible refine Ext.more ?_ _))).kp (fun _ => True)) (fun _ _ => trivial)) (by first | exact cell_of (blk0 V _) rfl | exact cell_of (blkOld _ (blk0 V _)) rfl) ?_; intro a9 c9 w1 hp9 hca; have Z1 : Kp (fun b => some b ≠ (Value.slice a p.length c).ownBlock) V w1 := (hca.elim (fun h => ((show Ext V _ from (by repeat (first | with_reducible exact Ext.refl _ | with_reducible refine Ext.drew ?_ | with_reducible refine Ext.more ?_ _))).kp _).trans h.2.2) (fun h => ((Ext.trans (show Ext V _ from (by repeat (first | with_reducible exact Ext.refl _ | with_reducible refine Ext.drew ?_ | with_reducible refine Ext.more ?_ _))) h.2).kp _))); have PB : (a9 = a ∧ c9 = c) ∨ (PathW w1 n0 (.slice a p.length c) p ∧ ∀ b, (Value.slice a9 (p.length + 1) c9).ownBlock = some b → V.heap.size ≤ b) := (hca.imp (fun h => ⟨h.1, h.2.1⟩) (fun h => ⟨HPV.out.keep ((Ext.trans (show Ext V _ from (by repeat (first | with_reducible exact Ext.refl _ | with_reducible refine Ext.drew ?_ | with_reducible refine Ext.more ?_ _))) h.2).kp (fun _ => True)) (fun _ _ => trivial), fun b hb => (by rw [h.1] at hb; cases hb; exact Below.size (show Ext V _ from (by repeat (first | with_reducible exact Ext.refl _ | with_reducible refine Ext.drew ?_ | with_reducible refine Ext.more ?_ _))))⟩)); have r0 := Z1.cell q0 HWNE.out; have r1 := Z1.cell q1 HWNE.out; have r2 := Z1.cell q2 HWNE.out; have r3 := Z1.cell q3 HWNE.out; have r4 := Z1.cell q4 HVNE.out)
            | (go_at_call 64; have PM : (∀ b, (Value.slice a9 (p.length + 1) c9).ownBlock = some b → ¬ M' b) := (fun b hb hm => (PB.elim (fun h => HPM'.out b (by rw [h.1, h.2, own_len a _ p.length c] at hb; exact hb) hm) (fun h => by have h1 := h.2 b hb; have h2 := HLT.out _ _ _ HJ'.out b hm; omega))); first | (refine (HC.out w1 a9 c9 ((HXV.out.kp _).trans Z1) hp9 PM).mono ?_; rintro r w3 ⟨o, rfl, hk3, hv⟩; have S3 := hbl2 w3 a9 c9 w1 PB Z1 hk3; obtain ⟨z0, z1, z2, z3, z4⟩ := S3) | (refine (HC.out w1.drew a9 c9 ((HXV.out.kp _).trans Z1.drew) (hp9.keep ((Ext.refl w1).drew.kp (fun _ => True)) (fun _ _ => trivial)) PM).mono ?_; rintro r w3 ⟨o, rfl, hk3, hv⟩; have S3 := hbl2 w3 a9 c9 w1 PB Z1 hk3; obtain ⟨z0, z1, z2, z3, z4⟩ := S3)))
          all_goals
            have HV3 := hid hv
            have HZ1 := hid Z1
            have HPBB := hid PB
            have HK3 := hid hk3
            clear hk3 z0 z1 z2 z3 z4
            clear hv Z1 PB r0 r1 r2 r3 r4 q0 q1 q2 q3 q4 hp9 hca
            have hk3 := HK3.out
            have hw1 : wr.heap.size ≤ w1.heap.size := Nat.le_trans HXV.out.size HZ1.out.size
            have hbl : ∀ q, q < wr.heap.size → some q ≠ (Value.slice a p.length c).ownBlock → some q ≠ (Value.slice a9 (p.length + 1) c9).ownBlock := fun q hq hne e => by
              rcases HPBB.out with h | h
              · rw [h.1, h.2, own_len a _ p.length c] at e; exact hne e
              · have := h.2 q e.symm; omega
            have hKW : Kp (fun q => ¬ M q ∧ some q ≠ (Value.slice a p.length c).ownBlock) W w3 := by
              have h1 : Kp (fun q => q < W.heap.size ∧ ¬ M q ∧ some q ≠ (Value.slice a p.length c).ownBlock) wr w1 := ((HXV.out.kp (fun b => some b ≠ (Value.slice a p.length c).ownBlock)).trans HZ1.out).mono (fun q _ hq => hq.2.2)
              have h2 : Kp (fun q => q < W.heap.size ∧ ¬ M q ∧ some q ≠ (Value.slice a p.length c).ownBlock) w1 w3 := by
                refine hk3.mono (fun q hq hh => ⟨fun hm => ?_, hbl q (by omega) hh.2.2⟩)
                rcases HM'.out q hm with h | h
                · exact hh.2.1 h
                · omega
              exact ((HK'.out.mono (fun q _ hq => hq.2)).trans (h1.trans h2)).mono (fun q hq hh => ⟨hq, hh⟩)
            have HKX := hid hKW
            have HW1 := hid hw1
            clear hKW hbl hk3 hw1
            rcases HV3.out with ⟨rfl, M3, hJ3, hM3, hp3⟩ | ⟨rfl, M3, hjx, hM3⟩
            · have hk3 := HK3.out
              have hw1 := HW1.out
              have HKW := HKX
              have HJ3 := hid (show J M3 (i + 1 + T.sizeL (ks.take (j + 1))) w3 by rw [T.sizeL_take ks j hlt, ← Nat.add_assoc]; exact hJ3)
              have HM3 := hid (show ∀ q, M3 q → M q ∨ W.heap.size ≤ q from fun q hq => (hM3 q hq).elim (fun h => HM'.out q h) (fun h => .inr (by omega)))
              have HP3 := hid (show PathW w3 n0 (.slice a p.length c) p by
                rcases HPBB.out with h | h
                · obtain ⟨rfl, rfl⟩ := h; exact hp3.shrink
                · refine h.1.keep hk3 (fun b hb => ⟨HPM'.out b hb, fun e => ?_⟩)
                  have h1 := h.2 b e.symm
                  have h2 := HPB.out b hb
                  omega)
              have HPM3 := hid (show ∀ b, (Value.slice a p.length c).ownBlock = some b → ¬ M3 b from fun b hb hm => by
                rcases hM3 b hm with h | h
                · exact HPM'.out b hb h
                · have h2 := HPB.out b hb
                  omega)
              clear hJ3 hM3 hk3 hp3 hw1
              go_wp2_with fail
              go_roundw
              case rel =>
                have REL : ∃ (j' : Nat) (M' : Nat → Prop), j' ≤ ks.length ∧ Value.int .i64 ((j : Int) + 1) = .int .i64 j' ∧ J M' (i + 1 + T.sizeL (ks.take j')) w3 ∧ (∀ k, M' k → M k ∨ W.heap.size ≤ k) ∧ Kp (fun k => ¬ M k ∧ some k ≠ (Value.slice a p.length c).ownBlock) W w3 ∧ PathW w3 n0 (.slice a p.length c) p ∧ (∀ b, (Value.slice a p.length c).ownBlock = some b → ¬ M' b) :=
                  ⟨j + 1, M3, hlt, by go_num, HJ3.out, HM3.out, HKW.out, HP3.out, HPM3.out⟩
                first | exact REL | ((repeat apply Exists.intro); exact ⟨REL, rfl⟩)
              case measure => simp [intOf]; omega
            · go_wp2_with fail
              gi_wp2
              go_ret
              exact ⟨false, rfl, HKX.out, .inr ⟨rfl, M3, hjx, fun q hq => (hM3 q hq).elim (fun h => HM'.out q h) (fun h => .inr (by have := HW1.out; omega))⟩⟩
        · have hje : j = ks.length := by omega
          have HJE := hid (show J M' (i + T.size (.node k n x ks)) wr by
            have h := HJ'.out
            rw [hje, List.take_length] at h
            simp only [T.size]
            rw [← Nat.add_assoc]
            exact h)
          go_wp2_with fail
          gi_wp2
          go_ret
          exact ⟨true, rfl, HK'.out, .inl ⟨rfl, M', HJE.out, HM'.out, HP'.out⟩⟩
    · gi_wp2
      go_ret
      exact ⟨false, rfl, (((Ext.alloc W _).kp _).trans hk1).mono (fun q _ hq => hq.1), .inr ⟨rfl, M1, hjx, fun q hq => (hM1 q hq).imp id (fun h => by simp at h; omega)⟩⟩
end Go.Proofs.Ythdmoghooaccgaa
