/-
  'for p, t := range s { .. }' within the round of such a loop: the law of RangeM there.
-/
import Derived.Test.YthdmoghooaccgaaRangeM
import Derived.RangeFuncNested
import Derived.OrdersIn
import Derived.Deep.RegionHeld3
namespace Go.Proofs.Ythdmoghooaccgaa
open Go.RowKit Go.Shelf
set_option maxHeartbeats 2000000 in
theorem rangeN {l0 : Nat} {r0 : Loop} {g : Operand} {ps : Array Tmp} {assign body : Code} {Q : Exit → Act → World → Prop} {a : Act} {w : World} {gf : Nat} {lb : Array Value} (hl0 : w.heap[l0]? = some (.loop r0)) (hg : a.eval g = .func (.func gf) #[] lb) (eg : ∀ args w, (callFunc gf args).run Try.prog w = .ok (.enter gf args) w)
    (N : Nat) (M0 : Nat → Prop) (X : (Nat → Prop) → Nat → World → Array Value → (Nat → Prop) → Prop) (hit : IterOk gf lb N M0 w X)
    (hps : ∀ {M i W args E}, X M i W args E → args.size = ps.size) (hXm : ∀ {M M' i W args E}, X M i W args E → (∀ k, M' k → M k) → X M' i W args E) (hXE : ∀ {M i W args E}, X M i W args E → ∀ k, E k → ¬ M k ∧ k < W.heap.size ∧ w.heap.size ≤ k)
    (I : (Nat → Prop) → Nat → World → Prop) (Ix : Code → (Nat → Prop) → World → Prop)
    (hIlt : ∀ M i W, I M i W → ∀ k, M k → k < W.heap.size) (hIst : ∀ M i W W', I M i W → Kp (fun k => k < w.heap.size ∨ M k) W W' → I M i W')
    (hIxlt : ∀ c M W, Ix c M W → ∀ k, M k → k < W.heap.size) (hIxst : ∀ c M W W', Ix c M W → Kp (fun k => k < w.heap.size ∨ M k) W W' → Ix c M W') (h0 : I M0 0 w)
    (hround : ∀ (l : Nat) (M : Nat → Prop) (i : Nat) (W : World) (args : Array Value) (E : Nat → Prop), w.heap.size ≤ l → (∃ r, W.heap[l]? = some (.loop r)) → ¬ M l → ¬ E l → i < N → I M i W → X M i W args E → Kp (fun k => ¬ M0 k) w W → (∀ k, M k → M0 k ∨ w.heap.size ≤ k) →
      assign.wpIn (Fence.wide.inRound l) 0 Try.prog (Exit.then (fun a₁ W₁ => Ext W W₁ ∧ ∀ W₂, Kp (· ≠ l) W₁ W₂ → (∃ r, W₂.heap[l]? = some (.loop r)) → body.wpIn (Fence.wide.inRound l) 0 Try.prog (bodyR I Ix M E i W W₂) a₁ W₂) (fun _ _ _ => False))
        { tmps := (ps.zip args).foldl (fun t (p, v) => t.setIfInBounds p v) a.tmps, defers := [] } W)
    (hdone : ∀ (W : World) (M' : Nat → Prop), I M' N W → (∀ k, M' k → M0 k ∨ w.heap.size ≤ k) → Kp (fun k => ¬ M0 k) w W → Q .normal a W)
    (hstop : ∀ (W : World) (c : Code) (M' : Nat → Prop), Ix c M' W → (∀ k, M' k → M0 k ∨ w.heap.size ≤ k) → Kp (fun k => ¬ M0 k) w W → c.wpIn (Fence.wide.inRound l0) 0 Try.prog Q a W) :
    (Code.rangeFunc g ps assign body).wpIn (Fence.wide.inRound l0) 0 Try.prog Q a w := by
  refine wpIn_rangeFunc ?_
  intro fn hfn
  have hro : (Fence.wide.inRound l0).round = some l0 := rfl
  rw [hro]
  obtain ⟨rec, hrec⟩ : ∃ rec : LoopState → Option Code → Loop, rec = fun st pe => { state := st, pending := pe, fn, tmps := a.tmps, params := ps, assign, body, defers := r0.defers } := ⟨_, rfl⟩
  obtain ⟨W1, hW1⟩ : ∃ W1, w.alloc (.loop (rec .ready none)) = W1 := ⟨_, rfl⟩
  have hL1 : W1.heap[w.heap.size]? = some (.loop (rec .ready none)) := by rw [← hW1]; exact blk0 _ _
  have hx1 : Ext w W1 := by rw [← hW1]; exact Ext.alloc _ _
  have hnl : ∀ q, w.heap.size ≤ q → ¬ M0 q := fun q hq h => by have := hIlt _ _ _ h0 q h; omega
  refine ⟨w.heap.size, [], W1, { target := .fn (.func gf) lb, args := #[.func (.yield w.heap.size) #[] #[]] }, W1, gf,
    #[.func (.yield w.heap.size) #[] #[]] ++ lb, W1, ?_, ?_, ?_, ?_, fun h => by simp [Fence.wide] at h, ?_⟩
  · rw [← hW1, hrec]; exact run_enterLoop_inner hl0 _ _ _ _ _
  · simp only [resolve, hg]
    simp [go_sem]
  · intro f' _; exact trivial
  · simp [invoke, go_sem, eg]
  · obtain ⟨J, hJd⟩ : ∃ J : (Nat → Prop) → Nat → World → Prop, J = fun M i W => ∃ Mi, I Mi i W ∧ (M = fun k => Mi k ∨ k = w.heap.size) ∧ ¬ Mi w.heap.size ∧ (∀ k, Mi k → M0 k ∨ w.heap.size ≤ k) ∧ Kp (fun k => ¬ M0 k) w W ∧ W.heap[w.heap.size]? = some (.loop (rec .ready none)) := ⟨_, rfl⟩
    obtain ⟨Jx, hJxd⟩ : ∃ Jx : (Nat → Prop) → World → Prop, Jx = fun M W => ∃ Mi c, Ix c Mi W ∧ (M = fun k => Mi k ∨ k = w.heap.size) ∧ ¬ Mi w.heap.size ∧ (∀ k, Mi k → M0 k ∨ w.heap.size ≤ k) ∧ Kp (fun k => ¬ M0 k) w W ∧ W.heap[w.heap.size]? = some (.loop (rec .done (some c))) := ⟨_, rfl⟩
    refine (CallsIn.inRound l0 (hit w.heap.size J Jx W1 (fun k => M0 k ∨ k = w.heap.size) ?_ ?_ ?_ ?_ ?_ hx1 (fun k hk => by rcases hk with h | h; exact .inl h; exact .inr (by omega)) ?_)).mono ?_
    · subst hJd
      rintro M i W ⟨Mi, h1, rfl, _, _, _, hl⟩ k (hk | rfl)
      · exact hIlt _ _ _ h1 k hk
      · exact lt_of_block hl
    · subst hJd
      rintro M i W W' ⟨Mi, h1, rfl, h3, h4, h5, hl⟩ hk
      exact ⟨Mi, hIst _ _ _ _ h1 (hk.mono (fun q _ hq => hq.imp id .inl)), rfl, h3, h4, h5.trans' hk, hk.block' hl (.inr (.inr rfl))⟩
    · subst hJxd
      rintro M W ⟨Mi, c, h1, rfl, _, _, _, hl⟩ k (hk | rfl)
      · exact hIxlt _ _ _ h1 k hk
      · exact lt_of_block hl
    · subst hJxd
      rintro M W W' ⟨Mi, c, h1, rfl, h3, h4, h5, hl⟩ hk
      exact ⟨Mi, c, hIxst _ _ _ _ h1 (hk.mono (fun q _ hq => hq.imp id .inl)), rfl, h3, h4, h5.trans' hk, hk.block' hl (.inr (.inr rfl))⟩
    · intro M i W args E hJ hi hX
      rw [hJd] at hJ
      obtain ⟨Mi, h1, rfl, h3, h4, h5, hl⟩ := hJ
      have hE := hXE hX
      have hEl : ¬ E w.heap.size := fun h => (hE _ h).1 (.inr rfl)
      have hll := lt_of_block hl
      have hy := run_yield (P := Try.prog) (args := args) hl (by rw [hrec]; exact hps hX)
      rw [hrec] at hy
      refine ⟨fn, _, assign, body, hy, roundIn_of_wpIn hfn (wpIn_mono (hround w.heap.size Mi i W args E (Nat.le_refl _) ⟨_, hl⟩ h3 hEl hi h1 (hXm hX (fun k hk => .inl hk)) h5 h4) ?_)⟩
      clear hy
      intro e a₁ W₁ hp
      cases e with
      | normal =>
        obtain ⟨hext, hbody⟩ := hp
        have hl1 := hext.block hl
        refine ⟨_, run_beginRound hl1 (by rw [hrec]), ?_⟩
        have hl2 : (W₁.putObj w.heap.size (.loop { rec .ready none with state := .busy })).heap[w.heap.size]? = some (.loop { rec .ready none with state := .busy }) := World.putObj_heap_same (lt_of_block hl1)
        have hk2 := Kp.putObj W₁ w.heap.size (.loop { rec .ready none with state := .busy })
        refine wpIn_mono (hbody _ hk2 ⟨_, hl2⟩) ?_
        generalize W₁.putObj w.heap.size (.loop { rec .ready none with state := .busy }) = W₂ at hl2 hk2
        rintro e a3 W₃ ⟨hk3, hm⟩
        have hl3 := hk3.block' hl2 (fun h => h.elim h3 hEl)
        have hkw : ∀ o, Kp (fun k => ¬ ((Mi k ∨ k = w.heap.size) ∨ E k)) W (W₃.putObj w.heap.size o) := fun o =>
          (((hext.kp _).trans (hk2.mono (fun q _ hq e => hq (.inl (.inr e))))).trans (hk3.mono (fun q _ hq h => hq (h.imp .inl id)))).trans ((Kp.putObj _ _ _).mono (fun q _ hq e => hq (.inl (.inr e))))
        have hk5 : ∀ o, Kp (fun k => ¬ M0 k) w (W₃.putObj w.heap.size o) := fun o => ((h5.mono (L := fun q => q < w.heap.size ∧ ¬ M0 q) (fun q _ h => h.2)).trans ((hkw o).mono (fun q _ hq h => by
          rcases h with (h | h) | h
          · rcases h4 q h with h | h
            · exact hq.2 h
            · omega
          · omega
          · have := (hE q h).2.2; omega))).mono (fun q hq h => ⟨hq, h⟩)
        have fin : ∀ jump : Option Code, (Instr.endRound w.heap.size jump).run Try.prog W₃ = .ok (.bool jump.isNone) (W₃.putObj w.heap.size (.loop (rec (if jump.isNone then .ready else .done) jump))) := fun jump => by
          have := run_endRound (P := Try.prog) jump hl3
          rw [hrec] at this ⊢
          exact this
        have hsub : ∀ M' : Nat → Prop, (∀ k, M' k → Mi k ∨ E k ∨ W.heap.size ≤ k) → ¬ M' w.heap.size ∧ (∀ k, M' k → M0 k ∨ w.heap.size ≤ k) := fun M' hM' =>
          ⟨fun h => by rcases hM' _ h with h | h | h; exact h3 h; exact hEl h; omega, fun k hk => by
            rcases hM' _ hk with h | h | h
            · exact h4 k h
            · exact .inr (hE k h).2.2
            · exact .inr (by have := h5.size; omega)⟩
        have hst : ∀ (M' : Nat → Prop) o, (∀ k, M' k → Mi k ∨ E k ∨ W.heap.size ≤ k) → Kp (fun k => k < w.heap.size ∨ M' k) W₃ (W₃.putObj w.heap.size o) := fun M' o hM' => (Kp.putObj _ _ _).mono (fun q _ hq e => by
          have e' : q = _ := e
          subst e'
          rcases hq with h | h
          · omega
          · exact (hsub M' hM').1 h)
        have hMM : ∀ M' : Nat → Prop, (∀ k, M' k → Mi k ∨ E k ∨ W.heap.size ≤ k) → ∀ k, (M' k ∨ k = w.heap.size) → ((Mi k ∨ k = w.heap.size) ∨ E k) ∨ W.heap.size ≤ k := fun M' hM' k hk => by
          rcases hk with h | h
          · rcases hM' k h with h | h | h
            · exact .inl (.inl (.inl h))
            · exact .inl (.inr h)
            · exact .inr h
          · exact .inl (.inl (.inr h))
        cases e with
        | normal =>
          obtain ⟨M', hI', hM'⟩ := hm
          obtain ⟨s2, s3⟩ := hsub M' hM'
          refine ⟨_, _, fin none, hkw _, .inl ⟨rfl, fun k => M' k ∨ k = w.heap.size, ?_, hMM M' hM'⟩⟩
          rw [hJd]
          exact ⟨M', hIst _ _ _ _ hI' (hst M' _ hM'), rfl, s2, s3, hk5 _, World.putObj_heap_same (lt_of_block hl3)⟩
        | ret =>
          obtain ⟨M', hI', hM'⟩ := hm
          obtain ⟨s2, s3⟩ := hsub M' hM'
          refine ⟨_, _, fin (some .ret), hkw _, .inr ⟨rfl, fun k => M' k ∨ k = w.heap.size, ?_, hMM M' hM'⟩⟩
          rw [hJxd]
          exact ⟨M', .ret, hIxst _ _ _ _ hI' (hst M' _ hM'), rfl, s2, s3, hk5 _, World.putObj_heap_same (lt_of_block hl3)⟩
        | exit id =>
          obtain ⟨M', hI', hM'⟩ := hm
          obtain ⟨s2, s3⟩ := hsub M' hM'
          refine ⟨_, _, fin (some (.exit id)), hkw _, .inr ⟨rfl, fun k => M' k ∨ k = w.heap.size, ?_, hMM M' hM'⟩⟩
          rw [hJxd]
          exact ⟨M', .exit id, hIxst _ _ _ _ hI' (hst M' _ hM'), rfl, s2, s3, hk5 _, World.putObj_heap_same (lt_of_block hl3)⟩
        | goto t => exact hm.elim
        | panic c => exact hm.elim
        | outgrown => exact hm.elim
      | ret => exact hp.elim
      | exit id => exact hp.elim
      | goto t => exact hp.elim
      | panic c => exact hp.elim
      | outgrown => exact hp.elim
    · subst hJd
      exact ⟨M0, hIst _ _ _ _ h0 (hx1.kp _), rfl, hnl _ (Nat.le_refl _), fun k hk => .inl hk, hx1.kp _, hL1⟩
    · rintro e W2 ⟨⟨v, rfl⟩, hk, (⟨M', hj, hm⟩ | ⟨M', hj, hm⟩)⟩
      · subst hJd
        obtain ⟨Mi, h1, rfl, h3, h4, h5, hl⟩ := hj
        refine ⟨none, _, by have := run_endLoop (P := Try.prog) hl (by rw [hrec]; simp); rw [hrec] at this; exact this, hdone _ Mi (hIst _ _ _ _ h1 ((Kp.putObj _ _ _).mono (fun q _ hq e => ?_))) h4 ?_⟩
        · have e' : q = _ := e
          subst e'
          rcases hq with h | h
          · omega
          · exact h3 h
        · exact h5.trans' (L := fun _ => False) (n := w.heap.size) ((Kp.putObj _ _ _).mono (fun q _ hq e => by have e' : q = _ := e; rcases hq with h | h; omega; exact h))
      · subst hJxd
        obtain ⟨Mi, c, h1, rfl, h3, h4, h5, hl⟩ := hj
        refine ⟨some c, _, by have := run_endLoop (P := Try.prog) hl (by rw [hrec]; simp); rw [hrec] at this; exact this, hstop _ c Mi (hIxst _ _ _ _ h1 ((Kp.putObj _ _ _).mono (fun q _ hq e => ?_))) h4 ?_⟩
        · have e' : q = _ := e
          subst e'
          rcases hq with h | h
          · omega
          · exact h3 h
        · exact h5.trans' (L := fun _ => False) (n := w.heap.size) ((Kp.putObj _ _ _).mono (fun q _ hq e => by have e' : q = _ := e; rcases hq with h | h; omega; exact h))
end Go.Proofs.Ythdmoghooaccgaa
/-
  A region that draws its order, within the round of a range-over-func loop: by the law of what is held (OrdersHeld), as outside.
-/
namespace Go.Proofs.Ythdmoghooaccgaa
open Go.RowKit
theorem operIn_of {o : Oper} {a : Act} {w : World} {K : Act → World → Prop} {Q : Exit → Act → World → Prop} {P : Program} (l : Nat) (hd : ∀ c, o.op ≠ .defer c) (h : o.wp P a w K Q) : o.wpIn (Fence.wide.inRound l) 0 P a w K Q := by
  refine ⟨fun _ _ => trivial, ?_⟩
  rw [Oper.semAt_eq _ _ _ hd]
  unfold Oper.wp at h
  generalize (execOp a.eval o).run P w = r at *
  cases r with
  | ok n w' =>
    cases n <;> simp only [Oper.upon, Oper.uponIn] at h ⊢
    case value v => exact h
    case skip => exact h
    case defer d => exact h
    case enter f args => exact ⟨fun h0 => by simp [Fence.wide] at h0, CallsIn.inRound l (callsIn_wide.2 h)⟩
    case row row args =>
      refine ⟨fun h0 => by simp [Fence.wide] at h0, fun c cs _ => ?_⟩
      obtain ⟨v, w2, h1, h2⟩ := h c cs
      exact ⟨v, w2, h1, stepsIn_wide.2 h2⟩
  | halt x w' => cases x <;> simp only [Oper.upon, Oper.uponIn] at h ⊢ <;> exact h
theorem anyIn_of {P : Program} {ops : Array Oper} {Q : Exit → Act → World → Prop} {md : Region.Mode} (l : Nat) (hd : ∀ (i : Nat) o, ops[i]? = some o → ∀ c, o.op ≠ .defer c) (hQ : ¬ LetsOut Q) : ∀ (fuel : Nat) (listed : Array Bool) (a : Act) (w : World), wpAny P md ops Q fuel listed a w → wpAnyIn (Fence.wide.inRound l) 0 P md ops Q fuel listed a w
  | 0, _, _, _, h => h
  | fuel + 1, listed, a, w, h => ⟨h.1, fun i hi => by
      have h1 := h.2 i hi
      unfold wpOp at h1
      unfold wpOpIn
      cases ho : ops[i]? with
      | none => rw [ho] at h1; exact anyIn_of l hd hQ fuel _ a w h1
      | some o =>
        rw [ho] at h1
        simp only at h1 ⊢
        split
        · rename_i hw
          rw [if_pos hw] at h1
          rcases h1 with h1 | ⟨_, h1⟩
          · exact Oper.wpIn_mono (fun a' w' h' => anyIn_of l hd hQ fuel _ a' w' h') (operIn_of l (hd i o ho) h1)
          · exact absurd h1 hQ
        · rename_i hw
          rw [if_neg hw] at h1
          exact ⟨fun _ _ => trivial, anyIn_of l hd hQ fuel _ _ _ h1⟩⟩
theorem region_in {P : Program} {id : Nat} {ops : Array Oper} {Q : Exit → Act → World → Prop} {a : Act} {w : World} {S : World → Prop} (l : Nat) (hm : P.follows .mixedOrders = true) (hd : ops.all (fun o => match o.op with | .defer _ => false | _ => true) = true) (hQ : ¬ LetsOut Q) (hS : S w.drew)
    (h : S w.drew → wpAnyH P .any ops Q S ops.size (Array.replicate ops.size false) a w.drew) : (Code.region id ops true).wpIn (Fence.wide.inRound l) 0 P Q a w :=
  wpIn_region_any hm (anyIn_of l (fun i o ho c e => by
    have h1 := Array.all_eq_true.1 hd i (Array.getElem?_eq_some_iff.1 ho).1
    rw [(Array.getElem?_eq_some_iff.1 ho).2] at h1
    simp only [e] at h1
    cases h1) hQ _ _ _ _ (wpAny_of_held _ _ _ _ (h hS)))
end Go.Proofs.Ythdmoghooaccgaa
