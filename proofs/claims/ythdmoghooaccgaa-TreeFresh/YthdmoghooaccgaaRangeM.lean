/-
  'for p, t := range s { .. }': a law for whatever iterator that hands out what it lends or gives, and whatever body, which may leave.
-/
import Derived.Test.YthdmoghooaccgaaNodes
import Derived.RangeFuncOwn
import Derived.RangeFuncLeaves
import Derived.RangeFuncNested
import Derived.Shelf.Abstract
namespace Go.Proofs.Ythdmoghooaccgaa
open Go.RowKit Go.Shelf
/-- What an iterator promises to whatever loop: N rounds; X says what the i-th is handed, and of which of it (E) it becomes the owner. -/
def IterOk (gf : Nat) (lb : Array Value) (N : Nat) (M0 : Nat → Prop) (w : World) (X : (Nat → Prop) → Nat → World → Array Value → (Nat → Prop) → Prop) : Prop :=
  ∀ (l : Nat) (J : (Nat → Prop) → Nat → World → Prop) (Jx : (Nat → Prop) → World → Prop) (W : World) (M : Nat → Prop),
    (∀ M i W, J M i W → ∀ k, M k → k < W.heap.size) → (∀ M i W W', J M i W → Kp (fun k => k < w.heap.size ∨ M k) W W' → J M i W') → (∀ M W, Jx M W → ∀ k, M k → k < W.heap.size) → (∀ M W W', Jx M W → Kp (fun k => k < w.heap.size ∨ M k) W W' → Jx M W') →
    (∀ M i W args E, J M i W → i < N → X M i W args E → YieldAt Fence.wide 0 Try.prog l args W (YieldR J Jx (fun k => M k ∨ E k) i W)) →
    Ext w W → (∀ k, M k → M0 k ∨ w.heap.size ≤ k) → J M 0 W →
    CallsIn Fence.wide 0 Try.prog gf (#[.func (.yield l) #[] #[]] ++ lb) W (IterR J Jx M N W)
/-- What a body leaves. -/
def bodyR (I : (Nat → Prop) → Nat → World → Prop) (Ix : Code → (Nat → Prop) → World → Prop) (M E : Nat → Prop) (i : Nat) (W W₂ : World) (e : Exit) (_ : Act) (W₃ : World) : Prop :=
  Kp (fun k => ¬ (M k ∨ E k)) W₂ W₃ ∧ match e with
    | .normal => ∃ M', I M' (i + 1) W₃ ∧ ∀ k, M' k → M k ∨ E k ∨ W.heap.size ≤ k
    | .ret => ∃ M', Ix .ret M' W₃ ∧ ∀ k, M' k → M k ∨ E k ∨ W.heap.size ≤ k
    | .exit id => ∃ M', Ix (.exit id) M' W₃ ∧ ∀ k, M' k → M k ∨ E k ∨ W.heap.size ≤ k
    | _ => False
theorem Kp.putObj (W : World) (l : Nat) (o : Obj) : Kp (· ≠ l) W (W.putObj l o) := ⟨rfl, rfl, rfl, by simp [World.putObj], fun k _ hk => World.putObj_heap_other hk⟩
set_option maxHeartbeats 2000000 in
theorem rangeM {g : Operand} {ps : Array Tmp} {assign body : Code} {Q : Exit → Act → World → Prop} {a : Act} {w : World} {gf : Nat} {lb : Array Value} (hg : a.eval g = .func (.func gf) #[] lb) (eg : ∀ args w, (callFunc gf args).run Try.prog w = .ok (.enter gf args) w)
    (N : Nat) (M0 : Nat → Prop) (X : (Nat → Prop) → Nat → World → Array Value → (Nat → Prop) → Prop) (hit : IterOk gf lb N M0 w X)
    (hps : ∀ {M i W args E}, X M i W args E → args.size = ps.size) (hXm : ∀ {M M' i W args E}, X M i W args E → (∀ k, M' k → M k) → X M' i W args E) (hXE : ∀ {M i W args E}, X M i W args E → ∀ k, E k → ¬ M k ∧ k < W.heap.size ∧ w.heap.size ≤ k)
    (I : (Nat → Prop) → Nat → World → Prop) (Ix : Code → (Nat → Prop) → World → Prop)
    (hIlt : ∀ M i W, I M i W → ∀ k, M k → k < W.heap.size) (hIst : ∀ M i W W', I M i W → Kp (fun k => k < w.heap.size ∨ M k) W W' → I M i W')
    (hIxlt : ∀ c M W, Ix c M W → ∀ k, M k → k < W.heap.size) (hIxst : ∀ c M W W', Ix c M W → Kp (fun k => k < w.heap.size ∨ M k) W W' → Ix c M W') (h0 : I M0 0 w)
    (hround : ∀ (l : Nat) (M : Nat → Prop) (i : Nat) (W : World) (args : Array Value) (E : Nat → Prop), w.heap.size ≤ l → (∃ r, W.heap[l]? = some (.loop r)) → ¬ M l → ¬ E l → i < N → I M i W → X M i W args E → Kp (fun k => ¬ M0 k) w W → (∀ k, M k → M0 k ∨ w.heap.size ≤ k) →
      assign.wpIn (Fence.wide.inRound l) 0 Try.prog (Exit.then (fun a₁ W₁ => Ext W W₁ ∧ ∀ W₂, Kp (· ≠ l) W₁ W₂ → (∃ r, W₂.heap[l]? = some (.loop r)) → body.wpIn (Fence.wide.inRound l) 0 Try.prog (bodyR I Ix M E i W W₂) a₁ W₂) (fun _ _ _ => False))
        { tmps := (ps.zip args).foldl (fun t (p, v) => t.setIfInBounds p v) a.tmps, defers := [] } W)
    (hdone : ∀ (D : Nat) (W : World) (M' : Nat → Prop), w.heap.size ≤ D → I M' N W → W.heap[D]? = some (.deferred (some [])) → ¬ M' D → (∀ k, M' k → M0 k ∨ w.heap.size ≤ k) → Kp (fun k => ¬ M0 k) w W → Q .normal { a with defers := { target := .collected D, args := #[] } :: a.defers } W)
    (hstop : ∀ (D : Nat) (W : World) (c : Code) (M' : Nat → Prop), w.heap.size ≤ D → Ix c M' W → W.heap[D]? = some (.deferred (some [])) → ¬ M' D → (∀ k, M' k → M0 k ∨ w.heap.size ≤ k) → Kp (fun k => ¬ M0 k) w W → c.wpIn Fence.wide 0 Try.prog Q { a with defers := { target := .collected D, args := #[] } :: a.defers } W) :
    (Code.rangeFunc g ps assign body).wpIn Fence.wide 0 Try.prog Q a w := by
  refine wpIn_rangeFunc ?_
  intro fn hfn
  have hro : Fence.wide.round = none := rfl
  rw [hro]
  obtain ⟨rec, hrec⟩ : ∃ rec : LoopState → Option Code → Loop, rec = fun st pe => { state := st, pending := pe, fn, tmps := a.tmps, params := ps, assign, body, defers := w.heap.size } := ⟨_, rfl⟩
  obtain ⟨W1, hW1⟩ : ∃ W1, (w.alloc (.deferred (some []))).alloc (.loop (rec .ready none)) = W1 := ⟨_, rfl⟩
  have hL1 : W1.heap[w.heap.size + 1]? = some (.loop (rec .ready none)) := by rw [← hW1]; exact blk1 _ _ _
  have hK1 : W1.heap[w.heap.size]? = some (.deferred (some [])) := by rw [← hW1]; exact blkOld _ (blk0 _ _)
  have hx1 : Ext w W1 := by rw [← hW1]; exact Ext.alloc2 _ _ _
  have hnl : ∀ q, w.heap.size ≤ q → ¬ M0 q := fun q hq h => by have := hIlt _ _ _ h0 q h; omega
  refine ⟨w.heap.size + 1, [{ target := .collected w.heap.size, args := #[] }], W1, { target := .fn (.func gf) lb, args := #[.func (.yield (w.heap.size + 1)) #[] #[]] }, W1, gf,
    #[.func (.yield (w.heap.size + 1)) #[] #[]] ++ lb, W1, ?_, ?_, ?_, ?_, fun h => by simp [Fence.wide] at h, ?_⟩
  · rw [← hW1, hrec]; exact run_enterLoop_outer _ _ _ _ _
  · simp only [resolve, hg]
    simp [go_sem]
  · intro f' _; exact trivial
  · simp [invoke, go_sem, eg]
  · obtain ⟨J, hJd⟩ : ∃ J : (Nat → Prop) → Nat → World → Prop, J = fun M i W => ∃ Mi, I Mi i W ∧ (M = fun k => Mi k ∨ k = w.heap.size ∨ k = w.heap.size + 1) ∧ ¬ Mi w.heap.size ∧ ¬ Mi (w.heap.size + 1) ∧ (∀ k, Mi k → M0 k ∨ w.heap.size ≤ k) ∧ Kp (fun k => ¬ M0 k) w W ∧ W.heap[w.heap.size + 1]? = some (.loop (rec .ready none)) ∧ W.heap[w.heap.size]? = some (.deferred (some [])) := ⟨_, rfl⟩
    obtain ⟨Jx, hJxd⟩ : ∃ Jx : (Nat → Prop) → World → Prop, Jx = fun M W => ∃ Mi c, Ix c Mi W ∧ (M = fun k => Mi k ∨ k = w.heap.size ∨ k = w.heap.size + 1) ∧ ¬ Mi w.heap.size ∧ ¬ Mi (w.heap.size + 1) ∧ (∀ k, Mi k → M0 k ∨ w.heap.size ≤ k) ∧ Kp (fun k => ¬ M0 k) w W ∧ W.heap[w.heap.size + 1]? = some (.loop (rec .done (some c))) ∧ W.heap[w.heap.size]? = some (.deferred (some [])) := ⟨_, rfl⟩
    refine (hit (w.heap.size + 1) J Jx W1 (fun k => M0 k ∨ k = w.heap.size ∨ k = w.heap.size + 1) ?_ ?_ ?_ ?_ ?_ hx1 (fun k hk => by rcases hk with h | h | h; exact .inl h; exact .inr (by omega); exact .inr (by omega)) ?_).mono ?_
    · subst hJd
      rintro M i W ⟨Mi, h1, rfl, _, _, _, _, hl, hd⟩ k (hk | rfl | rfl)
      · exact hIlt _ _ _ h1 k hk
      · exact lt_of_block hd
      · exact lt_of_block hl
    · subst hJd
      rintro M i W W' ⟨Mi, h1, rfl, h2, h3, h4, h5, hl, hd⟩ hk
      exact ⟨Mi, hIst _ _ _ _ h1 (hk.mono (fun q _ hq => hq.imp id .inl)), rfl, h2, h3, h4, h5.trans' hk, hk.block' hl (.inr (.inr (.inr rfl))), hk.block' hd (.inr (.inr (.inl rfl)))⟩
    · subst hJxd
      rintro M W ⟨Mi, c, h1, rfl, _, _, _, _, hl, hd⟩ k (hk | rfl | rfl)
      · exact hIxlt _ _ _ h1 k hk
      · exact lt_of_block hd
      · exact lt_of_block hl
    · subst hJxd
      rintro M W W' ⟨Mi, c, h1, rfl, h2, h3, h4, h5, hl, hd⟩ hk
      exact ⟨Mi, c, hIxst _ _ _ _ h1 (hk.mono (fun q _ hq => hq.imp id .inl)), rfl, h2, h3, h4, h5.trans' hk, hk.block' hl (.inr (.inr (.inr rfl))), hk.block' hd (.inr (.inr (.inl rfl)))⟩
    · intro M i W args E hJ hi hX
      rw [hJd] at hJ
      obtain ⟨Mi, h1, rfl, h2, h3, h4, h5, hl, hd⟩ := hJ
      have hE := hXE hX
      have hEl : ¬ E (w.heap.size + 1) := fun h => (hE _ h).1 (.inr (.inr rfl))
      have hEd : ¬ E w.heap.size := fun h => (hE _ h).1 (.inr (.inl rfl))
      have hll := lt_of_block hl
      have hdl := lt_of_block hd
      have hy := run_yield (P := Try.prog) (args := args) hl (by rw [hrec]; exact hps hX)
      rw [hrec] at hy
      refine ⟨fn, _, assign, body, hy, roundIn_of_wpIn hfn (wpIn_mono (hround (w.heap.size + 1) Mi i W args E (Nat.le_succ _) ⟨_, hl⟩ h3 hEl hi h1 (hXm hX (fun k hk => .inl hk)) h5 h4) ?_)⟩
      clear hy
      intro e a₁ W₁ hp
      cases e with
      | normal =>
        obtain ⟨hext, hbody⟩ := hp
        have hl1 := hext.block hl
        have hd1 := hext.block hd
        refine ⟨_, run_beginRound hl1 (by rw [hrec]), ?_⟩
        have hl2 : (W₁.putObj (w.heap.size + 1) (.loop { rec .ready none with state := .busy })).heap[w.heap.size + 1]? = some (.loop { rec .ready none with state := .busy }) := World.putObj_heap_same (lt_of_block hl1)
        have hd2 : (W₁.putObj (w.heap.size + 1) (.loop { rec .ready none with state := .busy })).heap[w.heap.size]? = some (.deferred (some [])) := (World.putObj_heap_other (by omega)).trans hd1
        have hk2 := Kp.putObj W₁ (w.heap.size + 1) (.loop { rec .ready none with state := .busy })
        refine wpIn_mono (hbody _ hk2 ⟨_, hl2⟩) ?_
        generalize W₁.putObj (w.heap.size + 1) (.loop { rec .ready none with state := .busy }) = W₂ at hl2 hd2 hk2
        rintro e a3 W₃ ⟨hk3, hm⟩
        have hl3 := hk3.block' hl2 (fun h => h.elim h3 hEl)
        have hd3 := hk3.block' hd2 (fun h => h.elim h2 hEd)
        have hkw : ∀ o, Kp (fun k => ¬ ((Mi k ∨ k = w.heap.size ∨ k = w.heap.size + 1) ∨ E k)) W (W₃.putObj (w.heap.size + 1) o) := fun o =>
          (((hext.kp _).trans (hk2.mono (fun q _ hq e => hq (.inl (.inr (.inr e)))))).trans (hk3.mono (fun q _ hq h => hq (h.imp .inl id)))).trans ((Kp.putObj _ _ _).mono (fun q _ hq e => hq (.inl (.inr (.inr e)))))
        have hk5 : ∀ o, Kp (fun k => ¬ M0 k) w (W₃.putObj (w.heap.size + 1) o) := fun o => ((h5.mono (L := fun q => q < w.heap.size ∧ ¬ M0 q) (fun q _ h => h.2)).trans ((hkw o).mono (fun q _ hq h => by
          rcases h with (h | h | h) | h
          · rcases h4 q h with h | h
            · exact hq.2 h
            · omega
          · omega
          · omega
          · have := (hE q h).2.2; omega))).mono (fun q hq h => ⟨hq, h⟩)
        have fin : ∀ jump : Option Code, (Instr.endRound (w.heap.size + 1) jump).run Try.prog W₃ = .ok (.bool jump.isNone) (W₃.putObj (w.heap.size + 1) (.loop (rec (if jump.isNone then .ready else .done) jump))) := fun jump => by
          have := run_endRound (P := Try.prog) jump hl3
          rw [hrec] at this ⊢
          exact this
        have hsub : ∀ M' : Nat → Prop, (∀ k, M' k → Mi k ∨ E k ∨ W.heap.size ≤ k) → ¬ M' w.heap.size ∧ ¬ M' (w.heap.size + 1) ∧ (∀ k, M' k → M0 k ∨ w.heap.size ≤ k) := fun M' hM' =>
          ⟨fun h => by rcases hM' _ h with h | h | h; exact h2 h; exact hEd h; omega, fun h => by rcases hM' _ h with h | h | h; exact h3 h; exact hEl h; omega, fun k hk => by
            rcases hM' _ hk with h | h | h
            · exact h4 k h
            · exact .inr (hE k h).2.2
            · exact .inr (by have := h5.size; omega)⟩
        have hst : ∀ (M' : Nat → Prop) o, (∀ k, M' k → Mi k ∨ E k ∨ W.heap.size ≤ k) → Kp (fun k => k < w.heap.size ∨ M' k) W₃ (W₃.putObj (w.heap.size + 1) o) := fun M' o hM' => (Kp.putObj _ _ _).mono (fun q _ hq e => by
          have e' : q = _ := e
          subst e'
          rcases hq with h | h
          · omega
          · exact (hsub M' hM').2.1 h)
        have hMM : ∀ M' : Nat → Prop, (∀ k, M' k → Mi k ∨ E k ∨ W.heap.size ≤ k) → ∀ k, (M' k ∨ k = w.heap.size ∨ k = w.heap.size + 1) → ((Mi k ∨ k = w.heap.size ∨ k = w.heap.size + 1) ∨ E k) ∨ W.heap.size ≤ k := fun M' hM' k hk => by
          rcases hk with h | h
          · rcases hM' k h with h | h | h
            · exact .inl (.inl (.inl h))
            · exact .inl (.inr h)
            · exact .inr h
          · exact .inl (.inl (.inr h))
        cases e with
        | normal =>
          obtain ⟨M', hI', hM'⟩ := hm
          obtain ⟨s1, s2, s3⟩ := hsub M' hM'
          refine ⟨_, _, fin none, hkw _, .inl ⟨rfl, fun k => M' k ∨ k = w.heap.size ∨ k = w.heap.size + 1, ?_, hMM M' hM'⟩⟩
          rw [hJd]
          exact ⟨M', hIst _ _ _ _ hI' (hst M' _ hM'), rfl, s1, s2, s3, hk5 _, World.putObj_heap_same (lt_of_block hl3), (World.putObj_heap_other (by omega)).trans hd3⟩
        | ret =>
          obtain ⟨M', hI', hM'⟩ := hm
          obtain ⟨s1, s2, s3⟩ := hsub M' hM'
          refine ⟨_, _, fin (some .ret), hkw _, .inr ⟨rfl, fun k => M' k ∨ k = w.heap.size ∨ k = w.heap.size + 1, ?_, hMM M' hM'⟩⟩
          rw [hJxd]
          exact ⟨M', .ret, hIxst _ _ _ _ hI' (hst M' _ hM'), rfl, s1, s2, s3, hk5 _, World.putObj_heap_same (lt_of_block hl3), (World.putObj_heap_other (by omega)).trans hd3⟩
        | exit id =>
          obtain ⟨M', hI', hM'⟩ := hm
          obtain ⟨s1, s2, s3⟩ := hsub M' hM'
          refine ⟨_, _, fin (some (.exit id)), hkw _, .inr ⟨rfl, fun k => M' k ∨ k = w.heap.size ∨ k = w.heap.size + 1, ?_, hMM M' hM'⟩⟩
          rw [hJxd]
          exact ⟨M', .exit id, hIxst _ _ _ _ hI' (hst M' _ hM'), rfl, s1, s2, s3, hk5 _, World.putObj_heap_same (lt_of_block hl3), (World.putObj_heap_other (by omega)).trans hd3⟩
        | goto t => exact hm.elim
        | panic c => exact hm.elim
        | outgrown => exact hm.elim
      | ret => exact hp.elim
      | exit id => exact hp.elim
      | goto t => exact hp.elim
      | panic c => exact hp.elim
      | outgrown => exact hp.elim
    · subst hJd
      exact ⟨M0, hIst _ _ _ _ h0 (hx1.kp _), rfl, hnl _ (Nat.le_refl _), hnl _ (Nat.le_succ _), fun k hk => .inl hk, hx1.kp _, hL1, hK1⟩
    · rintro e W2 ⟨⟨v, rfl⟩, hk, (⟨M', hj, hm⟩ | ⟨M', hj, hm⟩)⟩
      · subst hJd
        obtain ⟨Mi, h1, rfl, h2, h3, h4, h5, hl, hd⟩ := hj
        refine ⟨none, _, by have := run_endLoop (P := Try.prog) hl (by rw [hrec]; simp); rw [hrec] at this; exact this, hdone w.heap.size _ Mi (Nat.le_refl _) (hIst _ _ _ _ h1 ((Kp.putObj _ _ _).mono (fun q _ hq e => ?_))) ((World.putObj_heap_other (by omega)).trans hd) h2 h4 ?_⟩
        · have e' : q = _ := e
          subst e'
          rcases hq with h | h
          · omega
          · exact h3 h
        · exact h5.trans' (L := fun _ => False) (n := w.heap.size) ((Kp.putObj _ _ _).mono (fun q _ hq e => by have e' : q = _ := e; rcases hq with h | h; omega; exact h))
      · subst hJxd
        obtain ⟨Mi, c, h1, rfl, h2, h3, h4, h5, hl, hd⟩ := hj
        refine ⟨some c, _, by have := run_endLoop (P := Try.prog) hl (by rw [hrec]; simp); rw [hrec] at this; exact this, hstop w.heap.size _ c Mi (Nat.le_refl _) (hIxst _ _ _ _ h1 ((Kp.putObj _ _ _).mono (fun q _ hq e => ?_))) ((World.putObj_heap_other (by omega)).trans hd) h2 h4 ?_⟩
        · have e' : q = _ := e
          subst e'
          rcases hq with h | h
          · omega
          · exact h3 h
        · exact h5.trans' (L := fun _ => False) (n := w.heap.size) ((Kp.putObj _ _ _).mono (fun q _ hq e => by have e' : q = _ := e; rcases hq with h | h; omega; exact h))
theorem YieldR.bool {J : (Nat → Prop) → Nat → World → Prop} {Jx : (Nat → Prop) → World → Prop} {M : Nat → Prop} {i : Nat} {W : World} {e : Ending} {W' : World} (h : YieldR J Jx M i W e W') :
    ∃ o, e = .returned (.bool o) ∧ Kp (fun k => ¬ M k) W W' ∧ ((o = true ∧ ∃ M', J M' (i + 1) W' ∧ (∀ k, M' k → M k ∨ W.heap.size ≤ k)) ∨ (o = false ∧ ∃ M', Jx M' W' ∧ (∀ k, M' k → M k ∨ W.heap.size ≤ k))) := by
  obtain ⟨hk, (⟨rfl, h⟩ | ⟨rfl, h⟩)⟩ := h
  · exact ⟨true, rfl, hk, .inl ⟨rfl, h⟩⟩
  · exact ⟨false, rfl, hk, .inr ⟨rfl, h⟩⟩
theorem Ints.keep {K : Nat → Prop} {w w' : World} {v : Value} {xs : List Int} (h : Ints w v xs) (hk : Kp K w w') (hb : ∀ g, (∃ u, w.cell? g = some u) → K g.block) : Ints w' v xs := by
  rcases h with h | ⟨g, off, cap, rfl, hc⟩
  · exact .inl h
  · exact .inr ⟨g, off, cap, rfl, fun j u hu => hk.cell (hc j u hu) (hb ⟨g, off + j, none⟩ ⟨_, hc j u hu⟩)⟩
theorem cell_loop {w : World} {l : Nat} {r : Loop} (h : w.heap[l]? = some (.loop r)) {p : Addr} {u : Value} (hc : w.cell? p = some u) : p.block ≠ l := fun e => by
  subst e
  simp [World.cell?, h] at hc
end Go.Proofs.Ythdmoghooaccgaa
