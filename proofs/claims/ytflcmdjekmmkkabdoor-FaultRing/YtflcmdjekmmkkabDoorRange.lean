/-
  'for one := range each(e) { .. }': a law for whatever body that goes to its end: after all errors have come the invariant holds of their number.
-/
import Derived.Test.YtflcmdjekmmkkabDoorIter
import Derived.RangeFuncOwn
import Derived.RangeFuncLeaves
import Derived.Shelf.Abstract
namespace Go.Proofs.YtflcmdjekmmkkabDoor
open Go.RowKit Go.Shelf
attribute [local go_sem] isNCoded isNLocated isNRaised isNLacking isNUnw isNAsI isNUnws isNNoted isGCoded isGLocated isGRaised isGLacking isGUnw isGAsI isGUnws isGNoted isCCoded isCLocated isCRaised isCLacking isCUnw isCAsI isCUnws isCNoted isLCoded isLLocated isLRaised isLLacking isLUnw isLAsI isLUnws isLNoted isRCoded isRLocated isRRaised isRLacking isRUnw isRAsI isRUnws isRNoted isHCoded isHLocated isHRaised isHLacking isHUnw isHAsI isHUnws isHNoted isOCoded isOLocated isORaised isOLacking isOUnw isOAsI isOUnws isONoted toCodedCoded toCodedLocated toCodedRaised toCodedLacking toCodedNoted toLocatedCoded toLocatedLocated toLocatedRaised toLocatedLacking toLocatedNoted toRaisedCoded toRaisedLocated toRaisedRaised toRaisedLacking toRaisedNoted toLackingCoded toLackingLocated toLackingRaised toLackingLacking toLackingNoted toNotedCoded toNotedLocated toNotedRaised toNotedLacking toNotedNoted mNUnwrap mNError mCCode mCError mLCode mLWhere mLError mRCode mRWhere mRSaid mRError mOUnwrap mGUnwrap mGError mHAs mHUnwrap

theorem Apart.putObj (W : World) (T : Nat) (o : Obj) : Apart T W (W.putObj T o) := by
  refine ⟨rfl, rfl, rfl, by simp [World.putObj], fun k _ hk => World.putObj_heap_other hk⟩
theorem KeepsC.of_apart {T : Nat} {W W' : World} (h : Apart T W W') (hT : ∀ o : Obj, W.heap[T]? = some o → o.isCells = false) : KeepsC W W' := fun k cs hk => by
  by_cases e : k = T
  · subst e; have := hT _ hk; cases this
  · exact (h.block k (lt_of_block hk) e).trans hk
theorem KeepsC.trans {a b c : World} (h : KeepsC a b) (k : KeepsC b c) : KeepsC a c := fun i cs hi => k i cs (h i cs hi)
theorem KeepsC.of_ext {a b : World} (h : Ext a b) : KeepsC a b := fun _ _ hi => h.block hi


theorem rangeEach {g : Operand} {p : Tmp} {assign body : Code} {Q : Exit → Act → World → Prop} {a : Act} {w : World} (B m : Nat) (es : Nat → Value) (w0 : World)
    (hg : a.eval g = .func (.func 22) #[] #[.pointer (some ⟨B, 0, none⟩)]) (hm1 : 1 ≤ m) (hm : m ≤ 1024)
    (hi : ∀ i, i < m → ∃ t v, es i = .iface t v) (hend : m = 1024 ∨ es m = .nilIface) (hu : ∀ i, i < m → i + 1 < 1024 → Unwraps w0 (es i) (es (i + 1)))
    (hB : w.heap[B]? = some (.cells #[es 0] 28))
    (I : Nat → World → Prop) (hext : ∀ i W, I i W → Ext w0 W) (hst : ∀ i W W' T, I i W → w0.heap.size ≤ T → (∀ o : Obj, W.heap[T]? = some o → o.isCells = false) → Apart T W W' → I i W') (h0 : I 0 w)
    (hround : ∀ (l i : Nat) (W : World), i < m → I i W →
      assign.wpIn (Fence.wide.inRound l) 0 Tryd.prog (Exit.then (fun a₁ W₁ => KeepsOthers W W₁ ∧ KeepsC W W₁ ∧ I i W₁ ∧ ∀ W₂, I i W₂ → Apart l W₁ W₂ → l < W.heap.size → body.wpIn (Fence.wide.inRound l) 0 Tryd.prog (fun e _ W₃ => e = .normal ∧ I (i + 1) W₃ ∧ KeepsOthers W₂ W₃ ∧ KeepsC W₂ W₃) a₁ W₂) (fun _ _ _ => False))
        { tmps := a.tmps.setIfInBounds p (.agg #[es i, .int .i64 1]), defers := [] } W)
    (hdone : ∀ (D : Nat) (W : World), I m W → W.heap[D]? = some (.deferred (some [])) → w.heap.size ≤ D → Q .normal { a with defers := { target := .collected D, args := #[] } :: a.defers } W) :
    (Code.rangeFunc g #[p] assign body).wpIn Fence.wide 0 Tryd.prog Q a w := by
  refine wpIn_rangeFunc ?_
  intro fn hfn
  have hro : Fence.wide.round = none := rfl
  rw [hro]
  obtain ⟨rec, hrec⟩ : ∃ rec : LoopState → Option Code → Loop, rec = fun st pe => { state := st, pending := pe, fn, tmps := a.tmps, params := #[p], assign, body, defers := w.heap.size } := ⟨_, rfl⟩
  obtain ⟨W1, hW1⟩ : ∃ W1, (w.alloc (.deferred (some []))).alloc (.loop (rec .ready none)) = W1 := ⟨_, rfl⟩
  have hL1 : W1.heap[w.heap.size + 1]? = some (.loop (rec .ready none)) := by rw [← hW1]; exact blk1 _ _ _
  have hK1 : W1.heap[w.heap.size]? = some (.deferred (some [])) := by rw [← hW1]; exact blkOld _ (blk0 _ _)
  have hx1 : Ext w W1 := by rw [← hW1]; exact Ext.alloc2 _ _ _
  have hge : w0.heap.size ≤ w.heap.size + 1 := Nat.le_succ_of_le (hext 0 w h0).size
  have hI1 : I 0 W1 := hst 0 w W1 w.heap.size h0 (hext 0 w h0).size (fun o ho => absurd (lt_of_block ho) (Nat.lt_irrefl _)) (hx1.apart _)
  have eg : ∀ args w, (callFunc 22 args).run Tryd.prog w = .ok (.enter 22 args) w := enters_of Tryd.func22 (by kernel_rfl) rfl
  refine ⟨w.heap.size + 1, [{ target := .collected w.heap.size, args := #[] }], W1, { target := .fn (.func 22) #[.pointer (some ⟨B, 0, none⟩)], args := #[.func (.yield (w.heap.size + 1)) #[] #[]] }, W1, 22,
    #[.func (.yield (w.heap.size + 1)) #[] #[], .pointer (some ⟨B, 0, none⟩)], W1, ?_, ?_, ?_, ?_, fun h => by simp [Fence.wide] at h, ?_⟩
  · rw [← hW1, hrec]; exact run_enterLoop_outer _ _ _ _ _
  · simp only [resolve, hg]
    simp [go_sem]
  · intro f' _; exact trivial
  · simp [invoke, go_sem, eg]
  · refine (each1 (w.heap.size + 1) B m es w0 W1 (fun i W => I i W ∧ W.heap[w.heap.size + 1]? = some (.loop (rec .ready none)) ∧ W.heap[w.heap.size]? = some (.deferred (some [])))
      hm1 hm (fun i W h => hext i W h.1) ?_ ?_ hi hend hu (hx1.block hB) ⟨hI1, hL1, hK1⟩).mono ?_
    · rintro i W W' ⟨h1, h2, h3⟩ hA
      exact ⟨hst i W W' _ h1 (hext i W h1).size (fun o ho => absurd (lt_of_block ho) (Nat.lt_irrefl _)) hA, (hA.block _ (lt_of_block h2) (Nat.ne_of_lt (lt_of_block h2))).trans h2, (hA.block _ (lt_of_block h3) (Nat.ne_of_lt (lt_of_block h3))).trans h3⟩
    · rintro i W hlt ⟨h1, h2, h3⟩
      have hy := run_yield (P := Tryd.prog) (args := #[.agg #[es i, .int .i64 1]]) h2 (by rw [hrec]; rfl)
      rw [hrec] at hy
      have hy' : (Instr.yield (w.heap.size + 1) #[.agg #[es i, .int .i64 1]]).run Tryd.prog W = .ok (.round (w.heap.size + 1) fn (a.tmps.setIfInBounds p (.agg #[es i, .int .i64 1])) assign body) W := by simpa using hy
      refine ⟨fn, _, assign, body, hy', roundIn_of_wpIn hfn (wpIn_mono (hround (w.heap.size + 1) i W hlt h1) ?_)⟩
      intro e a₁ W₁ hp
      cases e with
      | normal =>
        obtain ⟨ko, kc, hi1, hbody⟩ := hp
        have h2' := ko.same _ _ h2 rfl
        have h3' := ko.same _ _ h3 rfl
        refine ⟨_, run_beginRound h2' (by rw [hrec]), ?_⟩
        obtain ⟨W₂, hW₂⟩ : ∃ W₂, W₁.putObj (w.heap.size + 1) (.loop { rec .ready none with state := .busy }) = W₂ := ⟨_, rfl⟩
        have hA2 : Apart (w.heap.size + 1) W₁ W₂ := by rw [← hW₂]; exact Apart.putObj _ _ _
        have hl2 : W₂.heap[w.heap.size + 1]? = some (.loop { rec .ready none with state := .busy }) := by rw [← hW₂]; exact World.putObj_heap_same (lt_of_block h2')
        have hk2 : W₂.heap[w.heap.size]? = some (.deferred (some [])) := (hA2.block _ (lt_of_block h3') (by omega)).trans h3'
        have hi2 : I i W₂ := hst i W₁ W₂ _ hi1 hge (fun o ho => by rw [h2'] at ho; cases ho; rfl) hA2
        rw [hW₂]
        refine wpIn_mono (hbody W₂ hi2 hA2 (lt_of_block h2)) ?_
        rintro e a3 W₃ ⟨rfl, hi3, ko3, kc3⟩
        have hl3 := ko3.same _ _ hl2 rfl
        have hk3 := ko3.same _ _ hk2 rfl
        refine ⟨_, _, run_endRound none hl3, rfl, ⟨hst (i + 1) W₃ _ _ hi3 hge (fun o ho => by rw [hl3] at ho; cases ho; rfl) (Apart.putObj _ _ _), ?_, (World.putObj_heap_other (by omega)).trans hk3⟩, ?_⟩
        · rw [World.putObj_heap_same (lt_of_block hl3)]; rw [hrec]; rfl
        · exact ((kc.trans (KeepsC.of_apart hA2 (fun o ho => by rw [h2'] at ho; cases ho; rfl))).trans kc3).trans (KeepsC.of_apart (Apart.putObj _ _ _) (fun o ho => by rw [hl3] at ho; cases ho; rfl))
      | ret => exact hp.elim
      | exit id => exact hp.elim
      | goto t => exact hp.elim
      | panic c => exact hp.elim
      | outgrown => exact hp.elim
    · rintro e W2 ⟨⟨v, rfl⟩, h1, h2, h3⟩
      have hend' := run_endLoop (P := Tryd.prog) h2 (by rw [hrec]; simp)
      exact ⟨none, _, by have := hend'; rw [hrec] at this; exact this, hdone _ _ (hst m W2 _ _ h1 hge (fun o ho => by rw [h2] at ho; cases ho; rfl) (Apart.putObj _ _ _)) ((World.putObj_heap_other (by omega)).trans h3) (Nat.le_refl _)⟩


end Go.Proofs.YtflcmdjekmmkkabDoor
