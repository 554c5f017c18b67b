/-
  fault.Notes: the notes along Unwrap, the outermost first, in a row of the call's own; nothing that lay there has turned.
-/
import Derived.Test.YtflcmdjekmmkkabDoorRange
import Derived.Test.YtflcmdjekmmkkabDoorAsNoted
import Derived.RangeFuncBox
import Derived.OrdersIn
import Derived.RangeFuncCalls
namespace Go.Proofs.YtflcmdjekmmkkabDoor
open Go.RowKit Go.Shelf
attribute [local go_sem] isNCoded isNLocated isNRaised isNLacking isNUnw isNAsI isNUnws isNNoted isGCoded isGLocated isGRaised isGLacking isGUnw isGAsI isGUnws isGNoted isCCoded isCLocated isCRaised isCLacking isCUnw isCAsI isCUnws isCNoted isLCoded isLLocated isLRaised isLLacking isLUnw isLAsI isLUnws isLNoted isRCoded isRLocated isRRaised isRLacking isRUnw isRAsI isRUnws isRNoted isHCoded isHLocated isHRaised isHLacking isHUnw isHAsI isHUnws isHNoted isOCoded isOLocated isORaised isOLacking isOUnw isOAsI isOUnws isONoted toCodedCoded toCodedLocated toCodedRaised toCodedLacking toCodedNoted toLocatedCoded toLocatedLocated toLocatedRaised toLocatedLacking toLocatedNoted toRaisedCoded toRaisedLocated toRaisedRaised toRaisedLacking toRaisedNoted toLackingCoded toLackingLocated toLackingRaised toLackingLacking toLackingNoted toNotedCoded toNotedLocated toNotedRaised toNotedLacking toNotedNoted mNUnwrap mNError mCCode mCError mLCode mLWhere mLError mRCode mRWhere mRSaid mRError mOUnwrap mGUnwrap mGError mHAs mHUnwrap
attribute [local go_sem] Oper.semAt_some

theorem stepIn_append {F : Fence} {n : Nat} {P : Program} {ops : Array Oper} {o : Oper} {a : Act} {w : World} {K : Act → World → Prop} {Q : Exit → Act → World → Prop} {E : Prop}
    (hg : o.guard = none) (s x : Operand) (t : TypeId) (hop : o.op = Op.call { callee := Callee.builtin Builtin.append, args := #[s, x], argTypes := #[t, t] })
    (base : Nat) (e : TypeId) (i : TypeInfo) (z : Value) (size bytes : Nat) (h1 : P.underlying t = some (.slice e)) (h2 : P.info? e = some i) (h3 : i.zero = some z) (h4 : i.size = size) (h5 : i.bytes = bytes) (h6 : z.cells.size = size) (h7 : 0 < size)
    (v : Value) (k : Nat) (xs : List Value) (hs : a.eval s = v) (hown : w.ownsRow base e size v k xs) (ad : Addr) (m c : Nat) (news : List Value) (hx : a.eval x = .slice (some ad) m c) (hn : news.length = m * size)
    (hc : ∀ j u, news[j]? = some u → w.cell? (ad.add j) = some u) (h1c : ∀ u ∈ news, u.oneCell' = true) (b1 : k + m ≤ maxLen) (b2 : (k + m) * bytes ≤ 140737488355328) (b3 : base ≤ w.heap.size)
    (hK : ∀ v' w', w'.ownsRow base e size v' (k + m) (xs ++ news) → w.grownBy w' v.ownBlock → K (a.put o.dst v') w') :
    if Region.wanted o (yielded ops a.tmps) = true then Oper.wpIn F n P o a w K Q else E := by
  have hw : Region.wanted o (yielded ops a.tmps) = true := by simp [Region.wanted, hg]
  rw [if_pos hw]
  obtain ⟨v', w', hrun, r1, r2, _⟩ := run_append_own (P := P) w base t o.type e i z size bytes h1 h2 h3 h4 h5 h6 h7 v k xs hown ad m c news hn hc h1c b1 b2 b3
  unfold Oper.wpIn
  refine ⟨?_, ?_⟩
  · simp [Oper.about, hop, resolve, Target.leads, Sem.run_pure]
  · rw [Oper.semAt_plain F _ _ (by rw [hop]; intro c hc'; cases hc')]
    simp [execOp, hop, resolve, invoke, builtin, hs, hx, hrun, Result.andThen]
    exact hK v' w' r1 r2

/-- The notes of the first i errors. -/
def notedTo (ns : Nat → Option ByteArray) : Nat → List Value
  | 0 => []
  | i + 1 => notedTo ns i ++ (match ns i with | some n => [.string n] | none => [])
theorem notedTo_le (ns : Nat → Option ByteArray) : ∀ i, (notedTo ns i).length ≤ i
  | 0 => Nat.le_refl _
  | i + 1 => by
    have := notedTo_le ns i
    simp only [notedTo, List.length_append]
    cases ns i <;> simp <;> omega

/-- errors.errorType holds the type 'error'. -/
def Laid (w : World) : Prop := w.cell? ⟨0, 0, none⟩ = some (.iface 116 (.agg #[.pointer (some ⟨4, 28, none⟩)]))
theorem Laid.pos {w : World} (h : Laid w) : 0 < w.heap.size := by
  rcases Nat.eq_zero_or_pos w.heap.size with h0 | h'
  · simp [Laid, World.cell?, h0] at h
  · exact h'
theorem Laid.later {w w' : World} (h : Laid w) (hx : Ext w w') : Laid w' := (Below.cell hx (p := ⟨0, 0, none⟩) h.pos).trans h

/-- The state between two rounds. -/
def NInv (w : World) (ns : Nat → Option ByteArray) (i : Nat) (W : World) : Prop :=
  Ext w W ∧ ∃ v, Boxed W w.heap.size 30 v ∧ W.ownsRow w.heap.size 9 1 v (notedTo ns i).length (notedTo ns i)
theorem Apart.grown {T : Nat} {W W' : World} (h : Apart T W W') : W.grownBy W' (some T) := ⟨h.os, h.tape, h.output, h.size, fun k hk hne => h.block k hk (fun e => hne (by rw [e]))⟩
theorem NInv.apart {w : World} {ns : Nat → Option ByteArray} {i : Nat} {W W' : World} {T : Nat} (h : NInv w ns i W) (hT : w.heap.size ≤ T) (hc : ∀ o : Obj, W.heap[T]? = some o → o.isCells = false) (hA : Apart T W W') : NInv w ns i W' := by
  obtain ⟨hx, v, hb, hr⟩ := h
  obtain ⟨v', h1, h2, _⟩ := holdsRow_own (β := Nat) w.heap.size w.heap.size 30 9 1 (fun i => (notedTo ns i).length) (fun i => notedTo ns i) (fun _ _ => True) i W W' (if T < W.heap.size then some T else Option.none) ⟨v, hb, hr, trivial⟩
    (by
      split
      · exact hA.grown
      · refine ⟨hA.os, hA.tape, hA.output, hA.size, fun k hk _ => hA.block k hk (by omega)⟩)
    (by
      intro r hr'
      split at hr'
      · rename_i hlt
        cases hr'
        obtain ⟨o, ho⟩ : ∃ o, W.heap[T]? = some o := ⟨_, Array.getElem?_eq_getElem hlt⟩
        exact ⟨o, ho, hc o ho⟩
      · cases hr')
  exact ⟨hA.ext hx hT, v', h1, h2⟩

theorem KeepsC.appended {W w6 : World} {n₀ B k : Nat} {v v1 : Value} {xs : List Value} {tmp : Obj} (hv : Boxed W B 30 v) (hrow : W.ownsRow n₀ 9 1 v k xs) (hg : (W.alloc tmp).grownBy w6 v.ownBlock) : KeepsC W (w6.setCell ⟨B, 0, none⟩ v1) := by
  intro i cs hi
  have h1 : (W.alloc tmp).heap[i]? = some (.cells cs 60) := blkOld tmp hi
  have h2 : w6.heap[i]? = some (.cells cs 60) := by
    refine (hg.block i (lt_of_block h1) (fun e => ?_)).trans h1
    rcases hrow.2 with ⟨rfl, _⟩ | ⟨g, cap, cur, rfl, _, hgb, _⟩
    · simp [Value.ownBlock] at e
    · obtain rfl : i = g := by simpa [Value.ownBlock] using e
      rw [hgb] at hi; cases hi
  refine (Below.heap_setCell w6 ⟨B, 0, none⟩ v1 i (fun e => ?_)).trans h2
  have e' : i = B := e
  subst e'
  rw [show W.heap[i]? = _ from hv] at hi; cases hi
theorem strInfo : (Tryd.prog.info? 9).map (fun i => (i.zero, i.size, i.bytes)) = some (some (.string ByteArray.empty), 1, 16) := by kernel_rfl


set_option maxRecDepth 100000 in
set_option maxHeartbeats 4000000 in
theorem notes_any (m : Nat) (es : Nat → Value) (ns : Nat → Option ByteArray) (w : World) (hG : Laid w) (hm1 : 1 ≤ m) (hm : m ≤ 1024) (hend : m = 1024 ∨ es m = .nilIface) (hu : ∀ i, i < m → i + 1 < 1024 → Unwraps w (es i) (es (i + 1)))
    (hcase : ∀ i, i < m → (∃ b u n, es i = .iface 53 (.pointer (some ⟨b, 0, none⟩)) ∧ NotedAt w b u n ∧ ns i = some n) ∨ (∃ t v, es i = .iface t v ∧ Asks 53 (es i) (.pointer none) false ∧ ns i = Option.none)) :
    CallsIn Fence.wide 0 Tryd.prog 6 #[es 0] w fun r w' => ∃ v, r = .returned v ∧ w'.ownsRow w.heap.size 9 1 v (notedTo ns m).length (notedTo ns m) ∧ Ext w w' := by
  have hi : ∀ i, i < m → ∃ t v, es i = .iface t v := fun i h => by
    rcases hcase i h with ⟨b, u, n, h1, _⟩ | ⟨t, v, h1, _⟩
    · exact ⟨_, _, h1⟩
    · exact ⟨_, _, h1⟩
  obtain ⟨t0, v0, he0⟩ := hi 0 hm1
  obtain ⟨i0, hi0, hz0, hz1, hz2⟩ := info_parts strInfo
  have HCASE : Hid (∀ i, i < m → (∃ b u n, es i = .iface 53 (.pointer (some ⟨b, 0, none⟩)) ∧ NotedAt w b u n ∧ ns i = some n) ∨ (∃ t v, es i = .iface t v ∧ Asks 53 (es i) (.pointer none) false ∧ ns i = Option.none)) := hcase
  have HI : Hid (∀ i, i < m → ∃ t v, es i = .iface t v) := hi
  have HEND : Hid (m = 1024 ∨ es m = .nilIface) := hend
  have HU : Hid (∀ i, i < m → i + 1 < 1024 → Unwraps w (es i) (es (i + 1))) := hu
  have HE0 : Hid (es 0 = .iface t0 v0) := he0
  have HG : Hid (Laid w) := hG
  rw [he0]
  clear hcase hi hend hu he0 hG
  have wf : ∀ f, Fence.wide.fn f := fun _ => trivial
  have wd : Fence.wide.depth = Option.none := rfl
  refine callsIn_of_wp_marks Tryd.func6 rfl trivial ?_ rfl
  simp only [Tryd.ntmps6, List.size_toArray, List.length_cons, List.length_nil, Nat.reduceAdd, Nat.reduceSub, Array.replicate_succ, Array.replicate_zero, List.push_toArray, List.append_toArray, List.nil_append, List.cons_append]
  gi_wp2_with (gi_at_call 13; refine (callsIn_wide.2 (each_any t0 v0 _)).mono ?_; rintro r w1 ⟨rfl, rfl⟩)
  refine rangeEach (w.heap.size + 1) m es w rfl hm1 hm HI.out HEND.out HU.out ?_ (NInv w ns) (fun i W h => h.1) (fun i W W' T h hT hc hA => h.apart hT hc hA) ?_ ?_ ?_
  · rw [HE0.out]; exact blk1 _ _ _
  · exact ⟨Ext.alloc2 _ _ _, _, blkOld _ (blk0 _ _), World.ownsRow_nil _ _ _ _⟩
  · intro l i W hlt hI
    obtain ⟨ti, vi, hei⟩ := HI.out i hlt
    have HEI : Hid (es i = .iface ti vi) := hei
    have HIW : Hid (NInv w ns i W) := hI
    rw [hei]
    clear hei hI
    gi_wp2
    refine ⟨KeepsOthers.alloc _ _, KeepsC.of_ext (Ext.alloc _ _), HIW.out.apart (T := W.heap.size) HIW.out.1.size (fun o ho => absurd (lt_of_block ho) (Nat.lt_irrefl _)) ((Ext.alloc _ _).apart _), ?_⟩
    intro W₂ hI2 hA2 hl
    have b2 : W₂.heap[W.heap.size]? = some (.cells #[.iface ti vi, .int .i64 1] 60) := (hA2.block _ (by simp) (by omega)).trans (blk0 _ _)
    have c20 : W₂.cell? ⟨W.heap.size, 0, none⟩ = some (.iface ti vi) := cell_of b2 rfl
    have c21 : W₂.cell? ⟨W.heap.size, 1, none⟩ = some (.int .i64 1) := cell_of b2 rfl
    have hlt2 : W.heap.size < W₂.heap.size := lt_of_block b2
    have HI2 : Hid (NInv w ns i W₂) := hI2
    have hg4 : Laid (W₂.alloc (.cells #[.pointer none] 53)) := (HG.out.later hI2.1).later (Ext.alloc _ _)
    have hb4 : (W₂.alloc (.cells #[.pointer none] 53)).heap[W₂.heap.size]? = some (.cells #[.pointer none] 53) := blk0 _ _
    have HG4 : Hid (Laid (W₂.alloc (.cells #[.pointer none] 53))) := hg4
    have HB4 : Hid ((W₂.alloc (.cells #[.pointer none] 53)).heap[W₂.heap.size]? = some (.cells #[.pointer none] 53)) := hb4
    clear hI2 hA2 hg4 hb4 b2
    rcases HCASE.out i hlt with ⟨b, u, nt, h1, h2, h3⟩ | ⟨t, v, h1, h2, h3⟩
    · have hAs := As_Noted_hit b (fun _ => es i) 1 0 (by omega) (by omega) W₂.heap.size (.pointer none) _ HG4.out HB4.out (fun j h => absurd h (Nat.not_lt_zero _)) (fun j h => absurd h (Nat.not_lt_zero _)) (fun j h => absurd h (Nat.not_lt_zero _)) (by rw [h1]; exact fun w => isNNoted _ _ _)
      rw [HEI.out] at hAs
      have HAS : Hid (Calls Tryd.prog 14 #[.iface 60 (.agg #[.iface ti vi, .int .i64 1]), .iface 62 (.pointer (some ⟨W₂.heap.size, 0, none⟩))] (W₂.alloc (.cells #[.pointer none] 53)) fun r w' => r = .returned (.bool true) ∧ Apart W₂.heap.size (W₂.alloc (.cells #[.pointer none] 53)) w' ∧ w'.heap[W₂.heap.size]? = some (.cells #[.pointer (some ⟨b, 0, none⟩)] 53)) := hAs
      have HN : Hid (NotedAt w b u nt) := h2
      have HNS : Hid (ns i = some nt) := h3
      clear hAs h1 h2 h3
      gi_wp2_with fail
      refine (CallsIn.inRound l (callsIn_wide.2 HAS.out)).mono ?_
      rintro r W5 ⟨rfl, hA5, hb5⟩
      have hE : Ext W₂ W5 := hA5.ext (Ext.alloc W₂ _) (Nat.le_refl _)
      gi_wp2
      have hI5 : NInv w ns i W5 := HI2.out.apart (T := W₂.heap.size) HI2.out.1.size (fun o ho => absurd (lt_of_block ho) (Nat.lt_irrefl _)) (hE.apart _)
      have HI5 : Hid (NInv w ns i W5) := hI5
      obtain ⟨hx5, v, hv5, hr5⟩ := hI5
      have cv := hv5.cell
      have cn : W5.cell? ⟨W₂.heap.size, 0, none⟩ = some (.pointer (some ⟨b, 0, none⟩)) := cell_of hb5 rfl
      have cs : W5.cell? ⟨b, 1, none⟩ = some (.string nt) := cell_of (hx5.block HN.out) rfl
      have hlen := notedTo_le ns i
      have hmx : Tryd.prog.follows .mixedOrders = true := by kernel_rfl
      have hrow5 : ((W5.alloc (.cells #[.string nt] 9)).drew).ownsRow w.heap.size 9 1 v (notedTo ns i).length (notedTo ns i) := hr5.alloc _
      have hs5 := hx5.size
      have hlt5 : w.heap.size < W5.heap.size := hv5.lt
      have NEW : ∀ (j : Nat) (u : Value), [Value.string nt][j]? = some u → ((W5.alloc (.cells #[.string nt] 9)).drew).cell? (Addr.add ⟨W5.heap.size, 0, none⟩ j) = some u := cell_one_new _ _ _
      have APP : ∀ (v1 : Value) (w6 : World), w6.ownsRow w.heap.size 9 1 v1 ((notedTo ns i).length + 1) (notedTo ns i ++ [.string nt]) → ((W5.alloc (.cells #[.string nt] 9)).drew).grownBy w6 v.ownBlock →
          Boxed w6 w.heap.size 30 v ∧ Boxed (w6.setCell ⟨w.heap.size, 0, none⟩ v1) w.heap.size 30 v1 ∧ (w6.setCell ⟨w.heap.size, 0, none⟩ v1).ownsRow w.heap.size 9 1 v1 ((notedTo ns i).length + 1) (notedTo ns i ++ [.string nt]) ∧ KeepsOthers W5 (w6.setCell ⟨w.heap.size, 0, none⟩ v1) ∧ Below w.heap.size W5 (w6.setCell ⟨w.heap.size, 0, none⟩ v1) ∧ KeepsC W5 (w6.setCell ⟨w.heap.size, 0, none⟩ v1) := by
        intro v1 w6 ho hg
        have hg' : (W5.alloc (.cells #[.string nt] 9)).grownBy w6 v.ownBlock := ⟨hg.os, hg.tape, hg.output, hg.size, hg.block⟩
        obtain ⟨a1, a2, a3, a4, a5⟩ := hv5.appended (by decide) hr5 hx5.size (Nat.le_refl _) ho hg'
        exact ⟨a1, a2, a3, a4, a5, KeepsC.appended hv5 hr5 hg'⟩
      have FIN : ∀ (v1 : Value) (w7 : World), Boxed w7 w.heap.size 30 v1 → w7.ownsRow w.heap.size 9 1 v1 ((notedTo ns i).length + 1) (notedTo ns i ++ [.string nt]) → KeepsOthers W5 w7 → Below w.heap.size W5 w7 → KeepsC W5 w7 → NInv w ns (i + 1) w7 ∧ KeepsOthers W₂ w7 ∧ KeepsC W₂ w7 := by
        intro v1 w7 h1 h2 h3 h4 h5
        refine ⟨⟨Below.trans hx5 h4, v1, h1, ?_⟩, ?_, (KeepsC.of_ext hE).trans h5⟩
        · simpa [notedTo, HNS.out] using h2
        · exact KeepsOthers.trans ⟨hE.size, fun k o hk _ => hE.block hk⟩ h3
      have hb1 : (notedTo ns i).length + 1 ≤ 1024 := by omega
      clear hE hA5 hb5 hv5 hr5 hx5 HI5 HI2 HIW HB4 HG4 c20 c21
      refine wpIn_region_any hmx ?_
      try (change wpAnyIn _ _ _ _ _ _ _ _ _ (World.drew _))
      refine wpAnyIn_ready (rs := [0, 1]) (by kernel_rfl) (by simp) ?_
      refine AllReadyIn.cons rfl (fun K hK => ?_) ?_
      · go_simp
        refine hK _ _ ?_
        clear hK K
        refine wpAnyIn_ready (rs := [1]) (by kernel_rfl) (by simp) ?_
        refine AllReadyIn.cons rfl (fun K hK => ?_) ?_
        · go_simp
          refine hK _ _ ?_
          clear hK K
          refine wpAnyIn_ready (rs := [2]) (by kernel_rfl) (by simp) ?_
          refine AllReadyIn.cons rfl (fun K hK => ?_) ?_
          · go_simp
            refine hK _ _ ?_
            clear hK K
            refine wpAnyIn_ready (rs := [3]) (by kernel_rfl) (by simp) ?_
            refine AllReadyIn.cons rfl (fun K hK => ?_) ?_
            · go_simp
              refine hK _ _ ?_
              clear hK K
              refine wpAnyIn_ready (rs := [4]) (by kernel_rfl) (by simp) ?_
              refine AllReadyIn.cons rfl (fun K hK => ?_) ?_
              · go_simp
                refine hK _ _ ?_
                clear hK K
                refine wpAnyIn_ready (rs := [5]) (by kernel_rfl) (by simp) ?_
                refine AllReadyIn.cons rfl (fun K hK => ?_) ?_
                · go_simp
                  refine hK _ _ ?_
                  clear hK K
                  refine wpAnyIn_ready (rs := [6]) (by kernel_rfl) (by simp) ?_
                  refine AllReadyIn.cons rfl (fun K hK => ?_) ?_
                  · refine stepIn_append rfl _ _ 30 rfl w.heap.size 9 i0 (.string ByteArray.empty) 1 16 Tryd.underlying30 hi0 hz0 hz1 hz2 rfl (by decide) v _ _ rfl hrow5 ⟨W5.heap.size, 0, none⟩ 1 1 [.string nt] rfl rfl (fun j u hu => ?_) (by simp [Value.oneCell']) (by unfold maxLen; omega) (by omega) (by simp; omega) ?_
                    · exact NEW j u hu
                    · intro v1 w6 hown hgrow
                      refine hK _ _ ?_
                      clear hK K
                      obtain ⟨g6, cap6, rfl⟩ := ownsRow_succ hown
                      obtain ⟨k1, k2, k3, k4, k5, k6⟩ := APP _ _ hown hgrow
                      have c6 := k1.cell
                      have f6 := k1.frozen
                      refine wpAnyIn_ready (rs := [7]) (by kernel_rfl) (by simp) ?_
                      refine AllReadyIn.cons rfl (fun K hK => ?_) AllReadyIn.nil
                      go_simp
                      refine hK _ _ ?_
                      clear hK K
                      refine wpAnyIn_done (by kernel_rfl) ?_ _
                      first | exact FIN _ _ k2 k3 k4 k5 k6 | exact ⟨rfl, FIN _ _ k2 k3 k4 k5 k6⟩
                  exact AllReadyIn.nil
                exact AllReadyIn.nil
              exact AllReadyIn.nil
            exact AllReadyIn.nil
          exact AllReadyIn.nil
        exact AllReadyIn.nil
      refine AllReadyIn.cons rfl (fun K hK => ?_) ?_
      · go_simp
        refine hK _ _ ?_
        clear hK K
        refine wpAnyIn_ready (rs := [0, 2]) (by kernel_rfl) (by simp) ?_
        refine AllReadyIn.cons rfl (fun K hK => ?_) ?_
        · go_simp
          refine hK _ _ ?_
          clear hK K
          refine wpAnyIn_ready (rs := [2]) (by kernel_rfl) (by simp) ?_
          refine AllReadyIn.cons rfl (fun K hK => ?_) ?_
          · go_simp
            refine hK _ _ ?_
            clear hK K
            refine wpAnyIn_ready (rs := [3]) (by kernel_rfl) (by simp) ?_
            refine AllReadyIn.cons rfl (fun K hK => ?_) ?_
            · go_simp
              refine hK _ _ ?_
              clear hK K
              refine wpAnyIn_ready (rs := [4]) (by kernel_rfl) (by simp) ?_
              refine AllReadyIn.cons rfl (fun K hK => ?_) ?_
              · go_simp
                refine hK _ _ ?_
                clear hK K
                refine wpAnyIn_ready (rs := [5]) (by kernel_rfl) (by simp) ?_
                refine AllReadyIn.cons rfl (fun K hK => ?_) ?_
                · go_simp
                  refine hK _ _ ?_
                  clear hK K
                  refine wpAnyIn_ready (rs := [6]) (by kernel_rfl) (by simp) ?_
                  refine AllReadyIn.cons rfl (fun K hK => ?_) ?_
                  · refine stepIn_append rfl _ _ 30 rfl w.heap.size 9 i0 (.string ByteArray.empty) 1 16 Tryd.underlying30 hi0 hz0 hz1 hz2 rfl (by decide) v _ _ rfl hrow5 ⟨W5.heap.size, 0, none⟩ 1 1 [.string nt] rfl rfl (fun j u hu => ?_) (by simp [Value.oneCell']) (by unfold maxLen; omega) (by omega) (by simp; omega) ?_
                    · exact NEW j u hu
                    · intro v1 w6 hown hgrow
                      refine hK _ _ ?_
                      clear hK K
                      obtain ⟨g6, cap6, rfl⟩ := ownsRow_succ hown
                      obtain ⟨k1, k2, k3, k4, k5, k6⟩ := APP _ _ hown hgrow
                      have c6 := k1.cell
                      have f6 := k1.frozen
                      refine wpAnyIn_ready (rs := [7]) (by kernel_rfl) (by simp) ?_
                      refine AllReadyIn.cons rfl (fun K hK => ?_) AllReadyIn.nil
                      go_simp
                      refine hK _ _ ?_
                      clear hK K
                      refine wpAnyIn_done (by kernel_rfl) ?_ _
                      first | exact FIN _ _ k2 k3 k4 k5 k6 | exact ⟨rfl, FIN _ _ k2 k3 k4 k5 k6⟩
                  exact AllReadyIn.nil
                exact AllReadyIn.nil
              exact AllReadyIn.nil
            exact AllReadyIn.nil
          exact AllReadyIn.nil
        refine AllReadyIn.cons rfl (fun K hK => ?_) ?_
        · go_simp
          refine hK _ _ ?_
          clear hK K
          refine wpAnyIn_ready (rs := [0, 3]) (by kernel_rfl) (by simp) ?_
          refine AllReadyIn.cons rfl (fun K hK => ?_) ?_
          · go_simp
            refine hK _ _ ?_
            clear hK K
            refine wpAnyIn_ready (rs := [3]) (by kernel_rfl) (by simp) ?_
            refine AllReadyIn.cons rfl (fun K hK => ?_) ?_
            · go_simp
              refine hK _ _ ?_
              clear hK K
              refine wpAnyIn_ready (rs := [4]) (by kernel_rfl) (by simp) ?_
              refine AllReadyIn.cons rfl (fun K hK => ?_) ?_
              · go_simp
                refine hK _ _ ?_
                clear hK K
                refine wpAnyIn_ready (rs := [5]) (by kernel_rfl) (by simp) ?_
                refine AllReadyIn.cons rfl (fun K hK => ?_) ?_
                · go_simp
                  refine hK _ _ ?_
                  clear hK K
                  refine wpAnyIn_ready (rs := [6]) (by kernel_rfl) (by simp) ?_
                  refine AllReadyIn.cons rfl (fun K hK => ?_) ?_
                  · refine stepIn_append rfl _ _ 30 rfl w.heap.size 9 i0 (.string ByteArray.empty) 1 16 Tryd.underlying30 hi0 hz0 hz1 hz2 rfl (by decide) v _ _ rfl hrow5 ⟨W5.heap.size, 0, none⟩ 1 1 [.string nt] rfl rfl (fun j u hu => ?_) (by simp [Value.oneCell']) (by unfold maxLen; omega) (by omega) (by simp; omega) ?_
                    · exact NEW j u hu
                    · intro v1 w6 hown hgrow
                      refine hK _ _ ?_
                      clear hK K
                      obtain ⟨g6, cap6, rfl⟩ := ownsRow_succ hown
                      obtain ⟨k1, k2, k3, k4, k5, k6⟩ := APP _ _ hown hgrow
                      have c6 := k1.cell
                      have f6 := k1.frozen
                      refine wpAnyIn_ready (rs := [7]) (by kernel_rfl) (by simp) ?_
                      refine AllReadyIn.cons rfl (fun K hK => ?_) AllReadyIn.nil
                      go_simp
                      refine hK _ _ ?_
                      clear hK K
                      refine wpAnyIn_done (by kernel_rfl) ?_ _
                      first | exact FIN _ _ k2 k3 k4 k5 k6 | exact ⟨rfl, FIN _ _ k2 k3 k4 k5 k6⟩
                  exact AllReadyIn.nil
                exact AllReadyIn.nil
              exact AllReadyIn.nil
            exact AllReadyIn.nil
          refine AllReadyIn.cons rfl (fun K hK => ?_) ?_
          · go_simp
            refine hK _ _ ?_
            clear hK K
            refine wpAnyIn_ready (rs := [0, 4]) (by kernel_rfl) (by simp) ?_
            refine AllReadyIn.cons rfl (fun K hK => ?_) ?_
            · go_simp
              refine hK _ _ ?_
              clear hK K
              refine wpAnyIn_ready (rs := [4]) (by kernel_rfl) (by simp) ?_
              refine AllReadyIn.cons rfl (fun K hK => ?_) ?_
              · go_simp
                refine hK _ _ ?_
                clear hK K
                refine wpAnyIn_ready (rs := [5]) (by kernel_rfl) (by simp) ?_
                refine AllReadyIn.cons rfl (fun K hK => ?_) ?_
                · go_simp
                  refine hK _ _ ?_
                  clear hK K
                  refine wpAnyIn_ready (rs := [6]) (by kernel_rfl) (by simp) ?_
                  refine AllReadyIn.cons rfl (fun K hK => ?_) ?_
                  · refine stepIn_append rfl _ _ 30 rfl w.heap.size 9 i0 (.string ByteArray.empty) 1 16 Tryd.underlying30 hi0 hz0 hz1 hz2 rfl (by decide) v _ _ rfl hrow5 ⟨W5.heap.size, 0, none⟩ 1 1 [.string nt] rfl rfl (fun j u hu => ?_) (by simp [Value.oneCell']) (by unfold maxLen; omega) (by omega) (by simp; omega) ?_
                    · exact NEW j u hu
                    · intro v1 w6 hown hgrow
                      refine hK _ _ ?_
                      clear hK K
                      obtain ⟨g6, cap6, rfl⟩ := ownsRow_succ hown
                      obtain ⟨k1, k2, k3, k4, k5, k6⟩ := APP _ _ hown hgrow
                      have c6 := k1.cell
                      have f6 := k1.frozen
                      refine wpAnyIn_ready (rs := [7]) (by kernel_rfl) (by simp) ?_
                      refine AllReadyIn.cons rfl (fun K hK => ?_) AllReadyIn.nil
                      go_simp
                      refine hK _ _ ?_
                      clear hK K
                      refine wpAnyIn_done (by kernel_rfl) ?_ _
                      first | exact FIN _ _ k2 k3 k4 k5 k6 | exact ⟨rfl, FIN _ _ k2 k3 k4 k5 k6⟩
                  exact AllReadyIn.nil
                exact AllReadyIn.nil
              exact AllReadyIn.nil
            refine AllReadyIn.cons rfl (fun K hK => ?_) ?_
            · go_simp
              refine hK _ _ ?_
              clear hK K
              refine wpAnyIn_ready (rs := [0, 5]) (by kernel_rfl) (by simp) ?_
              refine AllReadyIn.cons rfl (fun K hK => ?_) ?_
              · go_simp
                refine hK _ _ ?_
                clear hK K
                refine wpAnyIn_ready (rs := [5]) (by kernel_rfl) (by simp) ?_
                refine AllReadyIn.cons rfl (fun K hK => ?_) ?_
                · go_simp
                  refine hK _ _ ?_
                  clear hK K
                  refine wpAnyIn_ready (rs := [6]) (by kernel_rfl) (by simp) ?_
                  refine AllReadyIn.cons rfl (fun K hK => ?_) ?_
                  · refine stepIn_append rfl _ _ 30 rfl w.heap.size 9 i0 (.string ByteArray.empty) 1 16 Tryd.underlying30 hi0 hz0 hz1 hz2 rfl (by decide) v _ _ rfl hrow5 ⟨W5.heap.size, 0, none⟩ 1 1 [.string nt] rfl rfl (fun j u hu => ?_) (by simp [Value.oneCell']) (by unfold maxLen; omega) (by omega) (by simp; omega) ?_
                    · exact NEW j u hu
                    · intro v1 w6 hown hgrow
                      refine hK _ _ ?_
                      clear hK K
                      obtain ⟨g6, cap6, rfl⟩ := ownsRow_succ hown
                      obtain ⟨k1, k2, k3, k4, k5, k6⟩ := APP _ _ hown hgrow
                      have c6 := k1.cell
                      have f6 := k1.frozen
                      refine wpAnyIn_ready (rs := [7]) (by kernel_rfl) (by simp) ?_
                      refine AllReadyIn.cons rfl (fun K hK => ?_) AllReadyIn.nil
                      go_simp
                      refine hK _ _ ?_
                      clear hK K
                      refine wpAnyIn_done (by kernel_rfl) ?_ _
                      first | exact FIN _ _ k2 k3 k4 k5 k6 | exact ⟨rfl, FIN _ _ k2 k3 k4 k5 k6⟩
                  exact AllReadyIn.nil
                exact AllReadyIn.nil
              refine AllReadyIn.cons rfl (fun K hK => ?_) ?_
              · go_simp
                refine hK _ _ ?_
                clear hK K
                refine wpAnyIn_ready (rs := [0]) (by kernel_rfl) (by simp) ?_
                refine AllReadyIn.cons rfl (fun K hK => ?_) ?_
                · go_simp
                  refine hK _ _ ?_
                  clear hK K
                  refine wpAnyIn_ready (rs := [6]) (by kernel_rfl) (by simp) ?_
                  refine AllReadyIn.cons rfl (fun K hK => ?_) ?_
                  · refine stepIn_append rfl _ _ 30 rfl w.heap.size 9 i0 (.string ByteArray.empty) 1 16 Tryd.underlying30 hi0 hz0 hz1 hz2 rfl (by decide) v _ _ rfl hrow5 ⟨W5.heap.size, 0, none⟩ 1 1 [.string nt] rfl rfl (fun j u hu => ?_) (by simp [Value.oneCell']) (by unfold maxLen; omega) (by omega) (by simp; omega) ?_
                    · exact NEW j u hu
                    · intro v1 w6 hown hgrow
                      refine hK _ _ ?_
                      clear hK K
                      obtain ⟨g6, cap6, rfl⟩ := ownsRow_succ hown
                      obtain ⟨k1, k2, k3, k4, k5, k6⟩ := APP _ _ hown hgrow
                      have c6 := k1.cell
                      have f6 := k1.frozen
                      refine wpAnyIn_ready (rs := [7]) (by kernel_rfl) (by simp) ?_
                      refine AllReadyIn.cons rfl (fun K hK => ?_) AllReadyIn.nil
                      go_simp
                      refine hK _ _ ?_
                      clear hK K
                      refine wpAnyIn_done (by kernel_rfl) ?_ _
                      first | exact FIN _ _ k2 k3 k4 k5 k6 | exact ⟨rfl, FIN _ _ k2 k3 k4 k5 k6⟩
                  exact AllReadyIn.nil
                exact AllReadyIn.nil
              exact AllReadyIn.nil
            exact AllReadyIn.nil
          exact AllReadyIn.nil
        exact AllReadyIn.nil
      exact AllReadyIn.nil
    · have hAs := As_Noted_miss (fun _ => es i) 1 1 (by omega) (by omega) (by omega) (.inl rfl) W₂.heap.size _ HG4.out (fun j h => absurd h (by omega)) (fun j h => ⟨_, h2⟩) (fun j h h' => absurd h' (by omega))
      rw [HEI.out] at hAs
      have HAS : Hid (Calls Tryd.prog 14 #[.iface 60 (.agg #[.iface ti vi, .int .i64 1]), .iface 62 (.pointer (some ⟨W₂.heap.size, 0, none⟩))] (W₂.alloc (.cells #[.pointer none] 53)) fun r w' => r = .returned (.bool false) ∧ Ext (W₂.alloc (.cells #[.pointer none] 53)) w') := hAs
      have HNS : Hid (ns i = Option.none) := h3
      clear hAs h1 h2 h3
      gi_wp2_with fail
      refine (CallsIn.inRound l (callsIn_wide.2 HAS.out)).mono ?_
      rintro r W5 ⟨rfl, hE5⟩
      have hE : Ext W₂ W5 := (Ext.alloc W₂ _).trans hE5
      gi_wp2
      have hI5 : NInv w ns i W5 := HI2.out.apart (T := W₂.heap.size) HI2.out.1.size (fun o ho => absurd (lt_of_block ho) (Nat.lt_irrefl _)) (hE.apart _)
      exact ⟨by simpa [NInv, notedTo, HNS.out] using hI5, ⟨hE.size, fun k o hk _ => hE.block hk⟩, KeepsC.of_ext hE⟩
  · intro D W hI hD hle
    obtain ⟨hx, v, hb, hr⟩ := hI
    have c0 := hb.cell
    gi_wp2
    refine ⟨by simp, .inl ⟨_, _, rfl, run_takeDeferred hD, ?_⟩⟩
    exact ⟨_, results_tmp rfl _ _ _, v, rfl, ownsRow_putObj hr _ hD rfl, (Apart.putObj W D _).ext hx (Nat.le_trans (Ext.alloc2 w _ _).size hle)⟩


end Go.Proofs.YtflcmdjekmmkkabDoor
