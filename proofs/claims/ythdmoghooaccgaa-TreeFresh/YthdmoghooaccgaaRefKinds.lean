/-
  The reference's Kinds by a contract.
-/
import Derived.Test.YthdmoghooaccgaaKinds
import Derived.Test.YthdmoghooaccgaaRefSize
namespace Go.Proofs.Ythdmoghooaccgaa
open Go.RowKit Go.Shelf
mutual
/-- The kinds of a tree, each once, behind some that are there. -/
def kinT : List (List UInt8) → T → List (List UInt8) | ns, .node k _ _ ks => kinL (addK ns k.data.toList) ks
def kinL : List (List UInt8) → List T → List (List UInt8) | ns, [] => ns | ns, t :: r => kinL (kinT ns t) r
end
theorem kinL_append (l r : List T) (ns : List (List UInt8)) : kinL ns (l ++ r) = kinL (kinL ns l) r := by
  induction l generalizing ns with
  | nil => simp [kinL]
  | cons t q ih => simp only [List.cons_append, kinL, ih]
theorem kinL_take (l : List T) (i : Nat) (h : i < l.length) (ns : List (List UInt8)) : kinL ns (l.take (i + 1)) = kinT (kinL ns (l.take i)) l[i] := by
  rw [T.take_succ' l i h, kinL_append]
  simp [kinL]
mutual
theorem kinT_all : ∀ (t : T) (p : List Int) (ns : List (List UInt8)), kinT ns t = (T.all p t).foldl (fun ks y => addK ks y.2.kind.data.toList) ns
  | .node k n x ks, p, ns => by
    simp only [kinT, T.all, List.foldl_cons]
    exact kinL_all ks p 0 _
theorem kinL_all : ∀ (l : List T) (p : List Int) (i : Nat) (ns : List (List UInt8)), kinL ns l = (T.allL p i l).foldl (fun ks y => addK ks y.2.kind.data.toList) ns
  | [], p, i, ns => by simp [kinL, T.allL]
  | t :: r, p, i, ns => by
    simp only [kinL, T.allL, List.foldl_append]
    rw [kinT_all t (p ++ [(i : Int)]) ns, kinL_all r p (i + 1)]
end
theorem kinT_len (t : T) (ns : List (List UInt8)) : (kinT ns t).length ≤ ns.length + t.size := by
  rw [kinT_all t [] ns]
  have := kindsOf_le (T.all [] t) ns
  rw [T.all_length] at this
  exact this
theorem kinL_len (l : List T) (ns : List (List UInt8)) : (kinL ns l).length ≤ ns.length + T.sizeL l := by
  rw [kinL_all l [] 0 ns]
  have := kindsOf_le (T.allL [] 0 l) ns
  rw [T.allL_length] at this
  exact this
theorem kinT_kinds (t : T) : kinT [] t = kindsOf (T.all [] t) := kinT_all t [] []
theorem rowS_at {w : World} {base : Nat} {v : Value} {ns : List (List UInt8)} (h : w.ownsRow base 9 1 v ns.length (strs ns)) {j : Nat} (hj : j < ns.length) : ∃ g c, v = .slice (some ⟨g, 0, none⟩) ns.length c ∧ base ≤ g ∧ w.cell? ⟨g, j, none⟩ = some (.string ⟨ns[j].toArray⟩) := by
  rcases h.2 with ⟨_, h0⟩ | ⟨g, cap, cur, rfl, hb, hc, h1, h2, h3, h4⟩
  · omega
  · refine ⟨g, cap, rfl, hb, ?_⟩
    have e : (cur.toList.take (ns.length * 1))[j]? = some (.string ⟨ns[j].toArray⟩) := by rw [h4]; simp [strs, hj]
    rw [List.getElem?_take_of_lt (by omega)] at e
    exact cell_of hc (by simpa using e)
theorem Kp.chain {K L : Nat → Prop} {a b c : World} (h : Kp K a b) (k : Kp L b c) (hl : ∀ q, q < a.heap.size → K q → L q) : Kp K a c :=
  ⟨k.os.trans h.os, k.tape.trans h.tape, k.output.trans h.output, Nat.le_trans h.size k.size, fun i hi hk => (k.block i (Nat.lt_of_lt_of_le hi h.size) (hl i hi hk)).trans (h.block i hi hk)⟩
theorem take_mem_succ {ns : List (List UInt8)} {j : Nat} (hj : j < ns.length) (x : List UInt8) : x ∈ ns.take (j + 1) ↔ x ∈ ns.take j ∨ ns[j] = x := by
  rw [T.take_succ' ns j hj, List.mem_append, List.mem_singleton]
  constructor
  · rintro (h | h)
    · exact .inl h
    · exact .inr h.symm
  · rintro (h | h)
    · exact .inl h
    · exact .inr h.symm
/-- What the loop of kinds holds. -/
def KinSt (w : World) (base : Nat) (lv : Value) (bx : Obj) (l : Value) (ms : List (List UInt8)) (wr : World) : Prop :=
  wr.ownsRow base 9 1 l ms.length (strs ms) ∧ wr.heap[w.heap.size]? = some bx ∧ Kp (fun q => some q ≠ lv.ownBlock) w wr ∧ (l.ownBlock = lv.ownBlock ∨ ∃ q, l.ownBlock = some q ∧ w.heap.size + 1 ≤ q)
set_option maxRecDepth 100000 in
set_option maxHeartbeats 4000000 in
theorem rkinds_any : ∀ (d : Nat) (v : Value) (t : T) (K : Nat → Prop) (w : World) (base : Nat) (lv : Value) (ns : List (List UInt8)), Rd K w d v t → w.ownsRow base 9 1 lv ns.length (strs ns) → (∀ q, lv.ownBlock = some q → ¬ K q) → base ≤ w.heap.size → ns.length + t.size ≤ 4000 →
    Calls Try.prog 62 #[lv, v] w fun e w' => ∃ v', e = .returned v' ∧ w'.ownsRow base 9 1 v' (kinT ns t).length (strs (kinT ns t)) ∧ Kp (fun q => some q ≠ lv.ownBlock) w w' ∧ (v'.ownBlock = lv.ownBlock ∨ ∃ q, v'.ownBlock = some q ∧ w.heap.size ≤ q) := by
  intro d
  induction d with
  | zero => intro v t K w base lv ns h; exact h.elim
  | succ d ih =>
    intro v t K0 w base lv ns hr0 hrow hlk0 hbs hsz
    obtain ⟨K, hK⟩ : ∃ K : Nat → Prop, K = fun q => K0 q ∧ q < w.heap.size := ⟨_, rfl⟩
    have hr : Rd K w (d + 1) v t := hr0.mono (fun q hq h => by rw [hK]; exact ⟨h, hq⟩)
    have hlk : ∀ q, lv.ownBlock = some q → ¬ K q := fun q hq h => by rw [hK] at h; exact hlk0 q hq h.1
    have hKl : ∀ q, K q → q < w.heap.size := fun q h => by rw [hK] at h; exact h.2
    clear hr0 hlk0 hK
    obtain ⟨k, n, x, ks⟩ := t
    obtain ⟨a, c, rfl, hkl⟩ := hr.kidsL
    obtain ⟨la, lc, rfl⟩ := ownsRow_slice hrow
    have hl' : (ks.length : Int) ≤ 140737488355328 := by have := hkl.1; omega
    have hnl : (ns.length : Int) ≤ 4000 := by omega
    have HK := hid hkl
    have HIH := hid ih
    have HROW := hid hrow
    have HLK := hid hlk
    have HKL := hid hKl
    have HLT := hid (show ∀ q, (Value.slice la ns.length lc).ownBlock = some q → q < w.heap.size from fun q hq => by obtain ⟨_, cur, hc⟩ := ownsRow_block hrow hq; exact lt_of_block hc)
    have HT := hid (show kinT ns (.node k n x ks) = kinL (addK ns k.data.toList) ks from rfl)
    have HSZ := hid (show ns.length + 1 + T.sizeL ks ≤ 4000 by simp only [T.size] at hsz; omega)
    clear hr hkl ih hrow hlk hsz hKl
    go_enter Try.func62, Try.ntmps62
    go_wp2_with fail
    go_loopw [5, 6] (fun th i wr => ∃ j : Nat, j ≤ ns.length ∧ i = .int .i64 j ∧ th = .bool (decide (k.data.toList ∈ ns.take j)) ∧ wr.heap[w.heap.size]? = some (.cells #[.string k, .int .i64 n, .string x, .slice a ks.length c] 26) ∧ Ext w wr) (fun _ i _ => ns.length - (intOf i).toNat)
    case atStart => exact ⟨0, Nat.zero_le _, rfl, by simp, blk0 _ _, Ext.alloc _ _⟩
    case round =>
      obtain ⟨j, hj, rfl, rfl, hbt, hx⟩ := hrel
      have HX := hid hx
      have HBT := hid hbt
      obtain ⟨t0, t1, t2, t3⟩ := four_of hbt
      clear hx hbt
      generalize hr : decide (k.data.toList ∈ ns.take j) = r
      have HRR := hid hr
      clear hr
      by_cases hlt : j < ns.length
      · have hlt' : (j : Int) < ns.length := by omega
        have HTM := hid (take_mem_succ hlt k.data.toList)
        obtain ⟨g, c9, he, hg, hc⟩ := rowS_at (ownsRow_keep HROW.out (HX.out.kp (fun _ => True)) (fun _ _ => trivial)) hlt
        simp only [Value.slice.injEq] at he
        obtain ⟨rfl, _, rfl⟩ := he
        cases r with
        | true =>
          go_wp2_with fail
          go_quiet (fail)
          go_wp2_with fail
          go_roundw
          case rel => exact ⟨j + 1, hlt, by go_num, by rw [decide_eq_true (HTM.out.2 (.inl (of_decide_eq_true HRR.out)))], HBT.out, HX.out.drewN _⟩
          case measure => simp [intOf]; omega
        | false =>
          have HNE := hid (show ¬ k.data.toList ∈ ns.take j from of_decide_eq_false HRR.out)
          generalize hs : (⟨ns[j].toArray⟩ : ByteArray) = s at hc
          by_cases q1 : s.toList = k.toList
          · have HQ := hid (show ns[j] = k.data.toList by have := toList_inj q1; rw [← this, ← hs])
            clear hs
            go_wp2_with fail
            go_quiet (fail)
            go_wp2_with fail
            go_roundw
            case rel => exact ⟨j + 1, hlt, by go_num, by rw [decide_eq_true (HTM.out.2 (.inr HQ.out))], HBT.out, HX.out.drewN _⟩
            case measure => simp [intOf]; omega
          · have HQ := hid (show ns[j] ≠ k.data.toList from fun e => q1 (by rw [← hs, e]))
            clear hs
            go_wp2_with fail
            go_quiet (fail)
            go_wp2_with fail
            go_roundw
            case rel => exact ⟨j + 1, hlt, by go_num, by rw [decide_eq_false (fun h => (HTM.out.1 h).elim HNE.out HQ.out)]; simpa using q1, HBT.out, HX.out.drewN _⟩
            case measure => simp [intOf]; omega
      · have hje : j = ns.length := by omega
        have HTA := hid (show decide (k.data.toList ∈ ns) = r by rw [← HRR.out, hje, List.take_length])
        clear hje HRR
        have ROW1 := hid (ownsRow_keep HROW.out (HX.out.kp (fun _ => True)) (fun _ _ => trivial))
        obtain ⟨ms, hms⟩ : ∃ ms, addK ns k.data.toList = ms := ⟨_, rfl⟩
        have HMS := hid (show kinT ns (.node k n x ks) = kinL ms ks by rw [← hms]; rfl)
        have hsw := lt_of_block HBT.out
        have HSZ2 := hid (show ms.length + T.sizeL ks ≤ 4000 by
          have := HSZ.out
          have h2 : ms.length ≤ ns.length + 1 := by rw [← hms]; unfold addK; split <;> simp
          omega)
        obtain ⟨i0, hi0, hz0, hz1, hz2⟩ := info_parts strInfo2
        clear HT
        cases r
        have HADD := hid (show ms = ns ++ [k.data.toList] by rw [← hms]; exact if_neg (of_decide_eq_false HTA.out))
        have xr2 := ownsRow_keep ROW1.out ((Ext.alloc wr (.cells #[.string k] 9)).kp (fun _ => True)) (fun _ _ => trivial)
        go_wp2_with (at_builtin; refine wpList_append_own_at _ rfl _ _ 49 rfl base 9 i0 (.string ⟨#[]⟩) 1 16 Try.underlying49 hi0 hz0 hz1 hz2 rfl (by decide) _ _ _ rfl xr2 ⟨wr.heap.size, 0, none⟩ 1 1 [.string k] rfl rfl (cell_one_new _ _ _) (by simp [Value.oneCell']) (by unfold maxLen; omega) (by omega) (by have := HX.out.size; simp; omega) ?_; intro v9 w9 hown9 hgrow9 _ hat9; obtain ⟨a9, c9, rfl⟩ := ownsRow_slice hown9)
        have HST := hid (show KinSt w base (.slice la ns.length lc) (.cells #[.string k, .int .i64 n, .string x, .slice a ks.length c] 26) (.slice a9 (ns.length + 1) c9) (kinL ms (ks.take 0)) w9 by
          have K9 : Kp (fun q => some q ≠ (Value.slice la ns.length lc).ownBlock) wr w9 := ((Ext.alloc wr (.cells #[.string k] 9)).kp _).trans ⟨hgrow9.os, hgrow9.tape, hgrow9.output, hgrow9.size, fun q hq hne => hgrow9.block q hq hne⟩
          refine ⟨?_, K9.block' HBT.out (fun e => by have := HLT.out _ e.symm; omega), (HX.out.kp _).trans K9, ?_⟩
          · rw [HADD.out]
            simpa [kinL, strs] using hown9
          · rcases hat9 with h | h
            · exact .inl h
            · exact .inr ⟨_, h, by simp; omega⟩)
        clear hown9 hgrow9 hat9 xr2
        rotate_left
        have HADD := hid (show ms = ns by rw [← hms]; exact if_pos (of_decide_eq_true HTA.out))
        go_wp2_with fail
        have HST := hid (show KinSt w base (.slice la ns.length lc) (.cells #[.string k, .int .i64 n, .string x, .slice a ks.length c] 26) (.slice la ns.length lc) (kinL ms (ks.take 0)) wr by
          refine ⟨?_, HBT.out, HX.out.kp _, .inl rfl⟩
          rw [HADD.out]
          simpa [kinL] using ROW1.out)
        rotate_left
        all_goals
          clear HBT t0 t1 t2 t3 ROW1 hi0 hz0 hz1 hz2 HTA HADD
          go_loopw [0, 7] (fun l i wr => ∃ j : Nat, j ≤ ks.length ∧ i = .int .i64 j ∧ KinSt w base (.slice la ns.length lc) (.cells #[.string k, .int .i64 n, .string x, .slice a ks.length c] 26) l (kinL ms (ks.take j)) wr) (fun _ i _ => ks.length - (intOf i).toNat)
          case atStart => exact ⟨0, Nat.zero_le _, rfl, HST.out⟩
          case round =>
            obtain ⟨j, hj, rfl, hst⟩ := hrel
            have HSJ := hid hst
            obtain ⟨t0, t1, t2, t3⟩ := four_of hst.2.1
            obtain ⟨a2, c2, rfl⟩ := ownsRow_slice hst.1
            clear hst HST
            by_cases hlt : j < ks.length
            · have hlt' : (j : Int) < ks.length := by omega
              have HKP := hid (HSJ.out.2.2.1.mono (L := K) (fun q _ hq e => HLK.out q e.symm hq))
              obtain ⟨g, off, k', n', x', a', l', c', rfl, hg, h4, hrd⟩ := HK.out.kid hlt
              obtain ⟨m0, m1, m2, m3⟩ := h4.keep HKP.out hg
              have hgl := lt_of_cell m0
              have hb2 := HSJ.out.2.2.1.size
              have HC := hid (HIH.out _ ks[j] K _ base _ (kinL ms (ks.take j)) (hrd.keep HKP.out) HSJ.out.1 (fun q hq hk => by
                rcases HSJ.out.2.2.2 with h | ⟨q', h, hq'⟩
                · rw [h] at hq; exact HLK.out q hq hk
                · rw [h] at hq; cases hq; have := HKL.out _ hk; omega) (by omega) (by
                have h1 := kinL_len (ks.take j) ms
                have h2 := T.sizeL_take ks j hlt
                have h3 := T.sizeL_split ks (j + 1)
                have := HSZ2.out
                omega))
              have HKT := hid (kinL_take ks j hlt ms)
              clear h4 hrd hg
              go_wp2_with fail
              refine HC.out.mono ?_
              rintro e w2 ⟨v', rfl, hrow2, hkp2, hown2⟩
              have HR2 := hid (And.intro hrow2 (And.intro hkp2 hown2))
              obtain ⟨a3, c3, rfl⟩ := ownsRow_slice hrow2
              clear hrow2 hkp2 hown2 HC m0 m1 m2 m3 t0 t1 t2 t3
              go_wp2_with fail
              go_roundw
              case rel =>
                obtain ⟨hrow2, hkp2, hown2⟩ := HR2.out
                have hso := HSJ.out.2.2.2
                refine ⟨j + 1, hlt, by go_num, ?_, ?_, ?_, ?_⟩
                · rw [HKT.out]; exact hrow2
                · refine hkp2.block' HSJ.out.2.1 (fun e => ?_)
                  rcases hso with h | ⟨q', h, hq'⟩
                  · rw [h] at e; have := HLT.out _ e.symm; omega
                  · rw [h] at e; cases e; omega
                · refine HSJ.out.2.2.1.chain hkp2 (fun q hq hne e => ?_)
                  rcases hso with h | ⟨q', h, hq'⟩
                  · rw [h] at e; exact hne e
                  · rw [h] at e; cases e; omega
                · rcases hown2 with h | ⟨q', h, hq'⟩
                  · rw [h]; exact hso
                  · exact .inr ⟨q', h, by have := lt_of_block HSJ.out.2.1; omega⟩
              case measure => simp [intOf]; omega
            · have hje : j = ks.length := by omega
              have HR := hid (show kinL ms (ks.take j) = kinL ms ks by rw [hje, List.take_length])
              clear hje
              go_wp2_with fail
              go_ret
              refine ⟨_, rfl, ?_, HSJ.out.2.2.1, ?_⟩
              · rw [HMS.out, ← HR.out]; exact HSJ.out.1
              · rcases HSJ.out.2.2.2 with h | ⟨q', h, hq'⟩
                · exact .inl h
                · exact .inr ⟨q', h, by omega⟩
end Go.Proofs.Ythdmoghooaccgaa
