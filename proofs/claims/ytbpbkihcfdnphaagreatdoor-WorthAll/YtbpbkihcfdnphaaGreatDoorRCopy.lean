/-
  The reference's Copy by a contract: the same plain value, in lists that were not there; its Join.
-/
import Derived.Test.YtbpbkihcfdnphaaGreatDoorPTwin
import Derived.Test.YtbpbkihcfdnphaaGreatDoorRLeft
import Derived.Test.YtbpbkihcfdnphaaGreatDoorJoin
import Derived.Maps.AppendAt
namespace Go.Proofs.YtbpbkihcfdnphaaGreatDoor
open Go.RowKit
/-- The plain values of a row. -/
def RowOk (w : World) (base d : Nat) (v : Value) (ks : List T) (xs : List Value) : Prop :=
  ∀ j, (h : j < ks.length) → ∃ u0 u1 u2 u3, xs[j * 4]? = some u0 ∧ xs[j * 4 + 1]? = some u1 ∧ xs[j * 4 + 2]? = some u2 ∧ xs[j * 4 + 3]? = some u3 ∧ Rd (fun q => base ≤ q ∧ v.ownBlock ≠ some q) w d (.agg #[u0, u1, u2, u3]) ks[j]
set_option maxRecDepth 100000 in
set_option maxHeartbeats 2000000 in
theorem rcopy_any : ∀ (d : Nat) (v : Value) (t : T) (K : Nat → Prop) (w : World), Rd K w d v t →
    Calls Tryz.prog 41 #[v] w fun e w' => ∃ v', e = .returned v' ∧ Rd (fun q => w.heap.size ≤ q) w' d v' t ∧ Ext w w' := by
  intro d
  induction d with
  | zero => intro v t K w h; exact h.elim
  | succ d ih =>
    intro v t K w hr
    obtain ⟨k, n, x, ks⟩ := t
    obtain ⟨a, c, rfl, hkl⟩ := hr.kidsL
    have hks : x.size ≤ 140737488351232 := by obtain ⟨_, _, _, h2, _⟩ := hr; exact h2
    have HK := hid hkl
    have HIH := hid ih
    have HKS := hid hks
    have hl' : (ks.length : Int) ≤ 140737488355328 := by have := hkl.1; omega
    clear hr hkl ih hks
    go_enter Tryz.func41, Tryz.ntmps41
    go_wp2_with fail
    have hb0 : w.heap.size ≤ w.heap.size := Nat.le_refl _
    obtain ⟨i0, hi0, hz0, hz1, hz2⟩ := info_parts plainInfo
    go_loopw [3, 4] (fun l i wr => ∃ (j : Nat) (xs : List Value), j ≤ ks.length ∧ i = .int .i64 j ∧ Ext w wr ∧ wr.heap[w.heap.size]? = some (.cells #[.int .i64 k, .int .i64 n, .string x, .slice a ks.length c] 27) ∧
        wr.heap[w.heap.size + 1]? = some (.cells #[.int .i64 0, .int .i64 0, .string ⟨#[]⟩, .slice none 0 0] 27) ∧ wr.ownsRow (w.heap.size + 1 + 1) 27 4 l j xs ∧ RowOk wr (w.heap.size + 1 + 1) d l (ks.take j) xs) (fun _ i _ => ks.length - (intOf i).toNat)
    case atStart => exact ⟨0, [], Nat.zero_le _, rfl, Ext.alloc2 _ _ _, blkOld _ (blk0 _ _), blk1 _ _ _, World.ownsRow_nil _ _ _ _, fun j h => absurd h (by simp)⟩
    case round =>
      obtain ⟨j, xs, hj, rfl, hx, hbt, hbr, hrow, hok⟩ := hrel
      have HX := hid hx
      have HBT := hid hbt
      have HBR := hid hbr
      have HROW := hid hrow
      have HOK := hid hok
      obtain ⟨av, cv, rfl⟩ := row4_slice hrow
      obtain ⟨t0, t1, t2, t3⟩ := four_of hbt
      have hsw : w.heap.size + 1 < wr.heap.size := lt_of_block hbr
      clear hx hbr hrow hok
      by_cases hlt : j < ks.length
      · have hlt' : (j : Int) < ks.length := by omega
        obtain ⟨g, off, k', n', x', a', l', c', rfl, hg, h4, hr⟩ := HK.out.kid hlt
        obtain ⟨m0, m1, m2, m3⟩ := h4.keep (HX.out.kp K) hg
        have hgl := lt_of_cell m0
        have HC := hid (HIH.out _ ks[j] K wr (hr.later HX.out))
        clear h4 hr hg hbt
        go_wp2_with fail
        refine HC.out.mono ?_
        rintro e w2 ⟨v', rfl, hrd, hy⟩
        obtain ⟨u0, u1, u2, u3, rfl⟩ := hrd.agg
        obtain ⟨k2, n2, x2, a2, c2, rfl, rfl, rfl, rfl⟩ := hrd.shape
        have HRD := hid hrd
        have HY := hid hy
        have hy1 := hy.size
        clear hrd hy m0 m1 m2 m3 t0 t1 t2 t3 HC
        generalize (T.kids ks[j]).length = kl at HRD
        obtain ⟨q0, q1, q2, q3⟩ := four_of (blk0 w2 (.cells #[.int .i64 k2, .int .i64 n2, .string x2, .slice a2 kl c2] 27))
        have hb64 := HK.out.1
        have HNEWS := hid (show ∀ (e : Nat) (u : Value), [Value.int .i64 k2, .int .i64 n2, .string x2, .slice a2 kl c2][e]? = some u → ((w2.alloc (.cells #[.int .i64 k2, .int .i64 n2, .string x2, .slice a2 kl c2] 27)).alloc (.cells #[.int .i64 k2, .int .i64 n2, .string x2, .slice a2 kl c2] 27)).cell? ((⟨w2.heap.size + 1, 0, none⟩ : Addr).add e) = some u from fun e u he => by
          have hb := blk1 w2 (.cells #[.int .i64 k2, .int .i64 n2, .string x2, .slice a2 kl c2] 27) (.cells #[.int .i64 k2, .int .i64 n2, .string x2, .slice a2 kl c2] 27)
          match e, he with
          | 0, he => cases he; exact cell_of (i := 0) hb rfl
          | 1, he => cases he; exact cell_of (i := 1) hb rfl
          | 2, he => cases he; exact cell_of (i := 2) hb rfl
          | 3, he => cases he; exact cell_of (i := 3) hb rfl)
        have xr2 := row4_keep HROW.out ((HY.out.trans (Ext.alloc2 w2 (.cells #[.int .i64 k2, .int .i64 n2, .string x2, .slice a2 kl c2] 27) (.cells #[.int .i64 k2, .int .i64 n2, .string x2, .slice a2 kl c2] 27))).kp (fun _ => True)) (fun _ _ => trivial)
        have hlow : ∀ q, (Value.slice av j cv).ownBlock = some q → w.heap.size + 1 + 1 ≤ q ∧ q < wr.heap.size := fun q hq => HROW.out.lt q hq
        have HLOW := hid hlow
        clear hlow
        go_wp2_with (at_builtin; refine wpList_append_own_at _ rfl _ _ 25 rfl (w.heap.size + 1 + 1) 27 i0 (.agg #[.int .i64 0, .int .i64 0, .string ⟨#[]⟩, .slice none 0 0]) 4 56 Tryz.underlying25 hi0 hz0 hz1 hz2 rfl (by decide) _ _ _ rfl xr2 ⟨w2.heap.size + 1, 0, none⟩ 1 1 [Value.int .i64 k2, .int .i64 n2, .string x2, .slice a2 kl c2] rfl rfl HNEWS.out (by simp [Value.oneCell']) (by unfold maxLen; omega) (by omega) (by simp; omega) ?_; intro v9 w9 hown9 hgrow9 _ hat9; obtain ⟨a9, c9, rfl⟩ := row4_slice hown9)
        go_roundw
        case rel =>
          have K9 : Kp (fun q => some q ≠ (Value.slice av j cv).ownBlock) w2 w9 := ((Ext.alloc2 w2 (.cells #[.int .i64 k2, .int .i64 n2, .string x2, .slice a2 kl c2] 27) (.cells #[.int .i64 k2, .int .i64 n2, .string x2, .slice a2 kl c2] 27)).kp _).trans ⟨hgrow9.os, hgrow9.tape, hgrow9.output, hgrow9.size, fun q hq hne => hgrow9.block q hq hne⟩
          have K8 : Kp (fun q => some q ≠ (Value.slice av j cv).ownBlock) wr w9 := (HY.out.kp _).trans K9
          have hat : ∀ q, q < w2.heap.size → some q ≠ (Value.slice av j cv).ownBlock → (Value.slice a9 (j + 1) c9).ownBlock ≠ some q := fun q hq hne e => by
            rcases hat9 with h | h
            · exact hne (e.symm.trans h)
            · rw [h] at e
              simp only [Option.some.injEq, World.size_alloc] at e
              omega
          have hxl : xs.length = j * 4 := HROW.out.1
          refine ⟨j + 1, xs ++ [Value.int .i64 k2, .int .i64 n2, .string x2, .slice a2 kl c2], hlt, by go_num, ?_, ?_, ?_, hown9, fun i hi => ?_⟩
          · exact Kp.ext ((HX.out.kp (fun q => some q ≠ (Value.slice av j cv).ownBlock)).trans K8) (fun q hq e => by have := (HLOW.out q e.symm).1; omega)
          · exact K8.block' HBT.out (fun e => by have := (HLOW.out _ e.symm).1; omega)
          · exact K8.block' HBR.out (fun e => by have := (HLOW.out _ e.symm).1; omega)
          · have hi' : i < j + 1 := by simp at hi; omega
            by_cases hij : i < j
            · obtain ⟨y0, y1, y2, y3, z0, z1, z2, z3, hrd⟩ := HOK.out i (by simp; omega)
              have e : (ks.take (j + 1))[i] = (ks.take j)[i]'(by simp; omega) := by simp
              rw [e]
              refine ⟨y0, y1, y2, y3, by rw [List.getElem?_append_left (by omega)]; exact z0, by rw [List.getElem?_append_left (by omega)]; exact z1, by rw [List.getElem?_append_left (by omega)]; exact z2, by rw [List.getElem?_append_left (by omega)]; exact z3, ?_⟩
              refine ((hrd.mono (L := fun q => (w.heap.size + 1 + 1 ≤ q ∧ q < wr.heap.size) ∧ some q ≠ (Value.slice av j cv).ownBlock) (fun q hq h => ⟨⟨h.1, hq⟩, fun e => h.2 e.symm⟩)).keep (K8.mono (fun q _ h => h.2))).mono (fun q _ h => ⟨h.1.1, hat q (by omega) h.2⟩)
            · have hij' : i = j := by omega
              subst hij'
              have e : (ks.take (i + 1))[i] = ks[i] := by simp
              rw [e]
              refine ⟨_, _, _, _, by rw [List.getElem?_append_right (by omega), hxl, Nat.sub_self]; rfl, by rw [List.getElem?_append_right (by omega), hxl, show i * 4 + 1 - i * 4 = 1 by omega]; rfl, by rw [List.getElem?_append_right (by omega), hxl, show i * 4 + 2 - i * 4 = 2 by omega]; rfl, by rw [List.getElem?_append_right (by omega), hxl, show i * 4 + 3 - i * 4 = 3 by omega]; rfl, ?_⟩
              refine ((HRD.out.mono (L := fun q => (wr.heap.size ≤ q ∧ q < w2.heap.size) ∧ some q ≠ (Value.slice av i cv).ownBlock) (fun q hq h => ⟨⟨h, hq⟩, fun e => by have := (HLOW.out q e.symm).2; have h' : wr.heap.size ≤ q := h; omega⟩)).keep (K9.mono (fun q _ h => h.2))).mono (fun q _ h => ⟨by have := h.1.1; omega, hat q h.1.2 h.2⟩)
        case measure => simp [intOf]; omega
      · have hje : j = ks.length := by omega
        subst hje
        obtain ⟨f0, f1, f2, f3⟩ := four_free hbt
        obtain ⟨r0, r1, r2, r3⟩ := four_of HBR.out
        obtain ⟨e0, e1, e2, e3⟩ := four_free HBR.out
        go_wp2_with fail
        have k1 := Kp.set (K := fun q => q ≠ w.heap.size ∧ q ≠ w.heap.size + 1) wr w.heap.size 3 (.slice av ks.length cv) (fun h => h.1 rfl)
        have k2 := (Kp.set4 (wr.setCell ⟨w.heap.size, 3, none⟩ (.slice av ks.length cv)) (w.heap.size + 1) 0 (.int .i64 k) (.int .i64 n) (.string x) (.slice av ks.length cv)).mono (L := fun q => q ≠ w.heap.size ∧ q ≠ w.heap.size + 1) (fun q _ h => h.2)
        have k3 := k1.trans k2
        have hbr2 := set_other (i := 3) HBR.out (show w.heap.size + 1 ≠ w.heap.size by omega) (.slice av ks.length cv)
        obtain ⟨z0, z1, z2, z3⟩ := four_of (four_set (u0 := .int .i64 k) (u1 := .int .i64 n) (u2 := .string x) (u3 := .slice av ks.length cv) hbr2)
        refine bodyPost_ret (v := .agg #[.int .i64 k, .int .i64 n, .string x, .slice av ks.length cv]) (by simp [results, Tryz.results41, go_sem, z0, z1, z2, z3]) rfl ?_
        refine ⟨_, rfl, ⟨av, cv, rfl, HKS.out, HK.out.1, ?_⟩, Kp.ext ((HX.out.kp _).trans k3) (fun q hq => ⟨by omega, by omega⟩)⟩
        rcases HROW.out.2 with ⟨_, h0⟩ | ⟨g, cap, cur, hv, hge, hcur, hcap⟩
        · exact .inl (List.eq_nil_of_length_eq_zero h0)
        · injection hv with h1 _ h3
          subst h1
          subst h3
          refine .inr ⟨g, 0, rfl, by omega, fun i hi => ?_⟩
          obtain ⟨y0, y1, y2, y3, o0, o1, o2, o3, hrd⟩ := HOK.out i (by simpa using hi)
          have e : (ks.take ks.length)[i]'(by simpa using hi) = ks[i] := by simp
          rw [e] at hrd
          have hKg : g ≠ w.heap.size ∧ g ≠ w.heap.size + 1 := ⟨by omega, by omega⟩
          have ce : ∀ (e : Nat) (y : Value), e < 4 → xs[i * 4 + e]? = some y → _ := fun e y he hy => k3.cell ((HROW.out.cellAt (i * 4 + e) (by omega)).trans hy) hKg
          refine ⟨y0, y1, y2, y3, ⟨?_, ?_, ?_, ?_⟩, ?_⟩
          · rw [Nat.zero_add]; exact ce 0 y0 (by omega) o0
          · rw [Nat.zero_add]; exact ce 1 y1 (by omega) o1
          · rw [Nat.zero_add]; exact ce 2 y2 (by omega) o2
          · rw [Nat.zero_add]; exact ce 3 y3 (by omega) o3
          · exact (hrd.keep (k3.mono (fun q _ h => ⟨by have := h.1; omega, by have := h.1; omega⟩))).mono (fun q _ h => by have := h.1; show w.heap.size ≤ q; omega)
end Go.Proofs.YtbpbkihcfdnphaaGreatDoor
