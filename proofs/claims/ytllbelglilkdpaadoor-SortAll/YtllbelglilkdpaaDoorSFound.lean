/-
  The solver's found by a contract.
-/
import Derived.Test.YtllbelglilkdpaaDoorSStand
import Derived.Deep.LoopGhost
import Derived.Deep.Cut
namespace Go.Proofs.YtllbelglilkdpaaDoor
open Go.RowKit
/-- A shape within bounds. -/
def Bd (s : Sh) : Prop := -70368744175616 ≤ s.1 ∧ s.1 ≤ 70368744175616 ∧ s.2.size ≤ 140737488351232
/-- What a shape has become, by k steps. -/
def FndN (σ : ByteArray → Option Sh) : Nat → Sh → Sh → Prop
  | 0, x, y => Bd x ∧ σ x.2 = none ∧ y = x
  | k + 1, x, y => Bd x ∧ ∃ s, σ x.2 = some s ∧ Bd s ∧ FndN σ k (s.1 + x.1, s.2) y
theorem FndN.bd {σ : ByteArray → Option Sh} {k : Nat} {x y : Sh} (h : FndN σ k x y) : Bd x := by
  cases k with
  | zero => exact h.1
  | succ k => exact h.1
/-- The function value stands. -/
abbrev standsF (kb : Nat) : Value := .func (.func 63) #[] #[.pointer (some ⟨kb, 0, none⟩)]
set_option maxRecDepth 100000 in
set_option maxHeartbeats 2000000 in
theorem found_any (k : Nat) (x y : Sh) (w : World) {b2 kb mb N : Nat} {σ : ByteArray → Option Sh} (h : SolM w kb mb N σ) (hb2 : w.heap[b2]? = some (.cells #[standsF kb] 75)) (hf : FndN σ k x y) : Calls Tryd.prog 57 #[shV x, .pointer (some ⟨b2, 0, none⟩)] w fun e w' => e = .returned (shV y) ∧ Ext w w' := by
  have HSOL := hid h
  have HB := hid hb2
  have HF := hid hf
  have hl2 := lt_of_block hb2
  have f0 : w.cell? ⟨b2, 0, none⟩ = some (standsF kb) := cell_of hb2 rfl
  have HBD := hid hf.bd
  obtain ⟨n0, x0⟩ := x
  clear h hb2 hf
  go_enter Tryd.func57, Tryd.ntmps57
  go_wp2_with fail
  refine (stands_any x0 _ (HSOL.out.later (Ext.alloc2 _ _ _)) HBD.out.2.2).mono ?_
  rintro e w1 ⟨rfl, hx1⟩
  unfold stV
  obtain ⟨s0, hs0⟩ : ∃ s0, (σ x0).getD (0, ⟨#[]⟩) = s0 := ⟨_, rfl⟩
  have HS0 := hid hs0
  rw [hs0]
  obtain ⟨m0, z0⟩ := s0
  have HX1 := hid hx1
  have HB0 := hid (hx1.block (blkOld (.cells #[.int .i64 0, .string ⟨#[]⟩] 58) (blk0 w (.cells #[.int .i64 n0, .string x0] 58))))
  have HB1 := hid (hx1.block (blk1 w (.cells #[.int .i64 n0, .string x0] 58) (.cells #[.int .i64 0, .string ⟨#[]⟩] 58)))
  clear hs0 hx1
  go_wp2_with fail
  go_loopg [4, 5] k (fun g q4 q5 wr => ∃ (X S : Sh) (q : Nat), q4 = .pointer (some ⟨q, 0, none⟩) ∧ q5 = .bool (σ X.2).isSome ∧ S = (σ X.2).getD (0, ⟨#[]⟩) ∧ FndN σ g X y ∧ Ext w wr ∧ wr.heap[q]? = some (.cells #[.int .i64 S.1, .string S.2] 58) ∧ wr.heap[w.heap.size]? = some (.cells #[.int .i64 X.1, .string X.2] 58) ∧ wr.heap[w.heap.size + 1]? = some (.cells #[.int .i64 0, .string ⟨#[]⟩] 58) ∧ w.heap.size + 2 ≤ q)
  case atStart =>
    have hsz := HX1.out.size
    rw [blkS, blkS] at hsz
    exact ⟨(n0, x0), (m0, z0), _, rfl, rfl, HS0.out.symm, HF.out, ((Ext.alloc2 _ _ _).trans HX1.out).more _, blk0 _ _, blkOld _ HB0.out, blkOld _ HB1.out, by omega⟩
  case round =>
    obtain ⟨X, S, q, rfl, rfl, hS, hfn, hx, hq, hb0, hb1, hqs⟩ := hrel
    obtain ⟨n, x⟩ := X
    obtain ⟨m, z⟩ := S
    have HX := hid hx
    have HQ := hid hq
    have HC0 := hid hb0
    have HC1 := hid hb1
    have hlw := lt_of_block hb1
    have hlq := lt_of_block hq
    obtain ⟨p0, p1⟩ := two_of hb0
    obtain ⟨e0, e1⟩ := two_free hb0
    obtain ⟨q0, q1⟩ := two_of hq
    clear hx hq
    cases hs : σ x with
    | none =>
      have HV := hid (show y = (n, x) by
        cases gk with
        | zero => exact hfn.2.2
        | succ g => obtain ⟨_, s, h1, _⟩ := hfn; rw [hs] at h1; cases h1)
      obtain ⟨r0, r1⟩ := two_of hb1
      obtain ⟨g0, g1⟩ := two_free hb1
      clear hb0 hb1 hS hfn hs
      go_wp2_with fail
      obtain ⟨z0, z1⟩ := two_of (two_set (u0 := .int .i64 n) (u1 := .string x) HC1.out)
      refine bodyPost_ret (v := shV (n, x)) (by simp [results, Tryd.results57, go_sem, z0, z1]) rfl ?_
      have k2 := Kp.set2 wr (w.heap.size + 1) 0 (.int .i64 n) (.string x)
      rw [HV.out]
      exact ⟨rfl, Kp.ext ((HX.out.kp _).trans k2) (fun q hq => by show q ≠ w.heap.size + 1; omega)⟩
    | some s =>
      obtain ⟨g, hg⟩ : ∃ g, gk = g + 1 := by
        cases gk with
        | zero => have h1 := hfn.2.1; rw [hs] at h1; cases h1
        | succ g => exact ⟨g, rfl⟩
      subst hg
      obtain ⟨hbx, s', hs', hbs, hfn⟩ := hfn
      have hse : s' = (m, z) := by
        rw [hS, hs]
        have : σ x = some s' := hs'
        rw [hs] at this
        exact (Option.some.inj this).symm
      subst hse
      have HFN := hid hfn
      have HBD1 := hid hbx
      have HBD2 := hid hbs
      have HWI := hid (fun w1 => within_any m n z w1 (by have := hbs.1; have h' : -70368744175616 ≤ m := this; omega) (by have h' : m ≤ 70368744175616 := hbs.2.1; omega) (by have h' : -70368744175616 ≤ n := hbx.1; omega) (by have h' : n ≤ 70368744175616 := hbx.2.1; omega))
      clear hb0 hb1 hS hfn hs hs' hbs hbx
      go_wp2_with fail
      refine (HWI.out wr).mono ?_
      rintro e w2 ⟨rfl, hx2⟩
      have HD0 := hid (hx2.block HC0.out)
      have HD1 := hid (hx2.block HC1.out)
      have HDQ := hid (hx2.block HQ.out)
      have HX2 := hid (HX.out.trans hx2)
      have hs2 := hx2.size
      clear hx2 p0 p1 e0 e1 q0 q1
      obtain ⟨p0, p1⟩ := two_of HD0.out
      obtain ⟨e0, e1⟩ := two_free HD0.out
      obtain ⟨q0, q1⟩ := two_of HDQ.out
      go_upto_region 5 with fail
      have k2 := Kp.set2 w2 w.heap.size 0 (.int .i64 (m + n)) (.string z)
      have HE0 := hid (two_set (u0 := .int .i64 (m + n)) (u1 := .string z) HD0.out)
      have HE1 := hid (k2.block' HD1.out (by omega))
      have HEQ := hid (k2.block' HDQ.out (by omega))
      have HX3 := hid (Kp.ext ((HX2.out.kp _).trans k2) (fun q hq => by show q ≠ w.heap.size; omega))
      have hs3 := k2.size
      clear p0 p1 e0 e1 q0 q1 k2 HD0 HD1 HDQ
      generalize (w2.setCell ⟨w.heap.size, 0, none⟩ (.int .i64 (m + n))).setCell ⟨w.heap.size, 1, none⟩ (.string z) = w3 at *
      obtain ⟨q0, q1⟩ := two_of HEQ.out
      go_upto_region 3 with fail
      have HG0 := hid (show (w3.alloc (.cells #[.int .i64 m, .string z] 58)).heap[w.heap.size]? = _ from blkOld _ HE0.out)
      have HG1 := hid (show (w3.alloc (.cells #[.int .i64 m, .string z] 58)).heap[w.heap.size + 1]? = _ from blkOld _ HE1.out)
      have HGQ := hid (blk0 w3 (.cells #[.int .i64 m, .string z] 58))
      have HX4 := hid (HX3.out.more (.cells #[.int .i64 m, .string z] 58))
      have HQ4 := hid (show w.heap.size + 2 ≤ w3.heap.size by omega)
      clear q0 q1 HE0 HE1 HEQ
      generalize w3.alloc (.cells #[.int .i64 m, .string z] 58) = w4 at *
      generalize w3.heap.size = q' at *
      obtain ⟨p0, p1⟩ := two_of HG0.out
      have f4 := (HX4.out.kp (fun _ => True)).cell f0 trivial
      go_wp2_with fail
      refine (stands_any z w4 (HSOL.out.later HX4.out) HBD2.out.2.2).mono ?_
      rintro e w5 ⟨rfl, hx5⟩
      unfold stV
      obtain ⟨s5, hs5⟩ : ∃ s5, (σ z).getD (0, ⟨#[]⟩) = s5 := ⟨_, rfl⟩
      have HS5 := hid hs5
      rw [hs5]
      obtain ⟨m5, z5⟩ := s5
      have HX5 := hid (HX4.out.trans hx5)
      have HH0 := hid (hx5.block HG0.out)
      have HH1 := hid (hx5.block HG1.out)
      have HHQ := hid (hx5.block HGQ.out)
      clear hs5 hx5 p0 p1 f4 HG0 HG1 HGQ
      obtain ⟨q0, q1⟩ := two_of HHQ.out
      obtain ⟨e0, e1⟩ := two_free HHQ.out
      go_wp2_with fail
      go_roundg g
      case measure => omega
      case rel =>
        have k2 := Kp.set2 w5 q' 0 (.int .i64 m5) (.string z5)
        have h4 := HQ4.out
        exact ⟨(m + n, z), (m5, z5), q', rfl, rfl, HS5.out.symm, HFN.out, Kp.ext ((HX5.out.kp _).trans k2) (fun q hq => by show q ≠ q'; omega), two_set HHQ.out, k2.block' HH0.out (by omega), k2.block' HH1.out (by omega), h4⟩
end Go.Proofs.YtllbelglilkdpaaDoor
