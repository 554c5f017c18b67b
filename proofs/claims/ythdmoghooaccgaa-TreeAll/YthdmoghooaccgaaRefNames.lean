/-
  The reference's Kinds and the statements' EqNames, each by a contract.
-/
import Derived.Test.YthdmoghooaccgaaRefKinds
namespace Go.Proofs.Ythdmoghooaccgaa
open Go.RowKit Go.Shelf
set_option maxRecDepth 100000 in
theorem refKinds_any {K : Nat → Prop} {d : Nat} {v : Value} {t : T} (w : World) (hr : Rd K w d v t) : Calls Try.prog 42 #[v] w fun e w' => ∃ a c ns, e = .returned (.slice a ns.length c) ∧ ns = (if t.small then kindsOf (T.all [] t) else []) ∧ w'.ownsRow w.heap.size 9 1 (.slice a ns.length c) ns.length (strs ns) ∧ Ext w w' := by
  obtain ⟨u0, u1, u2, u3, rfl⟩ := hr.agg
  obtain ⟨k, n, x, a, c, rfl, rfl, rfl, rfl⟩ := hr.shape
  have C1 := hid (fun w1 (h : Ext w w1) => refSmall_any w1 (hr.later h))
  have C2 := hid (fun w1 (h : Ext w w1) (hs : t.size ≤ 4000) => rkinds_any d _ t K w1 w.heap.size (.slice none 0 0) [] (hr.later h) (World.ownsRow_nil _ _ _ _) (fun q hq => by cases hq) h.size (by simpa using hs))
  clear hr
  generalize (T.kids t).length = kt at *
  by_cases h1 : t.small
  · rw [decide_eq_true h1] at C1
    rw [if_pos h1]
    have HS := hid (show t.size ≤ 4000 by have := h1.1; omega)
    clear h1
    go_enter Try.func42, Try.ntmps42
    go_wp2_with fail
    refine (C1.out _ (Ext.alloc _ _)).mono ?_
    rintro e w1 ⟨rfl, hx1⟩
    obtain ⟨p0, p1, p2, p3⟩ := four_of (hx1.block (blk0 w _))
    have hX1 := (Ext.alloc w _).trans hx1
    clear hx1
    go_wp2_with fail
    refine (C2.out _ hX1 HS.out).mono ?_
    rintro e w2 ⟨v', rfl, hrow, hk, ho⟩
    have HX2 := hid (hX1.trans (hk.ext (fun q _ e => by cases e)))
    obtain ⟨a2, c2, rfl⟩ := ownsRow_slice hrow
    have HROW := hid hrow
    clear hk hrow p0 p1 p2 p3 ho
    go_wp2_with fail
    go_ret
    refine ⟨a2, c2, _, ?_, rfl, ?_, HX2.out⟩
    · rw [← kinT_kinds]; rfl
    · rw [← kinT_kinds]; exact HROW.out
  · rw [decide_eq_false h1] at C1
    rw [if_neg h1]
    clear h1
    go_enter Try.func42, Try.ntmps42
    go_wp2_with fail
    refine (C1.out _ (Ext.alloc _ _)).mono ?_
    rintro e w1 ⟨rfl, hx1⟩
    have HX := hid ((Ext.alloc w _).trans hx1)
    clear hx1
    go_wp2_with fail
    go_ret
    exact ⟨none, 0, [], rfl, rfl, World.ownsRow_nil _ _ _ _, HX.out⟩
set_option maxRecDepth 100000 in
theorem eqNames_same (a a' : Option Addr) (c c' b b' : Nat) (ns : List (List UInt8)) (w : World) (hb : ns.length * 16 ≤ 140737488355328) (h : w.ownsRow b 9 1 (.slice a ns.length c) ns.length (strs ns)) (h' : w.ownsRow b' 9 1 (.slice a' ns.length c') ns.length (strs ns)) :
    Calls Try.prog 41 #[.slice a ns.length c, .slice a' ns.length c'] w fun e w' => e = .returned (.bool true) ∧ Ext w w' := by
  have HA := hid h
  have HB := hid h'
  have hl : (ns.length : Int) ≤ 140737488355328 := by omega
  clear h h'
  go_enter Try.func41, Try.ntmps41
  go_wp2_with fail
  go_loopw [5] (fun i wr => ∃ j : Nat, j ≤ ns.length ∧ i = .int .i64 j ∧ Ext w wr) (fun i _ => ns.length - (intOf i).toNat)
  case atStart => exact ⟨0, Nat.zero_le _, rfl, Ext.refl _⟩
  case round =>
    obtain ⟨j, hj, rfl, hx⟩ := hrel
    have HX := hid hx
    clear hx
    by_cases hlt : j < ns.length
    · have hlt' : (j : Int) < ns.length := by omega
      obtain ⟨g, c9, he, hg, hc⟩ := rowS_at (ownsRow_keep HA.out (HX.out.kp (fun _ => True)) (fun _ _ => trivial)) hlt
      simp only [Value.slice.injEq] at he
      obtain ⟨rfl, _, rfl⟩ := he
      obtain ⟨g', c8, he, hg', hc'⟩ := rowS_at (ownsRow_keep HB.out (HX.out.kp (fun _ => True)) (fun _ _ => trivial)) hlt
      simp only [Value.slice.injEq] at he
      obtain ⟨rfl, _, rfl⟩ := he
      generalize (⟨ns[j].toArray⟩ : ByteArray) = s at hc hc'
      go_wp2_with fail
      go_quiet (fail)
      go_wp2_with fail
      go_roundw
      case rel => exact ⟨j + 1, hlt, by go_num, HX.out.drewN _⟩
      case measure => simp [intOf]; omega
    · go_wp2_with fail
      go_ret
      exact ⟨rfl, HX.out⟩
end Go.Proofs.Ythdmoghooaccgaa
