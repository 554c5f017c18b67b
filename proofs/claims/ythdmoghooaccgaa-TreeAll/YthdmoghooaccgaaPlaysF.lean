/-
  plays of the statements, of any call: it answers true.
-/
import Derived.Test.YthdmoghooaccgaaEachA
import Derived.Test.YthdmoghooaccgaaEachB
import Derived.Test.YthdmoghooaccgaaEachC
namespace Go.Proofs.Ythdmoghooaccgaa
open Go.RowKit
section
variable {K K' : Nat → Prop} {d d' : Nat} {t u : T} (w : World) (kd : Int) (k : ByteArray) (n : Int) (x : ByteArray) (a : Option Addr) (kl c : Nat) (k' : ByteArray) (n' : Int) (x' : ByteArray) (a' : Option Addr) (kl' c' : Nat) (pa : Option Addr) (pc : Nat) (p : List Int) (st : Int)
theorem each_any (hr : Rd K w d (.agg #[.string k, .int .i64 n, .string x, .slice a kl c]) t) : Calls Try.prog 40 #[.agg (opV kd k n x a kl c k' n' x' a' kl' c' (.slice pa p.length pc) st)] w fun e w' => e = .returned (.bool true) ∧ Ext w w' := by
  by_cases h0 : 0 ≤ st
  · by_cases h1 : st < ((if t.small then T.all [] t else []).length : Int)
    · obtain ⟨sv, rfl⟩ : ∃ sv : Nat, st = sv := ⟨st.toNat, by omega⟩
      exact each_c w kd k n x a kl c k' n' x' a' kl' c' pa p.length pc sv hr h1
    · exact each_b w kd k n x a kl c k' n' x' a' kl' c' pa p.length pc st hr h0 h1
  · exact each_a w kd k n x a kl c k' n' x' a' kl' c' pa p.length pc st hr h0
set_option maxRecDepth 100000 in
set_option maxHeartbeats 2000000 in
theorem plays_each (hr : Rd K w d (.agg #[.string k, .int .i64 n, .string x, .slice a kl c]) t) : Calls Try.prog 11 #[.agg (opV 7 k n x a kl c k' n' x' a' kl' c' (.slice pa p.length pc) st)] w (PlayR w) := by
  have C1 := hid (fun w1 (h : Ext w w1) => each_any w1 7 k n x a kl c k' n' x' a' kl' c' pa pc p st (hr.later h))
  clear hr
  obtain ⟨M, hM⟩ : ∃ M, w.alloc (.cells (opV 7 k n x a kl c k' n' x' a' kl' c' (.slice pa p.length pc) st) 29) = M := ⟨_, rfl⟩
  have HXM := hid (show Ext w M from hM ▸ Ext.alloc _ _)
  have HB := hid (show M.heap[w.heap.size]? = some (.cells (opV 7 k n x a kl c k' n' x' a' kl' c' (.slice pa p.length pc) st) 29) from hM ▸ blk0 _ _)
  obtain ⟨t0, t1, t2, t3, t4, t5, t6, t7, t8, t9, t10⟩ := op_of HB.out
  go_enter Try.func11, Try.ntmps11
  go_wp2_with fail
  refine (C1.out _ HXM.out).mono ?_
  rintro e w1 ⟨rfl, hx1⟩
  have X1 := hid hx1
  clear hx1
  go_wp2_with fail
  go_ret
  exact ⟨rfl, HXM.out.trans X1.out⟩
set_option maxRecDepth 100000 in
set_option maxHeartbeats 2000000 in
theorem plays_other (hk : kd < 1 ∨ 8 < kd) : Calls Try.prog 11 #[.agg (opV kd k n x a kl c k' n' x' a' kl' c' (.slice pa p.length pc) st)] w (PlayR w) := by
  have e1 : (kd == 1) = false := by rw [beq_eq_false_iff_ne]; omega
  have e2 : (kd == 2) = false := by rw [beq_eq_false_iff_ne]; omega
  have e3 : (kd == 3) = false := by rw [beq_eq_false_iff_ne]; omega
  have e4 : (kd == 4) = false := by rw [beq_eq_false_iff_ne]; omega
  have e5 : (kd == 5) = false := by rw [beq_eq_false_iff_ne]; omega
  have e6 : (kd == 6) = false := by rw [beq_eq_false_iff_ne]; omega
  have e7 : (kd == 7) = false := by rw [beq_eq_false_iff_ne]; omega
  have e8 : (kd == 8) = false := by rw [beq_eq_false_iff_ne]; omega
  clear hk
  go_enter Try.func11, Try.ntmps11
  go_wp2_with fail
  go_ret
  exact ⟨rfl, Ext.alloc _ _⟩
theorem plays_any (hr : Rd K w d (.agg #[.string k, .int .i64 n, .string x, .slice a kl c]) t) (hr' : Rd K' w d' (.agg #[.string k', .int .i64 n', .string x', .slice a' kl' c']) u) (hI : Ints w (.slice pa p.length pc) p) (hb : p.length * 8 ≤ 140737488355328) (hcap : p.length ≤ pc) :
    Calls Try.prog 11 #[.agg (opV kd k n x a kl c k' n' x' a' kl' c' (.slice pa p.length pc) st)] w (PlayR w) := by
  by_cases ho : kd < 1 ∨ 8 < kd
  · exact plays_other w kd k n x a kl c k' n' x' a' kl' c' pa pc p st ho
  · have h : kd = 1 ∨ kd = 2 ∨ kd = 3 ∨ kd = 4 ∨ kd = 5 ∨ kd = 6 ∨ kd = 7 ∨ kd = 8 := by omega
    rcases h with rfl | rfl | rfl | rfl | rfl | rfl | rfl | rfl
    · exact plays_may w k n x a kl c k' n' x' a' kl' c' pa pc p st hr
    · exact plays_size w k n x a kl c k' n' x' a' kl' c' pa pc p st hr
    · exact plays_same w k n x a kl c k' n' x' a' kl' c' pa pc p st hr hr'
    · exact plays_copy w k n x a kl c k' n' x' a' kl' c' pa pc p st hr
    · exact plays_at w k n x a kl c k' n' x' a' kl' c' pa pc p st hr hI hb
    · exact plays_put w k n x a kl c k' n' x' a' kl' c' pa pc p st hr hr' hI hb hcap
    · exact plays_each w k n x a kl c k' n' x' a' kl' c' pa pc p st hr
    · exact plays_kinds w k n x a kl c k' n' x' a' kl' c' pa pc p st hr
end
end Go.Proofs.Ythdmoghooaccgaa
