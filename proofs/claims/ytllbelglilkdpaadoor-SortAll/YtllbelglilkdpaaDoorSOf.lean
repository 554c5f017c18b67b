/-
  fresh, nameOf, and of at a value that is no list, each by a contract.
-/
import Derived.Test.YtllbelglilkdpaaDoorSNew
namespace Go.Proofs.YtllbelglilkdpaaDoor
open Go.RowKit
set_option maxRecDepth 100000 in
theorem fresh_any (l : Nat) (w : World) {b5 : Nat} (h : w.heap[b5]? = some (.cells #[.int .i64 l] 3)) (hl : l + 1 < 100) : Calls Tryd.prog 61 #[.pointer (some ⟨b5, 0, none⟩)] w fun e w' => e = .returned (shV (0, ⟨(Lib.decDigits (l + 1)).toArray⟩)) ∧ Kp (· ≠ b5) w w' ∧ w'.heap[b5]? = some (.cells #[.int .i64 ((l + 1 : Nat) : Int)] 3) := by
  have HB := hid h
  have hbl := lt_of_block h
  have c0 : w.cell? ⟨b5, 0, none⟩ = some (.int .i64 l) := cell_of h rfl
  have f0 := frozen_of (i := 0) h
  have hl' : (l : Int) + 1 ≤ 100 := by omega
  have HI := hid (fun w1 => Tryd.strconv_Itoa_small (l + 1) hl w1)
  obtain ⟨X, hX⟩ : ∃ X, (⟨(Lib.decDigits (l + 1)).toArray⟩ : ByteArray) = X := ⟨_, rfl⟩
  rw [hX] at HI ⊢
  clear hX
  have HS1 := hid (show (w.setCell ⟨b5, 0, none⟩ (.int .i64 ((l : Int) + 1))).heap[b5]? = some (.cells #[.int .i64 ((l + 1 : Nat) : Int)] 3) from (set_at h 0 _).trans rfl)
  clear h
  go_enter Tryd.func61, Tryd.ntmps61
  go_upto_region 2 with fail
  have HB1 := hid (show ((w.setCell ⟨b5, 0, none⟩ (.int .i64 ((l : Int) + 1))).alloc (.cells #[.int .i64 0, .string ⟨#[]⟩] 58)).heap[b5]? = _ from blkOld _ HS1.out)
  have HK1 := hid ((Kp.set (K := (· ≠ b5)) w b5 0 (.int .i64 ((l : Int) + 1)) (fun h => h rfl)).alloc (.cells #[.int .i64 0, .string ⟨#[]⟩] 58))
  have HR1 := hid (show ((w.setCell ⟨b5, 0, none⟩ (.int .i64 ((l : Int) + 1))).alloc (.cells #[.int .i64 0, .string ⟨#[]⟩] 58)).heap[w.heap.size]? = _ from blkN (size_set _ _ _))
  generalize (w.setCell ⟨b5, 0, none⟩ (.int .i64 ((l : Int) + 1))).alloc (.cells #[.int .i64 0, .string ⟨#[]⟩] 58) = W1 at *
  clear c0 f0
  have c1 : W1.cell? ⟨b5, 0, none⟩ = some (.int .i64 ((l + 1 : Nat) : Int)) := cell_of HB1.out rfl
  obtain ⟨r0, r1⟩ := two_of HR1.out
  obtain ⟨e0, e1⟩ := two_free HR1.out
  go_wp2_with fail
  refine (HI.out W1).mono ?_
  rintro e w2 ⟨rfl, hw2⟩
  rw [hw2]
  clear hw2 w2
  go_wp2_with fail
  obtain ⟨z0, z1⟩ := two_of (two_set (u0 := .int .i64 0) (u1 := .string X) HR1.out)
  refine bodyPost_ret (v := shV (0, X)) (by simp [results, Tryd.results61, go_sem, z0, z1]) rfl ?_
  have k2 := Kp.set2 W1 w.heap.size 0 (.int .i64 0) (.string X)
  exact ⟨rfl, HK1.out.trans' (n := w.heap.size) (L := fun _ => False) (k2.mono (fun q _ h => fun e => h.elim (fun h => by omega) id)), k2.block' HB1.out (by omega)⟩
def nameB (k : Int) : ByteArray := if k = 2 then ⟨#[116, 114, 117, 116, 104]⟩ else if k = 3 then ⟨#[105, 110, 116]⟩ else if k = 4 then ⟨#[116, 101, 120, 116]⟩ else ⟨#[117, 110, 105, 116]⟩
set_option maxRecDepth 100000 in
theorem nameOf_any (k : Int) (w : World) : Calls Tryd.prog 66 #[.int .i64 k] w fun e w' => e = .returned (.string (nameB k)) ∧ w' = w := by
  have HN := hid (show nameB k = if k = 2 then ⟨#[116, 114, 117, 116, 104]⟩ else if k = 3 then ⟨#[105, 110, 116]⟩ else if k = 4 then ⟨#[116, 101, 120, 116]⟩ else ⟨#[117, 110, 105, 116]⟩ from rfl)
  generalize nameB k = nb at *
  by_cases h2 : k = 2
  · rw [if_pos h2] at HN
    subst h2
    go_enter Tryd.func66, Tryd.ntmps66
    go_wp2_with fail
    go_ret
    exact ⟨by rw [HN.out]; rfl, rfl⟩
  rw [if_neg h2] at HN
  have q2 : (k == 2) = false := by rw [beq_eq_false_iff_ne]; exact h2
  by_cases h3 : k = 3
  · rw [if_pos h3] at HN
    subst h3
    go_enter Tryd.func66, Tryd.ntmps66
    go_wp2_with fail
    go_ret
    exact ⟨by rw [HN.out]; rfl, rfl⟩
  rw [if_neg h3] at HN
  have q3 : (k == 3) = false := by rw [beq_eq_false_iff_ne]; exact h3
  by_cases h4 : k = 4
  · rw [if_pos h4] at HN
    subst h4
    go_enter Tryd.func66, Tryd.ntmps66
    go_wp2_with fail
    go_ret
    exact ⟨by rw [HN.out]; rfl, rfl⟩
  rw [if_neg h4] at HN
  have q4 : (k == 4) = false := by rw [beq_eq_false_iff_ne]; exact h4
  go_enter Tryd.func66, Tryd.ntmps66
  go_wp2_with fail
  go_ret
  exact ⟨by rw [HN.out]; rfl, rfl⟩
set_option maxRecDepth 100000 in
theorem of_leaf (f1 f2 f3 : Value) (k n : Int) (x : ByteArray) (a : Option Addr) (kl c : Nat) (w : World) (hf : (∃ g p q, f1 = .func g p q) ∧ (∃ g p q, f2 = .func g p q) ∧ ∃ g p q, f3 = .func g p q) (hk : k ≠ 5) : Calls Tryd.prog 43 #[.agg #[f1, f2, f3], .agg #[.int .i64 k, .int .i64 n, .string x, .slice a kl c]] w fun e w' => e = .returned (.tuple #[shV (0, nameB k), .bool true]) ∧ Ext w w' := by
  obtain ⟨⟨g1, p1, q1, rfl⟩, ⟨g2, p2, q2, rfl⟩, g3, p3, q3, rfl⟩ := hf
  have qk : (k != 5) = true := by simp; exact hk
  have qj : ¬ k = 5 := hk
  have HN := hid (fun w1 => nameOf_any k w1)
  go_enter Tryd.func43, Tryd.ntmps43
  go_wp2_with (first | (go_at_call 66; refine (HN.out _).mono ?_; rintro e w9 ⟨rfl, hw9⟩; rw [hw9]; clear hw9 w9))
  refine bodyPost_ret (v := .tuple #[shV (0, nameB k), .bool true]) (by simp [results, Tryd.results43, go_sem]) rfl ?_
  exact ⟨rfl, (Ext.alloc2 _ _ _).trans (Ext.alloc _ _)⟩
end Go.Proofs.YtllbelglilkdpaaDoor
