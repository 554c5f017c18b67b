/-
  The reader's next, take, digit, word, each by a contract.
-/
import Derived.Test.YtbpbkihcfdnphaaGreatDoorWf
import Derived.Test.YtbpbkihcfdnphaaGreatDoorEsc
namespace Go.Proofs.YtbpbkihcfdnphaaGreatDoor
open Go.RowKit
/-- The byte that stands there; 0 at the end. -/
def nxt (s : ByteArray) (i : Nat) : Nat := if h : i < s.size then s[i].toNat else 0
theorem nxt_lt {s : ByteArray} {i : Nat} (h : i < s.size) : nxt s i = s[i].toNat := dif_pos h
theorem nxt_end {s : ByteArray} {i : Nat} (h : ¬ i < s.size) : nxt s i = 0 := dif_neg h
/-- A reader lies at b. -/
def RdAt (w : World) (b : Nat) (s : ByteArray) (i n : Nat) : Prop := w.heap[b]? = some (.cells #[.string s, .int .i64 i, .int .i64 n] 64)
set_option maxRecDepth 100000 in
set_option maxHeartbeats 1000000 in
theorem next_any (w : World) (b : Nat) (s : ByteArray) (i n : Nat) (h : RdAt w b s i n) (hi : i ≤ s.size) (hs : s.size ≤ 1048576) :
    Calls Tryz.prog 62 #[.pointer (some ⟨b, 0, none⟩)] w fun e w' => e = .returned (.int .u8 (nxt s i)) ∧ ∃ k, w' = w.drewN k := by
  have c0 := cell_of (i := 0) h rfl
  have c1 := cell_of (i := 1) h rfl
  simp only [List.getElem_toArray, List.getElem_cons_zero, List.getElem_cons_succ] at c0 c1
  clear h
  have hs' : (s.size : Int) ≤ 1048576 := by omega
  by_cases he : i < s.size
  · have HE := hid (nxt_lt he)
    have q : ((i : Int) == (s.size : Int)) = false := by rw [beq_eq_false_iff_ne]; omega
    have he' : (i : Int) < s.size := by omega
    have he0 : (0 : Int) ≤ i := by omega
    go_enter Tryz.func62, Tryz.ntmps62
    go_wp2_with fail
    go_quiet (fail)
    go_wp2_with fail
    go_quiet (fail)
    go_wp2_with fail
    go_ret
    exact ⟨by rw [HE.out]; rfl, _, World.drewN_drewN _ _ _⟩
  · have hie : i = s.size := by omega
    have HE := hid (nxt_end he)
    subst hie
    clear he
    go_enter Tryz.func62, Tryz.ntmps62
    go_wp2_with fail
    go_quiet (fail)
    go_wp2_with fail
    go_ret
    exact ⟨by rw [HE.out]; rfl, _, rfl⟩
theorem drewN_ext {w w' : World} (h : ∃ k, w' = w.drewN k) : Ext w w' := by
  obtain ⟨k, rfl⟩ := h
  exact (Ext.refl w).drewN k
theorem digit_any (c : Int) (w : World) : Calls Tryz.prog 64 #[.int .u8 c] w fun e w' => e = .returned (.bool (decide (48 ≤ c ∧ c ≤ 57))) ∧ w' = w := by
  by_cases h1 : (48 : Int) ≤ c
  · by_cases h2 : c ≤ 57
    · go_enter Tryz.func64, Tryz.ntmps64
      go_wp2
      go_ret
      exact ⟨ret_bool (decide_eq_true ⟨h1, h2⟩).symm, rfl⟩
    · go_enter Tryz.func64, Tryz.ntmps64
      go_wp2
      go_ret
      exact ⟨ret_bool (decide_eq_false (fun h => by omega)).symm, rfl⟩
  · have h3 : decide ((48 : Int) ≤ c) = false := decide_eq_false h1
    go_enter Tryz.func64, Tryz.ntmps64
    go_wp2
    go_ret
    exact ⟨ret_bool (by symm; first | exact decide_eq_false (fun h => by omega) | exact (decide_eq_false (fun h => by omega)).trans h3.symm), rfl⟩
set_option maxRecDepth 100000 in
set_option maxHeartbeats 1000000 in
theorem take_any (w : World) (b : Nat) (s : ByteArray) (i n : Nat) (c : Nat) (h : RdAt w b s i n) (hi : i ≤ s.size) (hs : s.size ≤ 1048576) :
    Calls Tryz.prog 74 #[.pointer (some ⟨b, 0, none⟩), .int .u8 c] w fun e w' => e = .returned (.bool (decide (nxt s i = c))) ∧ Kp (· ≠ b) w w' ∧ w'.heap.size = w.heap.size ∧ RdAt w' b s (if nxt s i = c then i + 1 else i) n := by
  have HN := hid (next_any w b s i n h hi hs)
  have HH := hid h
  clear h
  have hs' : (s.size : Int) ≤ 1048576 := by omega
  by_cases hc : nxt s i = c
  · rw [decide_eq_true hc, if_pos hc]
    rw [hc] at HN
    go_enter Tryz.func74, Tryz.ntmps74
    go_wp2_with fail
    refine HN.out.mono ?_
    rintro e w1 ⟨rfl, hk⟩
    obtain ⟨k, rfl⟩ := hk
    have HB := hid (((Ext.refl w).drewN k).block HH.out)
    have c1 := cell_of (i := 1) HB.out rfl
    have f1 := frozen_of (i := 1) HB.out
    simp only [List.getElem_toArray, List.getElem_cons_zero, List.getElem_cons_succ] at c1
    go_wp2_with fail
    go_ret
    refine ⟨rfl, (((Ext.refl w).drewN k).kp _).trans (Kp.set _ _ _ _ (fun h => h rfl)), by simp, ?_⟩
    exact (set_at HB.out 1 _).trans rfl
  · rw [decide_eq_false hc, if_neg hc]
    have q : (((nxt s i : Nat) : Int) != (c : Int)) = true := by simp; omega
    have q2 : ¬ ((nxt s i : Nat) : Int) = (c : Int) := by omega
    go_enter Tryz.func74, Tryz.ntmps74
    go_wp2_with fail
    refine HN.out.mono ?_
    rintro e w1 ⟨rfl, hk⟩
    obtain ⟨k, rfl⟩ := hk
    go_wp2_with fail
    go_ret
    exact ⟨rfl, ((Ext.refl w).drewN k).kp _, by simp, ((Ext.refl w).drewN k).block HH.out⟩
end Go.Proofs.YtbpbkihcfdnphaaGreatDoor
