/-
  The reader's whole, and Read, each by a contract.
-/
import Derived.Test.YtbpbkihcfdnphaaDoorRValue
import Derived.Test.YtbpbkihcfdnphaaDoorSz
namespace Go.Proofs.YtbpbkihcfdnphaaDoor
open Go.RowKit
def wholeR (s : ByteArray) (Q : Nat → Rs) : Rs :=
  match rdV s Q (2 * s.size + 1) 0 0 with
  | .bad c a => .bad c a
  | .ok t a => if a < s.size then .bad 5 a else if 65536 < t.size then .bad 2 a else .ok t a
set_option maxRecDepth 100000 in
set_option maxHeartbeats 2000000 in
theorem whole_any {b : Nat} {s : ByteArray} {I : World → Prop} {Q : Nat → Rs} (E : REnv b s I Q) (hs : s.size ≤ 1048576) (w : World) (hI : I w) (hr : RdAt w b s 0 0) (hsz : ∀ t a, rdV s Q (2 * s.size + 1) 0 0 = .ok t a → t.size ≤ 140737488351232) :
    Calls Tryd.prog 32 #[.pointer (some ⟨b, 0, none⟩)] w (RsP w b s 0 65 (wholeR s Q)) := by
  have HV := hid (rvalue_any E hs (2 * s.size + 1) w 0 0 hI hr (Nat.zero_le _) (by omega) (by omega))
  have hs' : (s.size : Int) ≤ 1048576 := by omega
  cases hv : rdV s Q (2 * s.size + 1) 0 0 with
  | bad c a =>
    have HR := hid (show wholeR s Q = .bad c a by unfold wholeR; rw [hv])
    rw [hv] at HV
    clear hv hsz hr
    go_enter Tryd.func32, Tryd.ntmps32
    go_wp2_with fail
    refine HV.out.mono ?_
    rintro e w4 ⟨hk4, rfl, hr4, ha4, hc4⟩
    have q4 : ((c : Int) != 0) = true := by simp; omega
    have q5 : ¬ ((c : Int)) = 0 := by omega
    go_wp2_with fail
    go_ret2
    rw [HR.out]
    exact ⟨hk4, rfl, hr4, ha4, hc4⟩
  | ok t a =>
    have hz := hsz t a hv
    have HR := hid (show wholeR s Q = if a < s.size then .bad 5 a else if 65536 < t.size then .bad 2 a else .ok t a by unfold wholeR; rw [hv])
    rw [hv] at HV
    clear hv hsz hr
    go_enter Tryd.func32, Tryd.ntmps32
    go_wp2_with fail
    refine HV.out.mono ?_
    rintro e w4 ⟨hk4, u, bs, rfl, ho4, hge4, hnd4, hr4, ha4⟩
    obtain ⟨τ, p, rfl⟩ := ho4.rd.iface
    have HK4 := hid hk4
    have HO4 := hid ho4
    have HR4 := hid hr4
    have HGE4 := hid hge4
    have c0 := cell_of (i := 0) hr4 rfl
    have c1 := cell_of (i := 1) hr4 rfl
    simp only [List.getElem_toArray, List.getElem_cons_zero, List.getElem_cons_succ] at c0 c1
    clear hk4 ho4 hr4 hge4
    by_cases hlt : a < s.size
    · have hlt' : (a : Int) < s.size := by omega
      rw [if_pos hlt] at HR
      go_wp2_with fail
      go_quiet (fail)
      go_wp2_with fail
      go_ret2
      rw [HR.out]
      exact ⟨HK4.out.drewN _, rfl, ((Ext.refl w4).drewN _).block HR4.out, ha4, by decide⟩
    · have hlt' : ¬ (a : Int) < s.size := by omega
      have hlt2 : (s.size : Int) ≤ a := by omega
      rw [if_neg hlt] at HR
      have hz' : (t.size : Int) ≤ 140737488355328 := by omega
      go_wp2_with fail
      go_quiet (fail)
      rename_i nq
      have HO5 := hid (HO4.out.later ((Ext.refl w4).drewN nq))
      have HR5 := hid (((Ext.refl w4).drewN nq).block HR4.out)
      have HK5 := hid (HK4.out.drewN nq)
      by_cases hg : 65536 < t.size
      · rw [if_pos hg] at HR
        have hg' : (65536 : Int) < t.size := by omega
        go_wp2_with (go_at_call 37; refine (size_any 65 _ t _ _ HO5.out.rd hz).mono ?_; rintro e w6 ⟨rfl, rfl⟩)
        go_ret2
        rw [HR.out]
        exact ⟨HK5.out, rfl, HR5.out, ha4, by decide⟩
      · rw [if_neg hg] at HR
        have hg' : (t.size : Int) ≤ 65536 := by omega
        go_wp2_with (go_at_call 37; refine (size_any 65 _ t _ _ HO5.out.rd hz).mono ?_; rintro e w6 ⟨rfl, rfl⟩)
        go_ret2
        rw [HR.out]
        exact ⟨HK5.out, _, bs, rfl, HO5.out, HGE4.out, hnd4, HR5.out, ha4⟩
/-- What Read answers. -/
def ReadR (w : World) (r : Rs) (e : Ending) (w' : World) : Prop := Ext w w' ∧
  match r with
  | .ok t _ => ∃ u bs, e = .returned (.tuple #[u, .int .i64 0, .int .i64 0]) ∧ VOwn w' 65 u t bs ∧ (∀ x ∈ bs, w.heap.size ≤ x) ∧ bs.Nodup
  | .bad c a => e = .returned (.tuple #[.nilIface, .int .i64 a, .int .i64 c])
def readR (s : ByteArray) (Q : Nat → Rs) : Rs := if 1048576 < s.size then .bad 2 0 else wholeR s Q
set_option maxRecDepth 100000 in
set_option maxHeartbeats 2000000 in
theorem read_any (s : ByteArray) {I : World → Prop} {Q : Nat → Rs} (w : World) (hx : s.size ≤ 140737488351232) (HE : s.size ≤ 1048576 → REnv w.heap.size s I Q ∧ ∀ o, I (w.alloc o)) (hsz : s.size ≤ 1048576 → ∀ t a, rdV s Q (2 * s.size + 1) 0 0 = .ok t a → t.size ≤ 140737488351232) :
    Calls Tryd.prog 10 #[.string s] w (ReadR w (readR s Q)) := by
  by_cases hs : 1048576 < s.size
  · have HR := hid (show readR s Q = .bad 2 0 by unfold readR; rw [if_pos hs])
    have hs' : (1048576 : Int) < s.size := by omega
    have hx' : (s.size : Int) ≤ 140737488355328 := by omega
    clear HE hsz
    go_enter Tryd.func10, Tryd.ntmps10
    go_wp2_with fail
    go_ret3
    rw [HR.out]
    exact ⟨Ext.refl _, rfl⟩
  · obtain ⟨E, hI⟩ := HE (by omega)
    have HR := hid (show readR s Q = wholeR s Q by unfold readR; rw [if_neg hs])
    have hs' : (s.size : Int) ≤ 1048576 := by omega
    have HW := hid (whole_any E (by omega) (w.alloc (.cells #[.string s, .int .i64 0, .int .i64 0] 68)) (hI _) (blk0 w _) (hsz (by omega)))
    clear hsz HE hI
    cases hv : wholeR s Q with
    | bad c a =>
      rw [hv] at HW HR
      clear hv
      go_enter Tryd.func10, Tryd.ntmps10
      go_wp2_with fail
      refine HW.out.mono ?_
      rintro e w4 ⟨hk4, rfl, hr4, ha4, hc4⟩
      have q4 : ((c : Int) != 0) = true := by simp; omega
      have q5 : ¬ ((c : Int)) = 0 := by omega
      have c1 := cell_of (i := 1) hr4 rfl
      simp only [List.getElem_toArray, List.getElem_cons_zero, List.getElem_cons_succ] at c1
      have HX := hid (Kp.extOf (Ext.alloc w _) hk4 (Nat.le_refl _))
      clear hr4 hk4
      go_wp2_with fail
      go_quiet (fail)
      go_wp2_with fail
      go_ret3
      rw [HR.out]
      exact ⟨HX.out.drewN _, rfl⟩
    | ok t a =>
      rw [hv] at HW HR
      clear hv
      go_enter Tryd.func10, Tryd.ntmps10
      go_wp2_with fail
      refine HW.out.mono ?_
      rintro e w4 ⟨hk4, u, bs, rfl, ho4, hge4, hnd4, hr4, ha4⟩
      obtain ⟨τ, p, rfl⟩ := ho4.rd.iface
      have HX := hid (Kp.extOf (Ext.alloc w _) hk4 (Nat.le_refl _))
      have HO4 := hid ho4
      have HGE := hid hge4
      clear hr4 hk4 ho4 hge4
      go_wp2_with fail
      go_ret3
      rw [HR.out]
      exact ⟨HX.out, _, bs, rfl, HO4.out, fun x hx => by have := HGE.out x hx; rw [blkS] at this; omega, hnd4⟩
end Go.Proofs.YtbpbkihcfdnphaaDoor
