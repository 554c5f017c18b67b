/-
  (*measure).add, great, Size, each by a contract.
-/
import Derived.Test.YthdmoghooaccgaaBase
import Derived.WalkMore
import Derived.Deep.RegionHeld3
import Derived.Deep.Cut
import Derived.BigQuiet
import Derived.Deep.LoopGhost
import Derived.Deep.CutRange
import Derived.Deep.CutBlock
namespace Go.Proofs.Ythdmoghooaccgaa
open Go.RowKit
set_option maxRecDepth 100000 in
set_option maxHeartbeats 2000000 in
theorem add_any : ∀ (d : Nat) (v : Value) (t : T) (K : Nat → Prop) (w : World) (b N D B dep : Nat), Rd K w d v t → ¬ K b → w.heap[b]? = some (.cells #[.int .i64 N, .int .i64 D, .int .i64 B] 74) →
    N ≤ 1024 → D ≤ 65 → B ≤ 16384 → 1 ≤ dep → dep ≤ 65 →
    Calls Try.prog 44 #[.pointer (some ⟨b, 0, none⟩), v, .int .i64 dep] w fun e w' => Kp (· ≠ b) w w' ∧
      ((T.ok N B dep t ∧ e = .returned (.bool true) ∧ w'.heap[b]? = some (.cells #[.int .i64 (N + t.size : Nat), .int .i64 (max D (dep + t.height - 1) : Nat), .int .i64 (B + t.bytes : Nat)] 74)) ∨
       (¬ T.ok N B dep t ∧ e = .returned (.bool false) ∧ ∃ x y z, w'.heap[b]? = some (.cells #[.int .i64 x, .int .i64 y, .int .i64 z] 74))) := by
  intro d
  induction d with
  | zero => intro v t K w b N D B dep h; exact h.elim
  | succ d ih =>
    intro v t K w b N D B dep hr hb hm hN hD hB hd1 hd2
    obtain ⟨k, n, x, ks⟩ := t
    obtain ⟨a, c, rfl, hk, hx, hl, hks⟩ := hr
    have HB := hid hb
    have HKS := hid hks
    have HIH := hid ih
    have HM := hid hm
    clear hb hks ih hm
    have c0 : w.cell? ⟨b, 0, none⟩ = some (.int .i64 N) := cell_of HM.out rfl
    have c1 : w.cell? ⟨b, 1, none⟩ = some (.int .i64 D) := cell_of HM.out rfl
    have c2 : w.cell? ⟨b, 2, none⟩ = some (.int .i64 B) := cell_of HM.out rfl
    have hlt : b < w.heap.size := lt_of_block HM.out
    have f0 := frozen_of (i := 0) HM.out
    have f1 := frozen_of (i := 1) HM.out
    have f2 := frozen_of (i := 2) HM.out
    go_enter Try.func44, Try.ntmps44
    go_upto_region 3 with fail
    have hmax : (if D < dep then (dep : Int) else (D : Int)) = ((max D dep : Nat) : Int) := by split <;> omega
    rw [hmax]
    clear hmax
    go_cut [] from 9 (fun wx => Kp (· ≠ b) w wx ∧ wx.heap[b]? = some (.cells #[.int .i64 (N + 1 : Nat), .int .i64 (max D dep : Nat), .int .i64 (B + x.size : Nat)] 74) ∧ wx.heap[w.heap.size]? = some (.cells #[.string k, .int .i64 n, .string x, .slice a ks.length c] 26))
    case first =>
      go_region
      all_goals
        go_wp2_with fail
        go_meet
        case rel =>
          refine ⟨Kp.drew (Kp.alloc (Kp.trans (Kp.trans (Kp.set _ _ _ _ (fun h => h rfl)) (Kp.set _ _ _ _ (fun h => h rfl))) (Kp.set _ _ _ _ (fun h => h rfl))) _), ?_, ?_⟩
          · refine (blkOld _ (set_at (set_at (set_at HM.out 0 _) 1 _) 2 _)).trans ?_
            simp
          · exact blkN (by rw [size_set, size_set, size_set])
    case rest =>
      obtain ⟨hkp, hbm, hbt⟩ := hcut
      have HKP := hid hkp
      have HBM := hid hbm
      have HBT := hid hbt
      clear hkp c0 c1 c2 f0 f1 f2
      have c0 := cell_of (i := 0) hbm rfl
      have c2 := cell_of (i := 2) hbm rfl
      have e3 := cell_of (i := 3) hbt rfl
      simp only [List.getElem_toArray, List.getElem_cons_zero, List.getElem_cons_succ] at c0 c2 e3
      clear hbm hbt
      have hlen := T.sizeL_len ks
      have HLEN := hid hlen
      clear hlen
      have hl' : (ks.length : Int) ≤ 140737488355328 := by omega
      have hx' : (x.size : Int) ≤ 140737488355328 := by omega
      have hwr : IntKind.i64.wrap ((N : Int) + 1 + (ks.length : Int)) = (N : Int) + 1 + (ks.length : Int) := IntWalk.i64_in _ (by omega)
      go_upto_region 4 with fail
      by_cases g1 : 1024 < N + 1 + ks.length
      · have q1 : decide ((1024 : Int) < (N : Int) + 1 + (ks.length : Int)) = true := decide_eq_true (by omega)
        have NOK := hid (show ¬ T.ok N B dep (.node k n x ks) from fun h => by have := HLEN.out; have := h.1; simp only [T.size] at this; omega)
        go_quiet (fail)
        go_wp2
        go_ret
        exact ⟨HKP.out.drewN _, .inr ⟨NOK.out, rfl, _, _, _, HBM.out⟩⟩
      have q1 : decide ((1024 : Int) < (N : Int) + 1 + (ks.length : Int)) = false := decide_eq_false (by omega)
      by_cases g2 : 64 < dep
      · have q2 : decide ((64 : Int) < (dep : Int)) = true := decide_eq_true (by omega)
        have NOK := hid (show ¬ T.ok N B dep (.node k n x ks) from fun h => by have := h.2.1; simp only [T.height] at this; omega)
        go_quiet (fail)
        go_wp2
        go_ret
        exact ⟨HKP.out.drewN _, .inr ⟨NOK.out, rfl, _, _, _, HBM.out⟩⟩
      have q2 : decide ((64 : Int) < (dep : Int)) = false := decide_eq_false (by omega)
      by_cases g3 : 16384 < B + x.size
      · have q3 : decide ((16384 : Int) < (B : Int) + (x.size : Int)) = true := decide_eq_true (by omega)
        have NOK := hid (show ¬ T.ok N B dep (.node k n x ks) from fun h => by have := h.2.2; simp only [T.bytes] at this; omega)
        go_quiet (fail)
        go_wp2
        go_ret
        exact ⟨HKP.out.drewN _, .inr ⟨NOK.out, rfl, _, _, _, HBM.out⟩⟩
      have q3 : decide ((16384 : Int) < (B : Int) + (x.size : Int)) = false := decide_eq_false (by omega)
      go_quiet (fail)
      go_wp2_with fail
      have H1 := hid hwr
      clear c0 c2 e3 hwr q1 q2 q3
      go_loopw [58] (fun i wr => ∃ j : Nat, j ≤ ks.length ∧ i = .int .i64 j ∧ Kp (· ≠ b) w wr ∧ (N + 1 + T.sizeL (ks.take j) ≤ 1024 ∧ dep + T.heightL (ks.take j) ≤ 64 ∧ B + x.size + T.bytesL (ks.take j) ≤ 16384) ∧
          wr.heap[b]? = some (.cells #[.int .i64 (N + 1 + T.sizeL (ks.take j) : Nat), .int .i64 (max D (dep + T.heightL (ks.take j)) : Nat), .int .i64 (B + x.size + T.bytesL (ks.take j) : Nat)] 74)) (fun i _ => ks.length - (intOf i).toNat)
      case atStart => exact ⟨0, Nat.zero_le _, rfl, HKP.out.drewN _, ⟨by simp [T.sizeL]; omega, by simp [T.heightL]; omega, by simp [T.bytesL]; omega⟩, by simpa [T.sizeL, T.heightL, T.bytesL] using HBM.out⟩
      case round =>
        obtain ⟨j, hj, rfl, hkp, hle, hbm⟩ := hrel
        have HK2 := hid hkp
        have HLE := hid hle
        have HB2 := hid hbm
        clear hkp hle hbm
        by_cases hlt2 : j < ks.length
        · have hlt' : (j : Int) < ks.length := by omega
          rcases HKS.out with h0 | ⟨g, off, rfl, hg, hcells⟩
          · rw [h0] at hlt2; exact absurd hlt2 (Nat.not_lt_zero _)
          obtain ⟨u0, u1, u2, u3, h4, hrd⟩ := hcells j hlt2
          obtain ⟨k', n', x', a', c', rfl, rfl, rfl, rfl⟩ := hrd.shape
          have HR := hid hrd
          have HG := hid hg
          clear hrd hcells hg
          generalize hkl : ks[j].kids.length = kl at h4 HR
          have hne : g ≠ b := fun e => HB.out (e ▸ HG.out)
          obtain ⟨m0, m1, m2, m3⟩ := h4.keep HK2.out hne
          clear h4
          go_wp2_with fail
          have hKK : Kp K w wr := HK2.out.mono (fun k _ hk e => HB.out (e ▸ hk))
          refine (HIH.out _ ks[j] K _ b (N + 1 + T.sizeL (ks.take j)) (max D (dep + T.heightL (ks.take j))) (B + x.size + T.bytesL (ks.take j)) (dep + 1) (HR.out.keep (hKK.alloc _)) HB.out (blkOld _ HB2.out) HLE.out.1 (by have := HLE.out.2.1; omega) HLE.out.2.2 (by omega) (by omega)).mono ?_
          rintro e w2 ⟨hk2, hcase⟩
          have HK3 := hid (show Kp (· ≠ b) w w2 from (HK2.out.alloc _).trans hk2)
          have s1 := T.sizeL_take ks j hlt2
          have s2 := T.heightL_take ks j hlt2
          have s3 := T.bytesL_take ks j hlt2
          have s4 := T.sizeL_split ks (j + 1)
          have s5 := T.heightL_split ks (j + 1)
          have s6 := T.bytesL_split ks (j + 1)
          have HS := hid (And.intro s1 (And.intro s2 (And.intro s3 (And.intro s4 (And.intro s5 s6)))))
          clear s1 s2 s3 s4 s5 s6 hk2 m0 m1 m2 m3
          rcases hcase with ⟨hok, rfl, hb3⟩ | ⟨hno, rfl, hb3⟩
          · have HOK := hid hok
            have HB3 := hid hb3
            clear hok hb3
            go_wp2_with fail
            go_roundw
            case rel =>
              obtain ⟨s1, s2, s3, s4, s5, s6⟩ := HS.out
              obtain ⟨o1, o2, o3⟩ := HOK.out
              obtain ⟨p1, p2, p3⟩ := HLE.out
              have hp := T.height_pos ks[j]
              refine ⟨j + 1, hlt2, by go_num, HK3.out, ⟨by omega, by omega, by omega⟩, ?_⟩
              rw [HB3.out, show N + 1 + T.sizeL (ks.take (j + 1)) = N + 1 + T.sizeL (ks.take j) + ks[j].size by omega, show max D (dep + T.heightL (ks.take (j + 1))) = max (max D (dep + T.heightL (ks.take j))) (dep + 1 + ks[j].height - 1) by omega, show B + x.size + T.bytesL (ks.take (j + 1)) = B + x.size + T.bytesL (ks.take j) + ks[j].bytes by omega]
            case measure => simp [intOf]; omega
          · have HNO := hid hno
            have HB3 := hid hb3
            clear hno hb3
            go_wp2_with fail
            go_ret
            refine ⟨HK3.out, .inr ⟨fun h => HNO.out ?_, rfl, HB3.out⟩⟩
            obtain ⟨s1, s2, s3, s4, s5, s6⟩ := HS.out
            obtain ⟨o1, o2, o3⟩ := h
            simp only [T.size, T.height, T.bytes] at o1 o2 o3
            exact ⟨by omega, by omega, by omega⟩
        · have hje : j = ks.length := by omega
          have htk : ks.take j = ks := by rw [hje, List.take_length]
          have HT := hid htk
          clear htk
          go_wp2_with fail
          go_ret
          obtain ⟨p1, p2, p3⟩ := HLE.out
          have hb4 := HB2.out
          rw [HT.out] at p1 p2 p3 hb4
          refine ⟨HK2.out, .inl ⟨⟨by simp only [T.size]; omega, by simp only [T.height]; omega, by simp only [T.bytes]; omega⟩, rfl, ?_⟩⟩
          rw [hb4]
          simp only [T.size, T.height, T.bytes]
          rw [show N + (1 + T.sizeL ks) = N + 1 + T.sizeL ks by omega, show dep + (1 + T.heightL ks) - 1 = dep + T.heightL ks by omega, show B + (x.size + T.bytesL ks) = B + x.size + T.bytesL ks by omega]
end Go.Proofs.Ythdmoghooaccgaa
