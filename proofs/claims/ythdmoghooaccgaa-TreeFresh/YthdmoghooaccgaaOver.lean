/-
  The reference's own count (over), Size and Small, each by a contract.
-/
import Derived.Test.YthdmoghooaccgaaGreat
namespace Go.Proofs.Ythdmoghooaccgaa
open Go.RowKit
set_option maxRecDepth 100000 in
set_option maxHeartbeats 2000000 in
theorem over_any : ∀ (d : Nat) (v : Value) (t : T) (K : Nat → Prop) (w : World) (b N D B dep : Nat), Rd K w d v t → ¬ K b → w.heap[b]? = some (.cells #[.int .i64 N, .int .i64 D, .int .i64 B, .bool false] 90) →
    N ≤ 1024 → D ≤ 64 → B ≤ 16384 → 1 ≤ dep → dep ≤ 65 →
    Calls Try.prog 59 #[.pointer (some ⟨b, 0, none⟩), v, .int .i64 dep] w fun e w' => (∃ r, e = .returned r) ∧ Kp (· ≠ b) w w' ∧
      ((T.ok N B dep t ∧ w'.heap[b]? = some (.cells #[.int .i64 (N + t.size : Nat), .int .i64 (max D (dep + t.height - 1) : Nat), .int .i64 (B + t.bytes : Nat), .bool false] 90)) ∨
       (¬ T.ok N B dep t ∧ ∃ x y z, w'.heap[b]? = some (.cells #[.int .i64 x, .int .i64 y, .int .i64 z, .bool true] 90))) := by
  intro d
  induction d with
  | zero => intro v t K w b N D B dep h; exact h.elim
  | succ d ih =>
    intro v t K w b N D B dep hr hb hm hN hD hB hd1 hd2
    obtain ⟨k, n, x, ks⟩ := t
    obtain ⟨a, c, rfl, hk, hx, hl, hks⟩ := hr
    have HB := hid hb
    have HKS := hid hks
    have HIH := hid ih
    have HM := hid hm
    clear hb hks ih hm
    have c0 : w.cell? ⟨b, 0, none⟩ = some (.int .i64 N) := cell_of HM.out rfl
    have c1 : w.cell? ⟨b, 1, none⟩ = some (.int .i64 D) := cell_of HM.out rfl
    have c2 : w.cell? ⟨b, 2, none⟩ = some (.int .i64 B) := cell_of HM.out rfl
    have c3 : w.cell? ⟨b, 3, none⟩ = some (.bool false) := cell_of HM.out rfl
    have hlt : b < w.heap.size := lt_of_block HM.out
    have f0 := frozen_of (i := 0) HM.out
    have f1 := frozen_of (i := 1) HM.out
    have f2 := frozen_of (i := 2) HM.out
    have f3 := frozen_of (i := 3) HM.out
    go_enter Try.func59, Try.ntmps59
    go_upto_region 3 with fail
    have hmax : (if D < dep then (dep : Int) else (D : Int)) = ((max D dep : Nat) : Int) := by split <;> omega
    rw [hmax]
    clear hmax
    go_cut [] from 7 (fun wx => Kp (· ≠ b) w wx ∧ wx.heap[b]? = some (.cells #[.int .i64 (N + 1 : Nat), .int .i64 (max D dep : Nat), .int .i64 (B + x.size : Nat), .bool false] 90) ∧ wx.heap[w.heap.size]? = some (.cells #[.string k, .int .i64 n, .string x, .slice a ks.length c] 26))
    case first =>
      go_region
      all_goals
        go_wp2_with fail
        go_meet
        case rel =>
          refine ⟨Kp.drew (Kp.alloc (Kp.trans (Kp.trans (Kp.set _ _ _ _ (fun h => h rfl)) (Kp.set _ _ _ _ (fun h => h rfl))) (Kp.set _ _ _ _ (fun h => h rfl))) _), ?_, ?_⟩
          · refine (blkOld _ (set_at (set_at (set_at HM.out 0 _) 1 _) 2 _)).trans ?_
            simp
          · exact blkN (by rw [size_set, size_set, size_set])
    case rest =>
      obtain ⟨hkp, hbm, hbt⟩ := hcut
      have HKP := hid hkp
      have HBM := hid hbm
      have HBT := hid hbt
      clear hkp c0 c1 c2 c3 f0 f1 f2 f3
      obtain ⟨c0, c1, c2, c3⟩ : wc.cell? ⟨b, 0, none⟩ = some (.int .i64 (N + 1 : Nat)) ∧ wc.cell? ⟨b, 1, none⟩ = some (.int .i64 (max D dep : Nat)) ∧ wc.cell? ⟨b, 2, none⟩ = some (.int .i64 (B + x.size : Nat)) ∧ wc.cell? ⟨b, 3, none⟩ = some (.bool false) := ⟨cell_of hbm rfl, cell_of hbm rfl, cell_of hbm rfl, cell_of hbm rfl⟩
      have f3 := frozen_of (i := 3) hbm
      clear hbm hbt
      have hl' : (ks.length : Int) ≤ 140737488355328 := by omega
      have hx' : (x.size : Int) ≤ 140737488355328 := by omega
      obtain ⟨P, hP⟩ : ∃ P, N + 1 = P := ⟨_, rfl⟩
      obtain ⟨M, hMx⟩ : ∃ M, max D dep = M := ⟨_, rfl⟩
      obtain ⟨R, hRx⟩ : ∃ R, B + x.size = R := ⟨_, rfl⟩
      rw [hP] at c0 HBM
      rw [hMx] at c1 HBM
      rw [hRx] at c2 HBM
      have HE := hid (And.intro hP (And.intro hMx hRx))
      clear hP hMx hRx
      go_upto_region 4 with fail
      go_cut [] from 7 (fun wx => Kp (· ≠ b) w wx ∧ wx.heap[b]? = some (.cells #[.int .i64 P, .int .i64 M, .int .i64 R, .bool (decide (1024 < P ∨ 64 < M ∨ 16384 < R))] 90) ∧ wx.heap[w.heap.size]? = some (.cells #[.string k, .int .i64 n, .string x, .slice a ks.length c] 26))
      case first =>
        have FIN := hid (show ∀ g : Bool, g = decide (1024 < P ∨ 64 < M ∨ 16384 < R) → Kp (· ≠ b) w (wc.setCell ⟨b, 3, none⟩ (.bool g)) ∧ (wc.setCell ⟨b, 3, none⟩ (.bool g)).heap[b]? = some (.cells #[.int .i64 P, .int .i64 M, .int .i64 R, .bool (decide (1024 < P ∨ 64 < M ∨ 16384 < R))] 90) ∧ (wc.setCell ⟨b, 3, none⟩ (.bool g)).heap[w.heap.size]? = some (.cells #[.string k, .int .i64 n, .string x, .slice a ks.length c] 26) from fun g hg => by
          refine ⟨HKP.out.trans (Kp.set _ _ _ _ (fun h => h rfl)), ?_, set_other HBT.out (by omega) _⟩
          refine (set_at HBM.out 3 _).trans ?_
          rw [hg]
          simp)
        by_cases g1 : 1024 < P
        · have q1 : decide ((1024 : Int) < (P : Int)) = true := decide_eq_true (by omega)
          have G := FIN.out true (decide_eq_true (.inl g1)).symm
          go_wp2_with fail
          go_meet
          case rel => exact G
        have q1 : decide ((1024 : Int) < (P : Int)) = false := decide_eq_false (by omega)
        by_cases g2 : 64 < M
        · have q2 : decide ((64 : Int) < (M : Int)) = true := decide_eq_true (by omega)
          have G := FIN.out true (decide_eq_true (.inr (.inl g2))).symm
          go_wp2_with fail
          go_meet
          case rel => exact G
        have q2 : decide ((64 : Int) < (M : Int)) = false := decide_eq_false (by omega)
        by_cases g3 : 16384 < R
        · have q3 : decide ((16384 : Int) < (R : Int)) = true := decide_eq_true (by omega)
          have G := FIN.out true (decide_eq_true (.inr (.inr g3))).symm
          go_wp2_with fail
          go_meet
          case rel => exact G
        have q3 : decide ((16384 : Int) < (R : Int)) = false := decide_eq_false (by omega)
        have G := FIN.out false (decide_eq_false (fun h => by rcases h with h | h | h <;> omega)).symm
        go_wp2_with fail
        go_meet
        case rel => exact G
      case rest =>
        obtain ⟨hkp, hbm, hbt⟩ := hcut
        clear c0 c1 c2 c3 f3 HKP HBM HBT
        have HKP := hid hkp
        have HBM := hid hbm
        have HBT := hid hbt
        clear hkp hbm hbt
        go_wp2_with fail
        go_loopw [6] (fun i wr => ∃ j : Nat, j ≤ ks.length ∧ i = .int .i64 j ∧ Kp (· ≠ b) w wr ∧ wr.heap[w.heap.size]? = some (.cells #[.string k, .int .i64 n, .string x, .slice a ks.length c] 26) ∧
            (((N + 1 + T.sizeL (ks.take j) ≤ 1024 ∧ dep + T.heightL (ks.take j) ≤ 64 ∧ B + x.size + T.bytesL (ks.take j) ≤ 16384) ∧
              wr.heap[b]? = some (.cells #[.int .i64 (N + 1 + T.sizeL (ks.take j) : Nat), .int .i64 (max D (dep + T.heightL (ks.take j)) : Nat), .int .i64 (B + x.size + T.bytesL (ks.take j) : Nat), .bool false] 90)) ∨
             (¬ T.ok N B dep (.node k n x ks) ∧ ∃ x y z, wr.heap[b]? = some (.cells #[.int .i64 x, .int .i64 y, .int .i64 z, .bool true] 90)))) (fun i _ => ks.length - (intOf i).toNat)
        case atStart =>
          obtain ⟨e1, e2, e3⟩ := HE.out
          refine ⟨0, Nat.zero_le _, rfl, HKP.out, HBT.out, ?_⟩
          by_cases hg : 1024 < P ∨ 64 < M ∨ 16384 < R
          · refine .inr ⟨fun h => ?_, P, M, R, by rw [HBM.out, decide_eq_true hg]⟩
            obtain ⟨o1, o2, o3⟩ := h
            simp only [T.size, T.height, T.bytes] at o1 o2 o3
            rcases hg with hg | hg | hg <;> omega
          · refine .inl ⟨⟨by simp [T.sizeL]; omega, by simp [T.heightL]; omega, by simp [T.bytesL]; omega⟩, ?_⟩
            rw [HBM.out, decide_eq_false hg]
            simp only [List.take_zero, T.sizeL, T.heightL, T.bytesL, Nat.add_zero]
            rw [e1, e2, e3]
        case round =>
          obtain ⟨j, hj, rfl, hkp, hbt, hcs⟩ := hrel
          have HK2 := hid hkp
          obtain ⟨t0, t1, t2, t3⟩ : wr.cell? ⟨w.heap.size, 0, none⟩ = some (.string k) ∧ wr.cell? ⟨w.heap.size, 1, none⟩ = some (.int .i64 n) ∧ wr.cell? ⟨w.heap.size, 2, none⟩ = some (.string x) ∧ wr.cell? ⟨w.heap.size, 3, none⟩ = some (.slice a ks.length c) := ⟨cell_of hbt rfl, cell_of hbt rfl, cell_of hbt rfl, cell_of hbt rfl⟩
          have HBT2 := hid hbt
          clear hkp hbt
          by_cases hlt2 : j < ks.length
          · have hlt' : (j : Int) < ks.length := by omega
            rcases hcs with ⟨hle, hbm⟩ | ⟨hno, xx, yy, zz, hbm⟩
            · have HLE := hid hle
              have HB2 := hid hbm
              have g3 := cell_of (i := 3) hbm rfl
              simp only [List.getElem_toArray, List.getElem_cons_zero, List.getElem_cons_succ] at g3
              clear hle hbm
              rcases HKS.out with h0 | ⟨g, off, rfl, hg, hcells⟩
              · rw [h0] at hlt2; exact absurd hlt2 (Nat.not_lt_zero _)
              obtain ⟨u0, u1, u2, u3, h4, hrd⟩ := hcells j hlt2
              obtain ⟨k', n', x', a', c', rfl, rfl, rfl, rfl⟩ := hrd.shape
              have HR := hid hrd
              have HG := hid hg
              clear hrd hcells hg
              generalize hkl : ks[j].kids.length = kl at h4 HR
              have hne : g ≠ b := fun e => HB.out (e ▸ HG.out)
              obtain ⟨m0, m1, m2, m3⟩ := h4.keep HK2.out hne
              clear h4
              have hKK : Kp K w wr := HK2.out.mono (fun k _ hk e => HB.out (e ▸ hk))
              have HC := hid (HIH.out _ ks[j] K wr b (N + 1 + T.sizeL (ks.take j)) (max D (dep + T.heightL (ks.take j))) (B + x.size + T.bytesL (ks.take j)) (dep + 1) (HR.out.keep hKK) HB.out HB2.out HLE.out.1 (by have := HLE.out.2.1; omega) HLE.out.2.2 (by omega) (by have := HLE.out.2.1; omega))
              clear hKK
              go_wp2_with fail
              refine HC.out.mono ?_
              rintro e w2 ⟨⟨r, rfl⟩, hk2, hcase⟩
              have HK3 := hid (show Kp (· ≠ b) w w2 from HK2.out.trans hk2)
              have HBT3 := hid (hk2.block' HBT2.out (show w.heap.size ≠ b by omega))
              have HCS := hid hcase
              have s1 := T.sizeL_take ks j hlt2
              have s2 := T.heightL_take ks j hlt2
              have s3 := T.bytesL_take ks j hlt2
              have s4 := T.sizeL_split ks (j + 1)
              have s5 := T.heightL_split ks (j + 1)
              have s6 := T.bytesL_split ks (j + 1)
              have HS := hid (And.intro s1 (And.intro s2 (And.intro s3 (And.intro s4 (And.intro s5 s6)))))
              clear s1 s2 s3 s4 s5 s6 hk2 hcase m0 m1 m2 m3 t0 t1 t2 t3 g3
              go_wp2_with fail
              go_roundw
              case rel =>
                obtain ⟨s1, s2, s3, s4, s5, s6⟩ := HS.out
                obtain ⟨p1, p2, p3⟩ := HLE.out
                have hp := T.height_pos ks[j]
                refine ⟨j + 1, hlt2, by go_num, HK3.out, HBT3.out, ?_⟩
                rcases HCS.out with ⟨⟨o1, o2, o3⟩, hb3⟩ | ⟨hno, hb3⟩
                · refine .inl ⟨⟨by omega, by omega, by omega⟩, ?_⟩
                  rw [hb3, show N + 1 + T.sizeL (ks.take (j + 1)) = N + 1 + T.sizeL (ks.take j) + ks[j].size by omega, show max D (dep + T.heightL (ks.take (j + 1))) = max (max D (dep + T.heightL (ks.take j))) (dep + 1 + ks[j].height - 1) by omega, show B + x.size + T.bytesL (ks.take (j + 1)) = B + x.size + T.bytesL (ks.take j) + ks[j].bytes by omega]
                · refine .inr ⟨fun h => hno ?_, hb3⟩
                  obtain ⟨o1, o2, o3⟩ := h
                  simp only [T.size, T.height, T.bytes] at o1 o2 o3
                  exact ⟨by omega, by omega, by omega⟩
              case measure => simp [intOf]; omega
            · have g3 := cell_of (i := 3) hbm rfl
              simp only [List.getElem_toArray, List.getElem_cons_zero, List.getElem_cons_succ] at g3
              have HB2 := hid hbm
              have HNO := hid hno
              clear hbm hno
              go_wp2_with fail
              go_end0
              exact ⟨⟨_, rfl⟩, HK2.out, .inr ⟨HNO.out, _, _, _, HB2.out⟩⟩
          · have hje : j = ks.length := by omega
            have HT := hid (show ks.take j = ks by rw [hje, List.take_length])
            have HCS := hid hcs
            clear hcs hje
            go_wp2_with fail
            go_end0
            refine ⟨⟨_, rfl⟩, HK2.out, ?_⟩
            rcases HCS.out with ⟨⟨p1, p2, p3⟩, hb4⟩ | h
            · rw [HT.out] at p1 p2 p3 hb4
              refine .inl ⟨⟨by simp only [T.size]; omega, by simp only [T.height]; omega, by simp only [T.bytes]; omega⟩, ?_⟩
              rw [hb4]
              simp only [T.size, T.height, T.bytes]
              rw [show N + (1 + T.sizeL ks) = N + 1 + T.sizeL ks by omega, show dep + (1 + T.heightL ks) - 1 = dep + T.heightL ks by omega, show B + (x.size + T.bytesL ks) = B + x.size + T.bytesL ks by omega]
            · exact .inr h
end Go.Proofs.Ythdmoghooaccgaa
