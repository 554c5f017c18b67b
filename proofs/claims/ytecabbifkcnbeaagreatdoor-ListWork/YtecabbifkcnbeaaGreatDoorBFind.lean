/-
  craft.find by a contract: the first kind of that name in a copied table, or the zero kind.
-/
import Derived.Test.YtecabbifkcnbeaaGreatDoorKKit
namespace Go.Proofs.YtecabbifkcnbeaaGreatDoor
open Go.RowKit
set_option maxRecDepth 100000 in
set_option maxHeartbeats 2000000 in
theorem findK_any (ks : List Kd) (tb cp : Nat) (name : ByteArray) (w : World) (hl : ks.length ≤ 1000) (ht : KRow w tb ks) : Calls Tryz.prog 54 #[.slice (some ⟨tb, 0, none⟩) ks.length cp, .string name] w fun e w' => e = .returned (.tuple #[kdVal (kdFind ks name), .bool (kdFind ks name).isSome]) ∧ Ext w w' := by
  have hl' : (ks.length : Int) ≤ 1000 := by omega
  obtain ⟨M, hM⟩ : ∃ M, w.alloc (.cells #[.string ⟨#[]⟩, .int .i64 0, .int .i64 0, .int .i64 0, .string ⟨#[]⟩, .string ⟨#[]⟩, .nilFunc, .nilFunc, .bool false] 69) = M := ⟨_, rfl⟩
  have XM := hid (show Ext w M from hM ▸ Ext.alloc _ _)
  have HM0 := hid (show M.heap[w.heap.size]? = some (.cells #[.string ⟨#[]⟩, .int .i64 0, .int .i64 0, .int .i64 0, .string ⟨#[]⟩, .string ⟨#[]⟩, .nilFunc, .nilFunc, .bool false] 69) from hM ▸ blk0 _ _)
  have HT := hid ht
  have HL := hid hl
  obtain ⟨n, hn⟩ : ∃ n, ks.length = n := ⟨_, rfl⟩
  have HN := hid hn
  rw [hn] at hl' ⊢
  clear ht hl hn
  go_enter Tryz.func54, Tryz.ntmps54
  go_wp2_with fail
  clear hM
  go_loopw [10] (fun q10 wr => ∃ j : Nat, j ≤ n ∧ q10 = .int .i64 j ∧ (∀ i, (hi : i < ks.length) → i < j → ks[i].name ≠ name) ∧ Ext M wr) (fun q10 _ => n - (intOf q10).toNat)
  case atStart => exact ⟨0, Nat.zero_le _, rfl, fun i _ h => absurd h (Nat.not_lt_zero _), Ext.refl _⟩
  case round =>
    obtain ⟨j, hj, rfl, hno, hx⟩ := hrel
    have HNO := hid hno
    have XR := hid hx
    have HZ := hid (hx.block HM0.out)
    have XW := hid (XM.out.trans hx)
    obtain ⟨f0, f1, f2, f3, f4, f5, f6, f7, f8⟩ := nine_free HZ.out
    obtain ⟨r0, r1, r2, r3, r4, r5, r6, r7, r8⟩ := nine_of HZ.out
    have hlw : w.heap.size < wr.heap.size := lt_of_block HZ.out
    clear hno hx
    by_cases hlt : j < n
    · have hlt' : (j : Int) < n := by omega
      have hjk : j < ks.length := by rw [HN.out]; exact hlt
      obtain ⟨p0, p1, p2, p3, p4, p5, p6, p7, p8⟩ := HT.out.later (XM.out.trans XR.out) j hjk
      have heq := str_eqb ks[j].name name
      have HF := hid (fun h => kdFind_at hjk h (fun i hi => HNO.out i (by omega) hi))
      have HS := hid (show ks[j].name ≠ name → ∀ i, (hi : i < ks.length) → i < j + 1 → ks[i].name ≠ name from fun h i hi hij => by
        by_cases e : i = j
        · subst e; exact h
        · exact HNO.out i hi (by omega))
      generalize ks[j] = kj at *
      have HV := hid (show kdVal (some kj) = .agg #[.string kj.name, .int .i64 kj.min, .int .i64 kj.max, .int .i64 kj.text, .string kj.has, .string kj.signs, .func (.func kj.make) #[] #[], fnV kj.does, .bool kj.joins] from rfl)
      clear hjk
      obtain ⟨k0, k1, k2, k3, k4, k5, k6, k7, k8⟩ := kj
      dsimp only at *
      have p6' : wr.cell? ⟨tb, j * 9 + 6, none⟩ = some (.func (.func k6) #[] #[]) := p6
      clear p6
      cases k7 with
      | none =>
        have p7' : wr.cell? ⟨tb, j * 9 + 7, none⟩ = some .nilFunc := p7
        clear p7
        by_cases he : k0 = name
        · rw [decide_eq_true he] at heq
          have HFD := hid (HF.out he)
          clear he
          go_wp2_with fail
          obtain ⟨z0, z1, z2, z3, z4, z5, z6, z7, z8⟩ := nine_of (blkOld (.cells #[.string k0, .int .i64 k1, .int .i64 k2, .int .i64 k3, .string k4, .string k5, .func (.func k6) #[] #[], .nilFunc, .bool k8] 69) (nine_set (u0 := .string k0) (u1 := .int .i64 k1) (u2 := .int .i64 k2) (u3 := .int .i64 k3) (u4 := .string k4) (u5 := .string k5) (u6 := .func (.func k6) #[] #[]) (u7 := .nilFunc) (u8 := .bool k8) HZ.out))
          refine bodyPost_ret (v := .tuple #[.agg #[.string k0, .int .i64 k1, .int .i64 k2, .int .i64 k3, .string k4, .string k5, .func (.func k6) #[] #[], .nilFunc, .bool k8], .bool true]) (by simp [results, Tryz.results54, go_sem, z0, z1, z2, z3, z4, z5, z6, z7, z8]) rfl ?_
          have HK := Kp.set9 wr w.heap.size (.string k0) (.int .i64 k1) (.int .i64 k2) (.int .i64 k3) (.string k4) (.string k5) (.func (.func k6) #[] #[]) .nilFunc (.bool k8)
          have HX := Kp.extOf XW.out HK (Nat.le_refl _)
          exact ⟨by rw [HFD.out, HV.out]; rfl, HX.trans (Ext.alloc _ _)⟩
        · rw [decide_eq_false he] at heq
          have HNX := hid (HS.out he)
          clear he
          go_wp2_with fail
          go_roundw
          case rel => exact ⟨j + 1, by omega, by go_num, HNX.out, XR.out.trans (Ext.alloc _ _)⟩
          case measure => simp [intOf]; omega
      | some fd =>
        have p7' : wr.cell? ⟨tb, j * 9 + 7, none⟩ = some (.func (.func fd) #[] #[]) := p7
        clear p7
        by_cases he : k0 = name
        · rw [decide_eq_true he] at heq
          have HFD := hid (HF.out he)
          clear he
          go_wp2_with fail
          obtain ⟨z0, z1, z2, z3, z4, z5, z6, z7, z8⟩ := nine_of (blkOld (.cells #[.string k0, .int .i64 k1, .int .i64 k2, .int .i64 k3, .string k4, .string k5, .func (.func k6) #[] #[], .func (.func fd) #[] #[], .bool k8] 69) (nine_set (u0 := .string k0) (u1 := .int .i64 k1) (u2 := .int .i64 k2) (u3 := .int .i64 k3) (u4 := .string k4) (u5 := .string k5) (u6 := .func (.func k6) #[] #[]) (u7 := .func (.func fd) #[] #[]) (u8 := .bool k8) HZ.out))
          refine bodyPost_ret (v := .tuple #[.agg #[.string k0, .int .i64 k1, .int .i64 k2, .int .i64 k3, .string k4, .string k5, .func (.func k6) #[] #[], .func (.func fd) #[] #[], .bool k8], .bool true]) (by simp [results, Tryz.results54, go_sem, z0, z1, z2, z3, z4, z5, z6, z7, z8]) rfl ?_
          have HK := Kp.set9 wr w.heap.size (.string k0) (.int .i64 k1) (.int .i64 k2) (.int .i64 k3) (.string k4) (.string k5) (.func (.func k6) #[] #[]) (.func (.func fd) #[] #[]) (.bool k8)
          have HX := Kp.extOf XW.out HK (Nat.le_refl _)
          exact ⟨by rw [HFD.out, HV.out]; rfl, HX.trans (Ext.alloc _ _)⟩
        · rw [decide_eq_false he] at heq
          have HNX := hid (HS.out he)
          clear he
          go_wp2_with fail
          go_roundw
          case rel => exact ⟨j + 1, by omega, by go_num, HNX.out, XR.out.trans (Ext.alloc _ _)⟩
          case measure => simp [intOf]; omega
    · have hje : j = n := by omega
      have hlt' : ¬ (j : Int) < n := by omega
      have hlt2 : decide ((j : Int) < n) = false := decide_eq_false hlt'
      have HFN := hid (kdFind_none (ks := ks) (name := name) (fun i hi => HNO.out i hi (by have := HN.out; omega)))
      clear hje hlt
      go_wp2_with fail
      obtain ⟨z0, z1, z2, z3, z4, z5, z6, z7, z8⟩ := nine_of (nine_set (u0 := .string ⟨#[]⟩) (u1 := .int .i64 0) (u2 := .int .i64 0) (u3 := .int .i64 0) (u4 := .string ⟨#[]⟩) (u5 := .string ⟨#[]⟩) (u6 := .nilFunc) (u7 := .nilFunc) (u8 := .bool false) HZ.out)
      refine bodyPost_ret (v := .tuple #[.agg #[.string ⟨#[]⟩, .int .i64 0, .int .i64 0, .int .i64 0, .string ⟨#[]⟩, .string ⟨#[]⟩, .nilFunc, .nilFunc, .bool false], .bool false]) (by simp [results, Tryz.results54, go_sem, z0, z1, z2, z3, z4, z5, z6, z7, z8]) rfl ?_
      refine ⟨?_, Kp.extOf XW.out (Kp.set9 wr w.heap.size _ _ _ _ _ _ _ _ _) (Nat.le_refl _)⟩
      rw [HFN.out]
      rfl
end Go.Proofs.YtecabbifkcnbeaaGreatDoor
