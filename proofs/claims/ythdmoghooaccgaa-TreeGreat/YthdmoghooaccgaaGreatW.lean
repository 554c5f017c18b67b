/-
  The walk of espalierlaw4.TreeGreat: it returns true, whatever the tree.
-/
import Derived.Test.YthdmoghooaccgaaBegun
import Derived.WalkMore
namespace Go.Proofs.Ythdmoghooaccgaa
open Go.RowKit Go.Shelf
set_option maxRecDepth 100000 in
set_option maxHeartbeats 4000000 in
theorem great_true {d : Nat} {v : Value} {t : T} (w : World) (hr : Rd (fun _ => True) w d v t) : Calls Try.prog 5 #[v] w fun e w' => e = .returned (.bool true) ∧ Ext w w' := by
  obtain ⟨k, n, x, ks⟩ := t
  cases d with
  | zero => exact hr.elim
  | succ d =>
  obtain ⟨a, c, rfl, hkl⟩ := hr.kidsL
  have hxs : (x.size : Int) ≤ 140737488355328 := by obtain ⟨_, _, _, _, h, _⟩ := hr; omega
  have hks : (ks.length : Int) ≤ 140737488355328 := by have := hkl.1; omega
  have HR := hid hr
  have HK := hid hkl
  clear hr hkl
  go_enter Try.func5, Try.ntmps5
  go_wp2_with fail
  refine (callsIn_wide.1 (begun_true _)).mono ?_
  rintro e V ⟨rfl, hx⟩
  have HV := hid ((Ext.alloc w _).trans hx)
  have HB := hid (hx.block (blk0 w _))
  clear hx
  obtain ⟨p0, p1, p2, p3⟩ := four_of HB.out
  go_wp2_with fail
  refine (size_any V (HR.out.later HV.out)).mono ?_
  rintro e w1 ⟨rfl, hx1⟩
  have HX1 := hid hx1
  clear p0 p1 p2 p3 hx1
  obtain ⟨p0, p1, p2, p3⟩ := four_of (HX1.out.block HB.out)
  by_cases hs : T.small (.node k n x ks)
  · rw [show sizeV (.node k n x ks) = .tuple #[.int .i64 (T.size (.node k n x ks)), .int .i64 (T.height (.node k n x ks)), .int .i64 (T.bytes (.node k n x ks))] from if_pos hs]
    have HS := hid hs
    obtain ⟨s1, s2, s3⟩ := hs
    have l1 : (T.size (.node k n x ks) : Int) ≤ 1024 := by omega
    have l2 : (T.height (.node k n x ks) : Int) ≤ 64 := by omega
    have l3 : (T.bytes (.node k n x ks) : Int) ≤ 16384 := by omega
    have g1 : 0 ≤ (T.size (.node k n x ks) : Int) := by omega
    have g2 : 0 ≤ (T.height (.node k n x ks) : Int) := by omega
    have g3 : 0 ≤ (T.bytes (.node k n x ks) : Int) := by omega
    have HE := hid (show T.size (.node k n x ks) = 1 + T.sizeL ks ∧ T.height (.node k n x ks) = 1 + T.heightL ks ∧ T.bytes (.node k n x ks) = x.size + T.bytesL ks from ⟨by simp only [T.size], by simp only [T.height], by simp only [T.bytes]⟩)
    clear s1 s2 s3
    generalize T.size (.node k n x ks) = S at *
    generalize T.height (.node k n x ks) = D at *
    generalize T.bytes (.node k n x ks) = B at *
    have n1 : ((S : Int) == 1025) = false := by simp; omega
    have n2 : ((D : Int) == 65) = false := by simp; omega
    have n3 : ((B : Int) == 16385) = false := by simp; omega
    go_wp2_with fail
    go_region_held3 (fun W' => W'.cell? ⟨w.heap.size, 2, none⟩ = some (.string x)) (first | exact p2 | go_keep) (fail)
    have HXD := hid (HX1.out.drew)
    clear p0 p1 p2 p3
    go_wp2_with fail
    go_loopw [10, 11, 12, 13] (fun s10 s11 s12 s13 wr => ∃ j : Nat, j ≤ ks.length ∧ s10 = .int .i64 ((1 + T.sizeL (ks.take j) : Nat) : Int) ∧ s11 = .int .i64 (T.heightL (ks.take j) : Nat) ∧ s12 = .int .i64 ((x.size + T.bytesL (ks.take j) : Nat) : Int) ∧ s13 = .int .i64 j ∧ Ext V wr) (fun _ _ _ s13 _ => ks.length - (intOf s13).toNat)
    case atStart => exact ⟨0, Nat.zero_le _, by simp [T.sizeL], by simp [T.heightL], by simp [T.bytesL], rfl, HXD.out⟩
    case round =>
      obtain ⟨j, hj, rfl, rfl, rfl, rfl, hx⟩ := hrel
      have HX := hid hx
      clear hx
      obtain ⟨p0, p1, p2, p3⟩ := four_of (HX.out.block HB.out)
      by_cases hlt : j < ks.length
      · have hlt' : (j : Int) < ks.length := by omega
        obtain ⟨g, off, k', n', x', b, l, cc, rfl, hg, h4, hr⟩ := HK.out.kid hlt
        obtain ⟨m0, m1, m2, m3⟩ := h4.keep ((HV.out.trans HX.out).kp (fun _ => True)) hg
        have hgl := lt_of_cell m0
        have HC := hid (fun w2 (hy : Ext wr w2) => size_any w2 (hr.later ((HV.out.trans HX.out).trans hy)))
        have hsk : T.small ks[j] := T.small_kid HS.out (List.getElem_mem hlt)
        have e1 := T.sizeL_take ks j hlt
        have e2 := T.heightL_take ks j hlt
        have e3 := T.bytesL_take ks j hlt
        have f1 := T.sizeL_split ks (j + 1)
        have f3 := T.bytesL_split ks (j + 1)
        have f2 := T.heightL_split ks (j + 1)
        rw [show sizeV ks[j] = .tuple #[.int .i64 (T.size ks[j]), .int .i64 (T.height ks[j]), .int .i64 (T.bytes ks[j])] from if_pos hsk] at HC
        have hE := HE.out
        have b1 : ((1 + T.sizeL (ks.take j) : Nat) : Int) + (T.size ks[j] : Int) ≤ 1024 := by omega
        have b3 : ((x.size + T.bytesL (ks.take j) : Nat) : Int) + (T.bytes ks[j] : Int) ≤ 16384 := by omega
        have b2 : (T.heightL (ks.take j) : Int) ≤ 64 := by omega
        have b2' : (T.height ks[j] : Int) ≤ 64 := by omega
        have E1 := hid e1
        have E2 := hid e2
        have E3 := hid e3
        clear h4 hr hg hsk e1 e2 e3 f1 f2 f3 hE
        go_wp2_with fail
        refine (HC.out _ (by first | exact Ext.refl _ | exact Ext.alloc _ _)).mono ?_
        rintro e w2 ⟨rfl, hy⟩
        have HY := hid (HX.out.trans hy)
        clear hy HC m0 m1 m2 m3 p0 p1 p2 p3
        go_wp2_with fail
        go_roundw
        case rel =>
          exact ⟨j + 1, hlt, by rw [E1.out]; congr 1; omega, by rw [E2.out]; congr 1; omega, by rw [E3.out]; congr 1; omega, by congr 1, HY.out⟩
        case measure => simp [intOf]; omega
      · have hje : j = ks.length := by omega
        subst hje
        have hE := HE.out
        simp only [List.take_length]
        have e1 : (S : Int) = 1 + (T.sizeL ks : Int) := by omega
        have e2 : (D : Int) = (T.heightL ks : Int) + 1 := by omega
        have e3 : (B : Int) = (x.size : Int) + (T.bytesL ks : Int) := by omega
        clear hE
        go_wp2_with fail
        go_ret
        exact ⟨rfl, HV.out.trans HX.out⟩
  · rw [show sizeV (.node k n x ks) = .tuple #[.int .i64 1025, .int .i64 65, .int .i64 16385] from if_neg hs]
    have HS := hid hs
    clear hs
    go_wp2_with fail
    refine (copy_face w1 (HR.out.later (HV.out.trans HX1.out))).mono ?_
    rintro e w2 ⟨hx2, (⟨hn, _⟩ | ⟨_, rfl⟩)⟩
    · exact absurd hn HS.out
    have HX2 := hid (HX1.out.trans hx2)
    clear p0 p1 p2 p3 hx2
    have HA2 := hid (HX2.out.trans (Ext.alloc w2 (.cells #[.string ⟨#[]⟩, .int .i64 0, .string ⟨#[]⟩, .slice none 0 0] 26)))
    obtain ⟨p0, p1, p2, p3⟩ := four_of (HA2.out.block HB.out)
    go_wp2_with fail
    refine (at_face _ none 0 [] (HR.out.later (HV.out.trans HA2.out)) (Ints.nil _ _ _) (by decide)).mono ?_
    rintro e w3 ⟨hx3, (⟨_, rfl⟩ | ⟨hn, _⟩ | ⟨hn, _⟩)⟩
    rotate_left
    · exact absurd hn HS.out
    · exact absurd hn HS.out
    have HA3 := hid ((HA2.out.trans hx3).trans (Ext.alloc w3 (.cells #[.string ⟨#[]⟩, .int .i64 0, .string ⟨#[]⟩, .slice none 0 0] 26)))
    clear p0 p1 p2 p3 hx3
    obtain ⟨p0, p1, p2, p3⟩ := four_of (HA3.out.block HB.out)
    go_wp2_with fail
    refine (may_face _ (HR.out.later (HV.out.trans HA3.out))).mono ?_
    rintro e w4 ⟨rfl, hx4⟩
    rw [show mayN (.node k n x ks) = 2 from if_neg HS.out]
    have HA4 := hid (HA3.out.trans hx4)
    clear p0 p1 p2 p3 hx4
    obtain ⟨p0, p1, p2, p3⟩ := four_of (HA4.out.block HB.out)
    go_wp2_with fail
    refine (same_face _ (HR.out.later (HV.out.trans HA4.out)) (HR.out.later (HV.out.trans HA4.out))).mono ?_
    rintro e w5 ⟨rfl, hx5⟩
    rw [decide_eq_false HS.out]
    simp only [Bool.false_and]
    have HA5 := hid (HA4.out.trans hx5)
    clear p0 p1 p2 p3 hx5
    obtain ⟨p0, p1, p2, p3⟩ := four_of (HA5.out.block HB.out)
    go_wp2_with fail
    refine (kinds_face _ (HR.out.later (HV.out.trans HA5.out))).mono ?_
    rintro e w6 ⟨a9, c9, ns, rfl, hns, _, hx6⟩
    rw [if_neg HS.out] at hns
    subst hns
    have HA6 := hid (HA5.out.trans hx6)
    clear hx6
    go_wp2_with fail
    go_ret
    exact ⟨rfl, HV.out.trans HA6.out⟩
end Go.Proofs.Ythdmoghooaccgaa
