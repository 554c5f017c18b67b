/-
  Read of package sort by a contract.
-/
import Derived.Test.YtllbelglilkdpaaDoorSSort
import Derived.Test.YtllbelglilkdpaaDoorCut
namespace Go.Proofs.YtllbelglilkdpaaDoor
open Go.RowKit
/-- What a sort's text is read as. -/
def readS (s : ByteArray) : ShR := rdS (s.size + 1) s.data.toList 0 0
/-- What Read answers. -/
def ReadSR (w : World) (r : ShR) (e : Ending) (w' : World) : Prop := Ext w w' ∧
  match r with
  | .ok n l => ∃ v', e = .returned (.tuple #[v', .int .i64 0, .int .i64 0]) ∧ SRd (fun q => w.heap.size ≤ q) w' (n + 1) v' (chain n ⟨l.toArray⟩) ∧ TopO w.heap.size w' n v'
  | .bad c a => e = .returned (.tuple #[.agg #[.string ⟨#[]⟩, .slice none 0 0], .int .i64 a, .int .i64 c])
theorem cut_word (S : ByteArray) (L : List UInt8) (hS : S = ⟨L.toArray⟩) (hb : S.size ≤ 140737488355328) (w : World) : ∃ P : ByteArray, Calls Tryd.prog 34 #[.string S, .string ⟨#[32]⟩] w fun e w' => e = .returned (.tuple #[.string ⟨(wordL L).toArray⟩, .string P, .bool (decide ((32 : UInt8) ∈ L))]) ∧ Ext w w' := by
  subst hS
  by_cases h : (32 : UInt8) ∈ L
  · obtain ⟨h1, h2⟩ := word_split h
    refine ⟨⟨(L.drop ((wordL L).length + 1)).toArray⟩, ?_⟩
    rw [decide_eq_true h]
    exact cut_found _ 32 (wordL L) (L.drop ((wordL L).length + 1)) w (by simpa using h1) h2 hb
  · refine ⟨⟨#[]⟩, ?_⟩
    rw [decide_eq_false h, word_none h]
    exact cut_none _ 32 w (by simpa using h)
set_option maxRecDepth 100000 in
set_option maxHeartbeats 4000000 in
theorem readS_any (s : ByteArray) (w : World) (hs : s.size ≤ 140737488351232) : Calls Tryd.prog 11 #[.string s] w (ReadSR w (readS s)) := by
  obtain ⟨r, hr⟩ : ∃ r, readS s = r := ⟨_, rfl⟩
  rw [hr]
  have HR := hid (show rdS (s.size + 1) s.data.toList 0 0 = r from hr)
  have hs' : (s.size : Int) ≤ 140737488351232 := by omega
  clear hr
  go_enter Tryd.func11, Tryd.ntmps11
  go_wp2_with fail
  go_loopw [5, 6] (fun qa ql wr => ∃ (a n f : Nat), qa = .int .i64 a ∧ ql = .int .i64 n ∧ a ≤ s.size ∧ n ≤ 64 ∧ s.size - a < f ∧ rdS f (s.data.toList.drop a) a n = r ∧ Ext w wr ∧ wr.heap[w.heap.size]? = some (.cells #[.string ⟨#[]⟩, .slice none 0 0] 27)) (fun qa _ _ => s.size - (intOf qa).toNat)
  case atStart => exact ⟨0, 0, s.size + 1, rfl, rfl, Nat.zero_le _, by omega, by omega, by simpa using HR.out, Ext.alloc _ _, blk0 _ _⟩
  case round =>
    obtain ⟨a, n, f, rfl, rfl, ha, hn, hf, hq, hx, hb⟩ := hrel
    obtain ⟨f, rfl⟩ : ∃ f', f = f' + 1 := ⟨f - 1, by omega⟩
    have HX := hid hx
    have HB := hid hb
    have HF := hid hf
    have ha' : (a : Int) ≤ s.size := by omega
    have ha0 : (0 : Int) ≤ a := by omega
    have hn' : (n : Int) ≤ 64 := by omega
    obtain ⟨L, hL⟩ : ∃ L, s.data.toList.drop a = L := ⟨_, rfl⟩
    have hLl : a + L.length = s.size := by
      rw [← hL, List.length_drop, Array.length_toList]
      have : s.data.size = s.size := rfl
      omega
    have HE := hid (show s.extract a s.size = ⟨L.toArray⟩ from data_inj ((Lib.extract_to_end s a).trans (by rw [hL])))
    rw [hL] at hq
    have HQ := hid (show r = _ from hq.symm)
    have HDR := hid (show s.data.toList.drop (a + 5) = L.drop 5 by rw [← hL, List.drop_drop])
    have hwl := word_le L
    have HLL := hid hLl
    obtain ⟨P, hcut⟩ := cut_word (s.extract a s.size) L HE.out (by rw [HE.out]; show L.toArray.size ≤ _; rw [List.size_toArray]; omega) wr
    have HCUT := hid hcut
    obtain ⟨X, hX⟩ : ∃ X : ByteArray, X = ⟨(wordL L).toArray⟩ := ⟨_, rfl⟩
    have hXd : X.data.toList = wordL L := by rw [hX]
    have hXs : X.size = (wordL L).length := by rw [hX]; show (wordL L).toArray.size = _; simp
    rw [← hX] at HCUT
    have lq : (X.toList == [108, 105, 115, 116]) = decide (wordL L = wL) := by rw [lit_eq, hXd]; rfl
    have HGR := hid (fun w1 => ground_any X w1)
    have HVB := hid (fun w1 => variable_any X w1 (by omega))
    have HLF := hid (show leafL (wordL L) = (grdL X.data.toList || vrbL X.data.toList) by rw [hXd]; rfl)
    have HXE := hid hX
    have hXi : (X.size : Int) ≤ 140737488351232 := by omega
    have hw1 : IntKind.i64.wrap ((a : Int) + (X.size : Int)) = (a : Int) + (X.size : Int) := by rw [IntKind.wrap_i64]; omega
    have hw2 : IntKind.i64.wrap ((a : Int) + (X.size : Int) + 1) = (a : Int) + (X.size : Int) + 1 := by rw [IntKind.wrap_i64]; omega
    have HXS := hid hXs
    clear hx hb hf hq hL hLl hcut hX hXd hXs
    go_wp2_with fail
    refine HCUT.out.mono ?_
    rintro e w1 ⟨rfl, hx1⟩
    have HX1 := hid (HX.out.trans hx1)
    have HB1 := hid (hx1.block HB.out)
    clear hx1 HX HB
    obtain ⟨r0, r1⟩ := two_of HB1.out
    obtain ⟨e0, e1⟩ := two_free HB1.out
    by_cases hm : (32 : UInt8) ∈ L
    · rw [decide_eq_true hm]
      by_cases hl : wordL L = wL
      · rw [decide_eq_true hl] at lq
        have HSP := hid (congrArg List.length (word_split hm).1)
        by_cases hn64 : n = 64
        · have HV := hid (show r = .bad 2 0 by rw [HQ.out, rdS, if_pos hl, if_pos hm, if_pos hn64])
          subst hn64
          clear hm hl hwl
          go_wp2_with fail
          obtain ⟨z0, z1⟩ := two_of (two_set (u0 := .string ⟨#[]⟩) (u1 := .slice none 0 0) HB1.out)
          refine bodyPost_ret (v := .tuple #[.agg #[.string ⟨#[]⟩, .slice none 0 0], .int .i64 0, .int .i64 2]) (by simp [results, Tryd.results11, go_sem, z0, z1]) rfl ?_
          rw [HV.out]
          have k2 := Kp.set2 w1 w.heap.size 0 (.string ⟨#[]⟩) (.slice none 0 0)
          exact ⟨Kp.ext ((HX1.out.kp _).trans k2) (fun q hq => by show q ≠ w.heap.size; omega), rfl⟩
        · have HV := hid (show rdS f (L.drop 5) (a + 5) (n + 1) = r by rw [HQ.out, rdS, if_pos hl, if_pos hm, if_neg hn64])
          have q64 : ((n : Int) == 64) = false := by rw [beq_eq_false_iff_ne]; omega
          have HX5 := hid (show X.size = 4 by rw [HXS.out, hl]; rfl)
          have HL5 := hid (show 5 ≤ L.length by have h := HSP.out; rw [List.length_append, List.length_cons, hl] at h; have h4 : wL.length = 4 := rfl; omega)
          have hn1 : (n : Int) + 1 ≤ 64 := by omega
          clear hm hl hwl
          go_wp2_with fail
          go_roundw
          case rel =>
            have h1 := HX5.out
            have h2 := HL5.out
            have h3 := HLL.out
            have h4 := HF.out
            exact ⟨a + 5, n + 1, f, by rw [h1]; congr 1, by go_num, by omega, by omega, by omega, by rw [HDR.out]; exact HV.out, HX1.out, HB1.out⟩
          case measure =>
            have h1 := HX5.out
            have h2 := HL5.out
            have h3 := HLL.out
            rw [h1]
            simp [intOf]
            omega
      · rw [decide_eq_false hl] at lq
        have HV0 := hid (show r = if leafL (wordL L) = true then .bad 5 (a + (wordL L).length + 1) else .bad 5 a by rw [HQ.out, rdS, if_neg hl]; simp only [if_pos hm])
        generalize leafL (wordL L) = bl at *
        generalize grdL X.data.toList = b1 at *
        generalize vrbL X.data.toList = b2 at *
        clear hm hl hwl
        cases b1 with
        | true =>
          have HV := hid (show r = .bad 5 (a + (wordL L).length + 1) by rw [HV0.out, if_pos (show bl = true from HLF.out)])
          go_wp2_with (first | (go_at_call 35; refine (HGR.out _).mono ?_; rintro e w9 ⟨rfl, hw9⟩; rw [hw9]; clear hw9 w9))
          obtain ⟨z0, z1⟩ := two_of (two_set (u0 := .string ⟨#[]⟩) (u1 := .slice none 0 0) HB1.out)
          refine bodyPost_ret (v := .tuple #[.agg #[.string ⟨#[]⟩, .slice none 0 0], .int .i64 ((a : Int) + (X.size : Int) + 1), .int .i64 5]) (by simp [results, Tryd.results11, go_sem, z0, z1]) rfl ?_
          rw [HV.out]
          have k2 := Kp.set2 w1 w.heap.size 0 (.string ⟨#[]⟩) (.slice none 0 0)
          exact ⟨Kp.ext ((HX1.out.kp _).trans k2) (fun q hq => by show q ≠ w.heap.size; omega), by rw [← HXS.out]; rfl⟩
        | false =>
          cases b2 with
          | true =>
            have HV := hid (show r = .bad 5 (a + (wordL L).length + 1) by rw [HV0.out, if_pos (show bl = true from HLF.out)])
            go_wp2_with (first | (go_at_call 35; refine (HGR.out _).mono ?_; rintro e w9 ⟨rfl, hw9⟩; rw [hw9]; clear hw9 w9) | (go_at_call 36; refine (HVB.out _).mono ?_; rintro e w9 ⟨rfl, hw9⟩; rw [hw9]; clear hw9 w9))
            obtain ⟨z0, z1⟩ := two_of (two_set (u0 := .string ⟨#[]⟩) (u1 := .slice none 0 0) HB1.out)
            refine bodyPost_ret (v := .tuple #[.agg #[.string ⟨#[]⟩, .slice none 0 0], .int .i64 ((a : Int) + (X.size : Int) + 1), .int .i64 5]) (by simp [results, Tryd.results11, go_sem, z0, z1]) rfl ?_
            rw [HV.out]
            have k2 := Kp.set2 w1 w.heap.size 0 (.string ⟨#[]⟩) (.slice none 0 0)
            exact ⟨Kp.ext ((HX1.out.kp _).trans k2) (fun q hq => by show q ≠ w.heap.size; omega), by rw [← HXS.out]; rfl⟩
          | false =>
            have HV := hid (show r = .bad 5 a by rw [HV0.out, if_neg (by rw [HLF.out]; decide)])
            go_wp2_with (first | (go_at_call 35; refine (HGR.out _).mono ?_; rintro e w9 ⟨rfl, hw9⟩; rw [hw9]; clear hw9 w9) | (go_at_call 36; refine (HVB.out _).mono ?_; rintro e w9 ⟨rfl, hw9⟩; rw [hw9]; clear hw9 w9))
            obtain ⟨z0, z1⟩ := two_of (two_set (u0 := .string ⟨#[]⟩) (u1 := .slice none 0 0) HB1.out)
            refine bodyPost_ret (v := .tuple #[.agg #[.string ⟨#[]⟩, .slice none 0 0], .int .i64 a, .int .i64 5]) (by simp [results, Tryd.results11, go_sem, z0, z1]) rfl ?_
            rw [HV.out]
            have k2 := Kp.set2 w1 w.heap.size 0 (.string ⟨#[]⟩) (.slice none 0 0)
            exact ⟨Kp.ext ((HX1.out.kp _).trans k2) (fun q hq => by show q ≠ w.heap.size; omega), rfl⟩
    · rw [decide_eq_false hm]
      by_cases hl : wordL L = wL
      · rw [decide_eq_true hl] at lq
        have HV := hid (show r = .bad 5 s.size by rw [HQ.out, rdS, if_pos hl, if_neg hm, HLL.out])
        clear hm hl hwl
        go_wp2_with fail
        obtain ⟨z0, z1⟩ := two_of (two_set (u0 := .string ⟨#[]⟩) (u1 := .slice none 0 0) HB1.out)
        refine bodyPost_ret (v := .tuple #[.agg #[.string ⟨#[]⟩, .slice none 0 0], .int .i64 s.size, .int .i64 5]) (by simp [results, Tryd.results11, go_sem, z0, z1]) rfl ?_
        rw [HV.out]
        have k2 := Kp.set2 w1 w.heap.size 0 (.string ⟨#[]⟩) (.slice none 0 0)
        exact ⟨Kp.ext ((HX1.out.kp _).trans k2) (fun q hq => by show q ≠ w.heap.size; omega), rfl⟩
      · rw [decide_eq_false hl] at lq
        have HV0 := hid (show r = if leafL (wordL L) = true then .ok n (wordL L) else .bad 5 a by rw [HQ.out, rdS, if_neg hl]; simp only [if_neg hm])
        have HXZ := hid (show X.size ≤ 140737488351232 by omega)
        generalize leafL (wordL L) = bl at *
        generalize grdL X.data.toList = b1 at *
        generalize vrbL X.data.toList = b2 at *
        have HST := hid (fun w1 => sort_any n X w1 (by omega) HXZ.out)
        clear hm hl hwl
        cases b1 with
        | true =>
          have HV := hid (show r = .ok n (wordL L) by rw [HV0.out, if_pos (show bl = true from HLF.out)])
          go_wp2_with (first | (go_at_call 35; refine (HGR.out _).mono ?_; rintro e w9 ⟨rfl, hw9⟩; rw [hw9]; clear hw9 w9) | (go_at_call 37; refine (HST.out _).mono ?_; rintro e w3 ⟨v3, rfl, hr3, hx3, ht3⟩; obtain ⟨a3, c3, rfl⟩ := hr3.shape; have HR3 := hid hr3; have HT3 := hid ht3; clear ht3; have HX3 := hid (HX1.out.trans hx3); have HB3 := hid (hx3.block HB1.out); obtain ⟨d0, d1⟩ := two_of HB3.out; obtain ⟨g0, g1⟩ := two_free HB3.out; clear hr3 hx3))
          obtain ⟨z0, z1⟩ := two_of (two_set (u0 := .string (chain n X).name) (u1 := .slice a3 (chain n X).kids.length c3) HB3.out)
          refine bodyPost_ret (v := .tuple #[.agg #[.string (chain n X).name, .slice a3 (chain n X).kids.length c3], .int .i64 0, .int .i64 0]) (by simp [results, Tryd.results11, go_sem, z0, z1]) rfl ?_
          rw [HV.out]
          have k2 := Kp.set2 w3 w.heap.size 0 (.string (chain n X).name) (.slice a3 (chain n X).kids.length c3)
          refine ⟨Kp.ext ((HX3.out.kp _).trans k2) (fun q hq => by show q ≠ w.heap.size; omega), _, rfl, ?_⟩
          have hlt1 : w.heap.size < w1.heap.size := lt_of_block HB1.out
          have h9 := (HR3.out.keep (k2.mono (fun q _ h => by have h' : w1.heap.size ≤ q := h; show q ≠ _; omega))).mono (L := fun q => w.heap.size ≤ q) (fun q _ h => by have h' : w1.heap.size ≤ q := h; show w.heap.size ≤ q; omega)
          have h8 := (HT3.out.keep k2 hlt1).mono (Nat.le_of_lt hlt1)
          rw [HXE.out] at h9 h8 ⊢
          exact ⟨h9, h8⟩
        | false =>
          cases b2 with
          | true =>
            have HV := hid (show r = .ok n (wordL L) by rw [HV0.out, if_pos (show bl = true from HLF.out)])
            go_wp2_with (first | (go_at_call 35; refine (HGR.out _).mono ?_; rintro e w9 ⟨rfl, hw9⟩; rw [hw9]; clear hw9 w9) | (go_at_call 36; refine (HVB.out _).mono ?_; rintro e w9 ⟨rfl, hw9⟩; rw [hw9]; clear hw9 w9) | (go_at_call 37; refine (HST.out _).mono ?_; rintro e w3 ⟨v3, rfl, hr3, hx3, ht3⟩; obtain ⟨a3, c3, rfl⟩ := hr3.shape; have HR3 := hid hr3; have HT3 := hid ht3; clear ht3; have HX3 := hid (HX1.out.trans hx3); have HB3 := hid (hx3.block HB1.out); obtain ⟨d0, d1⟩ := two_of HB3.out; obtain ⟨g0, g1⟩ := two_free HB3.out; clear hr3 hx3))
            obtain ⟨z0, z1⟩ := two_of (two_set (u0 := .string (chain n X).name) (u1 := .slice a3 (chain n X).kids.length c3) HB3.out)
            refine bodyPost_ret (v := .tuple #[.agg #[.string (chain n X).name, .slice a3 (chain n X).kids.length c3], .int .i64 0, .int .i64 0]) (by simp [results, Tryd.results11, go_sem, z0, z1]) rfl ?_
            rw [HV.out]
            have k2 := Kp.set2 w3 w.heap.size 0 (.string (chain n X).name) (.slice a3 (chain n X).kids.length c3)
            refine ⟨Kp.ext ((HX3.out.kp _).trans k2) (fun q hq => by show q ≠ w.heap.size; omega), _, rfl, ?_⟩
            have hlt1 : w.heap.size < w1.heap.size := lt_of_block HB1.out
            have h9 := (HR3.out.keep (k2.mono (fun q _ h => by have h' : w1.heap.size ≤ q := h; show q ≠ _; omega))).mono (L := fun q => w.heap.size ≤ q) (fun q _ h => by have h' : w1.heap.size ≤ q := h; show w.heap.size ≤ q; omega)
            have h8 := (HT3.out.keep k2 hlt1).mono (Nat.le_of_lt hlt1)
            rw [HXE.out] at h9 h8 ⊢
            exact ⟨h9, h8⟩
          | false =>
            have HV := hid (show r = .bad 5 a by rw [HV0.out, if_neg (by rw [HLF.out]; decide)])
            go_wp2_with (first | (go_at_call 35; refine (HGR.out _).mono ?_; rintro e w9 ⟨rfl, hw9⟩; rw [hw9]; clear hw9 w9) | (go_at_call 36; refine (HVB.out _).mono ?_; rintro e w9 ⟨rfl, hw9⟩; rw [hw9]; clear hw9 w9))
            obtain ⟨z0, z1⟩ := two_of (two_set (u0 := .string ⟨#[]⟩) (u1 := .slice none 0 0) HB1.out)
            refine bodyPost_ret (v := .tuple #[.agg #[.string ⟨#[]⟩, .slice none 0 0], .int .i64 a, .int .i64 5]) (by simp [results, Tryd.results11, go_sem, z0, z1]) rfl ?_
            rw [HV.out]
            have k2 := Kp.set2 w1 w.heap.size 0 (.string ⟨#[]⟩) (.slice none 0 0)
            exact ⟨Kp.ext ((HX1.out.kp _).trans k2) (fun q hq => by show q ≠ w.heap.size; omega), rfl⟩
end Go.Proofs.YtllbelglilkdpaaDoor
