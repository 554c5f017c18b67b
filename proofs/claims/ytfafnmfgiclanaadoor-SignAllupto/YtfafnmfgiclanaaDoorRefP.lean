/-
  espalierref3.path, Place, digits, each by a contract.
-/
import Derived.Test.YtfafnmfgiclanaaDoorRefN
import Derived.Test.YtfafnmfgiclanaaDoorPlText
import Derived.Laws.IdiomStrings
import Derived.LoopTactic
namespace Go.Proofs.YtfafnmfgiclanaaDoor
open Go.RowKit Go.Shelf
set_option maxRecDepth 100000 in
set_option maxHeartbeats 2000000 in
theorem path_ref (a : Option Addr) (c : Nat) (xs : List Int) (w : World) (hb : xs.length * 8 ≤ 140737488355328) (h : Ints w (.slice a xs.length c) xs) :
    Calls Tryd.prog 43 #[.slice a xs.length c] w fun e w' => e = .returned (.bool (pathB xs)) ∧ w' = w := by
  have H := hid h.cell.2
  clear h
  by_cases hl : 63 < xs.length
  · have hl' : (63 : Int) < xs.length := by omega
    have HR := hid (pathB_long hl)
    go_enter Tryd.func43, Tryd.ntmps43
    go_wp2
    go_ret
    exact ⟨ret_bool (by rw [HR.out]), rfl⟩
  · have hl' : (xs.length : Int) ≤ 63 := by omega
    go_enter Tryd.func43, Tryd.ntmps43
    go_wp2
    go_loop [3] (fun i => ∃ k : Nat, k ≤ xs.length ∧ i = .int .i64 k ∧ ∀ j, (h : j < xs.length) → j < k → 0 ≤ xs[j] ∧ xs[j] ≤ 1022) (fun i => xs.length - (intOf i).toNat)
    case atStart => exact ⟨0, Nat.zero_le _, rfl, fun j _ h => absurd h (Nat.not_lt_zero _)⟩
    case round =>
      obtain ⟨k, hk, rfl, hinv⟩ := hrel
      have HI := hid hinv
      clear hinv
      by_cases hlt : k < xs.length
      · obtain ⟨g, o, rfl, e⟩ := H.out k hlt
        have hlt' : (k : Int) < xs.length := by omega
        have HB := hid (fun hb => pathB_bad hlt hb)
        have HV := hid (show ∀ j, (h : j < xs.length) → j < k + 1 → (0 ≤ xs[k] ∧ xs[k] ≤ 1022) → 0 ≤ xs[j] ∧ xs[j] ≤ 1022 from fun j hj hjk hx => by
          rcases Nat.lt_or_eq_of_le (Nat.le_of_lt_succ hjk) with h | h
          · exact HI.out j hj h
          · subst h; exact hx)
        generalize xs[k] = x at e HB HV
        by_cases hx : 0 ≤ x ∧ x ≤ 1022
        · obtain ⟨h1, h2⟩ := hx
          go_wp2
          go_round
          case rel => exact ⟨k + 1, hlt, by go_num, fun j hj hjk => HV.out j hj hjk ⟨h1, h2⟩⟩
          case measure => simp [intOf]; omega
        · have HF := hid (HB.out hx)
          by_cases h1 : x < 0
          · go_wp2
            go_ret
            exact ⟨ret_bool (by rw [HF.out]), rfl⟩
          · have h2 : 1022 < x := by omega
            have h1' : 0 ≤ x := by omega
            clear hx
            go_wp2
            go_ret
            exact ⟨ret_bool (by rw [HF.out]), rfl⟩
      · have HF := hid ((pathB_iff xs).2 ⟨by omega, fun n hn => by
          obtain ⟨j, hj, rfl⟩ := List.getElem_of_mem hn
          exact HI.out j hj (by omega)⟩)
        go_wp2
        go_ret
        exact ⟨ret_bool (by rw [HF.out]), rfl⟩

set_option maxRecDepth 100000 in
theorem place_ref (f : ByteArray) (a : Option Addr) (c : Nat) (xs : List Int) (w : World) (hb : xs.length * 8 ≤ 140737488355328) (h : Ints w (.slice a xs.length c) xs) :
    Calls Tryd.prog 22 #[.agg #[.string f, .slice a xs.length c]] w fun e w' => e = .returned (.bool (placeB f.data.toList xs)) ∧ Ext w w' := by
  have H := hid h
  have HN := hid (show ∀ w, Calls Tryd.prog 40 #[.string f] w fun e w' => e = .returned (.bool (nameB f.data.toList)) ∧ Ext w w' from fun w => (name_ref f w).mono (by rintro e w' ⟨rfl, rfl⟩; exact ⟨rfl, Ext.refl _⟩))
  clear h
  by_cases h0 : f.toList.isEmpty = true
  · have HR := hid (show placeB f.data.toList xs = pathB xs by unfold placeB; rw [empty_list h0]; rfl)
    go_enter Tryd.func22, Tryd.ntmps22
    go_wp2_with fail
    refine (path_ref a c xs _ hb (H.out.later (Ext.alloc _ _))).mono ?_
    rintro e w1 ⟨rfl, hw⟩
    obtain rfl := hw
    go_wp2
    go_ret
    exact ⟨ret_bool HR.out.symm, Ext.alloc _ _⟩
  · have h0' : f.toList.isEmpty = false := by simpa using h0
    have HE := hid (nonempty_list h0')
    clear h0
    by_cases hn : nameB f.data.toList = true
    · have HR := hid (show placeB f.data.toList xs = pathB xs by unfold placeB; rw [hn]; simp)
      go_enter Tryd.func22, Tryd.ntmps22
      go_wp2_with fail
      refine (HN.out _).mono ?_
      rintro e w1 ⟨rfl, hx1⟩
      have HX := hid ((Ext.alloc _ _).trans hx1)
      have b0 := hx1.block (blk0 _ _)
      have c1 := cell_of (i := 1) b0 rfl
      simp only [List.getElem_toArray, List.getElem_cons_zero, List.getElem_cons_succ] at c1
      clear b0 hx1
      go_wp2_with fail
      refine (path_ref a c xs _ hb (H.out.later HX.out)).mono ?_
      rintro e w2 ⟨rfl, hw⟩
      obtain rfl := hw
      go_wp2
      go_ret
      exact ⟨ret_bool HR.out.symm, HX.out⟩
    · have hn' : nameB f.data.toList = false := by simpa using hn
      have HR := hid (show placeB f.data.toList xs = false by
        unfold placeB; rw [hn']
        cases hl : f.data.toList with
        | nil => exact absurd hl HE.out
        | cons x l => rfl)
      clear hn
      go_enter Tryd.func22, Tryd.ntmps22
      go_wp2_with fail
      refine (HN.out _).mono ?_
      rintro e w1 ⟨rfl, hx1⟩
      have HX := hid ((Ext.alloc _ _).trans hx1)
      clear hx1
      go_wp2
      go_ret
      exact ⟨ret_bool HR.out.symm, HX.out⟩

theorem byte_text (W : World) (d : Nat) (hd : d < 10) (x : Int) (hx : x = 48 + (d : Int)) :
    (convert 62 9 (.slice (some ⟨W.heap.size, 0, none⟩) 1 1)).run Tryd.prog (W.alloc (.cells #[.int .u8 x] 5)) = .ok (.string ⟨#[UInt8.ofNat (48 + d)]⟩) (W.alloc (.cells #[.int .u8 x] 5)) := by
  refine run_convert_bytes_back (W.alloc (.cells #[.int .u8 x] 5)) 62 9 5 ⟨W.heap.size, 0, none⟩ 1 [UInt8.ofNat (48 + d)] Tryd.underlying62 Tryd.underlying5 Tryd.underlying9 (fun j hj => ?_)
  have hj0 : j = 0 := by simp at hj; omega
  subst hj0
  have e : ((UInt8.ofNat (48 + d)).toNat : Int) = x := by rw [ofNat_dg hd, hx]; omega
  have e2 : Addr.add ⟨W.heap.size, 0, none⟩ 0 = ⟨W.heap.size, 0, none⟩ := by simp [Addr.add]
  rw [e2]
  show _ = some (Value.int .u8 ((UInt8.ofNat (48 + d)).toNat : Int))
  rw [e]
  exact cell_of (blk0 W _) rfl
theorem byte_some (W : World) (d : Nat) (hd : d < 10) (x : Int) (hx : x = 48 + (d : Int)) : ∃ D : ByteArray, Hid (D.data.toList = [UInt8.ofNat (48 + d)]) ∧ D.size ≤ 1 ∧
    (convert 62 9 (.slice (some ⟨W.heap.size, 0, none⟩) 1 1)).run Tryd.prog (W.alloc (.cells #[.int .u8 x] 5)) = .ok (.string D) (W.alloc (.cells #[.int .u8 x] 5)) := ⟨_, hid rfl, Nat.le_refl _, byte_text W d hd x hx⟩
theorem text_bytes {S : ByteArray} {l : List UInt8} (h : S.data.toList = l) : Value.string S = .string ⟨l.toArray⟩ := by rw [← bytes_of S l h]
set_option maxRecDepth 100000 in
set_option maxHeartbeats 2000000 in
theorem digits_ref (n : Nat) (w : World) (hn : n ≤ 1022) : Calls Tryd.prog 48 #[.int .i64 (n : Int)] w fun e w' => e = .returned (.string ⟨(Lib.decDigits n).toArray⟩) ∧ Ext w w' := by
  have hn' : (n : Int) ≤ 1022 := by omega
  obtain ⟨D, hD, hDs, hcv⟩ := byte_some w (n % 10) (by omega) (48 + (n : Int) % 10) (by omega)
  go_enter Tryd.func48, Tryd.ntmps48
  go_wp2_with fail
  clear hcv
  go_loopw [0, 3] (fun t0 t3 wr => ∃ (m : Nat) (S : ByteArray), t0 = .int .i64 m ∧ t3 = .string S ∧ m ≤ 102 ∧ ((m = 0 ∧ S.data.toList = Lib.decDigits n) ∨ (0 < m ∧ Lib.decDigits n = Lib.decDigits m ++ S.data.toList)) ∧ Ext w wr) (fun t0 _ _ => (intOf t0).toNat)
  case atStart =>
    refine ⟨n / 10, D, by first | rfl | go_num, rfl, by omega, ?_, Ext.alloc _ _⟩
    by_cases h : n < 10
    · exact .inl ⟨by omega, by rw [hD.out, dd_small h, show n % 10 = n by omega]⟩
    · exact .inr ⟨by omega, by rw [hD.out]; exact dd_big h⟩
  case round =>
    obtain ⟨m, S, rfl, rfl, hm, hS, hx⟩ := hrel
    have hSs : S.size ≤ 1023 := by
      have h1 := dd_le n
      rw [← size_list]
      rcases hS with ⟨_, h⟩ | ⟨_, h⟩
      · rw [h]; omega
      · have := congrArg List.length h
        rw [List.length_append] at this
        omega
    have HS := hid hS
    have HX := hid hx
    have hm' : (m : Int) ≤ 102 := by omega
    clear hS hx
    by_cases h0 : 0 < m
    · have h0' : 0 < (m : Int) := by omega
      obtain ⟨E, hE, hEs, hcv⟩ := byte_some wr (m % 10) (by omega) (48 + (m : Int) % 10) (by omega)
      have HR := hid (show (m / 10 = 0 ∧ (E ++ S).data.toList = Lib.decDigits n) ∨ (0 < m / 10 ∧ Lib.decDigits n = Lib.decDigits (m / 10) ++ (E ++ S).data.toList) by
        have hs := (HS.out.resolve_left (fun h => by omega)).2
        rw [bytes_append, hE.out]
        by_cases h : m < 10
        · exact .inl ⟨by omega, by rw [hs, dd_small h, show m % 10 = m by omega]⟩
        · exact .inr ⟨by omega, by rw [hs, dd_big h]; simp⟩)
      go_wp2
      go_roundw
      case rel => exact ⟨m / 10, E ++ S, by first | rfl | go_num, rfl, by omega, HR.out, HX.out.more _⟩
      case measure => simp [intOf]; omega
    · have h0' : ¬ 0 < (m : Int) := by omega
      have HR := hid (show S.data.toList = Lib.decDigits n from (HS.out.resolve_right (fun h => h0 h.1)).2)
      go_wp2
      go_ret
      exact ⟨congrArg Ending.returned (text_bytes HR.out), HX.out⟩
end Go.Proofs.YtfafnmfgiclanaaDoor
