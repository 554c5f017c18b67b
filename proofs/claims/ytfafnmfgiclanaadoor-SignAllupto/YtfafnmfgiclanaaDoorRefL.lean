/-
  espalierref3.ReadPlace by a contract.
-/
import Derived.Test.YtfafnmfgiclanaaDoorRefR
namespace Go.Proofs.YtfafnmfgiclanaaDoor
open Go.RowKit Go.Shelf
theorem readPath_ref_list (l : List UInt8) (w : World) (hb : l.length ≤ 140737488355328) : Calls Tryd.prog 25 #[.string ⟨l.toArray⟩] w fun e w' => PathTold l w.heap.size e w' ∧ Ext w w' := by
  have := readPath_ref ⟨l.toArray⟩ w (by show l.toArray.size ≤ _; simpa using hb)
  simpa using this
set_option maxRecDepth 100000 in
set_option maxHeartbeats 2000000 in
theorem readPlace_ref_none (s : ByteArray) (w : World) (hb : s.size ≤ 140737488355328) (h58 : (58 : UInt8) ∉ s.data.toList) :
    Calls Tryd.prog 28 #[.string s] w fun e w' => PlaceTold s.data.toList w.heap.size e w' ∧ Ext w w' := by
  have H58 := hid h58
  have hsl : (s.size : Int) ≤ 140737488355328 := by omega
  clear h58
  go_enter Tryd.func28, Tryd.ntmps28
  go_wp2
  go_loop [0, 4, 5] (fun t0 t4 t5 => t0 = .string s ∧ t4 = .string ⟨#[]⟩ ∧ ∃ k : Nat, k ≤ s.size ∧ t5 = .int .i64 k) (fun _ _ t5 => s.size - (intOf t5).toNat)
  case atStart => exact ⟨rfl, rfl, 0, Nat.zero_le _, rfl⟩
  case round =>
    obtain ⟨rfl, rfl, k, hk, rfl⟩ := hrel
    by_cases hlt : k < s.size
    · have hlt' : (k : Int) < s.size := by omega
      obtain ⟨hq, hc⟩ := at_list s k hlt
      have hz : (((s.data[k]'hlt).toNat : Int) == 58) = false := not_sign hlt hq (c := 58) (fun e => H58.out (by rw [← e]; exact List.getElem_mem hq))
      have hz' : (((s[k]'hlt).toNat : Int) == 58) = false := hz
      clear hc
      go_wp2
      go_round
      case rel => exact ⟨rfl, rfl, k + 1, hlt, by go_num⟩
      case measure => simp [intOf]; omega
    · go_wp2_with fail
      refine (readPath_ref s _ hb).mono ?_
      rintro e w2 ⟨he, hx⟩
      have HX2 := hid hx
      have hsz : w.heap.size + 1 ≤ (w.alloc (.cells #[.string ⟨#[]⟩, .slice none 0 0] 27)).heap.size := by simp
      clear hx
      have b0 := HX2.out.block (blk0 _ _)
      have c0 := cell_of (i := 0) b0 rfl
      have c1 := cell_of (i := 1) b0 rfl
      have g0 := frozen_of (i := 0) b0
      have g1 := frozen_of (i := 1) b0
      simp only [List.getElem_toArray, List.getElem_cons_zero, List.getElem_cons_succ] at c0 c1
      have hlt2 : w.heap.size < w2.heap.size := lt_of_block b0
      clear b0
      have HE := hid (show Ext w w2 from (Ext.alloc _ _).trans HX2.out)
      rcases he with ⟨p, v, rfl, hp, ho⟩ | ⟨rfl, hp⟩
      · have HP := hid hp
        have HOS := hid (row_mono ho hsz)
        obtain ⟨a, c, rfl⟩ := ownsRow_slice ho
        clear hp ho hsz
        go_wp2
        refine bodyPost_ret (v := .tuple #[.agg #[.string ⟨#[]⟩, .slice a p.length c], .int .i64 0]) (by simp [results, Tryd.results28, go_sem, c0, c1]) rfl ⟨.inl ⟨[], p, _, rfl, path_placeOf HP.out, row_mono (row_set (row_set HOS.out (Nat.lt_succ_self _)) (Nat.lt_succ_self _)) (Nat.le_succ _)⟩, (HE.out.set0 0 _).set0 1 _⟩
      · have HP := hid hp
        clear hp hsz
        go_wp2
        exact bodyPost_ret (v := .tuple #[.agg #[.string ⟨#[]⟩, .slice none 0 0], .int .i64 5]) (by simp [results, Tryd.results28, go_sem, c0, c1]) rfl ⟨.inr ⟨rfl, fun f p h => HP.out p (placeOf_path h H58.out).2⟩, (HE.out.set0 0 _).set0 1 _⟩
set_option maxRecDepth 100000 in
set_option maxHeartbeats 2000000 in
theorem readPlace_ref_found (s : ByteArray) (pre post : List UInt8) (w : World) (hb : s.size ≤ 140737488355328) (hs : s.data.toList = pre ++ 58 :: post) (h58 : (58 : UInt8) ∉ pre) :
    Calls Tryd.prog 28 #[.string s] w fun e w' => PlaceTold (pre ++ 58 :: post) w.heap.size e w' ∧ Ext w w' := by
  have hl : s.size = pre.length + (post.length + 1) := by rw [← size_list, hs]; simp
  have H1 := hid (show s.extract 0 pre.length = ⟨pre.toArray⟩ from data_inj (by rw [Lib.extract_data, hs]; simp))
  have H2 := hid (show s.extract (pre.length + 1) s.size = ⟨post.toArray⟩ from data_inj (by rw [Lib.extract_data, hs, show pre ++ 58 :: post = (pre ++ [58]) ++ post by simp, List.drop_left' (by simp), List.take_of_length_le (by omega)]))
  have H58 := hid h58
  have HS := hid hs
  have hsl : (s.size : Int) ≤ 140737488355328 := by omega
  have hpl : pre.length < s.size := by omega
  have hpo : post.length ≤ 140737488355328 := by omega
  clear h58 hs hl
  go_enter Tryd.func28, Tryd.ntmps28
  go_wp2
  go_loop [0, 4, 5] (fun t0 t4 t5 => t0 = .string s ∧ t4 = .string ⟨#[]⟩ ∧ ∃ k : Nat, k ≤ pre.length ∧ t5 = .int .i64 k) (fun _ _ t5 => s.size - (intOf t5).toNat)
  case atStart => exact ⟨rfl, rfl, 0, Nat.zero_le _, rfl⟩
  case round =>
    obtain ⟨rfl, rfl, k, hk, rfl⟩ := hrel
    have hlt : k < s.size := by omega
    have hlt' : (k : Int) < s.size := by omega
    obtain ⟨hq, hc⟩ := at_list s k hlt
    clear hc
    by_cases hkl : k < pre.length
    · have hz : (((s.data[k]'hlt).toNat : Int) == 58) = false := not_sign hlt hq (c := 58) (fun e => H58.out (by
        have h2 : s.data.toList[k]? = some 58 := by rw [List.getElem?_eq_getElem hq, e]
        rw [HS.out, List.getElem?_append_left hkl, List.getElem?_eq_getElem hkl] at h2
        rw [← Option.some.inj h2]; exact List.getElem_mem hkl))
      have hz' : (((s[k]'hlt).toNat : Int) == 58) = false := hz
      go_wp2
      go_round
      case rel => exact ⟨rfl, rfl, k + 1, hkl, by go_num⟩
      case measure => simp [intOf]; omega
    · obtain rfl : k = pre.length := by omega
      have hz : (((s.data[pre.length]'hlt).toNat : Int) == 58) = true := is_sign hlt hq (c := 58) (by
        have h2 : s.data.toList[pre.length]? = some 58 := by rw [HS.out, List.getElem?_append_right (Nat.le_refl _)]; simp
        rw [List.getElem?_eq_getElem hq] at h2
        exact Option.some.inj h2)
      have hz' : (((s[pre.length]'hlt).toNat : Int) == 58) = true := hz
      have hi2 : (pre.length : Int) + 1 ≤ s.size := by omega
      have hi3 : (pre.length : Int) ≤ s.size := by omega
      have HN := hid (fun W => name_ref_list pre W)
      have hb0 := blk0 w (.cells #[.string ⟨#[]⟩, .slice none 0 0] 27)
      have HB0 := hid hb0
      clear hb0
      by_cases hn : nameB pre = true
      · have HNB := hid hn
        rw [hn] at HN
        clear hn
        go_wp2_with fail
        rw [H1.out]
        refine (HN.out _).mono ?_
        rintro e w1 ⟨rfl, hw⟩
        obtain rfl := hw.symm
        go_wp2_with fail
        rw [H2.out]
        refine (readPath_ref_list post _ hpo).mono ?_
        rintro e w2 ⟨he, hx⟩
        have HX2 := hid hx
        have hsz : w.heap.size + 1 ≤ (w.alloc (.cells #[.string ⟨#[]⟩, .slice none 0 0] 27)).heap.size := by simp
        clear hx
        have b0 := HX2.out.block HB0.out
        have c0 := cell_of (i := 0) b0 rfl
        have c1 := cell_of (i := 1) b0 rfl
        have g0 := frozen_of (i := 0) b0
        have g1 := frozen_of (i := 1) b0
        simp only [List.getElem_toArray, List.getElem_cons_zero, List.getElem_cons_succ] at c0 c1
        have hlt2 : w.heap.size < w2.heap.size := lt_of_block b0
        clear b0
        have HE := hid (show Ext w w2 from (Ext.alloc _ _).trans HX2.out)
        rcases he with ⟨p, v, rfl, hp, ho⟩ | ⟨rfl, hp⟩
        · have HP := hid hp
          have HOS := hid (row_mono ho hsz)
          obtain ⟨a, c, rfl⟩ := ownsRow_slice ho
          clear hp ho hsz
          go_wp2
          exact bodyPost_ret (v := .tuple #[.agg #[.string ⟨pre.toArray⟩, .slice a p.length c], .int .i64 0]) (by simp [results, Tryd.results28, go_sem, c0, c1]) rfl ⟨.inl ⟨pre, p, _, rfl, fun_placeOf HNB.out HP.out, row_mono (row_set (row_set HOS.out (Nat.lt_succ_self _)) (Nat.lt_succ_self _)) (Nat.le_succ _)⟩, (HE.out.set0 0 _).set0 1 _⟩
        · have HP := hid hp
          clear hp hsz
          go_wp2
          exact bodyPost_ret (v := .tuple #[.agg #[.string ⟨#[]⟩, .slice none 0 0], .int .i64 5]) (by simp [results, Tryd.results28, go_sem, c0, c1]) rfl ⟨.inr ⟨rfl, fun f p h => HP.out p (placeOf_fun h H58.out).2.2⟩, (HE.out.set0 0 _).set0 1 _⟩
      · have hn' : nameB pre = false := by simpa using hn
        have HNB := hid hn
        rw [hn'] at HN
        clear hn
        go_wp2_with fail
        rw [H1.out]
        refine (HN.out _).mono ?_
        rintro e w1 ⟨rfl, hw⟩
        obtain rfl := hw.symm
        have c0 := cell_of (i := 0) HB0.out rfl
        have c1 := cell_of (i := 1) HB0.out rfl
        simp only [List.getElem_toArray, List.getElem_cons_zero, List.getElem_cons_succ] at c0 c1
        go_wp2
        exact bodyPost_ret (v := .tuple #[.agg #[.string ⟨#[]⟩, .slice none 0 0], .int .i64 5]) (by simp [results, Tryd.results28, go_sem]) rfl ⟨.inr ⟨rfl, fun f p h => HNB.out (placeOf_fun h H58.out).2.1⟩, Ext.alloc _ _⟩
theorem readPlace_ref (s : ByteArray) (w : World) (hb : s.size ≤ 140737488355328) :
    Calls Tryd.prog 28 #[.string s] w fun e w' => PlaceTold s.data.toList w.heap.size e w' ∧ Ext w w' := by
  rcases parts_of s.data.toList 58 with h | ⟨pre, post, hs, h⟩
  · exact readPlace_ref_none s w hb h
  · rw [hs]; exact readPlace_ref_found s pre post w hb hs h
end Go.Proofs.YtfafnmfgiclanaaDoor
