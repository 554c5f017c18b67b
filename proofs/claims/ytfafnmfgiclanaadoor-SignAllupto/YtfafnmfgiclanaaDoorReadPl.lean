/-
  sign.ReadPlace by a contract.
-/
import Derived.Test.YtfafnmfgiclanaaDoorRead
namespace Go.Proofs.YtfafnmfgiclanaaDoor
open Go.RowKit

/-- What sign.ReadPlace tells of a text. -/
def PlaceTold (l : List UInt8) (base : Nat) (e : Ending) (w' : World) : Prop :=
  (∃ f p v, e = .returned (.tuple #[.agg #[.string ⟨f.toArray⟩, v], .int .i64 0]) ∧ PlaceOf l f p ∧ w'.ownsRow base 3 1 v p.length (numCells p)) ∨ (e = .returned (.tuple #[.agg #[.string ⟨#[]⟩, .slice none 0 0], .int .i64 5]) ∧ ∀ f p, ¬ PlaceOf l f p)
theorem readPath_list (l : List UInt8) (w : World) (hb : l.length ≤ 140737488355328) : Calls Tryd.prog 20 #[.string ⟨l.toArray⟩] w fun e w' => PathTold l w.heap.size e w' ∧ Ext w w' := by
  have := readPath_any ⟨l.toArray⟩ w (by show l.toArray.size ≤ _; simpa using hb)
  simpa using this
set_option maxRecDepth 100000 in
set_option maxHeartbeats 2000000 in
theorem readPlace_none (s : ByteArray) (w : World) (hb : s.size ≤ 140737488355328) (h58 : (58 : UInt8) ∉ s.data.toList) :
    Calls Tryd.prog 11 #[.string s] w fun e w' => PlaceTold s.data.toList w.heap.size e w' ∧ Ext w w' := by
  have H58 := hid h58
  clear h58
  go_enter Tryd.func11, Tryd.ntmps11
  go_wp2_with fail
  refine (cut_none s 58 _ H58.out).mono ?_
  rintro e w1 ⟨rfl, hx⟩
  have HX := hid hx
  clear hx
  go_wp2_with fail
  refine (readPath_any s _ hb).mono ?_
  rintro e w2 ⟨he, hx⟩
  have HX2 := hid (HX.out.trans hx)
  have hsz : w.heap.size + 1 ≤ w1.heap.size := by have := HX.out.size; simpa using this
  clear hx
  have b0 := HX2.out.block (blk0 _ _)
  have c0 := cell_of (i := 0) b0 rfl
  have c1 := cell_of (i := 1) b0 rfl
  have g0 := frozen_of (i := 0) b0
  have g1 := frozen_of (i := 1) b0
  simp only [List.getElem_toArray, List.getElem_cons_zero, List.getElem_cons_succ] at c0 c1
  have hlt : w.heap.size < w2.heap.size := lt_of_block b0
  clear b0
  have HE := hid (show Ext w w2 from (Ext.alloc _ _).trans HX2.out)
  rcases he with ⟨p, v, rfl, hp, ho⟩ | ⟨rfl, hp⟩
  · have HP := hid hp
    have HO := hid (row_mono ho (Nat.le_trans (Nat.le_succ _) hsz))
    have HOS := hid (row_mono ho hsz)
    obtain ⟨a, c, rfl⟩ := ownsRow_slice ho
    clear hp ho hsz
    go_wp2
    refine bodyPost_ret (v := .tuple #[.agg #[.string ⟨#[]⟩, .slice a p.length c], .int .i64 0]) (by simp [results, Tryd.results11, go_sem, c0, c1]) rfl ⟨.inl ⟨[], p, _, rfl, path_placeOf HP.out, row_mono (row_set (row_set HOS.out (Nat.lt_succ_self _)) (Nat.lt_succ_self _)) (Nat.le_succ _)⟩, (HE.out.set0 0 _).set0 1 _⟩
  · have HP := hid hp
    clear hp hsz
    go_wp2
    exact bodyPost_ret (v := .tuple #[.agg #[.string ⟨#[]⟩, .slice none 0 0], .int .i64 5]) (by simp [results, Tryd.results11, go_sem, c0, c1]) rfl ⟨.inr ⟨rfl, fun f p h => HP.out p (placeOf_path h H58.out).2⟩, (HE.out.set0 0 _).set0 1 _⟩
set_option maxRecDepth 100000 in
set_option maxHeartbeats 2000000 in
theorem readPlace_found (s : ByteArray) (pre post : List UInt8) (w : World) (hb : s.size ≤ 140737488355328) (hs : s.data.toList = pre ++ 58 :: post) (h58 : (58 : UInt8) ∉ pre) :
    Calls Tryd.prog 11 #[.string s] w fun e w' => PlaceTold (pre ++ 58 :: post) w.heap.size e w' ∧ Ext w w' := by
  have H58 := hid h58
  have HS := hid hs
  have hpl : post.length ≤ 140737488355328 := by
    have := congrArg List.length hs
    rw [size_list] at this
    simp at this
    omega
  clear h58 hs
  go_enter Tryd.func11, Tryd.ntmps11
  go_wp2_with fail
  refine (cut_found s 58 pre post _ HS.out H58.out hb).mono ?_
  rintro e w1 ⟨rfl, hx⟩
  have HX := hid hx
  clear hx
  go_wp2_with fail
  refine (readPath_list post _ hpl).mono ?_
  rintro e w2 ⟨he, hx⟩
  have HX2 := hid (HX.out.trans hx)
  have hsz : w.heap.size + 1 ≤ w1.heap.size := by have := HX.out.size; simpa using this
  clear hx
  rcases he with ⟨p, v, rfl, hp, ho⟩ | ⟨rfl, hp⟩
  · have HP := hid hp
    have HOS := hid (row_mono ho hsz)
    obtain ⟨a, c, rfl⟩ := ownsRow_slice ho
    clear hp ho hsz
    go_wp2_with fail
    refine (name_list pre _).mono ?_
    rintro e w3 ⟨rfl, hx⟩
    have HX3 := hid (HX2.out.trans hx)
    have HOT := hid (row_ext HOS.out hx)
    have b0 := HX3.out.block (blk0 _ _)
    have c0 := cell_of (i := 0) b0 rfl
    have c1 := cell_of (i := 1) b0 rfl
    have g0 := frozen_of (i := 0) b0
    have g1 := frozen_of (i := 1) b0
    simp only [List.getElem_toArray, List.getElem_cons_zero, List.getElem_cons_succ] at c0 c1
    have hlt : w.heap.size < w3.heap.size := lt_of_block b0
    clear b0 hx
    have HE := hid (show Ext w w3 from (Ext.alloc _ _).trans HX3.out)
    by_cases hn : nameB pre = true
    · go_wp2
      exact bodyPost_ret (v := .tuple #[.agg #[.string ⟨pre.toArray⟩, .slice a p.length c], .int .i64 0]) (by simp [results, Tryd.results11, go_sem, c0, c1]) rfl ⟨.inl ⟨pre, p, _, rfl, fun_placeOf hn HP.out, row_mono (row_set (row_set HOT.out (Nat.lt_succ_self _)) (Nat.lt_succ_self _)) (Nat.le_succ _)⟩, (HE.out.set0 0 _).set0 1 _⟩
    · have hn' : nameB pre = false := by simpa using hn
      have HN := hid hn
      clear hn
      go_wp2
      exact bodyPost_ret (v := .tuple #[.agg #[.string ⟨#[]⟩, .slice none 0 0], .int .i64 5]) (by simp [results, Tryd.results11, go_sem, c0, c1]) rfl ⟨.inr ⟨rfl, fun f p h => HN.out (placeOf_fun h H58.out).2.1⟩, (HE.out.set0 0 _).set0 1 _⟩
  · have HP := hid hp
    have b0 := HX2.out.block (blk0 _ _)
    have c0 := cell_of (i := 0) b0 rfl
    have c1 := cell_of (i := 1) b0 rfl
    have g0 := frozen_of (i := 0) b0
    have g1 := frozen_of (i := 1) b0
    simp only [List.getElem_toArray, List.getElem_cons_zero, List.getElem_cons_succ] at c0 c1
    have hlt : w.heap.size < w2.heap.size := lt_of_block b0
    clear b0 hp hsz
    have HE := hid (show Ext w w2 from (Ext.alloc _ _).trans HX2.out)
    go_wp2
    exact bodyPost_ret (v := .tuple #[.agg #[.string ⟨#[]⟩, .slice none 0 0], .int .i64 5]) (by simp [results, Tryd.results11, go_sem, c0, c1]) rfl ⟨.inr ⟨rfl, fun f p h => HP.out p (placeOf_fun h H58.out).2.2⟩, (HE.out.set0 0 _).set0 1 _⟩
theorem readPlace_any (s : ByteArray) (w : World) (hb : s.size ≤ 140737488355328) :
    Calls Tryd.prog 11 #[.string s] w fun e w' => PlaceTold s.data.toList w.heap.size e w' ∧ Ext w w' := by
  rcases parts_of s.data.toList 58 with h | ⟨pre, post, hs, h⟩
  · exact readPlace_none s w hb h
  · rw [hs]; exact readPlace_found s pre post w hb hs h
end Go.Proofs.YtfafnmfgiclanaaDoor
