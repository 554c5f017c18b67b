/-
  The walk of espalierlaw3.SignThere: it returns true, in whatever memory in which the table of tens is laid.
-/
import Derived.Test.YtfafnmfgiclanaaDoorBegun
import Derived.Test.YtfafnmfgiclanaaDoorBack
import Derived.WalkMore
import Derived.LoopTactic
namespace Go.Proofs.YtfafnmfgiclanaaDoor
open Go.RowKit Go.Shelf
theorem set_blk {w : World} {b i : Nat} {cs : Array Value} {t : TypeId} (h : w.heap[b]? = some (.cells cs t)) (v : Value) : (w.setCell ⟨b, i, none⟩ v).heap[b]? = some (.cells (cs.setIfInBounds i v) t) := by
  simp only [World.setCell]
  rw [Array.getElem?_modify, if_pos rfl, h]
  simp
theorem set_oth {w : World} {b b' i : Nat} {o : Obj} (h : w.heap[b]? = some o) (hne : b ≠ b') (v : Value) : (w.setCell ⟨b', i, none⟩ v).heap[b]? = some o :=
  (Below.heap_setCell w ⟨b', i, none⟩ v b hne).trans h

set_option maxRecDepth 100000 in
set_option maxHeartbeats 8000000 in
theorem there_true (f : ByteArray) (a : Option Addr) (c : Nat) (xs : List Int) (s : ByteArray) (w : World) (hG : Laid w) (hb : xs.length * 8 ≤ 140737488355328) (hs : s.size ≤ 140737488355328) (hI : Ints w (.slice a xs.length c) xs) :
    Calls Tryd.prog 4 #[.agg #[.string f, .slice a xs.length c], .string s] w fun r w' => r = .returned (.bool true) ∧ Ext w w' := by
  have HG := hid hG
  have HI := hid hI
  clear hG hI
  go_enter Tryd.func4, Tryd.ntmps4
  go_wp2_with fail
  refine (begun_true _ (HG.out.later (Ext.alloc _ _))).mono ?_
  rintro r V ⟨rfl, hx⟩
  have HV := hid ((Ext.alloc w _).trans hx)
  have HB := hid (hx.block (blk0 w _))
  have q0 := cell_of (i := 0) HB.out rfl
  have q1 := cell_of (i := 1) HB.out rfl
  simp only [List.getElem_toArray, List.getElem_cons_zero, List.getElem_cons_succ] at q0 q1
  clear hx
  go_wp2_with fail
  by_cases hp : placeB f.data.toList xs = true
  · refine (placeText_good f a c xs _ (HI.out.later HV.out) (HG.out.later HV.out) hp).mono ?_
    have HRB := hid (fun W => read_back f xs W hp)
    have HPL := hid hp
    have hn63 := ((pathB_iff _).1 (placeB_path hp)).1
    clear hp
    generalize (⟨(placeText f.data.toList (nats xs)).toArray⟩ : ByteArray) = T at HRB
    rintro r w1 ⟨rfl, hx1⟩
    have HX1 := hid hx1
    have q0 := cell_of (i := 0) (hx1.block HB.out) rfl
    have q1 := cell_of (i := 1) (hx1.block HB.out) rfl
    simp only [List.getElem_toArray, List.getElem_cons_zero, List.getElem_cons_succ] at q0 q1
    clear hx1
    go_wp2_with fail
    refine (place_any f a c xs _ hb (HI.out.later (HV.out.trans HX1.out))).mono ?_
    rw [HPL.out]
    rintro r w2 ⟨rfl, hx2⟩
    have HX2 := hid (HX1.out.trans hx2)
    clear hx2 q0 q1
    go_wp2_with fail
    refine (HRB.out _).mono ?_
    rintro r w3 ⟨⟨v, rfl, ho⟩, hx3⟩
    obtain ⟨a3, c3, rfl⟩ := ownsRow_slice ho
    have HX3 := hid (HX2.out.trans hx3)
    have HO := hid ho
    have q0 := cell_of (i := 0) (HX3.out.block HB.out) rfl
    have q1 := cell_of (i := 1) (HX3.out.block HB.out) rfl
    simp only [List.getElem_toArray, List.getElem_cons_zero, List.getElem_cons_succ] at q0 q1
    have hl3 : w.heap.size < w3.heap.size := lt_of_cell q0
    have hl23 := hx3.size
    have hlV := HX2.out.size
    clear hx3 ho
    go_wp2_with fail
    refine (eqPlace_any f f a a3 c c3 xs xs _ hb (HI.out.later ((HV.out.trans HX3.out).more _)) ((Ints.own rfl HO.out).later (Ext.alloc _ _))).mono ?_
    rw [show eqP (f.data.toList, xs) (f.data.toList, xs) = true from decide_eq_true rfl]
    rintro r w4 ⟨rfl, hx4⟩
    have HX4 := hid ((HX3.out.more _).trans hx4)
    have HB4 := hid (hx4.block (blk0 w3 _))
    have HO4 := hid (row_ext (row_ext HO.out (Ext.alloc w3 (.cells #[.string f, .slice a3 xs.length c3] 27))) hx4)
    clear hx4 q0 q1
    have hbn : (xs.length : Int) ≤ 63 := by omega
    have hgw3 : ∀ g, (Value.slice a3 xs.length c3).ownBlock = some g → g < w3.heap.size := fun g hg => (HO.out.lt g hg).2
    rcases HO4.out.2 with ⟨hv, h0⟩ | ⟨g, cap, cur, hv, hg, hblk, h1, h2, h3, h4⟩
    · injection hv with e1 e2 e3
      subst e1; subst e3
      obtain rfl : xs = [] := List.eq_nil_of_length_eq_zero h0
      have k1 : w4.cell? ⟨w3.heap.size, 1, none⟩ = some (.slice none 0 0) := cell_of HB4.out rfl
      clear h0 hgw3 HO HO4 HB4 hn63 hbn
      go_wp2_with fail
      refine wp_loop_rounds 1 ?_
      rw [rounds_succ]
      go_wp2_with fail
      refine (HRB.out _).mono ?_
      rintro r w5 ⟨⟨v5, rfl, ho5⟩, hx5⟩
      obtain ⟨a5, c5, rfl⟩ := ownsRow_slice ho5
      have HX5 := hid (Ext.trans HX4.out hx5)
      have HI5 := hid (Ints.own rfl ho5)
      have q0 := cell_of (i := 0) (HX5.out.block HB.out) rfl
      have q1 := cell_of (i := 1) (HX5.out.block HB.out) rfl
      simp only [List.getElem_toArray, List.getElem_cons_zero, List.getElem_cons_succ] at q0 q1
      have hl5 : w.heap.size < w5.heap.size := lt_of_cell q0
      clear hx5 ho5
      go_wp2_with fail
      refine (eqPlace_any f f a a5 c c5 [] [] _ hb (HI.out.later ((HV.out.trans HX5.out).more _)) (HI5.out.later (Ext.alloc _ _))).mono ?_
      rw [show eqP (f.data.toList, []) (f.data.toList, []) = true from decide_eq_true rfl]
      rintro r w6 ⟨rfl, hx6⟩
      have HW := hid (HV.out.trans ((HX5.out.more _).trans hx6))
      clear hx6 q0 q1
      go_wp2_with fail
      refine (readPlace_any s _ hs).mono ?_
      rintro r w7 ⟨hr, hx7⟩
      have HX7 := hid (HW.out.trans hx7)
      clear hx7
      rcases hr with ⟨f', p', v', rfl, hp', ho'⟩ | ⟨rfl, _⟩
      · obtain ⟨a', c', rfl⟩ := ownsRow_slice ho'
        have HI' := hid (show Ints w7 (.slice a' p'.length c') (ints p') from Ints.own (ints_len p').symm (by rw [← numCells_ints]; exact ho'))
        have HP' := hid hp'
        obtain rfl : s = ⟨(placeText f' p').toArray⟩ := bytes_of s _ hp'.2.symm
        clear hp' ho'
        go_wp2_with fail
        refine (text_back f' p' a' c' _ (HI'.out.later (Ext.alloc _ _)) (HG.out.later (HX7.out.more _)) HP'.out.1).mono ?_
        rintro r w8 ⟨rfl, hx8⟩
        have HX8 := hid ((HX7.out.more _).trans hx8)
        have HI8 := hid (HI'.out.later ((Ext.alloc _ _).trans hx8))
        have b8 := hx8.block (blk0 w7 _)
        have k0 := cell_of (i := 0) b8 rfl
        have k1 := cell_of (i := 1) b8 rfl
        simp only [List.getElem_toArray, List.getElem_cons_zero, List.getElem_cons_succ] at k0 k1
        clear b8 hx8
        generalize (⟨(placeText f' p').toArray⟩ : ByteArray) = S
        go_wp2_with fail
        refine (place_back f' p' a' c' _ HI8.out HP'.out.1).mono ?_
        rintro r w9 ⟨rfl, hx9⟩
        have HX9 := hid (HX8.out.trans hx9)
        clear hx9
        go_wp2
        go_ret
        exact ⟨rfl, HX9.out⟩
      · go_wp2
        go_ret
        exact ⟨rfl, HX7.out.more _⟩
    · injection hv with e1 e2 e3
      subst e1; subst e3
      have hgq : ¬ g = w3.heap.size := fun e => by have := hgw3 g rfl; omega
      go_wp2_with fail
      go_loopw [9] (fun i wr => ∃ (k : Nat) (cur' : Array Value), k ≤ xs.length ∧ i = .int .i64 k ∧ wr.heap[g]? = some (.cells cur' 3) ∧ cur'.size = c3 ∧ wr.heap[w3.heap.size]? = some (.cells #[.string f, .slice (some ⟨g, 0, none⟩) xs.length c3] 27) ∧ Ext V wr) (fun i _ => xs.length - (intOf i).toNat)
      case atStart => exact ⟨0, cur, Nat.zero_le _, rfl, hblk, by omega, HB4.out, HX4.out⟩
      case round =>
        obtain ⟨k, cur', hk, rfl, r1, r2, r3, r4⟩ := hrel
        have k1 : wr.cell? ⟨w3.heap.size, 1, none⟩ = some (.slice (some ⟨g, 0, none⟩) xs.length c3) := cell_of r3 rfl
        by_cases hlt : k < xs.length
        · obtain ⟨u, hu⟩ : ∃ u, cur'[k]? = some u := ⟨_, Array.getElem?_eq_getElem (by omega)⟩
          have cg : wr.cell? ⟨g, k, none⟩ = some u := cell_of r1 hu
          have fg : wr.frozen? ⟨g, k, none⟩ = false := frozen_of r1
          have hlt' : (k : Int) < xs.length := by omega
          have hrelw : ∃ (k' : Nat) (cur'' : Array Value), k' ≤ xs.length ∧ Value.int .i64 ((k : Int) + 1) = .int .i64 k' ∧ (wr.setCell ⟨g, k, none⟩ (.int .i64 (-1))).heap[g]? = some (.cells cur'' 3) ∧ cur''.size = c3 ∧ (wr.setCell ⟨g, k, none⟩ (.int .i64 (-1))).heap[w3.heap.size]? = some (.cells #[.string f, .slice (some ⟨g, 0, none⟩) xs.length c3] 27) ∧ Ext V (wr.setCell ⟨g, k, none⟩ (.int .i64 (-1))) :=
            ⟨k + 1, cur'.setIfInBounds k (.int .i64 (-1)), hlt, by go_num, set_blk r1 _, by simpa using r2, set_oth r3 (fun e => hgq e.symm) _, Below.setCell r4 (by show V.heap.size ≤ g; omega) _⟩
          clear r1 r3 r4 hu
          go_wp2
          go_roundw
          case rel => first | exact hrelw | ((repeat apply Exists.intro); exact ⟨hrelw, rfl⟩)
          case measure => simp [intOf]; omega
        · have hd : decide ((k : Int) < xs.length) = false := by simp; omega
          have HR4 := hid r4
          clear r1 r2 r3 r4
          go_wp2_with fail
          refine (HRB.out _).mono ?_
          rintro r w5 ⟨⟨v5, rfl, ho5⟩, hx5⟩
          obtain ⟨a5, c5, rfl⟩ := ownsRow_slice ho5
          have HX5 := hid (Ext.trans HR4.out hx5)
          have HI5 := hid (Ints.own rfl ho5)
          have q0 := cell_of (i := 0) (HX5.out.block HB.out) rfl
          have q1 := cell_of (i := 1) (HX5.out.block HB.out) rfl
          simp only [List.getElem_toArray, List.getElem_cons_zero, List.getElem_cons_succ] at q0 q1
          have hl5 : w.heap.size < w5.heap.size := lt_of_cell q0
          clear hx5 ho5
          go_wp2_with fail
          refine (eqPlace_any f f a a5 c c5 xs xs _ hb (HI.out.later ((HV.out.trans HX5.out).more _)) (HI5.out.later (Ext.alloc _ _))).mono ?_
          rw [show eqP (f.data.toList, xs) (f.data.toList, xs) = true from decide_eq_true rfl]
          rintro r w6 ⟨rfl, hx6⟩
          have HW := hid (HV.out.trans ((HX5.out.more _).trans hx6))
          clear hx6 q0 q1
          go_wp2_with fail
          refine (readPlace_any s _ hs).mono ?_
          rintro r w7 ⟨hr, hx7⟩
          have HX7 := hid (HW.out.trans hx7)
          clear hx7
          rcases hr with ⟨f', p', v', rfl, hp', ho'⟩ | ⟨rfl, _⟩
          · obtain ⟨a', c', rfl⟩ := ownsRow_slice ho'
            have HI' := hid (show Ints w7 (.slice a' p'.length c') (ints p') from Ints.own (ints_len p').symm (by rw [← numCells_ints]; exact ho'))
            have HP' := hid hp'
            obtain rfl : s = ⟨(placeText f' p').toArray⟩ := bytes_of s _ hp'.2.symm
            clear hp' ho'
            go_wp2_with fail
            refine (text_back f' p' a' c' _ (HI'.out.later (Ext.alloc _ _)) (HG.out.later (HX7.out.more _)) HP'.out.1).mono ?_
            rintro r w8 ⟨rfl, hx8⟩
            have HX8 := hid ((HX7.out.more _).trans hx8)
            have HI8 := hid (HI'.out.later ((Ext.alloc _ _).trans hx8))
            have b8 := hx8.block (blk0 w7 _)
            have k0 := cell_of (i := 0) b8 rfl
            have k1 := cell_of (i := 1) b8 rfl
            simp only [List.getElem_toArray, List.getElem_cons_zero, List.getElem_cons_succ] at k0 k1
            clear b8 hx8
            generalize (⟨(placeText f' p').toArray⟩ : ByteArray) = S
            go_wp2_with fail
            refine (place_back f' p' a' c' _ HI8.out HP'.out.1).mono ?_
            rintro r w9 ⟨rfl, hx9⟩
            have HX9 := hid (HX8.out.trans hx9)
            clear hx9
            go_wp2
            go_ret
            exact ⟨rfl, HX9.out⟩
          · go_wp2
            go_ret
            exact ⟨rfl, HX7.out.more _⟩
  · have hp' : placeB f.data.toList xs = false := by simpa using hp
    have HPL := hid hp'
    clear hp
    refine (placeText_bad f a c xs _ hb (HI.out.later HV.out) hp').mono ?_
    clear hp'
    rintro r w1 ⟨rfl, hx1⟩
    have HX1 := hid hx1
    have q0 := cell_of (i := 0) (hx1.block HB.out) rfl
    have q1 := cell_of (i := 1) (hx1.block HB.out) rfl
    simp only [List.getElem_toArray, List.getElem_cons_zero, List.getElem_cons_succ] at q0 q1
    clear hx1
    go_wp2_with fail
    refine (place_any f a c xs _ hb (HI.out.later (HV.out.trans HX1.out))).mono ?_
    rw [HPL.out]
    rintro r w2 ⟨rfl, hx2⟩
    have HW := hid (HV.out.trans (HX1.out.trans hx2))
    clear hx2 q0 q1
    go_wp2_with fail
    refine (readPlace_any s _ hs).mono ?_
    rintro r w7 ⟨hr, hx7⟩
    have HX7 := hid (HW.out.trans hx7)
    clear hx7
    rcases hr with ⟨f', p', v', rfl, hp', ho'⟩ | ⟨rfl, _⟩
    · obtain ⟨a', c', rfl⟩ := ownsRow_slice ho'
      have HI' := hid (show Ints w7 (.slice a' p'.length c') (ints p') from Ints.own (ints_len p').symm (by rw [← numCells_ints]; exact ho'))
      have HP' := hid hp'
      obtain rfl : s = ⟨(placeText f' p').toArray⟩ := bytes_of s _ hp'.2.symm
      clear hp' ho'
      go_wp2_with fail
      refine (text_back f' p' a' c' _ (HI'.out.later (Ext.alloc _ _)) (HG.out.later (HX7.out.more _)) HP'.out.1).mono ?_
      rintro r w8 ⟨rfl, hx8⟩
      have HX8 := hid ((HX7.out.more _).trans hx8)
      have HI8 := hid (HI'.out.later ((Ext.alloc _ _).trans hx8))
      have b8 := hx8.block (blk0 w7 _)
      have k0 := cell_of (i := 0) b8 rfl
      have k1 := cell_of (i := 1) b8 rfl
      simp only [List.getElem_toArray, List.getElem_cons_zero, List.getElem_cons_succ] at k0 k1
      clear b8 hx8
      generalize (⟨(placeText f' p').toArray⟩ : ByteArray) = S
      go_wp2_with fail
      refine (place_back f' p' a' c' _ HI8.out HP'.out.1).mono ?_
      rintro r w9 ⟨rfl, hx9⟩
      have HX9 := hid (HX8.out.trans hx9)
      clear hx9
      go_wp2
      go_ret
      exact ⟨rfl, HX9.out⟩
    · go_wp2
      go_ret
      exact ⟨rfl, HX7.out.more _⟩


end Go.Proofs.YtfafnmfgiclanaaDoor
