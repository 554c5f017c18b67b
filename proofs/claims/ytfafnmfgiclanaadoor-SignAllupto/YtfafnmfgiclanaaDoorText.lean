/-
  sign.PathText, sign.Place, sign.PlaceText, each by a contract.
-/
import Derived.Test.YtfafnmfgiclanaaDoorReadPl
import Derived.Test.YtfafnmfgiclanaaDoorBuild
namespace Go.Proofs.YtfafnmfgiclanaaDoor
open Go.RowKit Go.Shelf

theorem joinP_snoc (q : List Nat) (n : Nat) (hq : q ≠ []) : joinP (q ++ [n]) = joinP q ++ 46 :: Lib.decDigits n := by
  obtain ⟨q', x, rfl⟩ : ∃ q' x, q = q' ++ [x] := ⟨q.dropLast, q.getLast hq, (List.dropLast_concat_getLast hq).symm⟩
  rw [List.append_assoc, joinP_append q' ([x] ++ [n]) (by simp), joinP_append q' [x] (by simp)]
  simp [joinP]
theorem byteCells_app (a b : List UInt8) : Lib.byteCells (a ++ b) = Lib.byteCells a ++ Lib.byteCells b := by simp [Lib.byteCells]
theorem strCells_list (l : List UInt8) : Lib.strCells ⟨l.toArray⟩ = Lib.byteCells l := by simp [Lib.strCells, Lib.byteCells]
theorem byteCells_len (l : List UInt8) : (Lib.byteCells l).length = l.length := by simp [Lib.byteCells]
theorem builder_new (w : World) : Lib.IsBuilderF 64 5 w.heap.size w.heap.size (Lib.byteCells []) (w.alloc (.cells #[.pointer none, .slice none 0 0] 64)) :=
  .inl ⟨Nat.le_refl _, .slice none 0 0, blk0 _ _, ⟨rfl, .inl ⟨rfl, rfl⟩⟩, by simp [Value.ownBlock]⟩
theorem pathText_bad (a : Option Addr) (c : Nat) (xs : List Int) (w : World) (hb : xs.length * 8 ≤ 140737488355328) (h : Ints w (.slice a xs.length c) xs) (hp : pathB xs = false) :
    Calls Tryd.prog 23 #[.slice a xs.length c] w fun e w' => e = .returned (.tuple #[.string ⟨#[]⟩, .int .i64 1]) ∧ Ext w w' := by
  have H := hid h
  clear h
  go_enter Tryd.func23, Tryd.ntmps23
  go_wp2_with (go_at_call 30; refine (path_any a c xs _ hb H.out).mono ?_; rintro e w' ⟨rfl, rfl⟩)
  go_ret2
  exact ⟨rfl, Ext.refl _⟩
theorem pathText_nil (a : Option Addr) (c : Nat) (w : World) (h : Ints w (.slice a 0 c) []) :
    Calls Tryd.prog 23 #[.slice a 0 c] w fun e w' => e = .returned (.tuple #[.string ⟨#[45]⟩, .int .i64 0]) ∧ Ext w w' := by
  have H := hid h
  have hp : pathB [] = true := rfl
  clear h
  go_enter Tryd.func23, Tryd.ntmps23
  go_wp2_with (go_at_call 30; refine (path_any a c [] _ (by decide) H.out).mono ?_; rintro e w' ⟨rfl, rfl⟩)
  go_ret2
  exact ⟨rfl, Ext.refl _⟩
theorem at_nats {xs : List Int} {k : Nat} (h : k < xs.length) (hp : pathB xs = true) : ∃ n : Nat, xs[k] = (n : Int) ∧ n ≤ 1022 ∧ (nats xs)[k]? = some n := by
  have h2 := ((pathB_iff xs).1 hp).2 xs[k] (List.getElem_mem h)
  exact ⟨xs[k].toNat, by omega, by omega, by unfold nats; rw [List.getElem?_map, List.getElem?_eq_getElem h]; rfl⟩
theorem take_nats {p : List Nat} {k n : Nat} (h : p[k]? = some n) : p.take (k + 1) = p.take k ++ [n] := by
  obtain ⟨hk, e⟩ := List.getElem?_eq_some_iff.1 h
  rw [List.take_succ_eq_append_getElem hk, e]
theorem joinP_take_le {xs : List Int} (hp : pathB xs = true) (k : Nat) : (joinP ((nats xs).take k)).length ≤ 64512 := by
  have h := (pathB_iff xs).1 hp
  have h1 := joinP_le ((nats xs).take k) (fun x hx => by
    have hx' := List.mem_of_mem_take hx
    unfold nats at hx'
    obtain ⟨n, hn, rfl⟩ := List.mem_map.1 hx'
    have := h.2 n hn
    omega)
  have h2 : ((nats xs).take k).length ≤ 63 := by
    have h3 : ((nats xs).take k).length ≤ (nats xs).length := by rw [List.length_take]; exact Nat.min_le_right _ _
    rw [nats_len] at h3
    omega
  omega
set_option maxRecDepth 100000 in
set_option maxHeartbeats 4000000 in
theorem pathText_some (a : Option Addr) (c : Nat) (xs : List Int) (w : World) (h : Ints w (.slice a xs.length c) xs) (hG : Laid w) (hp : pathB xs = true) (hne : 0 < xs.length) :
    Calls Tryd.prog 23 #[.slice a xs.length c] w fun e w' => e = .returned (.tuple #[.string ⟨(joinP (nats xs)).toArray⟩, .int .i64 0]) ∧ Ext w w' := by
  have hlen := ((pathB_iff xs).1 hp).1
  have hlen' : (xs.length : Int) ≤ 63 := by omega
  have hne' : ((xs.length : Int) == 0) = false := by rw [beq_eq_false_iff_ne]; omega
  have H := hid h
  have HC := hid h.cell.2
  have HG := hid hG
  have HP := hid hp
  clear h hG
  go_enter Tryd.func23, Tryd.ntmps23
  go_wp2_with (go_at_call 30; refine (path_any a c xs _ (by omega) H.out).mono ?_; rintro e w' ⟨rfl, hw⟩; obtain rfl := hw.symm)
  go_loopw [15] (fun i wr => ∃ k : Nat, k ≤ xs.length ∧ i = .int .i64 k ∧ Lib.IsBuilderF 64 5 w.heap.size w.heap.size (Lib.byteCells (joinP ((nats xs).take k))) wr ∧ Ext w wr) (fun i _ => xs.length - (intOf i).toNat)
  case atStart => exact ⟨0, Nat.zero_le _, rfl, by simpa [joinP] using builder_new w, Ext.alloc _ _⟩
  case round =>
    obtain ⟨k, hk, rfl, hbd, hx⟩ := hrel
    have HB := hid hbd
    have HX := hid hx
    clear hbd hx
    by_cases hlt : k < xs.length
    · obtain ⟨g, o, rfl, e⟩ := HC.out k hlt
      obtain ⟨n, hn, hn1, hn2⟩ := at_nats hlt HP.out
      rw [hn] at e
      have cx := (Below.cell HX.out (lt_of_cell e)).trans e
      have hlt' : (k : Int) < xs.length := by omega
      have HT := hid (take_nats hn2)
      have HLE := hid (joinP_take_le HP.out k)
      have HDL := hid (dd_le n)
      clear e hn hn2
      by_cases hk0 : k = 0
      · subst hk0
        rw [Nat.add_zero] at cx
        go_wp2_with fail
        refine (itoa_any n _ (by omega) (HG.out.later HX.out)).mono ?_
        rintro e w1 ⟨rfl, hx1⟩
        go_wp2_with fail
        refine (writeString_any w.heap.size w.heap.size _ ⟨(Lib.decDigits n).toArray⟩ w1 (builder_ext HB.out hx1) (by have := HDL.out; rw [byteCells_len]; show _ + (Lib.decDigits n).toArray.size ≤ _; simp [joinP]; omega) (by have := HX.out.size; have := hx1.size; omega)).mono ?_
        rintro e w2 ⟨rfl, hb2, hx2⟩
        have HB2 := hid hb2
        have HX2 := hid (show Ext w w2 from Below.trans (HX.out.trans hx1) hx2)
        clear hb2 hx1 hx2 cx
        go_wp2
        go_roundw
        case rel => exact ⟨1, hlt, rfl, by rw [HT.out]; have := HB2.out; rw [strCells_list] at this; simpa [joinP, Lib.byteCells] using this, HX2.out⟩
        case measure => simp [intOf]; omega
      · have hk1 : (0 : Int) < k := by omega
        have hk2 : 0 < k := by omega
        have hgl : g < w.heap.size := by obtain ⟨g', o', he, e'⟩ := HC.out k hlt; cases he; exact lt_of_cell e'
        go_wp2_with fail
        refine (writeByte_any w.heap.size w.heap.size _ 46 wr HB.out (by have := HLE.out; rw [byteCells_len]; omega) (by have := HX.out.size; omega)).mono ?_
        rintro e w0 ⟨rfl, hb0, hx0⟩
        have HB0 := hid hb0
        have HX0 := hid (show Ext w w0 from Below.trans HX.out hx0)
        clear hb0 hx0 cx
        go_wp2_with fail
        refine (itoa_any n _ (by omega) (HG.out.later HX0.out)).mono ?_
        rintro e w1 ⟨rfl, hx1⟩
        go_wp2_with fail
        refine (writeString_any w.heap.size w.heap.size _ ⟨(Lib.decDigits n).toArray⟩ w1 (builder_ext HB0.out hx1) (by have := HDL.out; have := HLE.out; rw [List.length_append, byteCells_len]; show _ + (Lib.decDigits n).toArray.size ≤ _; simp; omega) (by have := HX0.out.size; have := hx1.size; omega)).mono ?_
        rintro e w2 ⟨rfl, hb2, hx2⟩
        have HB2 := hid hb2
        have HX2 := hid (show Ext w w2 from Below.trans (HX0.out.trans hx1) hx2)
        have HJ := hid (joinP_snoc ((nats xs).take k) n (fun e => by have h1 : ((nats xs).take k).length = k := by { rw [List.length_take, nats_len]; omega }; rw [e] at h1; exact absurd h1 (by simp; omega)))
        clear hb2 hx1 hx2
        go_wp2
        go_roundw
        case rel => exact ⟨k + 1, hlt, by go_num, by rw [HT.out, HJ.out]; have := HB2.out; rw [strCells_list] at this; simpa [Lib.byteCells] using this, HX2.out⟩
        case measure => simp [intOf]; omega
    · have HE := hid (show (nats xs).take k = nats xs from List.take_of_length_le (by rw [nats_len]; omega))
      go_wp2_with (go_at_call 47; refine (Tryd.Builder_String_any_f w.heap.size w.heap.size _ wr HB.out HX.out.size).mono ?_; rintro e w1 ⟨rfl, hb1, hx1⟩)
      go_ret2
      exact ⟨by rw [HE.out]; rfl, Below.trans HX.out hx1⟩
end Go.Proofs.YtfafnmfgiclanaaDoor
