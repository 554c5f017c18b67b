/-
  strconv.Itoa by the laid table; the solver's fresh, in general.
-/
import Derived.Test.YtllbelglilkdpaaDoorSNew
import Derived.Test.YtllbelglilkdpaaDoorNums
import Derived.Test.YtllbelglilkdpaaDoorSGs
namespace Go.Proofs.YtllbelglilkdpaaDoor
open Go.RowKit
/-- The table of powers that strconv reads, as the program's text lays it. -/
def Laid (w : World) : Prop := Lib.TabIs Tryd.prog w "internal/strconv.uint64pow10" .u64 Lib.pow10Tab
theorem Laid.keep {w w' : World} {K : Nat → Prop} (h : Laid w) (hk : Kp K w w') (h1 : K 1) : Laid w' := by
  have hgn : Tryd.prog.globalNamed "internal/strconv.uint64pow10" = some 1 := by kernel_rfl
  unfold Laid Lib.TabIs World.var? at h ⊢
  rw [hgn] at h ⊢
  simp only [Option.bind_some] at h ⊢
  have hlt : 1 < w.heap.size := by
    rcases Nat.lt_or_ge 1 w.heap.size with h' | h'
    · exact h'
    · rw [Array.getElem?_eq_none h'] at h; cases h
  rw [hk.block 1 hlt h1]
  exact h
theorem Laid.later {w w' : World} (h : Laid w) (hx : Ext w w') : Laid w' := h.keep (hx.kp (fun _ => True)) trivial
theorem Laid.lt {w : World} (h : Laid w) : 1 < w.heap.size := by
  have hgn : Tryd.prog.globalNamed "internal/strconv.uint64pow10" = some 1 := by kernel_rfl
  unfold Laid Lib.TabIs World.var? at h
  rw [hgn] at h
  simp only [Option.bind_some] at h
  rcases Nat.lt_or_ge 1 w.heap.size with h' | h'
  · exact h'
  · rw [Array.getElem?_eq_none h'] at h; cases h
/-- The name of a fresh variable. -/
def frB (n : Nat) : ByteArray := ⟨(Lib.decDigits n).toArray⟩
theorem frB_list (n : Nat) : (frB n).data.toList = Lib.decDigits n := by unfold frB; simp
theorem frB_inj {a b : Nat} (h : frB a = frB b) : a = b := dd_inj (by rw [← frB_list, h, frB_list])
theorem frB_grd (n : Nat) : grdL (frB n).data.toList = false := by
  rw [frB_list]
  have hd := dd_digits n
  have hne := dd_ne n
  cases h : grdL (Lib.decDigits n) with
  | false => rfl
  | true =>
    exfalso
    unfold grdL at h
    simp only [Bool.or_eq_true, decide_eq_true_eq] at h
    rcases h with ((h | h) | h) | h
    · have := hd 117 (by rw [h]; simp); exact absurd this.2 (by decide)
    · have := hd 116 (by rw [h]; simp); exact absurd this.2 (by decide)
    · have := hd 105 (by rw [h]; simp); exact absurd this.2 (by decide)
    · have := hd 116 (by rw [h]; simp); exact absurd this.2 (by decide)
theorem frB_leaf (n : Nat) : leafL (frB n).data.toList = false := by
  unfold leafL
  rw [frB_grd, Bool.false_or]
  cases h : vrbL (frB n).data.toList with
  | false => rfl
  | true =>
    exfalso
    obtain ⟨b, e, h1, _⟩ := vrb_one h
    rw [frB_list] at e
    have := dd_digits n b (by rw [e]; simp)
    unfold isDg at this
    omega
theorem itoa_any (n : Nat) (w : World) (hn : n ≤ 1000000) (hG : Laid w) : Calls Tryd.prog 62 #[.int .i64 (n : Int)] w fun e w' => e = .returned (.string (frB n)) ∧ Ext w w' := by
  refine (Tryd.strconv_Itoa n (by omega) (by omega) w hG).mono ?_
  rintro e w' ⟨rfl, k, os, rfl⟩
  refine ⟨?_, ?_⟩
  · unfold Lib.itoa frB
    rw [if_neg (by omega)]
    rfl
  · have h := (Ext.refl w).drewN k
    exact ⟨h.os, h.tape, h.output, Nat.le_trans h.size (by simp [Sort.grow]), fun j hj => by rw [← Below.block h j hj]; simp only [Sort.grow]; rw [Array.getElem?_append_left (Nat.lt_of_lt_of_le hj h.size)]⟩
set_option maxRecDepth 100000 in
theorem fresh_gen (l : Nat) (w : World) {b5 : Nat} (h : w.heap[b5]? = some (.cells #[.int .i64 l] 3)) (hl : l + 1 ≤ 1000000) (hG : Laid w) (hb : b5 ≠ 1) : Calls Tryd.prog 61 #[.pointer (some ⟨b5, 0, none⟩)] w fun e w' => e = .returned (shV (0, frB (l + 1))) ∧ Kp (· ≠ b5) w w' ∧ w'.heap[b5]? = some (.cells #[.int .i64 ((l + 1 : Nat) : Int)] 3) := by
  have HB := hid h
  have hbl := lt_of_block h
  have c0 : w.cell? ⟨b5, 0, none⟩ = some (.int .i64 l) := cell_of h rfl
  have f0 := frozen_of (i := 0) h
  have hl' : (l : Int) + 1 ≤ 1000000 := by omega
  have HI := hid (fun w1 (h1 : Laid w1) => itoa_any (l + 1) w1 hl h1)
  have HG := hid hG
  have HB1' := hid hb
  obtain ⟨X, hX⟩ : ∃ X, frB (l + 1) = X := ⟨_, rfl⟩
  rw [hX] at HI ⊢
  clear hX hG hb
  have HS1 := hid (show (w.setCell ⟨b5, 0, none⟩ (.int .i64 ((l : Int) + 1))).heap[b5]? = some (.cells #[.int .i64 ((l + 1 : Nat) : Int)] 3) from (set_at h 0 _).trans rfl)
  clear h
  go_enter Tryd.func61, Tryd.ntmps61
  go_upto_region 2 with fail
  have HB1 := hid (show ((w.setCell ⟨b5, 0, none⟩ (.int .i64 ((l : Int) + 1))).alloc (.cells #[.int .i64 0, .string ⟨#[]⟩] 58)).heap[b5]? = _ from blkOld _ HS1.out)
  have HK1 := hid ((Kp.set (K := (· ≠ b5)) w b5 0 (.int .i64 ((l : Int) + 1)) (fun h => h rfl)).alloc (.cells #[.int .i64 0, .string ⟨#[]⟩] 58))
  have HR1 := hid (show ((w.setCell ⟨b5, 0, none⟩ (.int .i64 ((l : Int) + 1))).alloc (.cells #[.int .i64 0, .string ⟨#[]⟩] 58)).heap[w.heap.size]? = _ from blkN (size_set _ _ _))
  generalize (w.setCell ⟨b5, 0, none⟩ (.int .i64 ((l : Int) + 1))).alloc (.cells #[.int .i64 0, .string ⟨#[]⟩] 58) = W1 at *
  clear c0 f0
  have c1 : W1.cell? ⟨b5, 0, none⟩ = some (.int .i64 ((l + 1 : Nat) : Int)) := cell_of HB1.out rfl
  go_wp2_with fail
  refine (HI.out W1 (HG.out.keep HK1.out (fun e => HB1'.out e.symm))).mono ?_
  rintro e w2 ⟨rfl, hx2⟩
  have HB2 := hid (hx2.block HB1.out)
  have HR2 := hid (hx2.block HR1.out)
  have HK2 := hid (HK1.out.trans (hx2.kp _))
  clear c1 hx2
  obtain ⟨r0, r1⟩ := two_of HR2.out
  obtain ⟨e0, e1⟩ := two_free HR2.out
  go_wp2_with fail
  obtain ⟨z0, z1⟩ := two_of (two_set (u0 := .int .i64 0) (u1 := .string X) HR2.out)
  refine bodyPost_ret (v := shV (0, X)) (by simp [results, Tryd.results61, go_sem, z0, z1]) rfl ?_
  have k2 := Kp.set2 w2 w.heap.size 0 (.int .i64 0) (.string X)
  exact ⟨rfl, HK2.out.trans' (n := w.heap.size) (L := fun _ => False) (k2.mono (fun q _ h => fun e => h.elim (fun h => by omega) id)), k2.block' HB2.out (by omega)⟩
end Go.Proofs.YtllbelglilkdpaaDoor
