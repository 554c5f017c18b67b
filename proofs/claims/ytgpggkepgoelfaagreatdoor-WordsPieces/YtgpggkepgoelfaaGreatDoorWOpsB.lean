/-
  less, find, cut, rep, of, num of package words, each by a contract.
-/
import Derived.Test.YtgpggkepgoelfaaGreatDoorWOps
import Derived.Lib.AppendIntMem
import Derived.Lib.SmallJoins
namespace Go.Proofs.YtgpggkepgoelfaaGreatDoor
open Go.RowKit
/-- The table of powers is there; the two errors are. -/
def LaidT (w : World) : Prop := Lib.TabIs Tryz.prog w "internal/strconv.uint64pow10" .u64 Lib.pow10Tab
theorem LaidT.later {w w' : World} (h : LaidT w) (hx : Ext w w') : LaidT w' := by
  have hgn : Tryz.prog.globalNamed "internal/strconv.uint64pow10" = some 5 := by kernel_rfl
  unfold LaidT Lib.TabIs World.var? at h ⊢
  rw [hgn] at h ⊢
  simp only [Option.bind_some] at h ⊢
  have hlt : 5 < w.heap.size := by
    rcases Nat.lt_or_ge 5 w.heap.size with h' | h'
    · exact h'
    · rw [Array.getElem?_eq_none h'] at h; cases h
  rw [Below.block hx 5 hlt]
  exact h
def LaidS (w : World) : Prop := ∃ tp p, w.var? Tryz.prog "strconv.ErrSyntax" = some #[.iface tp p]
theorem LaidS.later {w w' : World} (h : LaidS w) (hx : Ext w w') : LaidS w' := by
  obtain ⟨tp, p, h⟩ := h
  refine ⟨tp, p, ?_⟩
  have hgn : Tryz.prog.globalNamed "strconv.ErrSyntax" = some 3 := by kernel_rfl
  unfold World.var? at h ⊢
  rw [hgn] at h ⊢
  simp only [Option.bind_some] at h ⊢
  have hlt : 3 < w.heap.size := by
    rcases Nat.lt_or_ge 3 w.heap.size with h' | h'
    · exact h'
    · rw [Array.getElem?_eq_none h'] at h; cases h
  rw [Below.block hx 3 hlt]
  exact h
def LaidR (w : World) : Prop := ∃ tp p, w.var? Tryz.prog "strconv.ErrRange" = some #[.iface tp p]
theorem LaidR.later {w w' : World} (h : LaidR w) (hx : Ext w w') : LaidR w' := by
  obtain ⟨tp, p, h⟩ := h
  refine ⟨tp, p, ?_⟩
  have hgn : Tryz.prog.globalNamed "strconv.ErrRange" = some 4 := by kernel_rfl
  unfold World.var? at h ⊢
  rw [hgn] at h ⊢
  simp only [Option.bind_some] at h ⊢
  have hlt : 4 < w.heap.size := by
    rcases Nat.lt_or_ge 4 w.heap.size with h' | h'
    · exact h'
    · rw [Array.getElem?_eq_none h'] at h; cases h
  rw [Below.block hx 4 hlt]
  exact h
/-- What the library's calls ask of the world. -/
def WAt (w : World) : Prop := MaxAt w ∧ LaidT w ∧ LaidS w ∧ LaidR w
theorem WAt.later {w w' : World} (h : WAt w) (hx : Ext w w') : WAt w' := ⟨h.1.later hx, h.2.1.later hx, h.2.2.1.later hx, h.2.2.2.later hx⟩
def itoaS (n : Int) : ByteArray := ⟨(Lib.itoa n).toArray⟩
def repS (s : ByteArray) (n : Nat) : ByteArray := ⟨(Lib.repeatL s.data.toList n).toArray⟩
def findV (s t : ByteArray) : Value := cameV (Lib.index s.data.toList t.data.toList)
def cutV (s : ByteArray) (a b : Int) : Value := if 0 ≤ a ∧ a ≤ b ∧ b ≤ s.size then wroteV (s.extract a.toNat b.toNat) else refV 23
def repV (s : ByteArray) (n : Int) : Value := if n < 0 then refV 23 else if s.size = 0 then wroteV ⟨#[]⟩ else if n ≤ (65535 / s.size : Nat) then wroteV (repS s n.toNat) else refV 2
def ofV (n : Int) : Value := wroteV (itoaS n)
/-- The number that a text tells; none: it tells none, or not in its one form. -/
def numO (s : ByteArray) : Option Int := match Lib.parseIntB 64 s.data.toList with
  | .ok v => if itoaS v = s then some v else none
  | _ => none
def numV (s : ByteArray) : Value := match numO s with
  | some v => cameV v
  | none => refV 24
set_option maxRecDepth 100000 in
theorem digits_any (n : Int) (hn : inR n) (w : World) (hT : LaidT w) : Calls Tryz.prog 130 #[.int .i64 n] w fun e w' => e = .returned (.string (itoaS n)) ∧ Ext w w' := by
  have HT := hid hT
  have HN := hid hn
  clear hT hn
  go_enter Tryz.func130, Tryz.ntmps130
  go_wp2_with fail
  refine (Tryz.strconv_FormatInt_10 n HN.out.1 HN.out.2 w HT.out).mono ?_
  rintro e w1 ⟨rfl, k, os, rfl⟩
  go_wp2_with fail
  go_ret
  exact ⟨rfl, Lib.below_grow _ w (Nat.le_refl _) k os⟩
set_option maxRecDepth 100000 in
set_option maxHeartbeats 1000000 in
theorem wless_any (g : Nat) (s : ByteArray) (t : ByteArray) (w : World) (h0 : TxA w g 0 s) (h1 : TxA w g 1 t)  : Calls Tryz.prog 90 #[.slice (some ⟨g, 0, none⟩) 2 2] w fun e w' => e = .returned (lessV s t) ∧ Ext w w' := by
  unfold TxA at h0
  unfold TxA at h1
  go_enter Tryz.func90, Tryz.ntmps90
  go_wp2_with fail
  refine (wtext0 g 2 2 s _ (by decide) h0).mono ?_
  rintro e w1 ⟨rfl, rfl⟩
  go_wp2_with fail
  refine (wtext1 g 2 2 t _ (by decide) h1).mono ?_
  rintro e w1 ⟨rfl, rfl⟩
  go_wp2_with fail
  go_ret3
  exact ⟨rfl, Ext.refl _⟩
set_option maxRecDepth 100000 in
set_option maxHeartbeats 1000000 in
theorem wfind_any (g : Nat) (s : ByteArray) (t : ByteArray) (w : World) (h0 : TxA w g 0 s) (h1 : TxA w g 1 t) (hs : s.size ≤ 65535) (hm : MaxAt w) : Calls Tryz.prog 88 #[.slice (some ⟨g, 0, none⟩) 2 2] w fun e w' => e = .returned (findV s t) ∧ Ext w w' := by
  unfold TxA at h0
  unfold TxA at h1
  obtain ⟨mm, hm⟩ := hm
  have HV := hid (show findV s t = cameV (Lib.index s.data.toList t.data.toList) from rfl)
  go_enter Tryz.func88, Tryz.ntmps88
  go_wp2_with fail
  refine (wtext0 g 2 2 s _ (by decide) h0).mono ?_
  rintro e w1 ⟨rfl, rfl⟩
  go_wp2_with fail
  refine (wtext1 g 2 2 t _ (by decide) h1).mono ?_
  rintro e w1 ⟨rfl, rfl⟩
  go_wp2_with fail
  refine (Tryz.strings_Index s t mm _ (by omega) hm).mono ?_
  rintro e w1 ⟨rfl, rfl⟩
  generalize Lib.index s.data.toList t.data.toList = ix at HV ⊢
  go_wp2_with fail
  refine (wcame_any _ _).mono ?_
  rintro e w1 ⟨rfl, rfl⟩
  unfold cameV
  go_wp2_with fail
  go_ret3
  exact ⟨ret_eq (by rw [HV.out]; rfl), Ext.refl _⟩
set_option maxRecDepth 100000 in
set_option maxHeartbeats 1000000 in
theorem wcut_any (g : Nat) (s : ByteArray) (a : Int) (b : Int) (w : World) (h0 : TxA w g 0 s) (h1 : InA w g 1 a) (h2 : InA w g 2 b) (hs : s.size ≤ 65535) : Calls Tryz.prog 87 #[.slice (some ⟨g, 0, none⟩) 3 3] w fun e w' => e = .returned (cutV s a b) ∧ Ext w w' := by
  unfold TxA at h0
  unfold InA at h1
  unfold InA at h2
  have hs' : (s.size : Int) ≤ 65535 := by omega
  go_enter Tryz.func87, Tryz.ntmps87
  go_wp2_with fail
  refine (wtext0 g 3 3 s _ (by decide) h0).mono ?_
  rintro e w1 ⟨rfl, rfl⟩
  go_wp2_with fail
  refine (wnum1 g 3 3 a _ (by decide) h1).mono ?_
  rintro e w1 ⟨rfl, rfl⟩
  go_wp2_with fail
  refine (wnum2 g 3 3 b _ (by decide) h2).mono ?_
  rintro e w1 ⟨rfl, rfl⟩
  by_cases hc : 0 ≤ a ∧ a ≤ b ∧ b ≤ s.size
  · obtain ⟨c1, c2, c3⟩ := hc
    have HV := hid (show cutV s a b = wroteV (s.extract a.toNat b.toNat) from if_pos ⟨c1, c2, c3⟩)
    have d1 : ¬ a < 0 := by omega
    have d2 : ¬ b < a := by omega
    have d3 : ¬ (s.size : Int) < b := by omega
    have d4 : 0 ≤ b := by omega
    go_wp2_with fail
    refine (wrote_any _ _).mono ?_
    rintro e w1 ⟨rfl, rfl⟩
    unfold wroteV
    go_wp2_with fail
    go_ret3
    exact ⟨ret_eq (by rw [HV.out]; rfl), Ext.refl _⟩
  · have HV := hid (show cutV s a b = refV 23 from if_neg hc)
    by_cases d1 : a < 0
    · clear hc
      go_wp2_with fail
      refine (wref_any _ _).mono ?_
      rintro e w1 ⟨rfl, rfl⟩
      unfold refV
      go_wp2_with fail
      go_ret3
      exact ⟨ret_eq (by rw [HV.out]; rfl), Ext.refl _⟩
    · by_cases d2 : b < a
      · clear hc
        go_wp2_with fail
        refine (wref_any _ _).mono ?_
        rintro e w1 ⟨rfl, rfl⟩
        unfold refV
        go_wp2_with fail
        go_ret3
        exact ⟨ret_eq (by rw [HV.out]; rfl), Ext.refl _⟩
      · have d3 : (s.size : Int) < b := by omega
        clear hc
        go_wp2_with fail
        refine (wref_any _ _).mono ?_
        rintro e w1 ⟨rfl, rfl⟩
        unfold refV
        go_wp2_with fail
        go_ret3
        exact ⟨ret_eq (by rw [HV.out]; rfl), Ext.refl _⟩
set_option maxRecDepth 100000 in
set_option maxHeartbeats 1000000 in
theorem wof_any (g : Nat) (n : Int) (w : World) (h0 : InA w g 0 n) (hn : inR n) (hT : LaidT w) : Calls Tryz.prog 91 #[.slice (some ⟨g, 0, none⟩) 1 1] w fun e w' => e = .returned (ofV n) ∧ Ext w w' := by
  unfold InA at h0
  have HT := hid hT
  have HN := hid hn
  have HV := hid (show ofV n = wroteV (itoaS n) from rfl)
  clear hT hn
  go_enter Tryz.func91, Tryz.ntmps91
  go_wp2_with fail
  refine (wnum0 g 1 1 n _ (by decide) h0).mono ?_
  rintro e w1 ⟨rfl, rfl⟩
  go_wp2_with fail
  refine (digits_any n HN.out _ HT.out).mono ?_
  rintro e w2 ⟨rfl, hx⟩
  have HX := hid hx
  clear hx
  generalize itoaS n = u at HV ⊢
  go_wp2_with fail
  refine (wrote_any _ _).mono ?_
  rintro e w1 ⟨rfl, rfl⟩
  unfold wroteV
  go_wp2_with fail
  go_ret3
  exact ⟨ret_eq (by rw [HV.out]; rfl), HX.out⟩

end Go.Proofs.YtgpggkepgoelfaaGreatDoor
