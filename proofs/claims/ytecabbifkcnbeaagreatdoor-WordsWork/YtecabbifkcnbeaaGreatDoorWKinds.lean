/-
  less, find, cut, rep, of, num of package words, each by a contract.
-/
import Derived.Test.YtecabbifkcnbeaaGreatDoorWOps
import Derived.Lib.AppendIntMem
import Derived.Lib.SmallJoins
import Derived.Test.YtecabbifkcnbeaaGreatDoorPlainIn
import Derived.Deep.WholeRow
import Derived.Test.YtecabbifkcnbeaaGreatDoorCWork
namespace Go.Proofs.YtecabbifkcnbeaaGreatDoor
open Go.RowKit
/-- The table of powers is there; the two errors are. -/
def LaidT (w : World) : Prop := Lib.TabIs Tryz.prog w "internal/strconv.uint64pow10" .u64 Lib.pow10Tab
theorem LaidT.later {w w' : World} (h : LaidT w) (hx : Ext w w') : LaidT w' := by
  have hgn : Tryz.prog.globalNamed "internal/strconv.uint64pow10" = some 5 := by kernel_rfl
  unfold LaidT Lib.TabIs World.var? at h ⊢
  rw [hgn] at h ⊢
  simp only [Option.bind_some] at h ⊢
  have hlt : 5 < w.heap.size := by
    rcases Nat.lt_or_ge 5 w.heap.size with h' | h'
    · exact h'
    · rw [Array.getElem?_eq_none h'] at h; cases h
  rw [Below.block hx 5 hlt]
  exact h
def LaidS (w : World) : Prop := ∃ tp p, w.var? Tryz.prog "strconv.ErrSyntax" = some #[.iface tp p]
theorem LaidS.later {w w' : World} (h : LaidS w) (hx : Ext w w') : LaidS w' := by
  obtain ⟨tp, p, h⟩ := h
  refine ⟨tp, p, ?_⟩
  have hgn : Tryz.prog.globalNamed "strconv.ErrSyntax" = some 3 := by kernel_rfl
  unfold World.var? at h ⊢
  rw [hgn] at h ⊢
  simp only [Option.bind_some] at h ⊢
  have hlt : 3 < w.heap.size := by
    rcases Nat.lt_or_ge 3 w.heap.size with h' | h'
    · exact h'
    · rw [Array.getElem?_eq_none h'] at h; cases h
  rw [Below.block hx 3 hlt]
  exact h
def LaidR (w : World) : Prop := ∃ tp p, w.var? Tryz.prog "strconv.ErrRange" = some #[.iface tp p]
theorem LaidR.later {w w' : World} (h : LaidR w) (hx : Ext w w') : LaidR w' := by
  obtain ⟨tp, p, h⟩ := h
  refine ⟨tp, p, ?_⟩
  have hgn : Tryz.prog.globalNamed "strconv.ErrRange" = some 4 := by kernel_rfl
  unfold World.var? at h ⊢
  rw [hgn] at h ⊢
  simp only [Option.bind_some] at h ⊢
  have hlt : 4 < w.heap.size := by
    rcases Nat.lt_or_ge 4 w.heap.size with h' | h'
    · exact h'
    · rw [Array.getElem?_eq_none h'] at h; cases h
  rw [Below.block hx 4 hlt]
  exact h
/-- What the library's calls ask of the world. -/
def WAt (w : World) : Prop := MaxAt w ∧ LaidT w ∧ LaidS w ∧ LaidR w
theorem WAt.later {w w' : World} (h : WAt w) (hx : Ext w w') : WAt w' := ⟨h.1.later hx, h.2.1.later hx, h.2.2.1.later hx, h.2.2.2.later hx⟩
def repS (s : ByteArray) (n : Nat) : ByteArray := ⟨(Lib.repeatL s.data.toList n).toArray⟩
def findV (s t : ByteArray) : Value := cameV (Lib.index s.data.toList t.data.toList)
def cutV (s : ByteArray) (a b : Int) : Value := if 0 ≤ a ∧ a ≤ b ∧ b ≤ s.size then wroteV (s.extract a.toNat b.toNat) else refV 23
def repV (s : ByteArray) (n : Int) : Value := if n < 0 then refV 23 else if s.size = 0 then wroteV ⟨#[]⟩ else if n ≤ (65535 / s.size : Nat) then wroteV (repS s n.toNat) else refV 2
def ofV (n : Int) : Value := wroteV (itoaS n)
/-- The number that a text tells; none: it tells none, or not in its one form. -/
def numO (s : ByteArray) : Option Int := match Lib.parseIntB 64 s.data.toList with
  | .ok v => if itoaS v = s then some v else none
  | _ => none
def numV (s : ByteArray) : Value := match numO s with
  | some v => cameV v
  | none => refV 24
set_option maxRecDepth 100000 in
theorem digits_any (n : Int) (hn : inR n) (w : World) (hT : LaidT w) : Calls Tryz.prog 105 #[.int .i64 n] w fun e w' => e = .returned (.string (itoaS n)) ∧ Ext w w' := by
  have HT := hid hT
  have HN := hid hn
  clear hT hn
  go_enter Tryz.func105, Tryz.ntmps105
  go_wp2_with fail
  refine (Tryz.strconv_FormatInt_10 n HN.out.1 HN.out.2 w HT.out).mono ?_
  rintro e w1 ⟨rfl, k, os, rfl⟩
  go_wp2_with fail
  go_ret
  exact ⟨rfl, Lib.below_grow _ w (Nat.le_refl _) k os⟩
set_option maxRecDepth 100000 in
set_option maxHeartbeats 1000000 in
theorem wless_any (g : Nat) (s : ByteArray) (t : ByteArray) (w : World) (h0 : TxA w g 0 s) (h1 : TxA w g 1 t)  : Calls Tryz.prog 50 #[.slice (some ⟨g, 0, none⟩) 2 2] w fun e w' => e = .returned (lessV s t) ∧ Ext w w' := by
  unfold TxA at h0
  unfold TxA at h1
  go_enter Tryz.func50, Tryz.ntmps50
  go_wp2_with fail
  refine (wtext0 g 2 2 s _ (by decide) h0).mono ?_
  rintro e w1 ⟨rfl, rfl⟩
  go_wp2_with fail
  refine (wtext1 g 2 2 t _ (by decide) h1).mono ?_
  rintro e w1 ⟨rfl, rfl⟩
  go_wp2_with fail
  go_ret3
  exact ⟨rfl, Ext.refl _⟩
set_option maxRecDepth 100000 in
set_option maxHeartbeats 1000000 in
theorem wfind_any (g : Nat) (s : ByteArray) (t : ByteArray) (w : World) (h0 : TxA w g 0 s) (h1 : TxA w g 1 t) (hs : s.size ≤ 65535) (hm : MaxAt w) : Calls Tryz.prog 48 #[.slice (some ⟨g, 0, none⟩) 2 2] w fun e w' => e = .returned (findV s t) ∧ Ext w w' := by
  unfold TxA at h0
  unfold TxA at h1
  obtain ⟨mm, hm⟩ := hm
  have HV := hid (show findV s t = cameV (Lib.index s.data.toList t.data.toList) from rfl)
  go_enter Tryz.func48, Tryz.ntmps48
  go_wp2_with fail
  refine (wtext0 g 2 2 s _ (by decide) h0).mono ?_
  rintro e w1 ⟨rfl, rfl⟩
  go_wp2_with fail
  refine (wtext1 g 2 2 t _ (by decide) h1).mono ?_
  rintro e w1 ⟨rfl, rfl⟩
  go_wp2_with fail
  refine (Tryz.strings_Index s t mm _ (by omega) hm).mono ?_
  rintro e w1 ⟨rfl, rfl⟩
  generalize Lib.index s.data.toList t.data.toList = ix at HV ⊢
  go_wp2_with fail
  refine (wcame_any _ _).mono ?_
  rintro e w1 ⟨rfl, rfl⟩
  unfold cameV
  go_wp2_with fail
  go_ret3
  exact ⟨ret_eq (by rw [HV.out]; rfl), Ext.refl _⟩
set_option maxRecDepth 100000 in
set_option maxHeartbeats 1000000 in
theorem wcut_any (g : Nat) (s : ByteArray) (a : Int) (b : Int) (w : World) (h0 : TxA w g 0 s) (h1 : InA w g 1 a) (h2 : InA w g 2 b) (hs : s.size ≤ 65535) : Calls Tryz.prog 47 #[.slice (some ⟨g, 0, none⟩) 3 3] w fun e w' => e = .returned (cutV s a b) ∧ Ext w w' := by
  unfold TxA at h0
  unfold InA at h1
  unfold InA at h2
  have hs' : (s.size : Int) ≤ 65535 := by omega
  go_enter Tryz.func47, Tryz.ntmps47
  go_wp2_with fail
  refine (wtext0 g 3 3 s _ (by decide) h0).mono ?_
  rintro e w1 ⟨rfl, rfl⟩
  go_wp2_with fail
  refine (wnum1 g 3 3 a _ (by decide) h1).mono ?_
  rintro e w1 ⟨rfl, rfl⟩
  go_wp2_with fail
  refine (wnum2 g 3 3 b _ (by decide) h2).mono ?_
  rintro e w1 ⟨rfl, rfl⟩
  by_cases hc : 0 ≤ a ∧ a ≤ b ∧ b ≤ s.size
  · obtain ⟨c1, c2, c3⟩ := hc
    have HV := hid (show cutV s a b = wroteV (s.extract a.toNat b.toNat) from if_pos ⟨c1, c2, c3⟩)
    have d1 : ¬ a < 0 := by omega
    have d2 : ¬ b < a := by omega
    have d3 : ¬ (s.size : Int) < b := by omega
    have d4 : 0 ≤ b := by omega
    go_wp2_with fail
    refine (wrote_any _ _).mono ?_
    rintro e w1 ⟨rfl, rfl⟩
    unfold wroteV
    go_wp2_with fail
    go_ret3
    exact ⟨ret_eq (by rw [HV.out]; rfl), Ext.refl _⟩
  · have HV := hid (show cutV s a b = refV 23 from if_neg hc)
    by_cases d1 : a < 0
    · clear hc
      go_wp2_with fail
      refine (wref_any _ _).mono ?_
      rintro e w1 ⟨rfl, rfl⟩
      unfold refV
      go_wp2_with fail
      go_ret3
      exact ⟨ret_eq (by rw [HV.out]; rfl), Ext.refl _⟩
    · by_cases d2 : b < a
      · clear hc
        go_wp2_with fail
        refine (wref_any _ _).mono ?_
        rintro e w1 ⟨rfl, rfl⟩
        unfold refV
        go_wp2_with fail
        go_ret3
        exact ⟨ret_eq (by rw [HV.out]; rfl), Ext.refl _⟩
      · have d3 : (s.size : Int) < b := by omega
        clear hc
        go_wp2_with fail
        refine (wref_any _ _).mono ?_
        rintro e w1 ⟨rfl, rfl⟩
        unfold refV
        go_wp2_with fail
        go_ret3
        exact ⟨ret_eq (by rw [HV.out]; rfl), Ext.refl _⟩
set_option maxRecDepth 100000 in
set_option maxHeartbeats 1000000 in
theorem wof_any (g : Nat) (n : Int) (w : World) (h0 : InA w g 0 n) (hn : inR n) (hT : LaidT w) : Calls Tryz.prog 51 #[.slice (some ⟨g, 0, none⟩) 1 1] w fun e w' => e = .returned (ofV n) ∧ Ext w w' := by
  unfold InA at h0
  have HT := hid hT
  have HN := hid hn
  have HV := hid (show ofV n = wroteV (itoaS n) from rfl)
  clear hT hn
  go_enter Tryz.func51, Tryz.ntmps51
  go_wp2_with fail
  refine (wnum0 g 1 1 n _ (by decide) h0).mono ?_
  rintro e w1 ⟨rfl, rfl⟩
  go_wp2_with fail
  refine (digits_any n HN.out _ HT.out).mono ?_
  rintro e w2 ⟨rfl, hx⟩
  have HX := hid hx
  clear hx
  generalize itoaS n = u at HV ⊢
  go_wp2_with fail
  refine (wrote_any _ _).mono ?_
  rintro e w1 ⟨rfl, rfl⟩
  unfold wroteV
  go_wp2_with fail
  go_ret3
  exact ⟨ret_eq (by rw [HV.out]; rfl), HX.out⟩

end Go.Proofs.YtecabbifkcnbeaaGreatDoor
/-
  rep and num of package words, each by a contract.
-/
namespace Go.Proofs.YtecabbifkcnbeaaGreatDoor
open Go.RowKit
theorem arr_nil {s : ByteArray} (h : s.size = 0) : s = ⟨#[]⟩ := by
  obtain ⟨d⟩ := s
  have : d.size = 0 := h
  rw [Array.eq_empty_of_size_eq_zero this]
theorem toList_ne {s t : ByteArray} (h : s ≠ t) : (s.toList == t.toList) = false := by
  rw [beq_eq_false_iff_ne]
  exact fun e => h (toList_inj e)
theorem empty_ne {s : ByteArray} (h : s.size ≠ 0) : ¬ s = ByteArray.empty ∧ s.toList.isEmpty = false := by
  have h1 : s ≠ ByteArray.empty := fun e => h (by rw [e]; rfl)
  refine ⟨h1, ?_⟩
  rw [Bool.eq_false_iff]
  intro e
  rw [List.isEmpty_iff] at e
  exact h1 (toList_inj (e.trans (by first | kernel_rfl | simp)))
set_option maxRecDepth 100000 in
set_option maxHeartbeats 1000000 in
theorem wrep_any (g : Nat) (s : ByteArray) (n : Int) (w : World) (h0 : TxA w g 0 s) (h1 : InA w g 1 n) (hs : s.size ≤ 65535) : Calls Tryz.prog 49 #[.slice (some ⟨g, 0, none⟩) 2 2] w fun e w' => e = .returned (repV s n) ∧ Ext w w' := by
  unfold TxA at h0
  unfold InA at h1
  have hs' : (s.size : Int) ≤ 65535 := by omega
  go_enter Tryz.func49, Tryz.ntmps49
  go_wp2_with fail
  refine (wtext0 g 2 2 s _ (by decide) h0).mono ?_
  rintro e w1 ⟨rfl, rfl⟩
  go_wp2_with fail
  refine (wnum1 g 2 2 n _ (by decide) h1).mono ?_
  rintro e w1 ⟨rfl, rfl⟩
  by_cases hn : n < 0
  · have HV := hid (show repV s n = refV 23 from if_pos hn)
    go_wp2_with fail
    refine (wref_any _ _).mono ?_
    rintro e w1 ⟨rfl, rfl⟩
    unfold refV
    go_wp2_with fail
    go_ret3
    exact ⟨ret_eq (by rw [HV.out]; rfl), Ext.refl _⟩
  · by_cases hz : s.size = 0
    · have HV := hid (show repV s n = wroteV ⟨#[]⟩ by unfold repV; rw [if_neg hn, if_pos hz])
      obtain rfl := arr_nil hz
      clear hz
      go_wp2_with fail
      refine (wrote_any _ _).mono ?_
      rintro e w1 ⟨rfl, rfl⟩
      unfold wroteV
      go_wp2_with fail
      go_ret3
      exact ⟨ret_eq (by rw [HV.out]; rfl), Ext.refl _⟩
    · obtain ⟨e0, e1⟩ := empty_ne hz
      have z1 : ¬ (s.size : Int) = 0 := by omega
      have z2 : ((s.size : Int) == 0) = false := by simpa using z1
      have hq : (65535 : Int).tdiv (s.size : Int) = ((65535 / s.size : Nat) : Int) := by
        rw [Int.tdiv_eq_ediv_of_nonneg (by omega)]
        rfl
      have HQ := hid (show 65535 / s.size ≤ 65535 from Nat.div_le_self _ _)
      have HL := hid (show ∀ c : Nat, c ≤ 65535 / s.size → s.size * c ≤ 65535 from fun c h => by
        rw [Nat.le_div_iff_mul_le (by omega)] at h
        rw [Nat.mul_comm]; exact h)
      have HD := hid (show (n ≤ (65535 / s.size : Nat) → repV s n = wroteV (repS s n.toNat)) ∧ (¬ n ≤ (65535 / s.size : Nat) → repV s n = refV 2) by
        unfold repV
        rw [if_neg hn, if_neg hz]
        exact ⟨fun h => if_pos h, fun h => if_neg h⟩)
      generalize 65535 / s.size = M at *
      have hM1 : (M : Int) ≤ 65535 := by have := HQ.out; omega
      by_cases hc : n ≤ M
      · have HV := hid (HD.out.1 hc)
        have hc' : ¬ (M : Int) < n := by omega
        obtain ⟨c, rfl⟩ : ∃ c : Nat, n = c := ⟨n.toNat, by omega⟩
        have hcM : c ≤ M := by omega
        have HLc := hid (HL.out c hcM)
        have HQc := hid (Nat.le_trans hcM HQ.out)
        rw [Int.toNat_natCast] at HV
        clear hz hn hc hcM
        have hn2 : ¬ (c : Int) < 0 := by omega
        go_wp2_with fail
        refine (Tryz.strings_Repeat s c _ (Nat.le_trans HQc.out (by decide)) (Nat.le_trans HLc.out (by decide))).mono ?_
        rintro e w2 ⟨rfl, hx⟩
        have HX := hid hx
        clear hx
        have HE := hid (show repS s c = ⟨(Lib.repeatL s.data.toList c).toArray⟩ from rfl)
        rw [← HE.out]
        generalize repS s c = u at HV ⊢
        clear HE
        go_wp2_with fail
        refine (wrote_any _ _).mono ?_
        rintro e w1 ⟨rfl, rfl⟩
        unfold wroteV
        go_wp2_with fail
        go_ret3
        exact ⟨ret_eq (by rw [HV.out]; rfl), HX.out⟩
      · have HV := hid (HD.out.2 hc)
        have hc' : (M : Int) < n := by omega
        clear hz
        go_wp2_with fail
        refine (wref_any _ _).mono ?_
        rintro e w1 ⟨rfl, rfl⟩
        unfold refV
        go_wp2_with fail
        go_ret3
        exact ⟨ret_eq (by rw [HV.out]; rfl), Ext.refl _⟩
set_option maxRecDepth 100000 in
set_option maxHeartbeats 1000000 in
theorem wnumb_any (g : Nat) (s : ByteArray) (w : World) (h0 : TxA w g 0 s) (hs : s.size ≤ 65535) (hW : WAt w) : Calls Tryz.prog 52 #[.slice (some ⟨g, 0, none⟩) 1 1] w fun e w' => e = .returned (numV s) ∧ Ext w w' := by
  unfold TxA at h0
  obtain ⟨hM, hT, ⟨tp1, p1, hS⟩, ⟨tp2, p2, hR⟩⟩ := hW
  have HT := hid hT
  have HS := hid hS
  have HR := hid hR
  clear hM hT hS hR
  go_enter Tryz.func52, Tryz.ntmps52
  go_wp2_with fail
  refine (wtext0 g 1 1 s _ (by decide) h0).mono ?_
  rintro e w1 ⟨rfl, rfl⟩
  clear h0
  go_wp2_with fail
  rcases hp : Lib.parseIntB 64 s.data.toList with v | _ | _
  · have HP := hid hp
    have HB := hid (Lib.parseIntB_bounds hp)
    refine (Tryz.strconv_ParseInt_10_at64_ok s (by omega) v hp _).mono ?_
    rintro e w2 ⟨rfl, hw2⟩
    have hx2 : Ext w1 w2 := by
      rcases hw2 with rfl | ⟨t, rfl⟩
      · exact Ext.refl _
      · exact Lib.bytesWorld_below _ _ _
    have X2 := hid hx2
    have HIN := hid (show inR v by have := HB.out; unfold inR; omega)
    clear hw2 hx2 hp
    go_wp2_with fail
    refine (digits_any v HIN.out _ (HT.out.later X2.out)).mono ?_
    rintro e w3 ⟨rfl, hx3⟩
    have X3 := hid (X2.out.trans hx3)
    clear hx3
    by_cases he : itoaS v = s
    · have HV := hid (show numV s = cameV v by unfold numV numO; rw [HP.out]; dsimp only; rw [if_pos he])
      have e1 : ((itoaS v).toList == s.toList) = true := by rw [he]; exact beq_self_eq_true _
      have e2 : ((itoaS v).toList != s.toList) = false := by rw [he]; exact bne_self_eq_false _
      clear he
      generalize itoaS v = u at *
      go_wp2_with fail
      refine (wcame_any _ _).mono ?_
      rintro e w1 ⟨rfl, rfl⟩
      unfold cameV
      go_wp2_with fail
      go_ret3
      exact ⟨ret_eq (by rw [HV.out]; rfl), X3.out⟩
    · have HV := hid (show numV s = refV 24 by unfold numV numO; rw [HP.out]; dsimp only; rw [if_neg he])
      have e1 : ((itoaS v).toList == s.toList) = false := toList_ne he
      have e2 : ((itoaS v).toList != s.toList) = true := by rw [bne, e1]; rfl
      clear he
      generalize itoaS v = u at *
      go_wp2_with fail
      refine (wref_any _ _).mono ?_
      rintro e w1 ⟨rfl, rfl⟩
      unfold refV
      go_wp2_with fail
      go_ret3
      exact ⟨ret_eq (by rw [HV.out]; rfl), X3.out⟩
  · have HV := hid (show numV s = refV 24 by unfold numV numO; rw [hp])
    refine (Tryz.strconv_ParseInt_10_at64_syntax_var s (by omega) hp tp1 p1 _ HS.out).mono ?_
    rintro e w2 ⟨N, rfl, _, _, hx2⟩
    have X2 := hid hx2
    clear hx2 hp
    go_wp2_with fail
    refine (wref_any _ _).mono ?_
    rintro e w1 ⟨rfl, rfl⟩
    unfold refV
    go_wp2_with fail
    go_ret3
    exact ⟨ret_eq (by rw [HV.out]; rfl), X2.out⟩
  · have HV := hid (show numV s = refV 24 by unfold numV numO; rw [hp])
    refine (Tryz.strconv_ParseInt_10_at64_range_var s (by omega) hp tp2 p2 _ HR.out).mono ?_
    rintro e w2 ⟨N, rfl, _, _, hx2⟩
    have X2 := hid hx2
    clear hx2 hp
    go_wp2_with fail
    refine (wref_any _ _).mono ?_
    rintro e w1 ⟨rfl, rfl⟩
    unfold refV
    go_wp2_with fail
    go_ret3
    exact ⟨ret_eq (by rw [HV.out]; rfl), X2.out⟩
end Go.Proofs.YtecabbifkcnbeaaGreatDoor
/-
  An array handed back by value.
-/
namespace Go.Proofs.YtecabbifkcnbeaaGreatDoor
open Go.RowKit
theorem results_one_cell {fn : Func} {p : Tmp} {ty : TypeId} (h : fn.results = #[.cell p ty]) (tmps : Array Value) (P : Program) (w : World) :
    (results fn tmps).run P w = ((asAddr (tmps.getD p undef)).run P w).andThen fun a w₁ => (loadVar ty a).run P w₁ := by
  simp only [results, h]
  simp [Sem.run_bind, Result.andThen]
theorem asAddr_ptr (P : Program) (a : Addr) (w : World) : (asAddr (.pointer (some a))).run P w = .ok a w := rfl
/-- The whole array out of the block that was made last, as a function's result. -/
theorem res_array {P : Program} {fn : Func} {p : Tmp} {ty e : TypeId} {n : Nat} (h : fn.results = #[.cell p ty]) (hu : P.underlying ty = some (.array n e)) (tmps : Array Value) (cs : Array Value) (hs : (P.info? ty).map (·.size) = some cs.size) (w : World) (h0 : tmps.getD p undef = .pointer (some ⟨w.heap.size, 0, none⟩)) : (results fn tmps).run P (w.alloc (.cells cs ty)) = .ok (.agg cs) (w.alloc (.cells cs ty)) := by
  rw [results_one_cell h, h0, asAddr_ptr, Result.andThen_ok]
  exact run_loadVar_new w ty cs n e hu hs
end Go.Proofs.YtecabbifkcnbeaaGreatDoor
/-
  The kinds of the kit words: their table; words.kinds by a contract; words.Work.
-/
namespace Go.Proofs.YtecabbifkcnbeaaGreatDoor
open Go.RowKit
/-- The kit words. -/
def wordsK : List Kd := [
  ⟨⟨#[119, 111, 114, 100, 115, 46, 106, 111, 105, 110]⟩, 2, 2, 0, ⟨#[83, 116, 114, 105, 99, 116, 32, 80, 117, 114, 101, 32, 83, 111, 114, 116, 101, 100]⟩, ⟨#[116, 101, 120, 116, 44, 32, 116, 101, 120, 116, 32, 62, 32, 116, 101, 120, 116]⟩, 43, some 44, false⟩,
  ⟨⟨#[119, 111, 114, 100, 115, 46, 115, 105, 122, 101]⟩, 1, 1, 0, ⟨#[83, 116, 114, 105, 99, 116, 32, 80, 117, 114, 101, 32, 84, 111, 116, 97, 108, 32, 83, 111, 114, 116, 101, 100]⟩, ⟨#[116, 101, 120, 116, 32, 62, 32, 105, 110, 116]⟩, 45, some 46, false⟩,
  ⟨⟨#[119, 111, 114, 100, 115, 46, 99, 117, 116]⟩, 3, 3, 0, ⟨#[83, 116, 114, 105, 99, 116, 32, 80, 117, 114, 101, 32, 83, 111, 114, 116, 101, 100]⟩, ⟨#[116, 101, 120, 116, 44, 32, 105, 110, 116, 44, 32, 105, 110, 116, 32, 62, 32, 116, 101, 120, 116]⟩, 43, some 47, false⟩,
  ⟨⟨#[119, 111, 114, 100, 115, 46, 102, 105, 110, 100]⟩, 2, 2, 0, ⟨#[83, 116, 114, 105, 99, 116, 32, 80, 117, 114, 101, 32, 84, 111, 116, 97, 108, 32, 83, 111, 114, 116, 101, 100]⟩, ⟨#[116, 101, 120, 116, 44, 32, 116, 101, 120, 116, 32, 62, 32, 105, 110, 116]⟩, 45, some 48, false⟩,
  ⟨⟨#[119, 111, 114, 100, 115, 46, 114, 101, 112]⟩, 2, 2, 0, ⟨#[83, 116, 114, 105, 99, 116, 32, 80, 117, 114, 101, 32, 83, 111, 114, 116, 101, 100]⟩, ⟨#[116, 101, 120, 116, 44, 32, 105, 110, 116, 32, 62, 32, 116, 101, 120, 116]⟩, 43, some 49, false⟩,
  ⟨⟨#[119, 111, 114, 100, 115, 46, 108, 101, 115, 115]⟩, 2, 2, 0, ⟨#[83, 116, 114, 105, 99, 116, 32, 80, 117, 114, 101, 32, 84, 111, 116, 97, 108, 32, 83, 111, 114, 116, 101, 100]⟩, ⟨#[116, 101, 120, 116, 44, 32, 116, 101, 120, 116, 32, 62, 32, 116, 114, 117, 116, 104]⟩, 45, some 50, false⟩,
  ⟨⟨#[119, 111, 114, 100, 115, 46, 111, 102]⟩, 1, 1, 0, ⟨#[83, 116, 114, 105, 99, 116, 32, 80, 117, 114, 101, 32, 84, 111, 116, 97, 108, 32, 83, 111, 114, 116, 101, 100]⟩, ⟨#[105, 110, 116, 32, 62, 32, 116, 101, 120, 116]⟩, 45, some 51, false⟩,
  ⟨⟨#[119, 111, 114, 100, 115, 46, 110, 117, 109]⟩, 1, 1, 0, ⟨#[83, 116, 114, 105, 99, 116, 32, 80, 117, 114, 101, 32, 83, 111, 114, 116, 101, 100]⟩, ⟨#[116, 101, 120, 116, 32, 62, 32, 105, 110, 116]⟩, 43, some 52, false⟩,
  ⟨⟨#[119, 111, 114, 100, 115, 46, 97, 108, 108]⟩, 0, -1, 0, ⟨#[80, 117, 114, 101, 32, 83, 111, 114, 116, 101, 100, 32, 83, 117, 103, 97, 114]⟩, ⟨#[116, 101, 120, 116, 32, 46, 46, 32, 62, 32, 116, 101, 120, 116]⟩, 53, none, false⟩]
def wordsC : Array Value := #[.string ⟨#[119, 111, 114, 100, 115, 46, 106, 111, 105, 110]⟩, .int .i64 2, .int .i64 2, .int .i64 0, .string ⟨#[83, 116, 114, 105, 99, 116, 32, 80, 117, 114, 101, 32, 83, 111, 114, 116, 101, 100]⟩, .string ⟨#[116, 101, 120, 116, 44, 32, 116, 101, 120, 116, 32, 62, 32, 116, 101, 120, 116]⟩, .func (.func 43) #[] #[], .func (.func 44) #[] #[], .bool false, .string ⟨#[119, 111, 114, 100, 115, 46, 115, 105, 122, 101]⟩, .int .i64 1, .int .i64 1, .int .i64 0, .string ⟨#[83, 116, 114, 105, 99, 116, 32, 80, 117, 114, 101, 32, 84, 111, 116, 97, 108, 32, 83, 111, 114, 116, 101, 100]⟩, .string ⟨#[116, 101, 120, 116, 32, 62, 32, 105, 110, 116]⟩, .func (.func 45) #[] #[], .func (.func 46) #[] #[], .bool false, .string ⟨#[119, 111, 114, 100, 115, 46, 99, 117, 116]⟩, .int .i64 3, .int .i64 3, .int .i64 0, .string ⟨#[83, 116, 114, 105, 99, 116, 32, 80, 117, 114, 101, 32, 83, 111, 114, 116, 101, 100]⟩, .string ⟨#[116, 101, 120, 116, 44, 32, 105, 110, 116, 44, 32, 105, 110, 116, 32, 62, 32, 116, 101, 120, 116]⟩, .func (.func 43) #[] #[], .func (.func 47) #[] #[], .bool false, .string ⟨#[119, 111, 114, 100, 115, 46, 102, 105, 110, 100]⟩, .int .i64 2, .int .i64 2, .int .i64 0, .string ⟨#[83, 116, 114, 105, 99, 116, 32, 80, 117, 114, 101, 32, 84, 111, 116, 97, 108, 32, 83, 111, 114, 116, 101, 100]⟩, .string ⟨#[116, 101, 120, 116, 44, 32, 116, 101, 120, 116, 32, 62, 32, 105, 110, 116]⟩, .func (.func 45) #[] #[], .func (.func 48) #[] #[], .bool false, .string ⟨#[119, 111, 114, 100, 115, 46, 114, 101, 112]⟩, .int .i64 2, .int .i64 2, .int .i64 0, .string ⟨#[83, 116, 114, 105, 99, 116, 32, 80, 117, 114, 101, 32, 83, 111, 114, 116, 101, 100]⟩, .string ⟨#[116, 101, 120, 116, 44, 32, 105, 110, 116, 32, 62, 32, 116, 101, 120, 116]⟩, .func (.func 43) #[] #[], .func (.func 49) #[] #[], .bool false, .string ⟨#[119, 111, 114, 100, 115, 46, 108, 101, 115, 115]⟩, .int .i64 2, .int .i64 2, .int .i64 0, .string ⟨#[83, 116, 114, 105, 99, 116, 32, 80, 117, 114, 101, 32, 84, 111, 116, 97, 108, 32, 83, 111, 114, 116, 101, 100]⟩, .string ⟨#[116, 101, 120, 116, 44, 32, 116, 101, 120, 116, 32, 62, 32, 116, 114, 117, 116, 104]⟩, .func (.func 45) #[] #[], .func (.func 50) #[] #[], .bool false, .string ⟨#[119, 111, 114, 100, 115, 46, 111, 102]⟩, .int .i64 1, .int .i64 1, .int .i64 0, .string ⟨#[83, 116, 114, 105, 99, 116, 32, 80, 117, 114, 101, 32, 84, 111, 116, 97, 108, 32, 83, 111, 114, 116, 101, 100]⟩, .string ⟨#[105, 110, 116, 32, 62, 32, 116, 101, 120, 116]⟩, .func (.func 45) #[] #[], .func (.func 51) #[] #[], .bool false, .string ⟨#[119, 111, 114, 100, 115, 46, 110, 117, 109]⟩, .int .i64 1, .int .i64 1, .int .i64 0, .string ⟨#[83, 116, 114, 105, 99, 116, 32, 80, 117, 114, 101, 32, 83, 111, 114, 116, 101, 100]⟩, .string ⟨#[116, 101, 120, 116, 32, 62, 32, 105, 110, 116]⟩, .func (.func 43) #[] #[], .func (.func 52) #[] #[], .bool false, .string ⟨#[119, 111, 114, 100, 115, 46, 97, 108, 108]⟩, .int .i64 0, .int .i64 (-1), .int .i64 0, .string ⟨#[80, 117, 114, 101, 32, 83, 111, 114, 116, 101, 100, 32, 83, 117, 103, 97, 114]⟩, .string ⟨#[116, 101, 120, 116, 32, 46, 46, 32, 62, 32, 116, 101, 120, 116]⟩, .func (.func 53) #[] #[], .nilFunc, .bool false]
def wordsA : Value := .agg wordsC

theorem wordsC_tab : wordsC = (tabL wordsK).toArray := rfl
theorem wordsC_size : wordsC.size = 81 := by kernel_rfl
theorem arInfoW : (Tryz.prog.info? 70).map (·.size) = some wordsC.size := by kernel_rfl
theorem storeW (w : World) (cs : List Value) (h : cs = wordsC.toList) : (storeCells ⟨w.heap.size, 0, none⟩ cs 0).run Tryz.prog (w.alloc (.cells Tryz.zeroCells70 70)) = .ok () (w.alloc (.cells wordsC 70)) := by
  subst h
  exact run_storeCells_new w 70 _ _ arInfoW (by kernel_rfl) (by kernel_rfl)
theorem resW (tmps : Array Value) (w : World) (h : tmps.getD 0 undef = .pointer (some ⟨w.heap.size, 0, none⟩)) : (results Tryz.f29 tmps).run Tryz.prog (w.alloc (.cells wordsC 70)) = .ok wordsA (w.alloc (.cells wordsC 70)) := res_array Tryz.results29 Tryz.underlying70 tmps wordsC arInfoW w h
set_option maxRecDepth 100000 in
set_option maxHeartbeats 1000000 in
theorem kindsW_any (w : World) : Calls Tryz.prog 29 #[] w fun e w' => e = .returned wordsA ∧ Ext w w' := by
  go_enter Tryz.func29, Tryz.ntmps29
  go_wp2_with fail
  rw [storeW w _ (by kernel_rfl)]
  simp only [Result.andThen_ok, Oper.upon_skip]
  go_wp2_with fail
  refine bodyPost_ret (v := wordsA) (resW _ _ (by kernel_rfl)) rfl ?_
  exact ⟨rfl, Ext.alloc _ _⟩
theorem wordsA_agg : wordsA = .agg wordsC := rfl
set_option maxRecDepth 100000 in
set_option maxHeartbeats 1000000 in
theorem workW_of (op : ByteArray) (a : Option Addr) (n c : Nat) (w : World) (V : Value) (hV : ∃ x y z, V = .tuple #[x, y, z])
    (h : ∀ w1 tb, Ext w w1 → TabAt w1 tb wordsK → Calls Tryz.prog 30 #[.slice (some ⟨tb, 0, none⟩) 9 9, .string op, .slice a n c] w1 fun e w' => e = .returned V ∧ Ext w1 w') :
    Calls Tryz.prog 8 #[.string op, .slice a n c] w fun e w' => e = .returned V ∧ Ext w w' := by
  have H := hid h
  obtain ⟨x, y, z, hxyz⟩ := hV
  have HV := hid hxyz
  clear h hxyz
  go_enter Tryz.func8, Tryz.ntmps8
  go_wp2_with fail
  refine (kindsW_any w).mono ?_
  rintro e w1 ⟨rfl, hx1⟩
  have X1 := hid hx1
  clear hx1
  rw [wordsA_agg]
  have hsz : wordsC.size = 81 := wordsC_size
  go_wp2_with fail
  rw [storeW w1 _ rfl]
  simp only [Result.andThen_ok, Oper.upon_skip]
  have HT := hid (show TabAt (w1.alloc (.cells wordsC 70)) w1.heap.size wordsK from ⟨70, by rw [← wordsC_tab]; exact blk0 _ _⟩)
  go_wp2_with fail
  refine (H.out _ _ (X1.out.trans (Ext.alloc _ _)) HT.out).mono ?_
  rintro e w2 ⟨rfl, hx2⟩
  rw [HV.out]
  go_wp2_with fail
  go_ret3
  exact ⟨by first | rfl | (rw [HV.out]; rfl), (X1.out.trans (Ext.alloc _ _)).trans hx2⟩
end Go.Proofs.YtecabbifkcnbeaaGreatDoor
