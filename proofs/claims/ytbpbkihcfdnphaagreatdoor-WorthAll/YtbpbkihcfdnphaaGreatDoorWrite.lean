/-
  write and writeList, each by a contract: a value's text, behind bytes of one's own.
-/
import Derived.Test.YtbpbkihcfdnphaaGreatDoorEsc
import Derived.Test.YtbpbkihcfdnphaaGreatDoorFace
import Derived.Lib.ItoaLen
namespace Go.Proofs.YtbpbkihcfdnphaaGreatDoor
open Go.RowKit
attribute [local go_sem] as_un_un as_un_tu as_un_in as_un_tx as_un_li as_tu_un as_tu_tu as_tu_in as_tu_tx as_tu_li as_in_un as_in_tu as_in_in as_in_tx as_in_li as_tx_un as_tx_tu as_tx_in as_tx_tx as_tx_li as_li_un as_li_tu as_li_in as_li_tx as_li_li
namespace T
mutual
/-- A value's text. -/
def wr : T → List UInt8
  | node k n x ks => if k = 1 then [117, 110, 105, 116] else if k = 2 then (if n = 1 then [121, 101, 115] else [110, 111]) else if k = 3 then Lib.itoa n else if k = 4 then quo x else 91 :: (wrL ks ++ [93])
def wrL : List T → List UInt8 | [] => [] | t :: r => wr t ++ wrR r
def wrR : List T → List UInt8 | [] => [] | t :: r => [44, 32] ++ (wr t ++ wrR r)
end
mutual
def noInt : T → Prop | node k _ _ ks => k ≠ 3 ∧ noIntL ks
def noIntL : List T → Prop | [] => True | t :: r => noInt t ∧ noIntL r
end
mutual
/-- All numbers are ones of 64 bits. -/
def fitI : T → Prop | node k n _ ks => (k = 3 → -9223372036854775808 ≤ n ∧ n ≤ 9223372036854775807) ∧ fitIL ks
def fitIL : List T → Prop | [] => True | t :: r => fitI t ∧ fitIL r
end
theorem noIntL_mem {l : List T} (h : noIntL l) {u : T} (hu : u ∈ l) : noInt u := by
  induction l with
  | nil => cases hu
  | cons x r ih =>
    rcases List.mem_cons.1 hu with rfl | hu
    · exact h.1
    · exact ih h.2 hu
theorem fitIL_mem {l : List T} (h : fitIL l) {u : T} (hu : u ∈ l) : fitI u := by
  induction l with
  | nil => cases hu
  | cons x r ih =>
    rcases List.mem_cons.1 hu with rfl | hu
    · exact h.1
    · exact ih h.2 hu
mutual
theorem wr_len : ∀ t : T, fitI t → (wr t).length + 2 ≤ 26 * size t
  | node k n x ks, h => by
    have ih := wrL_len ks h.2
    have hq : (quo x).length ≤ 4 * x.size + 2 := by
      have := escs_len x.data.toList
      have e : x.data.toList.length = x.size := by rw [Array.length_toList]; rfl
      simp only [quo, List.length_cons, List.length_append, List.length_nil]
      omega
    simp only [wr, size]
    by_cases h1 : k = 1
    · rw [if_pos h1]; simp; omega
    rw [if_neg h1]
    by_cases h2 : k = 2
    · rw [if_pos h2]; split <;> simp <;> omega
    rw [if_neg h2]
    by_cases h3 : k = 3
    · rw [if_pos h3]
      have := Lib.itoa_length_le n (h.1 h3).1 (h.1 h3).2
      omega
    rw [if_neg h3]
    by_cases h4 : k = 4
    · rw [if_pos h4]; omega
    rw [if_neg h4]
    simp only [List.length_cons, List.length_append, List.length_nil]
    omega
theorem wrL_len : ∀ l : List T, fitIL l → (wrL l).length ≤ 26 * sizeL l
  | [], _ => by simp [wrL, sizeL]
  | t :: r, h => by
    have := wr_len t h.1
    have := wrR_len r h.2
    simp only [wrL, sizeL, List.length_append]
    omega
theorem wrR_len : ∀ l : List T, fitIL l → (wrR l).length ≤ 26 * sizeL l
  | [], _ => by simp [wrR, sizeL]
  | t :: r, h => by
    have := wr_len t h.1
    have := wrR_len r h.2
    simp only [wrR, sizeL, List.length_append, List.length_cons, List.length_nil]
    omega
end
theorem fitIL_take {l : List T} (h : fitIL l) (j : Nat) : fitIL (l.take j) := by
  induction l generalizing j with
  | nil => simp [fitIL]
  | cons x r ih =>
    cases j with
    | zero => simp [fitIL]
    | succ j => rw [List.take_succ_cons]; exact ⟨h.1, ih h.2 j⟩
theorem wrR_append (a b : List T) : wrR (a ++ b) = wrR a ++ wrR b := by
  induction a with
  | nil => simp [wrR]
  | cons x r ih => simp only [List.cons_append, wrR, ih, List.append_assoc]
theorem wrL_take (l : List T) (j : Nat) (h : j < l.length) : wrL (l.take (j + 1)) = wrL (l.take j) ++ ((if j = 0 then [] else [44, 32]) ++ wr l[j]) := by
  rw [take_succ' l j h]
  cases l with
  | nil => exact absurd h (Nat.not_lt_zero _)
  | cons t r =>
    cases j with
    | zero => simp [wrL, wrR]
    | succ j =>
      rw [List.take_succ_cons, List.cons_append, wrL, wrR_append, wrL]
      simp [wrR]
end T
/-- AppendInt, where what it reads is there. -/
structure AppI (B : Nat) (Tb : World → Prop) : Prop where
  keep : ∀ w w', Tb w → Below B w w' → Tb w'
  app : ∀ (i : Int) (sv : Value) (l : List UInt8) (w : World), -9223372036854775808 ≤ i → i ≤ 9223372036854775807 → Bs B w sv l → B ≤ w.heap.size → l.length + 21 ≤ 140737488355328 → Tb w →
    Calls Tryz.prog 42 #[sv, .int .i64 i, .int .i64 10] w fun e w' => ∃ ao c, e = .returned (.slice ao (l ++ Lib.itoa i).length c) ∧ Bs B w' (.slice ao (l ++ Lib.itoa i).length c) (l ++ Lib.itoa i) ∧ Below B w w'
theorem AppI.none (B : Nat) : AppI B (fun _ => False) := ⟨fun _ _ h _ => h, fun _ _ _ _ _ _ _ _ _ h => h.elim⟩
/-- What write answers. -/
def WrR (B : Nat) (w : World) (m : List UInt8) (e : Ending) (w' : World) : Prop := ∃ ao c, e = .returned (.slice ao m.length c) ∧ Bs B w' (.slice ao m.length c) m ∧ Below B w w'
def WrTo (B : Nat) (Tb : World → Prop) (d : Nat) : Prop := ∀ (v : Value) (t : T) (K : Nat → Prop) (w : World) (o : Value) (l : List UInt8), VRd K w d v t → (∀ g, K g → g < B) → B ≤ w.heap.size → Bs B w o l → l.length + 26 * t.size ≤ 100000000 → t.fitI → (t.noInt ∨ Tb w) →
    Calls Tryz.prog 28 #[o, v] w (WrR B w (l ++ t.wr))
theorem below_kp {B : Nat} {w w' : World} (h : Below B w w') {K : Nat → Prop} (hk : ∀ g, K g → g < B) : Kp K w w' := ⟨h.os, h.tape, h.output, h.size, fun k _ hK => h.block k (hk k hK)⟩
set_option maxRecDepth 100000 in
set_option maxHeartbeats 4000000 in
theorem writeList_of {B : Nat} {Tb : World → Prop} (HAPP : AppI B Tb) {d : Nat} (ih : WrTo B Tb d) (K : Nat → Prop) (w : World) (a : Option Addr) (c : Nat) (ks : List T) (o : Value) (l : List UInt8) (h : VRdL K w d a ks) (hK : ∀ g, K g → g < B) (hB : B ≤ w.heap.size) (hown : Bs B w o l)
    (hl : l.length + 26 * (1 + T.sizeL ks) ≤ 100000000) (hf : T.fitIL ks) (hi : T.noIntL ks ∨ Tb w) :
    Calls Tryz.prog 44 #[o, .slice a ks.length c] w (WrR B w (l ++ (91 :: (T.wrL ks ++ [93])))) := by
  have HIH := hid ih
  have HA := hid h
  have HO := hid hown
  have HB := hid hB
  have HKB := hid hK
  have HL := hid hl
  have HF := hid hf
  have HI := hid hi
  have hlen : (ks.length : Int) ≤ 140737488355328 := by have := h.1; omega
  clear ih h hown hB hK hf hi hl
  obtain ⟨ao, c0, rfl⟩ := HO.out.shape
  go_enter Tryz.func44, Tryz.ntmps44
  go_wp2_with (at_builtin; refine app_lit rfl _ _ rfl rfl B _ l [91] rfl HB.out HO.out rfl rfl rfl (by have := HL.out; simp; omega) ?_; intro a1 c1 w1 ho1 hb1)
  have HO1 := hid ho1
  have HB1 := hid hb1
  clear ho1 hb1
  go_loopw [0, 12] (fun o i wr => ∃ (j : Nat) (a' : Option Addr) (c' : Nat), j ≤ ks.length ∧ i = .int .i64 j ∧ o = .slice a' (l ++ [91] ++ T.wrL (ks.take j)).length c' ∧ Bs B wr (.slice a' (l ++ [91] ++ T.wrL (ks.take j)).length c') (l ++ [91] ++ T.wrL (ks.take j)) ∧ Below B w wr) (fun _ i _ => ks.length - (intOf i).toNat)
  case atStart => exact ⟨0, a1, c1, Nat.zero_le _, rfl, by simp [T.wrL], by simpa [T.wrL] using HO1.out, HB1.out⟩
  case round =>
    obtain ⟨j, a', c', hj, rfl, rfl, hbs, hbw⟩ := hrel
    have HBS := hid hbs
    have HBW := hid hbw
    have HBZ := hid (Nat.le_trans HB.out hbw.size)
    clear hbs hbw
    have hwl := T.wrL_len (ks.take j) (T.fitIL_take HF.out j)
    have hsp := T.sizeL_split ks j
    by_cases hlt : j < ks.length
    · have hlt' : (j : Int) < ks.length := by omega
      have HT := hid (T.wrL_take ks j hlt)
      have hst := T.sizeL_take ks j hlt
      have hs2 := T.sizeL_split ks (j + 1)
      obtain ⟨g, off, τ, p, rfl, hg, h4, hr⟩ := HA.out.kid hlt
      have m0 := (below_kp HBW.out HKB.out).cell h4 hg
      have hgl := lt_of_cell m0
      have HBD := hid (show (l ++ [91] ++ T.wrL (ks.take j)).length + 2 + 26 * ks[j].size ≤ 100000000 by
        have := HL.out
        simp only [List.length_append, List.length_cons, List.length_nil]
        omega)
      have HC := hid (fun (w2 : World) (o2 : Value) (l2 : List UInt8) (hb : Below B w w2) (ho : Bs B w2 o2 l2) (hl2 : l2.length + 26 * ks[j].size ≤ 100000000) =>
        HIH.out _ ks[j] K w2 o2 l2 (hr.keep (below_kp hb HKB.out)) HKB.out (Nat.le_trans HB.out hb.size) ho hl2 (T.fitIL_mem HF.out (List.getElem_mem hlt)) (HI.out.elim (fun h => .inl (T.noIntL_mem h (List.getElem_mem hlt))) (fun h => .inr (HAPP.keep _ _ h hb))))
      clear hr h4 hg hwl hsp hst hs2
      generalize hacc : l ++ [91] ++ T.wrL (ks.take j) = acc at HBS HBD ⊢
      have HACC := hid hacc
      clear hacc
      by_cases j0 : j = 0
      · have HT' := hid (show l ++ [91] ++ T.wrL (ks.take (j + 1)) = acc ++ ks[j].wr by rw [HT.out, if_pos j0, List.nil_append, ← List.append_assoc, HACC.out])
        have q0 : decide ((0 : Int) < (j : Int)) = false := decide_eq_false (by omega)
        have q1 : (j : Int) ≤ 0 := by omega
        clear j0 HT
        go_wp2_with fail
        refine (HC.out _ _ acc HBW.out HBS.out (by have := HBD.out; omega)).mono ?_
        rintro e w2 ⟨a2, c2, rfl, ho2, hb2⟩
        have HREL := hid (show ∃ (j' : Nat) (a' : Option Addr) (c' : Nat), j' ≤ ks.length ∧ Value.int .i64 ((j : Int) + 1) = .int .i64 j' ∧ Value.slice a2 (acc ++ ks[j].wr).length c2 = .slice a' (l ++ [91] ++ T.wrL (ks.take j')).length c' ∧ Bs B w2 (.slice a' (l ++ [91] ++ T.wrL (ks.take j')).length c') (l ++ [91] ++ T.wrL (ks.take j')) ∧ Below B w w2 from
          ⟨j + 1, a2, c2, hlt, by go_num, by rw [HT'.out], by rw [HT'.out]; exact ho2, HBW.out.trans hb2⟩)
        clear ho2 hb2
        generalize (acc ++ ks[j].wr).length = al at *
        go_wp2_with fail
        go_roundw
        case rel => first | exact HREL.out | ((repeat apply Exists.intro); exact ⟨HREL.out, rfl⟩)
        case measure => simp [intOf]; omega
      · have HT' := hid (show l ++ [91] ++ T.wrL (ks.take (j + 1)) = acc ++ [44, 32] ++ ks[j].wr by rw [HT.out, if_neg j0, ← List.append_assoc, ← List.append_assoc, HACC.out])
        have q1 : (0 : Int) < j := by omega
        clear HT
        go_wp2_with (at_builtin; refine app_str rfl _ _ rfl B _ acc rfl HBZ.out HBS.out ⟨#[44, 32]⟩ rfl (by have := HBD.out; show acc.length + 2 ≤ _; omega) ?_; intro a3 c3 w3 ho3 hb3)
        have HO3 := hid (show Bs B w3 (.slice a3 (acc.length + 2) c3) (acc ++ [44, 32]) by have e : Bs B w3 (.slice a3 (acc ++ [44, 32]).length c3) (acc ++ [44, 32]) := ho3; rw [List.length_append] at e; exact e)
        have HB3 := hid (HBW.out.trans hb3)
        have HE3 := hid (show (acc ++ [44, 32]).length = acc.length + 2 by simp)
        clear ho3 hb3 m0
        refine (HC.out _ _ (acc ++ [44, 32]) HB3.out HO3.out (by have := HBD.out; have := HE3.out; omega)).mono ?_
        rintro e w2 ⟨a2, c2, rfl, ho2, hb2⟩
        have HREL := hid (show ∃ (j' : Nat) (a' : Option Addr) (c' : Nat), j' ≤ ks.length ∧ Value.int .i64 ((j : Int) + 1) = .int .i64 j' ∧ Value.slice a2 (acc ++ ([44, 32] : List UInt8) ++ ks[j].wr).length c2 = Value.slice a' (l ++ [91] ++ T.wrL (ks.take j')).length c' ∧ Bs B w2 (.slice a' (l ++ [91] ++ T.wrL (ks.take j')).length c') (l ++ [91] ++ T.wrL (ks.take j')) ∧ Below B w w2 from
          ⟨j + 1, a2, c2, hlt, by go_num, by rw [HT'.out], (by rw [HT'.out]; exact ho2), HB3.out.trans hb2⟩)
        clear ho2 hb2
        generalize (acc ++ [44, 32] ++ ks[j].wr).length = al at *
        go_wp2_with fail
        go_roundw
        case rel => first | exact HREL.out | ((repeat apply Exists.intro); exact ⟨HREL.out, rfl⟩)
        case measure => simp [intOf]; omega
    · have hje : j = ks.length := by omega
      have HF2 := hid (show l ++ [91] ++ T.wrL (ks.take j) ++ [93] = l ++ (91 :: (T.wrL ks ++ [93])) by rw [hje, List.take_length]; simp)
      have HBD := hid (show (l ++ [91] ++ T.wrL (ks.take j)).length + 2 ≤ 100000000 by
        have := HL.out
        simp only [List.length_append, List.length_cons, List.length_nil]
        omega)
      clear hwl hsp
      generalize l ++ [91] ++ T.wrL (ks.take j) = acc at HBS HBD HF2 ⊢
      go_wp2_with (at_builtin; refine app_lit rfl _ _ rfl rfl B _ acc [93] rfl HBZ.out HBS.out rfl rfl rfl (by have := HBD.out; simp; omega) ?_; intro a2 c2 w2 ho2 hb2)
      go_ret
      rw [HF2.out] at ho2
      exact ⟨a2, c2, ret_sl (by rw [← HF2.out]; simp), ho2, HBW.out.trans hb2⟩
theorem WrR.mono {B : Nat} {w w1 : World} {m : List UInt8} {e : Ending} {w' : World} (h : WrR B w1 m e w') (hb : Below B w w1) : WrR B w m e w' := by
  obtain ⟨ao, c, h1, h2, h3⟩ := h
  exact ⟨ao, c, h1, h2, hb.trans h3⟩
set_option maxRecDepth 100000 in
set_option maxHeartbeats 4000000 in
theorem write_any {B : Nat} {Tb : World → Prop} (HAPP : AppI B Tb) : ∀ d, WrTo B Tb d := by
  intro d
  induction d with
  | zero => intro v t K w o l h; exact h.elim
  | succ d ih =>
    intro v t K w o l h hK hB hown hl hf hi
    obtain ⟨k, n, x, ks⟩ := t
    obtain ⟨ao, c0, rfl⟩ := hown.shape
    have HO := hid hown
    have HB := hid hB
    have HL := hid hl
    clear hown hB hl
    rcases h with ⟨rfl, rfl, rfl, rfl, rfl⟩ | ⟨rfl, rfl, rfl, b, hn, rfl⟩ | ⟨rfl, rfl, rfl, rfl⟩ | ⟨rfl, rfl, rfl, hxs, rfl⟩ | ⟨rfl, rfl, rfl, hll, a, c, rfl, hks⟩
    · have HW := hid (show T.wr (.node 1 0 ⟨#[]⟩ []) = [117, 110, 105, 116] by simp [T.wr])
      clear ih hf hi hK
      go_enter Tryz.func28, Tryz.ntmps28
      go_wp2_with (at_builtin; refine app_str rfl _ _ rfl B _ l rfl HB.out HO.out ⟨#[117, 110, 105, 116]⟩ rfl (by have := HL.out; show l.length + 4 ≤ _; omega) ?_; intro a3 c3 w3 ho3 hb3)
      go_ret
      rw [HW.out]
      exact ⟨a3, c3, ret_sl (by simp), ho3, hb3⟩
    · clear ih hf hi hK
      cases b with
      | true =>
        have HW := hid (show T.wr (.node 2 n ⟨#[]⟩ []) = [121, 101, 115] by rw [hn]; simp [T.wr])
        clear hn
        go_enter Tryz.func28, Tryz.ntmps28
        go_wp2_with (at_builtin; refine app_str rfl _ _ rfl B _ l rfl HB.out HO.out ⟨#[121, 101, 115]⟩ rfl (by have := HL.out; show l.length + 3 ≤ _; omega) ?_; intro a3 c3 w3 ho3 hb3)
        go_ret
        rw [HW.out]
        exact ⟨a3, c3, ret_sl (by simp), ho3, hb3⟩
      | false =>
        have HW := hid (show T.wr (.node 2 n ⟨#[]⟩ []) = [110, 111] by rw [hn]; simp [T.wr])
        clear hn
        go_enter Tryz.func28, Tryz.ntmps28
        go_wp2_with (at_builtin; refine app_str rfl _ _ rfl B _ l rfl HB.out HO.out ⟨#[110, 111]⟩ rfl (by have := HL.out; show l.length + 2 ≤ _; omega) ?_; intro a3 c3 w3 ho3 hb3)
        go_ret
        rw [HW.out]
        exact ⟨a3, c3, ret_sl (by simp), ho3, hb3⟩
    · have HW := hid (show T.wr (.node 3 n ⟨#[]⟩ []) = Lib.itoa n by simp [T.wr])
      have hTb : Tb w := hi.elim (fun h => absurd rfl h.1) id
      have HC := hid (HAPP.app n _ l w (hf.1 rfl).1 (hf.1 rfl).2 HO.out HB.out (by have := HL.out; omega) hTb)
      clear ih hf hi hK hTb
      go_enter Tryz.func28, Tryz.ntmps28
      go_wp2_with (go_at_call 42; refine HC.out.mono ?_; rintro e w2 ⟨a3, c3, rfl, ho3, hb3⟩)
      go_ret
      rw [HW.out]
      exact ⟨a3, c3, ret_sl (by simp), ho3, hb3⟩
    · have HW := hid (show T.wr (.node 4 0 x []) = quo x by simp [T.wr])
      have HC := hid (writeText_any B _ l x w HB.out HO.out (by have := HL.out; simp only [T.size] at this; omega) (by have := HL.out; omega))
      clear ih hf hi hK
      go_enter Tryz.func28, Tryz.ntmps28
      go_wp2_with (go_at_call 43; refine HC.out.mono ?_; rintro e w2 ⟨a3, c3, rfl, ho3, hb3⟩)
      go_ret
      rw [HW.out]
      exact ⟨a3, c3, ret_sl (by simp), ho3, hb3⟩
    · have HW := hid (show T.wr (.node 5 0 ⟨#[]⟩ ks) = 91 :: (T.wrL ks ++ [93]) by simp [T.wr])
      have HC := hid (writeList_of HAPP ih K w a c ks _ l ⟨hll, hks⟩ hK HB.out HO.out (by have := HL.out; simp only [T.size] at this; omega) hf.2 (hi.imp (fun h => h.2) id))
      clear ih hf hi hK hks
      go_enter Tryz.func28, Tryz.ntmps28
      go_wp2_with (go_at_call 44; refine HC.out.mono ?_; rintro e w2 ⟨a3, c3, rfl, ho3, hb3⟩)
      go_ret
      rw [HW.out]
      exact ⟨a3, c3, ret_sl (by simp), ho3, hb3⟩
end Go.Proofs.YtbpbkihcfdnphaaGreatDoor
