/-
  The reference's value of the reader by a contract.
-/
import Derived.Test.YtecabbifkcnbeaaGreatDoorRNum
import Derived.Test.YtecabbifkcnbeaaGreatDoorWRdQ
import Derived.WalkSpells
namespace Go.Proofs.YtecabbifkcnbeaaGreatDoor
open Go.RowKit
/-- A row grown by one plain value. -/
theorem row_push {w2 w9 : World} {base d N m : Nat} {lv lv9 : Value} {acc : List T} {xs : List Value} {e0 e1 e2 e3 : Value} {t : T} (hown : w2.ownsRow base 34 4 lv m xs) (hok : RowOk w2 base d lv acc xs) (hm : m = acc.length)
    (hlow : ∀ q, lv.ownBlock = some q → base ≤ q ∧ q < N) (hbN : base ≤ N) (hrd : Rd (fun q => N ≤ q) w2 d (.agg #[e0, e1, e2, e3]) t) (K9 : Kp (fun q => some q ≠ lv.ownBlock) w2 w9)
    (hat9 : lv9.ownBlock = lv.ownBlock ∨ ∃ q, w2.heap.size ≤ q ∧ lv9.ownBlock = some q) : RowOk w9 base d lv9 (acc ++ [t]) (xs ++ [e0, e1, e2, e3]) := by
  have hxl : xs.length = m * 4 := hown.1
  have hat : ∀ q, q < w2.heap.size → some q ≠ lv.ownBlock → lv9.ownBlock ≠ some q := fun q hq hne e => by
    rcases hat9 with h | ⟨q', h1, h⟩
    · exact hne (e.symm.trans h)
    · rw [h] at e
      simp only [Option.some.injEq] at e
      omega
  intro i hi
  have hi' : i < acc.length + 1 := by simpa using hi
  by_cases hij : i < acc.length
  · obtain ⟨y0, y1, y2, y3, z0, z1, z2, z3, hrd'⟩ := hok i hij
    have e : (acc ++ [t])[i] = acc[i] := List.getElem_append_left hij
    rw [e]
    refine ⟨y0, y1, y2, y3, by rw [List.getElem?_append_left (by omega)]; exact z0, by rw [List.getElem?_append_left (by omega)]; exact z1, by rw [List.getElem?_append_left (by omega)]; exact z2, by rw [List.getElem?_append_left (by omega)]; exact z3, ?_⟩
    refine ((hrd'.mono (L := fun q => (base ≤ q ∧ q < w2.heap.size) ∧ some q ≠ lv.ownBlock) (fun q hq h => ⟨⟨h.1, hq⟩, fun e => h.2 e.symm⟩)).keep (K9.mono (fun q _ h => h.2))).mono (fun q _ h => ⟨h.1.1, hat q h.1.2 h.2⟩)
  · have hij' : i = acc.length := by omega
    subst hij'
    have e : (acc ++ [t])[acc.length] = t := by simp
    rw [e]
    rw [← hm]
    refine ⟨_, _, _, _, by rw [List.getElem?_append_right (by omega), hxl, Nat.sub_self]; rfl, by rw [List.getElem?_append_right (by omega), hxl, show m * 4 + 1 - m * 4 = 1 by omega]; rfl, by rw [List.getElem?_append_right (by omega), hxl, show m * 4 + 2 - m * 4 = 2 by omega]; rfl, by rw [List.getElem?_append_right (by omega), hxl, show m * 4 + 3 - m * 4 = 3 by omega]; rfl, ?_⟩
    refine ((hrd.mono (L := fun q => (N ≤ q ∧ q < w2.heap.size) ∧ some q ≠ lv.ownBlock) (fun q hq h => ⟨⟨h, hq⟩, fun e => by have := (hlow q e.symm).2; have h' : N ≤ q := h; omega⟩)).keep (K9.mono (fun q _ h => h.2))).mono (fun q _ h => ⟨by have := h.1.1; omega, hat q h.1.2 h.2⟩)
theorem row_ok_keep {K : Nat → Prop} {w w' : World} {base d : Nat} {lv : Value} {acc : List T} {xs : List Value} (h : RowOk w base d lv acc xs) (hk : Kp K w w') (hK : ∀ q, base ≤ q → K q) : RowOk w' base d lv acc xs := fun j hj => by
  obtain ⟨y0, y1, y2, y3, z0, z1, z2, z3, hrd⟩ := h j hj
  exact ⟨y0, y1, y2, y3, z0, z1, z2, z3, hrd.keep (hk.mono (fun q _ h => hK q h.1))⟩
/-- A row, read as a list. -/
theorem row_list {w : World} {base d c : Nat} {a : Option Addr} {acc : List T} {xs : List Value} (hrow : w.ownsRow base 34 4 (.slice a acc.length c) acc.length xs) (hok : RowOk w base d (.slice a acc.length c) acc xs) (hl : acc.length * 56 ≤ 140737488351232) :
    Rd (fun q => base ≤ q) w (d + 1) (.agg #[.int .i64 5, .int .i64 0, .string ⟨#[]⟩, .slice a acc.length c]) (.node 5 0 ⟨#[]⟩ acc) := by
  refine ⟨a, c, rfl, by decide, hl, ?_⟩
  rcases hrow.2 with ⟨_, h0⟩ | ⟨g, cap, cur, hv, hge, hcur, hcap⟩
  · exact .inl (List.eq_nil_of_length_eq_zero h0)
  · injection hv with h1 _ h3
    subst h1
    subst h3
    have hxl := hrow.1
    refine .inr ⟨g, 0, rfl, hge, fun i hi => ?_⟩
    obtain ⟨y0, y1, y2, y3, o0, o1, o2, o3, hrd⟩ := hok i hi
    have ce : ∀ (e : Nat) (y : Value), e < 4 → xs[i * 4 + e]? = some y → w.cell? ⟨g, i * 4 + e, none⟩ = some y := fun e y he hy => (hrow.cellAt (i * 4 + e) (by omega)).trans hy
    refine ⟨y0, y1, y2, y3, ⟨?_, ?_, ?_, ?_⟩, hrd.mono (fun q _ h => h.1)⟩
    · rw [Nat.zero_add]; exact ce 0 y0 (by omega) o0
    · rw [Nat.zero_add]; exact ce 1 y1 (by omega) o1
    · rw [Nat.zero_add]; exact ce 2 y2 (by omega) o2
    · rw [Nat.zero_add]; exact ce 3 y3 (by omega) o3
theorem RvP.shape {w w' : World} {b : Nat} {s : ByteArray} {bd : Int} {d : Nat} {r : Rs} {e : Ending} (h : RvP w b s bd d r e w') : ∃ k n x a l c, e = .returned (.agg #[.int .i64 k, .int .i64 n, .string x, .slice a l c]) := by
  obtain ⟨_, h⟩ := h
  cases r with
  | ok t i =>
    obtain ⟨v', rfl, hr, _⟩ := h
    obtain ⟨u0, u1, u2, u3, rfl⟩ := hr.agg
    obtain ⟨k, n, x, a, c, rfl, rfl, rfl, rfl⟩ := hr.shape
    exact ⟨_, _, _, _, _, _, rfl⟩
  | bad c i => exact h.1
/-- An answer of a call within, handed on. -/
theorem RvP.put {w W w2 w3 : World} {b : Nat} {s : ByteArray} {bd : Int} {d : Nat} {r : Rs} {e : Ending} (h : RvP W b s bd d r e w2) (hK : Kp (· ≠ b) w W) (hW : w.heap.size < W.heap.size) (hne : w.heap.size ≠ b) (k4 : Kp (· ≠ w.heap.size) w2 w3) : RvP w b s bd d r e w3 := by
  obtain ⟨h1, h⟩ := h
  refine ⟨(hK.trans h1).trans' (n := w.heap.size) (L := fun _ => False) (k4.mono (fun q _ h => fun e => h.elim (fun h => by omega) id)), ?_⟩
  cases r with
  | ok t i =>
    obtain ⟨v', rfl, hr, h3, h4⟩ := h
    refine ⟨v', rfl, (hr.keep (k4.mono (fun q _ h e => by have h' : W.heap.size ≤ q := h; omega))).mono (fun q _ h => ?_), k4.block' h3 (fun e => hne e.symm), h4⟩
    have h' : W.heap.size ≤ q := h
    show w.heap.size ≤ q
    omega
  | bad c i => obtain ⟨h5, ⟨j, h6, h7⟩, h8⟩ := h; exact ⟨h5, ⟨j, k4.block' h6 (fun e => hne e.symm), h7⟩, h8⟩
theorem word_rvp {w W w2 w3 : World} {b : Nat} {s : ByteArray} {i : Nat} {bd : Int} {d : Nat} {l : List UInt8} {k n : Int} {m : Nat} (hwd : WdP W b s i bd (wordK s i l) m w2) (hm : m = l.length) (hK : Kp (· ≠ b) w W) (hne : w.heap.size ≠ b) (k4 : Kp (· ≠ w.heap.size) w2 w3) :
    RvP w b s bd (d + 1) (wrdR s i l (.node k n ⟨#[]⟩ [])) (.returned (.agg #[.int .i64 k, .int .i64 n, .string ⟨#[]⟩, .slice none 0 0])) w3 := by
  obtain ⟨h1, h2, h3⟩ := hwd
  refine ⟨(hK.trans h1.1).trans' (n := w.heap.size) (L := fun _ => False) (k4.mono (fun q _ h => fun e => h.elim (fun h => by omega) id)), ?_⟩
  unfold wrdR
  subst hm
  rcases h3 with ⟨h3, h4⟩ | ⟨h3, h4⟩
  · rw [if_pos h3]
    exact ⟨_, rfl, ⟨none, 0, rfl, by decide, by decide, .inl rfl⟩, k4.block' h4 (fun e => hne e.symm), h2⟩
  · rw [if_neg h3]
    exact ⟨⟨_, _, _, _, _, _, rfl⟩, ⟨_, k4.block' h4 (fun e => hne e.symm), h2⟩, by decide⟩
theorem wordK_two (s : ByteArray) (i : Nat) : wordK s i [44, 32] = if nxt s i = 44 then (if nxt s (i + 1) = 32 then 2 else 1) else 0 := by
  have e : (44 : UInt8).toNat = 44 := rfl
  have e2 : (32 : UInt8).toNat = 32 := rfl
  simp only [wordK, e, e2]
  repeat (first | rfl | split)
theorem rdX_ge {s : ByteArray} {f n i : Nat} {t : T} {a : Nat} (h : rdX s f n i = .ok t a) : i ≤ a := by
  rcases rdX_rel s f n i with e | ⟨_, _, _, _, e⟩
  · rw [e] at h
    exact rdV_ge (fun i t a h => quoQ_ge h) f n i t a h
  · rw [e] at h; cases h
theorem rdXL_bad {s : ByteArray} {f n i : Nat} {acc : List T} {e a : Nat} (h : rdX s f n i = .bad e a) : rdXL s (f + 1) n i acc = .bad e a := by simp only [rdXL, h]
theorem rdXL_ok {s : ByteArray} {f n i : Nat} {acc : List T} {t : T} {a : Nat} (h : rdX s f n i = .ok t a) : rdXL s (f + 1) n i acc = if nxt s a = 93 then .ok (.node 5 0 ⟨#[]⟩ (acc ++ [t])) (a + 1) else if nxt s a = 44 then (if nxt s (a + 1) = 32 then rdXL s f n (a + 2) (acc ++ [t]) else .bad 5 (a + 1)) else .bad 5 a := by simp only [rdXL, h]
/-- What is asked of value, with so much fuel. -/
def ValX (b : Nat) (s : ByteArray) (f : Nat) : Prop := ∀ (w : World) (bd : Int) (n i : Nat), RRAt w b s i bd 0 → i ≤ s.size → n ≤ 64 → 2 * (s.size - i) + 1 ≤ f →
  Calls Tryz.prog 113 #[.pointer (some ⟨b, 0, none⟩), .int .i64 n] w (RvP w b s bd (65 - n) (rdX s f n i))
/-- What the list's loop holds. -/
def VlSt (w : World) (b P : Nat) (s : ByteArray) (bd : Int) (n d F : Nat) (r : Rs) (wr : World) : Prop :=
  Kp (· ≠ b) w wr ∧ wr.heap[w.heap.size]? = some (.cells #[.int .i64 0, .int .i64 0, .string ⟨#[]⟩, .slice none 0 0] 34) ∧
   ((∃ f j acc av cv xs, RRAt wr b s j bd 0 ∧ j ≤ s.size ∧ acc.length ≤ j ∧ (f ≤ F ∧ 2 * (s.size - j) + 2 ≤ f) ∧ rdXL s f (n + 1) j acc = r ∧ wr.heap[P]? = some (.cells #[.int .i64 5, .int .i64 0, .string ⟨#[]⟩, .slice av acc.length cv] 34) ∧ wr.ownsRow (P + 1) 34 4 (.slice av acc.length cv) acc.length xs ∧ RowOk wr (P + 1) d (.slice av acc.length cv) acc xs) ∨
    (∃ (c a ar : Nat) (av : Option Addr) (al cv : Nat), r = .bad c a ∧ RRAt wr b s ar (a : Int) (c : Int) ∧ ar ≤ s.size ∧ c ≠ 0 ∧ wr.heap[P]? = some (.cells #[.int .i64 5, .int .i64 0, .string ⟨#[]⟩, .slice av al cv] 34)))
set_option maxRecDepth 100000 in
set_option maxHeartbeats 8000000 in
theorem rval_any {b : Nat} {s : ByteArray} (hs : s.size ≤ 1048576) : ∀ f, ValX b s f := by
  intro f
  induction f using Nat.strongRecOn with
  | ind f ih =>
  intro w bd n i h hi hn hf
  obtain ⟨F, rfl⟩ : ∃ F, f = F + 1 := ⟨f - 1, by omega⟩
  have hbl := lt_of_block h
  have HNE := hid (show w.heap.size ≠ b by omega)
  have HBL := hid hbl
  have HIH := hid ih
  obtain ⟨d, hd⟩ : ∃ d, 64 - n = d := ⟨_, rfl⟩
  rw [show 65 - n = d + 1 by omega]
  obtain ⟨r, hr⟩ : ∃ r, rdX s (F + 1) n i = r := ⟨_, rfl⟩
  rw [hr]
  obtain ⟨g0, hg0⟩ : ∃ g0, nxt s i = g0 := ⟨_, rfl⟩
  obtain ⟨g, hg⟩ : ∃ g, pk s i = g := ⟨_, rfl⟩
  have HGG := hid (show ∀ c, c ≠ 0 → c < 256 → (g = c ↔ g0 = c) from fun c h0 h1 => by rw [← hg, ← hg0]; exact pk_nxt h0 h1)
  have HDG := hid (show digP g ↔ digP g0 by rw [← hg, ← hg0]; exact pk_dig)
  have HIN := hid (show g < 256 → i < s.size from fun h => (pk_in (by rw [hg]; exact h)).1)
  have HRW := hid (show r = if g = 117 then wrdR s i [117, 110, 105, 116] (.node 1 0 ⟨#[]⟩ [])
    else if g = 121 then wrdR s i [121, 101, 115] (.node 2 1 ⟨#[]⟩ [])
    else if g = 110 then wrdR s i [110, 111] (.node 2 0 ⟨#[]⟩ [])
    else if g = 45 ∨ digP g then numX s i
    else if g = 34 then quoQ s i
    else if g = 91 then (if n = 64 then .bad 2 i else if nxt s (i + 1) = 93 then .ok (.node 5 0 ⟨#[]⟩ []) (i + 2) else rdXL s F (n + 1) (i + 1) [])
    else .bad 5 i by
      rw [← hr]
      simp only [rdX, hg0, HGG.out 117 (by decide) (by decide), HGG.out 121 (by decide) (by decide), HGG.out 110 (by decide) (by decide), HGG.out 45 (by decide) (by decide), HGG.out 34 (by decide) (by decide), HGG.out 91 (by decide) (by decide), HDG.out])
  have HGE := hid hg
  have HX0 := hid (Ext.alloc w (.cells #[.int .i64 0, .int .i64 0, .string ⟨#[]⟩, .slice none 0 0] 34))
  have HH := hid (show RRAt (w.alloc (.cells #[.int .i64 0, .int .i64 0, .string ⟨#[]⟩, .slice none 0 0] 34)) b s i bd 0 from blkOld _ h)
  have HRB0 := hid (blk0 w (.cells #[.int .i64 0, .int .i64 0, .string ⟨#[]⟩, .slice none 0 0] 34))
  have hn' : (n : Int) ≤ 64 := by omega
  have HF := hid hf
  have HD := hid hd
  clear h hbl hr ih hg hg0 hf hd HGG HDG
  go_enter Tryz.func113, Tryz.ntmps113
  go_wp2_with fail
  refine (peek_any _ b s i bd 0 HH.out hi hs).mono ?_
  rintro e w1 ⟨rfl, k1, rfl⟩
  rw [HGE.out]
  have HR := hid (HH.out.drewN k1)
  have HK := hid ((HX0.out.kp (· ≠ b)).trans ((Rk.refl b _).drewN k1).1)
  have HRB := hid (((Rk.refl b (w.alloc (.cells #[.int .i64 0, .int .i64 0, .string ⟨#[]⟩, .slice none 0 0] 34))).drewN k1).1.block' HRB0.out HNE.out)
  generalize (w.alloc (.cells #[.int .i64 0, .int .i64 0, .string ⟨#[]⟩, .slice none 0 0] 34)).drewN k1 = W at *
  clear HH HX0 HRB0
  have HWS := hid (lt_of_block HRB.out)
  by_cases g117 : g = 117
  · rw [if_pos g117] at HRW
    have HC := hid (rword_any W b s i bd ⟨#[117, 110, 105, 116]⟩ HR.out hi hs (by decide) (by decide))
    subst g117
    go_wp2_with (first | (go_at_call 153; refine HC.out.mono ?_; rintro e w2 ⟨rfl, hwd⟩; have HRBF := hid (hwd.1.1.block' HRB.out HNE.out); obtain ⟨r0, r1, r2, r3⟩ := four_of HRBF.out; obtain ⟨e0, e1, e2, e3⟩ := four_free HRBF.out))
    obtain ⟨z0, z1, z2, z3⟩ := four_of (four_set (u0 := .int .i64 1) (u1 := .int .i64 0) (u2 := .string ⟨#[]⟩) (u3 := .slice none 0 0) HRBF.out)
    refine bodyPost_ret (v := .agg #[.int .i64 1, .int .i64 0, .string ⟨#[]⟩, .slice none 0 0]) (by simp [results, Tryz.results113, go_sem, z0, z1, z2, z3]) rfl ?_
    have k4 := Kp.set4 w2 w.heap.size 0 (.int .i64 1) (.int .i64 0) (.string ⟨#[]⟩) (.slice none 0 0)
    rw [HRW.out]
    exact word_rvp (l := [117, 110, 105, 116]) hwd rfl HK.out HNE.out k4
  rw [if_neg g117] at HRW
  have q117 : ((g : Int) == 117) = false := by rw [beq_eq_false_iff_ne]; omega
  by_cases g121 : g = 121
  · rw [if_pos g121] at HRW
    have HC := hid (rword_any W b s i bd ⟨#[121, 101, 115]⟩ HR.out hi hs (by decide) (by decide))
    subst g121
    go_wp2_with (first | (go_at_call 153; refine HC.out.mono ?_; rintro e w2 ⟨rfl, hwd⟩; have HRBF := hid (hwd.1.1.block' HRB.out HNE.out); obtain ⟨r0, r1, r2, r3⟩ := four_of HRBF.out; obtain ⟨e0, e1, e2, e3⟩ := four_free HRBF.out))
    obtain ⟨z0, z1, z2, z3⟩ := four_of (four_set (u0 := .int .i64 2) (u1 := .int .i64 1) (u2 := .string ⟨#[]⟩) (u3 := .slice none 0 0) HRBF.out)
    refine bodyPost_ret (v := .agg #[.int .i64 2, .int .i64 1, .string ⟨#[]⟩, .slice none 0 0]) (by simp [results, Tryz.results113, go_sem, z0, z1, z2, z3]) rfl ?_
    have k4 := Kp.set4 w2 w.heap.size 0 (.int .i64 2) (.int .i64 1) (.string ⟨#[]⟩) (.slice none 0 0)
    rw [HRW.out]
    exact word_rvp (l := [121, 101, 115]) hwd rfl HK.out HNE.out k4
  rw [if_neg g121] at HRW
  have q121 : ((g : Int) == 121) = false := by rw [beq_eq_false_iff_ne]; omega
  by_cases g110 : g = 110
  · rw [if_pos g110] at HRW
    have HC := hid (rword_any W b s i bd ⟨#[110, 111]⟩ HR.out hi hs (by decide) (by decide))
    subst g110
    go_wp2_with (first | (go_at_call 153; refine HC.out.mono ?_; rintro e w2 ⟨rfl, hwd⟩; have HRBF := hid (hwd.1.1.block' HRB.out HNE.out); obtain ⟨r0, r1, r2, r3⟩ := four_of HRBF.out; obtain ⟨e0, e1, e2, e3⟩ := four_free HRBF.out))
    obtain ⟨z0, z1, z2, z3⟩ := four_of (four_set (u0 := .int .i64 2) (u1 := .int .i64 0) (u2 := .string ⟨#[]⟩) (u3 := .slice none 0 0) HRBF.out)
    refine bodyPost_ret (v := .agg #[.int .i64 2, .int .i64 0, .string ⟨#[]⟩, .slice none 0 0]) (by simp [results, Tryz.results113, go_sem, z0, z1, z2, z3]) rfl ?_
    have k4 := Kp.set4 w2 w.heap.size 0 (.int .i64 2) (.int .i64 0) (.string ⟨#[]⟩) (.slice none 0 0)
    rw [HRW.out]
    exact word_rvp (l := [110, 111]) hwd rfl HK.out HNE.out k4
  rw [if_neg g110] at HRW
  have q110 : ((g : Int) == 110) = false := by rw [beq_eq_false_iff_ne]; omega
  by_cases gn : g = 45 ∨ digP g
  · rw [if_pos gn] at HRW
    have HC := hid (rnum_any W b s i bd d HR.out (HIN.out (by unfold digP at gn; omega)) hs)
    by_cases g45 : g = 45
    · subst g45
      go_wp2_with (first | (go_at_call 154; refine HC.out.mono ?_; intro e w2 hE; obtain ⟨k2, n2, x2, a2, l2, c2, rfl⟩ := hE.shape; have HRBF := hid (hE.1.block' HRB.out HNE.out); obtain ⟨r0, r1, r2, r3⟩ := four_of HRBF.out; obtain ⟨e0, e1, e2, e3⟩ := four_free HRBF.out))
      obtain ⟨z0, z1, z2, z3⟩ := four_of (four_set (u0 := .int .i64 k2) (u1 := .int .i64 n2) (u2 := .string x2) (u3 := .slice a2 l2 c2) HRBF.out)
      refine bodyPost_ret (v := .agg #[.int .i64 k2, .int .i64 n2, .string x2, .slice a2 l2 c2]) (by simp [results, Tryz.results113, go_sem, z0, z1, z2, z3]) rfl ?_
      have k4 := Kp.set4 w2 w.heap.size 0 (.int .i64 k2) (.int .i64 n2) (.string x2) (.slice a2 l2 c2)
      rw [HRW.out]
      exact hE.put HK.out HWS.out HNE.out k4
    · have q45 : ((g : Int) == 45) = false := by rw [beq_eq_false_iff_ne]; omega
      have gd := gn.resolve_left g45
      have x1 : decide ((48 : Int) ≤ (g : Int)) = true := decide_eq_true (by have := gd.1; omega)
      have x2 : decide ((g : Int) ≤ 57) = true := decide_eq_true (by have := gd.2; omega)
      clear gn gd
      go_wp2_with (first | (go_at_call 154; refine HC.out.mono ?_; intro e w2 hE; obtain ⟨k2, n2, x2, a2, l2, c2, rfl⟩ := hE.shape; have HRBF := hid (hE.1.block' HRB.out HNE.out); obtain ⟨r0, r1, r2, r3⟩ := four_of HRBF.out; obtain ⟨e0, e1, e2, e3⟩ := four_free HRBF.out))
      obtain ⟨z0, z1, z2, z3⟩ := four_of (four_set (u0 := .int .i64 k2) (u1 := .int .i64 n2) (u2 := .string x2) (u3 := .slice a2 l2 c2) HRBF.out)
      refine bodyPost_ret (v := .agg #[.int .i64 k2, .int .i64 n2, .string x2, .slice a2 l2 c2]) (by simp [results, Tryz.results113, go_sem, z0, z1, z2, z3]) rfl ?_
      have k4 := Kp.set4 w2 w.heap.size 0 (.int .i64 k2) (.int .i64 n2) (.string x2) (.slice a2 l2 c2)
      rw [HRW.out]
      exact hE.put HK.out HWS.out HNE.out k4
  rw [if_neg gn] at HRW
  have q45 : ((g : Int) == 45) = false := by rw [beq_eq_false_iff_ne]; exact fun h => gn (.inl (by omega))
  have HND := hid (show ((g : Int) < 48) ∨ (¬ ((g : Int) < 48) ∧ (57 : Int) < (g : Int)) by unfold digP at gn; omega)
  clear gn
  by_cases g34 : g = 34
  · rw [if_pos g34] at HRW
    have HC := hid (rtx_any W b s i bd d HR.out (HIN.out (by omega)) hs)
    clear HND
    subst g34
    go_wp2_with (first | (go_at_call 155; refine HC.out.mono ?_; intro e w2 hE; obtain ⟨k2, n2, x2, a2, l2, c2, rfl⟩ := hE.shape; have HRBF := hid (hE.1.block' HRB.out HNE.out); obtain ⟨r0, r1, r2, r3⟩ := four_of HRBF.out; obtain ⟨e0, e1, e2, e3⟩ := four_free HRBF.out))
    obtain ⟨z0, z1, z2, z3⟩ := four_of (four_set (u0 := .int .i64 k2) (u1 := .int .i64 n2) (u2 := .string x2) (u3 := .slice a2 l2 c2) HRBF.out)
    refine bodyPost_ret (v := .agg #[.int .i64 k2, .int .i64 n2, .string x2, .slice a2 l2 c2]) (by simp [results, Tryz.results113, go_sem, z0, z1, z2, z3]) rfl ?_
    have k4 := Kp.set4 w2 w.heap.size 0 (.int .i64 k2) (.int .i64 n2) (.string x2) (.slice a2 l2 c2)
    rw [HRW.out]
    exact hE.put HK.out HWS.out HNE.out k4
  rw [if_neg g34] at HRW
  have q34 : ((g : Int) == 34) = false := by rw [beq_eq_false_iff_ne]; omega
  by_cases g91 : g = 91
  · rw [if_pos g91] at HRW
    have his : i < s.size := HIN.out (by omega)
    clear HND
    subst g91
    by_cases n64 : n = 64
    · rw [if_pos n64] at HRW
      subst n64
      obtain ⟨c0, c1, c2, c3⟩ := HR.out.four
      go_wp2_with (first | (go_at_call 114; refine (fail_any _ b s i bd 2 i HR.out).mono ?_; rintro e w2 ⟨rfl, hkf, hrf⟩; have HRBF := hid (hkf.1.block' HRB.out HNE.out); obtain ⟨r0, r1, r2, r3⟩ := four_of HRBF.out; obtain ⟨e0, e1, e2, e3⟩ := four_free HRBF.out))
      obtain ⟨z0, z1, z2, z3⟩ := four_of (four_set (u0 := .int .i64 0) (u1 := .int .i64 0) (u2 := .string ⟨#[]⟩) (u3 := .slice none 0 0) HRBF.out)
      refine bodyPost_ret (v := .agg #[.int .i64 0, .int .i64 0, .string ⟨#[]⟩, .slice none 0 0]) (by simp [results, Tryz.results113, go_sem, z0, z1, z2, z3]) rfl ?_
      have k4 := Kp.set4 w2 w.heap.size 0 (.int .i64 0) (.int .i64 0) (.string ⟨#[]⟩) (.slice none 0 0)
      rw [HRW.out]
      exact ⟨(HK.out.trans hkf.1).trans' (n := w.heap.size) (L := fun _ => False) (k4.mono (fun q _ h => fun e => h.elim (fun h => by omega) id)), ⟨_, _, _, _, _, _, rfl⟩, ⟨_, k4.block' hrf (fun e => HNE.out e.symm), hi⟩, by decide⟩
    rw [if_neg n64] at HRW
    have qn : ((n : Int) == 64) = false := by rw [beq_eq_false_iff_ne]; omega
    obtain ⟨c0, c1, c2, c3⟩ := HR.out.four
    have f1 := HR.out.free 1
    have hi1 : (i : Int) + 1 ≤ 1048576 := by omega
    go_upto_region 22 with fail
    have HR1 := hid (show RRAt (W.setCell ⟨b, 1, none⟩ (.int .i64 ((i : Int) + 1))) b s (i + 1) bd 0 from RRAt.set1' HR.out (by omega))
    have HK1 := hid (HK.out.trans (Kp.set (K := (· ≠ b)) W b 1 (.int .i64 ((i : Int) + 1)) (fun h => h rfl)))
    have HRB1 := hid (set_other (i := 1) HRB.out HNE.out (.int .i64 ((i : Int) + 1)))
    generalize W.setCell ⟨b, 1, none⟩ (.int .i64 ((i : Int) + 1)) = W1 at *
    clear c0 c1 c2 c3 f1
    go_wp2_with fail
    have HR2 := hid (show RRAt (W1.alloc (.cells #[.int .i64 5, .int .i64 0, .string ⟨#[]⟩, .slice none 0 0] 34)) b s (i + 1) bd 0 from blkOld _ HR1.out)
    have HK2 := hid (HK1.out.trans ((Ext.alloc W1 (.cells #[.int .i64 5, .int .i64 0, .string ⟨#[]⟩, .slice none 0 0] 34)).kp _))
    have HRB2 := hid (show (W1.alloc (.cells #[.int .i64 5, .int .i64 0, .string ⟨#[]⟩, .slice none 0 0] 34)).heap[w.heap.size]? = _ from blkOld _ HRB1.out)
    have HPB2 := hid (blk0 W1 (.cells #[.int .i64 5, .int .i64 0, .string ⟨#[]⟩, .slice none 0 0] 34))
    have HRP := hid (show w.heap.size < W1.heap.size from lt_of_block HRB1.out)
    have HbP := hid (show b < W1.heap.size from lt_of_block HR1.out)
    have HW2 := hid (show (W1.alloc (.cells #[.int .i64 5, .int .i64 0, .string ⟨#[]⟩, .slice none 0 0] 34)).heap.size = W1.heap.size + 1 from blkS _ _)
    refine (peek_any _ b s (i + 1) bd 0 HR2.out (by omega) hs).mono ?_
    rintro e w3 ⟨rfl, k3, rfl⟩
    have HR3 := hid (HR2.out.drewN k3)
    have HK3 := hid (HK2.out.trans ((Rk.refl b _).drewN k3).1)
    have HRB3 := hid (((Rk.refl b (W1.alloc (.cells #[.int .i64 5, .int .i64 0, .string ⟨#[]⟩, .slice none 0 0] 34))).drewN k3).1.block' HRB2.out HNE.out)
    have HPB3 := hid (((Rk.refl b (W1.alloc (.cells #[.int .i64 5, .int .i64 0, .string ⟨#[]⟩, .slice none 0 0] 34))).drewN k3).1.block' HPB2.out (fun e => by have := HbP.out; omega))
    have HW3 := hid (show ((W1.alloc (.cells #[.int .i64 5, .int .i64 0, .string ⟨#[]⟩, .slice none 0 0] 34)).drewN k3).heap.size = W1.heap.size + 1 from (((Rk.refl b _).drewN k3).2).trans HW2.out)
    generalize (W1.alloc (.cells #[.int .i64 5, .int .i64 0, .string ⟨#[]⟩, .slice none 0 0] 34)).drewN k3 = W3 at *
    clear HR2 HK2 HRB2 HPB2 HW2 HR1 HK1 HRB1
    generalize W1.heap.size = P at *
    have HPb := hid (show P ≠ b by have := HbP.out; omega)
    have HbPn := hid (show b ≠ P by have := HbP.out; omega)
    have HRPn := hid (show w.heap.size ≠ P by have := HRP.out; omega)
    by_cases h93 : pk s (i + 1) = 93
    · have HV := hid (show r = .ok (.node 5 0 ⟨#[]⟩ []) (i + 2) by rw [HRW.out, if_pos ((pk_nxt (by decide) (by decide)).1 h93)])
      have hin := (pk_in (s := s) (i := i + 1) (by omega)).1
      rw [h93]
      obtain ⟨c0, c1, c2, c3⟩ := HR3.out.four
      have f1 := HR3.out.free 1
      have hi2 : (i : Int) + 1 + 1 ≤ 1048576 := by omega
      go_upto_region 25 with fail
      have HR4 := hid (show RRAt (W3.setCell ⟨b, 1, none⟩ (.int .i64 ((i : Int) + 1 + 1))) b s (i + 2) bd 0 from RRAt.set1' HR3.out (by omega))
      have HK4 := hid (HK3.out.trans (Kp.set (K := (· ≠ b)) W3 b 1 (.int .i64 ((i : Int) + 1 + 1)) (fun h => h rfl)))
      have HRB4 := hid (set_other (i := 1) HRB3.out HNE.out (.int .i64 ((i : Int) + 1 + 1)))
      have HPB4 := hid (set_other (i := 1) HPB3.out HPb.out (.int .i64 ((i : Int) + 1 + 1)))
      clear c0 c1 c2 c3 f1
      generalize W3.setCell ⟨b, 1, none⟩ (.int .i64 ((i : Int) + 1 + 1)) = W4 at *
      obtain ⟨p0, p1, p2, p3⟩ := four_of HPB4.out
      obtain ⟨r0, r1, r2, r3⟩ := four_of HRB4.out
      obtain ⟨e0, e1, e2, e3⟩ := four_free HRB4.out
      go_wp2_with fail
      obtain ⟨z0, z1, z2, z3⟩ := four_of (four_set (u0 := .int .i64 5) (u1 := .int .i64 0) (u2 := .string ⟨#[]⟩) (u3 := .slice none 0 0) HRB4.out)
      refine bodyPost_ret (v := .agg #[.int .i64 5, .int .i64 0, .string ⟨#[]⟩, .slice none 0 0]) (by simp [results, Tryz.results113, go_sem, z0, z1, z2, z3]) rfl ?_
      have k4 := Kp.set4 W4 w.heap.size 0 (.int .i64 5) (.int .i64 0) (.string ⟨#[]⟩) (.slice none 0 0)
      rw [HV.out]
      exact ⟨HK4.out.trans' (n := w.heap.size) (L := fun _ => False) (k4.mono (fun q _ h => fun e => h.elim (fun h => by omega) id)), _, rfl, ⟨none, 0, rfl, by decide, by decide, .inl rfl⟩, k4.block' HR4.out (fun e => HNE.out e.symm), by omega⟩
    · have HV := hid (show rdXL s F (n + 1) (i + 1) [] = r by rw [HRW.out, if_neg (fun h => h93 ((pk_nxt (by decide) (by decide)).2 h))])
      have q93 : (((pk s (i + 1) : Nat) : Int) == 93) = false := by rw [beq_eq_false_iff_ne]; omega
      have hn1 : (n : Int) + 1 ≤ 64 := by omega
      obtain ⟨i0, hi0, hz0, hz1, hz2⟩ := info_parts plainInfo
      have HPR := hid (show P + 1 ≤ W3.heap.size by rw [HW3.out]; exact Nat.le_refl _)
      go_wp2_with fail
      clear h93 q93 HRW
      go_loopw [] (fun wr => VlSt w b P s bd n d F r wr ∧ P + 1 ≤ wr.heap.size) (fun wr => mOf b s.size wr)
      case atStart => exact ⟨⟨HK3.out, HRB3.out, .inl ⟨F, i + 1, [], none, 0, [], HR3.out, by omega, by simp, ⟨Nat.le_refl _, by have := HF.out; omega⟩, HV.out, HPB3.out, World.ownsRow_nil _ _ _ _, fun j h => absurd h (by simp)⟩⟩, HPR.out⟩
      case round =>
        obtain ⟨⟨hkp, hrb, hcase⟩, hpr⟩ := hrel
        have HKR := hid hkp
        have HRBR := hid hrb
        clear HPR
        have HPR := hid hpr
        clear hkp hrb hpr
        rcases hcase with ⟨f, j, acc, av, cv, xs, hr, hj, haj, hff, hq, hpb, hrow, hok⟩ | ⟨c, a, ar, av, al, cv, hq, hr, ha, hc, hpb⟩
        · have HRR := hid hr
          have HQ := hid hq
          have HPB := hid hpb
          have HROW := hid hrow
          have HOK := hid hok
          have HMW := hid (show mOf b s.size wr = s.size + 2 - j from (mOf_rd hr).trans (if_pos rfl))
          have HLOW := hid (show ∀ q, (Value.slice av acc.length cv).ownBlock = some q → P + 1 ≤ q ∧ q < wr.heap.size from fun q hq => hrow.lt q hq)
          obtain ⟨f, rfl⟩ : ∃ f', f = f' + 1 := ⟨f - 1, by omega⟩
          have HC := hid (show Calls Tryz.prog 113 #[.pointer (some ⟨b, 0, none⟩), .int .i64 ((n : Int) + 1)] wr (RvP wr b s bd d (rdX s f (n + 1) j)) by
            have h1 := HIH.out f (by omega) wr bd (n + 1) j hr hj (by omega) (by omega)
            rw [show 65 - (n + 1) = d by have := HD.out; omega] at h1
            exact h1)
          obtain ⟨c0, c1, c2, c3⟩ := hr.four
          have HFF := hid hff
          clear hr hq hpb hrow hok hff
          go_wp2_with fail
          refine HC.out.mono ?_
          intro e w2 hE
          clear c0 c1 c2 c3
          obtain ⟨k2, n2, x2, a2, l2, c2, rfl⟩ := hE.shape
          cases hx : rdX s f (n + 1) j with
          | bad c a =>
            rw [hx] at hE
            obtain ⟨hk2, -, ⟨ar, hr2, ha2⟩, hc2⟩ := hE
            have HK2 := hid hk2
            have HR2 := hid hr2
            have HV2 := hid (show r = .bad c a by rw [← HQ.out]; exact rdXL_bad hx)
            clear hk2 hr2 hx
            have HPB2 := hid (HK2.out.block' HPB.out HPb.out)
            have HRB2 := hid (HK2.out.block' HRBR.out HNE.out)
            have HROW2 := hid (row4_keep HROW.out HK2.out (fun q hq => by have h := HROW.out.lt q hq; show q ≠ b; have := HbP.out; omega))
            have HOK2 := hid (row_ok_keep HOK.out HK2.out (fun q hq => by show q ≠ b; have := HbP.out; omega))
            obtain ⟨p0, p1, p2, p3⟩ := four_of HPB2.out
            have hPl : P < w2.heap.size := lt_of_block HPB2.out
            have hsz2 := HK2.out.size
            obtain ⟨x0, x1, x2', x3⟩ := four_of (blk0 w2 (.cells #[.int .i64 k2, .int .i64 n2, .string x2, .slice a2 l2 c2] 34))
            have HNEWS := hid (show ∀ (e : Nat) (u : Value), [Value.int .i64 k2, .int .i64 n2, .string x2, .slice a2 l2 c2][e]? = some u → ((w2.alloc (.cells #[.int .i64 k2, .int .i64 n2, .string x2, .slice a2 l2 c2] 34)).alloc (.cells #[.int .i64 k2, .int .i64 n2, .string x2, .slice a2 l2 c2] 34)).cell? ((⟨w2.heap.size + 1, 0, none⟩ : Addr).add e) = some u from fun e u he => by
              have hb := blk1 w2 (.cells #[.int .i64 k2, .int .i64 n2, .string x2, .slice a2 l2 c2] 34) (.cells #[.int .i64 k2, .int .i64 n2, .string x2, .slice a2 l2 c2] 34)
              match e, he with
              | 0, he => cases he; exact cell_of (i := 0) hb rfl
              | 1, he => cases he; exact cell_of (i := 1) hb rfl
              | 2, he => cases he; exact cell_of (i := 2) hb rfl
              | 3, he => cases he; exact cell_of (i := 3) hb rfl)
            have xr2 := row4_keep HROW2.out ((Ext.alloc2 w2 (.cells #[.int .i64 k2, .int .i64 n2, .string x2, .slice a2 l2 c2] 34) (.cells #[.int .i64 k2, .int .i64 n2, .string x2, .slice a2 l2 c2] 34)).kp (fun _ => True)) (fun _ _ => trivial)
            obtain ⟨m, hm⟩ : ∃ m, acc.length = m := ⟨_, rfl⟩
            have HM := hid hm
            rw [hm] at HPB2 HROW2 HOK2 p3 xr2 haj
            clear hm
            go_upto_region 29 with (at_builtin; go_must (refine wpList_append_own_at _ rfl _ _ 24 rfl (P + 1) 34 i0 (.agg #[.int .i64 0, .int .i64 0, .string ⟨#[]⟩, .slice none 0 0]) 4 56 Tryz.underlying24 hi0 hz0 hz1 hz2 rfl (by decide) _ _ _ rfl xr2 ⟨w2.heap.size + 1, 0, none⟩ 1 1 [Value.int .i64 k2, .int .i64 n2, .string x2, .slice a2 l2 c2] rfl rfl HNEWS.out (by simp [Value.oneCell']) (by unfold maxLen; omega) (by omega) (by simp; omega) ?_); intro v9 w9 hown9 hgrow9 _ hat9; obtain ⟨a9, c9, rfl⟩ := row4_slice hown9; have K9 : Kp (fun q => some q ≠ (Value.slice av m cv).ownBlock) w2 w9 := ((Ext.alloc2 w2 (.cells #[.int .i64 k2, .int .i64 n2, .string x2, .slice a2 l2 c2] 34) (.cells #[.int .i64 k2, .int .i64 n2, .string x2, .slice a2 l2 c2] 34)).kp _).trans ⟨hgrow9.os, hgrow9.tape, hgrow9.output, hgrow9.size, fun q hq hne => hgrow9.block q hq hne⟩; have HPB9 := hid (K9.block' HPB2.out (fun e => by have := (HROW2.out.lt _ e.symm).1; omega)); obtain ⟨y0, y1, y2, y3⟩ := four_free HPB9.out; obtain ⟨o0, o1, o2, o3⟩ := four_of HPB9.out; have HK9 := hid K9; have HO9 := hid hown9; have HAT9 := hid hat9; clear K9 hown9 hgrow9 hat9)
            have HRB9 := hid (HK9.out.block' HRB2.out (fun e => by have := (HROW2.out.lt _ e.symm).1; have := HRP.out; omega))
            have HR9 := hid (HK9.out.block' HR2.out (fun e => by have := (HROW2.out.lt _ e.symm).1; have := HbP.out; omega))
            have HR10 := hid (set_other (i := 3) HR9.out HbPn.out (.slice a9 (m + 1) c9))
            have HRB10 := hid (set_other (i := 3) HRB9.out HRPn.out (.slice a9 (m + 1) c9))
            have HPB10 := hid ((set_at HPB9.out 3 (.slice a9 (m + 1) c9)).trans rfl)
            have KP10 : Kp (· ≠ P) w9 (w9.setCell ⟨P, 3, none⟩ (.slice a9 (m + 1) c9)) := Kp.set _ _ _ _ (fun h => h rfl)
            have HKW10 := hid (show Kp (· ≠ b) w (w9.setCell ⟨P, 3, none⟩ (.slice a9 (m + 1) c9)) from ((HKR.out.trans HK2.out).trans' (n := P) (L := fun _ => False) (HK9.out.mono (fun q _ h e => h.elim (fun h => by have := (HROW2.out.lt _ e.symm).1; omega) id)) (by have := HRP.out; omega)).trans' (n := P) (L := fun _ => False) (KP10.mono (fun q _ h e => h.elim (fun h => by have e' : q = P := e; omega) id)) (by have := HRP.out; omega))
            generalize w9.setCell ⟨P, 3, none⟩ (.slice a9 (m + 1) c9) = w10 at *
            have qc : ((c : Int) == 0) = false := by rw [beq_eq_false_iff_ne]; omega
            obtain ⟨c0, c1, c2, c3⟩ := RRAt.four HR10.out
            go_wp2_with fail
            go_roundw
            case rel => exact ⟨⟨HKW10.out, HRB10.out, .inr ⟨c, a, ar, a9, m + 1, c9, HV2.out, HR10.out, ha2, hc2, HPB10.out⟩⟩, lt_of_block HPB10.out⟩
            case measure =>
              rw [HMW.out, mOf_rd HR10.out, if_neg (by omega)]
              omega
          | ok t a =>
            rw [hx] at hE
            obtain ⟨hk2, v', hv', hel, hr2, ha2⟩ := hE
            have hv2 : v' = .agg #[.int .i64 k2, .int .i64 n2, .string x2, .slice a2 l2 c2] := by injection hv' with h; exact h.symm
            rw [hv2] at hel
            have HEL := hid hel
            have HK2 := hid hk2
            have HR2 := hid hr2
            have HGE2 := hid (rdX_ge hx)
            have HV2 := hid (show r = _ from HQ.out.symm.trans (rdXL_ok hx))
            clear hk2 hr2 hx hel hv' hv2
            have HPB2 := hid (HK2.out.block' HPB.out HPb.out)
            have HRB2 := hid (HK2.out.block' HRBR.out HNE.out)
            have HROW2 := hid (row4_keep HROW.out HK2.out (fun q hq => by have h := HROW.out.lt q hq; show q ≠ b; have := HbP.out; omega))
            have HOK2 := hid (row_ok_keep HOK.out HK2.out (fun q hq => by show q ≠ b; have := HbP.out; omega))
            obtain ⟨p0, p1, p2, p3⟩ := four_of HPB2.out
            have hPl : P < w2.heap.size := lt_of_block HPB2.out
            have hsz2 := HK2.out.size
            obtain ⟨x0, x1, x2', x3⟩ := four_of (blk0 w2 (.cells #[.int .i64 k2, .int .i64 n2, .string x2, .slice a2 l2 c2] 34))
            have HNEWS := hid (show ∀ (e : Nat) (u : Value), [Value.int .i64 k2, .int .i64 n2, .string x2, .slice a2 l2 c2][e]? = some u → ((w2.alloc (.cells #[.int .i64 k2, .int .i64 n2, .string x2, .slice a2 l2 c2] 34)).alloc (.cells #[.int .i64 k2, .int .i64 n2, .string x2, .slice a2 l2 c2] 34)).cell? ((⟨w2.heap.size + 1, 0, none⟩ : Addr).add e) = some u from fun e u he => by
              have hb := blk1 w2 (.cells #[.int .i64 k2, .int .i64 n2, .string x2, .slice a2 l2 c2] 34) (.cells #[.int .i64 k2, .int .i64 n2, .string x2, .slice a2 l2 c2] 34)
              match e, he with
              | 0, he => cases he; exact cell_of (i := 0) hb rfl
              | 1, he => cases he; exact cell_of (i := 1) hb rfl
              | 2, he => cases he; exact cell_of (i := 2) hb rfl
              | 3, he => cases he; exact cell_of (i := 3) hb rfl)
            have xr2 := row4_keep HROW2.out ((Ext.alloc2 w2 (.cells #[.int .i64 k2, .int .i64 n2, .string x2, .slice a2 l2 c2] 34) (.cells #[.int .i64 k2, .int .i64 n2, .string x2, .slice a2 l2 c2] 34)).kp (fun _ => True)) (fun _ _ => trivial)
            obtain ⟨m, hm⟩ : ∃ m, acc.length = m := ⟨_, rfl⟩
            have HM := hid hm
            rw [hm] at HPB2 HROW2 HOK2 p3 xr2 haj
            clear hm
            go_upto_region 29 with (at_builtin; go_must (refine wpList_append_own_at _ rfl _ _ 24 rfl (P + 1) 34 i0 (.agg #[.int .i64 0, .int .i64 0, .string ⟨#[]⟩, .slice none 0 0]) 4 56 Tryz.underlying24 hi0 hz0 hz1 hz2 rfl (by decide) _ _ _ rfl xr2 ⟨w2.heap.size + 1, 0, none⟩ 1 1 [Value.int .i64 k2, .int .i64 n2, .string x2, .slice a2 l2 c2] rfl rfl HNEWS.out (by simp [Value.oneCell']) (by unfold maxLen; omega) (by omega) (by simp; omega) ?_); intro v9 w9 hown9 hgrow9 _ hat9; obtain ⟨a9, c9, rfl⟩ := row4_slice hown9; have K9 : Kp (fun q => some q ≠ (Value.slice av m cv).ownBlock) w2 w9 := ((Ext.alloc2 w2 (.cells #[.int .i64 k2, .int .i64 n2, .string x2, .slice a2 l2 c2] 34) (.cells #[.int .i64 k2, .int .i64 n2, .string x2, .slice a2 l2 c2] 34)).kp _).trans ⟨hgrow9.os, hgrow9.tape, hgrow9.output, hgrow9.size, fun q hq hne => hgrow9.block q hq hne⟩; have HPB9 := hid (K9.block' HPB2.out (fun e => by have := (HROW2.out.lt _ e.symm).1; omega)); obtain ⟨y0, y1, y2, y3⟩ := four_free HPB9.out; obtain ⟨o0, o1, o2, o3⟩ := four_of HPB9.out; have HK9 := hid K9; have HO9 := hid hown9; have HAT9 := hid hat9; clear K9 hown9 hgrow9 hat9)
            have HRB9 := hid (HK9.out.block' HRB2.out (fun e => by have := (HROW2.out.lt _ e.symm).1; have := HRP.out; omega))
            have HR9 := hid (HK9.out.block' HR2.out (fun e => by have := (HROW2.out.lt _ e.symm).1; have := HbP.out; omega))
            have HR10 := hid (set_other (i := 3) HR9.out HbPn.out (.slice a9 (m + 1) c9))
            have HRB10 := hid (set_other (i := 3) HRB9.out HRPn.out (.slice a9 (m + 1) c9))
            have HPB10 := hid ((set_at HPB9.out 3 (.slice a9 (m + 1) c9)).trans rfl)
            have KP10 : Kp (· ≠ P) w9 (w9.setCell ⟨P, 3, none⟩ (.slice a9 (m + 1) c9)) := Kp.set _ _ _ _ (fun h => h rfl)
            have HKW10 := hid (show Kp (· ≠ b) w (w9.setCell ⟨P, 3, none⟩ (.slice a9 (m + 1) c9)) from ((HKR.out.trans HK2.out).trans' (n := P) (L := fun _ => False) (HK9.out.mono (fun q _ h e => h.elim (fun h => by have := (HROW2.out.lt _ e.symm).1; omega) id)) (by have := HRP.out; omega)).trans' (n := P) (L := fun _ => False) (KP10.mono (fun q _ h e => h.elim (fun h => by have e' : q = P := e; omega) id)) (by have := HRP.out; omega))
            have HROW10 := hid (row4_keep HO9.out KP10 (fun q hq => by have := (HO9.out.lt q hq).1; show q ≠ P; omega))
            have HOK10 := hid (row_ok_keep (row_push (N := wr.heap.size) (e0 := .int .i64 k2) (e1 := .int .i64 n2) (e2 := .string x2) (e3 := .slice a2 l2 c2) HROW2.out HOK2.out HM.out.symm (fun q hq => HLOW.out q (by rw [HM.out]; exact hq)) (by have := HPR.out; omega) HEL.out HK9.out (by
              rcases HAT9.out with h | h
              · exact .inl h
              · exact .inr ⟨_, by simp only [World.size_alloc]; omega, h⟩)) KP10 (fun q hq => by show q ≠ P; omega))
            clear KP10
            generalize w9.setCell ⟨P, 3, none⟩ (.slice a9 (m + 1) c9) = w10 at *
            rw [show m + 1 = (acc ++ [t]).length by simp; exact HM.out.symm] at HROW10 HPB10 HOK10
            obtain ⟨c0, c1, c2, c3⟩ := RRAt.four HR10.out
            clear p0 p1 p2 p3 x0 x1 x2' x3 y0 y1 y2 y3 o0 o1 o2 o3
            go_wp2_with fail
            refine (peek_any w10 b s a bd 0 HR10.out ha2 hs).mono ?_
            rintro e w11 ⟨rfl, k11, rfl⟩
            have HR11 := hid (RRAt.drewN HR10.out k11)
            have HD11 := hid ((Rk.refl b w10).drewN k11)
            have HK11 := hid (HKW10.out.trans HD11.out.1)
            have HRB11 := hid (HD11.out.1.block' HRB10.out HNE.out)
            have HPB11 := hid (HD11.out.1.block' HPB10.out HPb.out)
            have HROW11 := hid (row4_keep HROW10.out HD11.out.1 (fun q hq => by have h := (HROW10.out.lt q hq).1; show q ≠ b; have := HbP.out; omega))
            have HOK11 := hid (row_ok_keep HOK10.out HD11.out.1 (fun q hq => by show q ≠ b; have := HbP.out; omega))
            have HLN := hid (show (acc ++ [t]).length ≤ a + 1 by simp; have := HGE2.out; have := HM.out; omega)
            generalize w10.drewN k11 = w11 at *
            generalize acc ++ [t] = acc2 at *
            clear c0 c1 c2 c3 HD11 HR10 HKW10 HRB10 HPB10 HROW10 HOK10
            obtain ⟨c0, c1, c2, c3⟩ := RRAt.four HR11.out
            have f1 := RRAt.free HR11.out 1
            by_cases h93 : pk s a = 93
            · have hin := (pk_in (s := s) (i := a) (by omega)).1
              have HV3 := hid (show r = .ok (.node 5 0 ⟨#[]⟩ acc2) (a + 1) by rw [HV2.out, if_pos ((pk_nxt (by decide) (by decide)).1 h93)])
              rw [h93]
              have hi2 : (a : Int) + 1 ≤ 1048576 := by omega
              go_upto_region 31 with fail
              have KB := Kp.set (K := (· ≠ b)) w11 b 1 (.int .i64 ((a : Int) + 1)) (fun h => h rfl)
              have HR12 := hid (show RRAt (w11.setCell ⟨b, 1, none⟩ (.int .i64 ((a : Int) + 1))) b s (a + 1) bd 0 from RRAt.set1' HR11.out (by omega))
              have HK12 := hid (HK11.out.trans KB)
              have HRB12 := hid (KB.block' HRB11.out HNE.out)
              have HPB12 := hid (KB.block' HPB11.out HPb.out)
              have HRD12 := hid (row_list (row4_keep HROW11.out KB (fun q hq => by have h := (HROW11.out.lt q hq).1; show q ≠ b; have := HbP.out; omega)) (row_ok_keep HOK11.out KB (fun q hq => by show q ≠ b; have := HbP.out; omega)) (by have := HLN.out; omega))
              clear c0 c1 c2 c3 f1 KB
              generalize w11.setCell ⟨b, 1, none⟩ (.int .i64 ((a : Int) + 1)) = w12 at *
              obtain ⟨p0, p1, p2, p3⟩ := four_of HPB12.out
              obtain ⟨r0, r1, r2, r3⟩ := four_of HRB12.out
              obtain ⟨e0, e1, e2, e3⟩ := four_free HRB12.out
              go_wp2_with fail
              obtain ⟨z0, z1, z2, z3⟩ := four_of (four_set (u0 := .int .i64 5) (u1 := .int .i64 0) (u2 := .string ⟨#[]⟩) (u3 := .slice a9 acc2.length c9) HRB12.out)
              refine bodyPost_ret (v := .agg #[.int .i64 5, .int .i64 0, .string ⟨#[]⟩, .slice a9 acc2.length c9]) (by simp [results, Tryz.results113, go_sem, z0, z1, z2, z3]) rfl ?_
              have k4 := Kp.set4 w12 w.heap.size 0 (.int .i64 5) (.int .i64 0) (.string ⟨#[]⟩) (.slice a9 acc2.length c9)
              rw [HV3.out]
              refine ⟨HK12.out.trans' (n := w.heap.size) (L := fun _ => False) (k4.mono (fun q _ h => fun e => h.elim (fun h => by omega) id)), _, rfl, (HRD12.out.keep (k4.mono (fun q _ h e => by have h' : P + 1 ≤ q := h; have := HRP.out; omega))).mono (fun q _ h => ?_), k4.block' HR12.out (fun e => HNE.out e.symm), by omega⟩
              have h' : P + 1 ≤ q := h
              have := HRP.out
              show w.heap.size ≤ q
              omega
            · have q93 : (((pk s a : Nat) : Int) == 93) = false := by rw [beq_eq_false_iff_ne]; omega
              have HV3 := hid (show r = if nxt s a = 44 then (if nxt s (a + 1) = 32 then rdXL s f (n + 1) (a + 2) acc2 else .bad 5 (a + 1)) else .bad 5 a by rw [HV2.out, if_neg (fun h => h93 ((pk_nxt (by decide) (by decide)).2 h))])
              have HWD := hid (rword_any w11 b s a bd ⟨#[44, 32]⟩ HR11.out ha2 hs (by decide) (by decide))
              clear h93 HV2
              go_wp2_with fail
              refine HWD.out.mono ?_
              rintro e w12 ⟨rfl, hwk, hwl, hwc⟩
              have HK12 := hid (HK11.out.trans hwk.1)
              have HRB12 := hid (hwk.1.block' HRB11.out HNE.out)
              have HPB12 := hid (hwk.1.block' HPB11.out HPb.out)
              have HROW12 := hid (row4_keep HROW11.out hwk.1 (fun q hq => by have h := (HROW11.out.lt q hq).1; show q ≠ b; have := HbP.out; omega))
              have HOK12 := hid (row_ok_keep HOK11.out hwk.1 (fun q hq => by show q ≠ b; have := HbP.out; omega))
              have hwl' : a + wordK s a [44, 32] ≤ s.size := hwl
              have hwc' : (wordK s a [44, 32] = 2 ∧ RRAt w12 b s (a + wordK s a [44, 32]) bd 0) ∨ (wordK s a [44, 32] ≠ 2 ∧ RRAt w12 b s (a + wordK s a [44, 32]) ((a + wordK s a [44, 32] : Nat) : Int) 5) := hwc
              rw [wordK_two] at hwl' hwc'
              have HWL := hid hwl'
              have HWC := hid hwc'
              clear hwl hwc hwk hwl' hwc' c0 c1 c2 c3 f1
              go_wp2_with fail
              go_roundw
              case rel =>
                refine ⟨⟨HK12.out, HRB12.out, ?_⟩, lt_of_block HPB12.out⟩
                have h1 := HWL.out
                have h2 := HWC.out
                have h3 := HV3.out
                by_cases h44 : nxt s a = 44
                · rw [if_pos h44] at h1 h2 h3
                  by_cases h32 : nxt s (a + 1) = 32
                  · rw [if_pos h32] at h1 h2 h3
                    rcases h2 with ⟨_, h2⟩ | ⟨h2, _⟩
                    · exact .inl ⟨f, a + 2, acc2, a9, c9, _, h2, h1, by have := HLN.out; omega, by have := HFF.out; have := HGE2.out; omega, h3.symm, HPB12.out, HROW12.out, HOK12.out⟩
                    · exact absurd rfl h2
                  · rw [if_neg h32] at h1 h2 h3
                    rcases h2 with ⟨h2, _⟩ | ⟨_, h2⟩
                    · exact absurd h2 (by decide)
                    · exact .inr ⟨5, a + 1, _, a9, _, c9, h3, h2, h1, by decide, HPB12.out⟩
                · rw [if_neg h44] at h1 h2 h3
                  rcases h2 with ⟨h2, _⟩ | ⟨_, h2⟩
                  · exact absurd h2 (by decide)
                  · exact .inr ⟨5, a, _, a9, _, c9, h3, h2, ha2, by decide, HPB12.out⟩
              case measure =>
                rw [HMW.out]
                have h1 := HWL.out
                have h2 := HWC.out
                have h5 := HGE2.out
                by_cases h44 : nxt s a = 44
                · rw [if_pos h44] at h1 h2
                  by_cases h32 : nxt s (a + 1) = 32
                  · rw [if_pos h32] at h1 h2
                    rcases h2 with ⟨_, h2⟩ | ⟨h2, _⟩
                    · rw [mOf_rd h2, if_pos rfl]; omega
                    · exact absurd rfl h2
                  · rw [if_neg h32] at h1 h2
                    rcases h2 with ⟨h2, _⟩ | ⟨_, h2⟩
                    · exact absurd h2 (by decide)
                    · rw [mOf_rd h2, if_neg (by decide)]; omega
                · rw [if_neg h44] at h1 h2
                  rcases h2 with ⟨h2, _⟩ | ⟨_, h2⟩
                  · exact absurd h2 (by decide)
                  · rw [mOf_rd h2, if_neg (by decide)]; omega
        · have HRR := hid hr
          have HQ := hid hq
          have HPB := hid hpb
          obtain ⟨c0, c1, c2, c3⟩ := hr.four
          obtain ⟨p0, p1, p2, p3⟩ := four_of hpb
          obtain ⟨r0, r1, r2, r3⟩ := four_of HRBR.out
          obtain ⟨e0, e1, e2, e3⟩ := four_free HRBR.out
          have qc : ((c : Int) == 0) = false := by rw [beq_eq_false_iff_ne]; omega
          clear hr hq hpb
          go_wp2_with fail
          obtain ⟨z0, z1, z2, z3⟩ := four_of (four_set (u0 := .int .i64 5) (u1 := .int .i64 0) (u2 := .string ⟨#[]⟩) (u3 := .slice av al cv) HRBR.out)
          refine bodyPost_ret (v := .agg #[.int .i64 5, .int .i64 0, .string ⟨#[]⟩, .slice av al cv]) (by simp [results, Tryz.results113, go_sem, z0, z1, z2, z3]) rfl ?_
          have k4 := Kp.set4 wr w.heap.size 0 (.int .i64 5) (.int .i64 0) (.string ⟨#[]⟩) (.slice av al cv)
          rw [HQ.out]
          exact ⟨HKR.out.trans' (n := w.heap.size) (L := fun _ => False) (k4.mono (fun q _ h => fun e => h.elim (fun h => by omega) id)), ⟨_, _, _, _, _, _, rfl⟩, ⟨_, k4.block' HRR.out (fun e => HNE.out e.symm), ha⟩, hc⟩
  rw [if_neg g91] at HRW
  have q91 : ((g : Int) != 91) = true := by simp; omega
  have q92 : ¬ (g : Int) = 91 := by omega
  rcases HND.out with g1 | ⟨g1, g2⟩
  all_goals
    obtain ⟨c0, c1, c2, c3⟩ := HR.out.four
    go_wp2_with (first | (go_at_call 114; refine (fail_any _ b s i bd 5 i HR.out).mono ?_; rintro e w2 ⟨rfl, hkf, hrf⟩; have HRBF := hid (hkf.1.block' HRB.out HNE.out); obtain ⟨r0, r1, r2, r3⟩ := four_of HRBF.out; obtain ⟨e0, e1, e2, e3⟩ := four_free HRBF.out))
    obtain ⟨z0, z1, z2, z3⟩ := four_of (four_set (u0 := .int .i64 0) (u1 := .int .i64 0) (u2 := .string ⟨#[]⟩) (u3 := .slice none 0 0) HRBF.out)
    refine bodyPost_ret (v := .agg #[.int .i64 0, .int .i64 0, .string ⟨#[]⟩, .slice none 0 0]) (by simp [results, Tryz.results113, go_sem, z0, z1, z2, z3]) rfl ?_
    have k4 := Kp.set4 w2 w.heap.size 0 (.int .i64 0) (.int .i64 0) (.string ⟨#[]⟩) (.slice none 0 0)
    rw [HRW.out]
    exact ⟨(HK.out.trans hkf.1).trans' (n := w.heap.size) (L := fun _ => False) (k4.mono (fun q _ h => fun e => h.elim (fun h => by omega) id)), ⟨_, _, _, _, _, _, rfl⟩, ⟨_, k4.block' hrf (fun e => HNE.out e.symm), hi⟩, by decide⟩
end Go.Proofs.YtecabbifkcnbeaaGreatDoor
