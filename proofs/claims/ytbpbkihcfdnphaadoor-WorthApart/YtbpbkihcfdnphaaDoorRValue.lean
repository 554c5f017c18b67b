/-
  The reader's value by a contract.
-/
import Derived.Test.YtbpbkihcfdnphaaDoorList
namespace Go.Proofs.YtbpbkihcfdnphaaDoor
open Go.RowKit
theorem RsP.mono {w w1 w' : World} {b : Nat} {s : ByteArray} {n d : Nat} {r : Rs} {e : Ending} (h : RsP w1 b s n d r e w') (hk : Kp (· ≠ b) w w1) : RsP w b s n d r e w' := by
  obtain ⟨h1, h2⟩ := h
  refine ⟨hk.trans h1, ?_⟩
  cases r with
  | ok t i =>
    obtain ⟨u, bs, h3, h4, h5, h6⟩ := h2
    exact ⟨u, bs, h3, h4, fun x hx => Nat.le_trans hk.size (h5 x hx), h6⟩
  | bad c i => exact h2
/-- An answer of a call within, handed on. -/
theorem RsP.two {w w' : World} {b : Nat} {s : ByteArray} {n d : Nat} {r : Rs} {e : Ending} (h : RsP w b s n d r e w') : ∃ v c, e = .returned (.tuple #[v, .int .i64 c]) := by
  obtain ⟨_, h2⟩ := h
  cases r with
  | ok t i => obtain ⟨u, bs, h3, _⟩ := h2; exact ⟨u, 0, h3⟩
  | bad c i => exact ⟨_, _, h2.1⟩
theorem word_rs {w w' : World} {b : Nat} {s : ByteArray} {n i d : Nat} {l : List UInt8} {v : Value} {t : T} {e : Ending} (hv : ∀ w, VOwn w (d + 1) v t []) (m : Nat) (hm : m = l.length)
    (h : e = .returned (wordV (wordK s i l) m v) ∧ Kp (· ≠ b) w w' ∧ w'.heap.size = w.heap.size ∧ RdAt w' b s (i + wordK s i l) n ∧ i + wordK s i l ≤ s.size) : RsP w b s n (d + 1) (wrdR s i l t) e w' := by
  obtain ⟨rfl, h2, _, h4, h5⟩ := h
  refine ⟨h2, ?_⟩
  unfold wrdR wordV
  subst hm
  by_cases hk : wordK s i l = l.length
  · rw [if_pos hk, if_pos hk]
    exact ⟨v, [], rfl, hv _, fun x hx => (by cases hx), List.nodup_nil, h4, h5⟩
  · rw [if_neg hk, if_neg hk]
    exact ⟨rfl, h4, h5, by decide⟩
set_option maxRecDepth 100000 in
set_option maxHeartbeats 4000000 in
theorem rvalue_any {b : Nat} {s : ByteArray} {I : World → Prop} {Q : Nat → Rs} (E : REnv b s I Q) (hs : s.size ≤ 1048576) : ∀ f, ValTo b s I Q f := by
  intro f
  induction f using Nat.strongRecOn with
  | ind f ih =>
  intro w n i hI hr hi hn hf
  obtain ⟨F, rfl⟩ : ∃ F, f = F + 1 := ⟨f - 1, by omega⟩
  have HNX := hid (next_any w b s i n hr hi hs)
  have HRD := hid hr
  have HI := hid hI
  have HIH := hid ih
  obtain ⟨d, hd⟩ : ∃ d, 65 - n = d + 1 := ⟨64 - n, by omega⟩
  have HD := hid hd
  rw [hd]
  clear hd
  obtain ⟨g, hg⟩ : ∃ g, nxt s i = g := ⟨_, rfl⟩
  have HRW := hid (show rdV s Q (F + 1) n i = if g = 117 then wrdR s i [117, 110, 105, 116] (.node 1 0 ⟨#[]⟩ [])
    else if g = 121 then wrdR s i [121, 101, 115] (.node 2 1 ⟨#[]⟩ [])
    else if g = 110 then wrdR s i [110, 111] (.node 2 0 ⟨#[]⟩ [])
    else if g = 45 ∨ digP g then numR s i
    else if g = 34 then Q i
    else if g = 91 then listR s Q F n i
    else .bad 5 i by rw [← hg]; simp only [rdV, listR])
  rw [hg] at HNX
  have hlt : g ≠ 0 → i < s.size := fun h0 => by
    rcases Nat.lt_or_ge i s.size with h | h
    · exact h
    · exact absurd (by rw [← hg, nxt_end (by omega)]) h0
  have HG := hid hg
  have HLT := hid hlt
  have HDG := hid (fun w => digit_any (g : Int) w)
  clear hr hI ih hg hlt
  go_enter Tryd.func44, Tryd.ntmps44
  go_wp2_with fail
  refine HNX.out.mono ?_
  rintro e w2 ⟨rfl, hk2⟩
  obtain ⟨kd, rfl⟩ := hk2
  have HK := hid (((Ext.refl w).drewN kd).kp (· ≠ b))
  have HR2 := hid (show RdAt (w.drewN kd) b s i n from ((Ext.refl w).drewN kd).block HRD.out)
  have HI2 := hid (E.keep _ _ HI.out HK.out)
  generalize w.drewN kd = W at *
  by_cases g1 : g = 117
  · rw [if_pos g1] at HRW
    have HC := hid (show Calls Tryd.prog 55 #[.pointer (some ⟨b, 0, none⟩), .string ⟨#[117, 110, 105, 116]⟩, .iface 84 (.agg #[])] W (RsP W b s n (d + 1) (wrdR s i [117, 110, 105, 116] (.node 1 0 ⟨#[]⟩ []))) from (word_any W b s i n ⟨#[117, 110, 105, 116]⟩ 84 (.agg #[]) HR2.out hi hs (by decide) (by decide)).mono (fun e w' h => word_rs (l := [117, 110, 105, 116]) (fun w => .inl ⟨rfl, rfl, rfl, rfl, rfl, rfl⟩) 4 rfl h))
    subst g1
    go_wp2_with (first | (go_at_call 56; refine (HDG.out _).mono ?_; rintro e w9 ⟨rfl, rfl⟩) | (go_at_call 55; refine HC.out.mono ?_; intro e w5 h5; obtain ⟨v5, c5, rfl⟩ := RsP.two h5))
    go_ret2
    rw [HRW.out]
    exact h5.mono HK.out
  rw [if_neg g1] at HRW
  have e1 : ((g : Int) == 117) = false := by rw [beq_eq_false_iff_ne]; omega
  by_cases g2 : g = 121
  · rw [if_pos g2] at HRW
    have HC := hid (show Calls Tryd.prog 55 #[.pointer (some ⟨b, 0, none⟩), .string ⟨#[121, 101, 115]⟩, .iface 63 (.bool true)] W (RsP W b s n (d + 1) (wrdR s i [121, 101, 115] (.node 2 1 ⟨#[]⟩ []))) from (word_any W b s i n ⟨#[121, 101, 115]⟩ 63 (.bool true) HR2.out hi hs (by decide) (by decide)).mono (fun e w' h => word_rs (l := [121, 101, 115]) (fun w => .inr (.inl ⟨rfl, rfl, rfl, rfl, true, rfl, rfl⟩)) 3 rfl h))
    subst g2
    go_wp2_with (first | (go_at_call 56; refine (HDG.out _).mono ?_; rintro e w9 ⟨rfl, rfl⟩) | (go_at_call 55; refine HC.out.mono ?_; intro e w5 h5; obtain ⟨v5, c5, rfl⟩ := RsP.two h5))
    go_ret2
    rw [HRW.out]
    exact h5.mono HK.out
  rw [if_neg g2] at HRW
  have e2 : ((g : Int) == 121) = false := by rw [beq_eq_false_iff_ne]; omega
  by_cases g3 : g = 110
  · rw [if_pos g3] at HRW
    have HC := hid (show Calls Tryd.prog 55 #[.pointer (some ⟨b, 0, none⟩), .string ⟨#[110, 111]⟩, .iface 63 (.bool false)] W (RsP W b s n (d + 1) (wrdR s i [110, 111] (.node 2 0 ⟨#[]⟩ []))) from (word_any W b s i n ⟨#[110, 111]⟩ 63 (.bool false) HR2.out hi hs (by decide) (by decide)).mono (fun e w' h => word_rs (l := [110, 111]) (fun w => .inr (.inl ⟨rfl, rfl, rfl, rfl, false, rfl, rfl⟩)) 2 rfl h))
    subst g3
    go_wp2_with (first | (go_at_call 56; refine (HDG.out _).mono ?_; rintro e w9 ⟨rfl, rfl⟩) | (go_at_call 55; refine HC.out.mono ?_; intro e w5 h5; obtain ⟨v5, c5, rfl⟩ := RsP.two h5))
    go_ret2
    rw [HRW.out]
    exact h5.mono HK.out
  rw [if_neg g3] at HRW
  have e3 : ((g : Int) == 110) = false := by rw [beq_eq_false_iff_ne]; omega
  by_cases g4 : g = 45 ∨ digP g
  · rw [if_pos g4] at HRW
    have HC := hid (rnumber_any W b s i n d HR2.out hi hs (fun hd w' hk => E.par i w' (E.keep _ _ HI2.out hk) hd))
    by_cases g5 : g = 45
    · subst g5
      go_wp2_with (first | (go_at_call 56; refine (HDG.out _).mono ?_; rintro e w9 ⟨rfl, rfl⟩) | (go_at_call 57; refine (HC.out).mono ?_; intro e w5 h5; obtain ⟨v5, c5, rfl⟩ := RsP.two h5))
      go_ret2
      rw [HRW.out]
      exact h5.mono HK.out
    · have e4 : ((g : Int) == 45) = false := by rw [beq_eq_false_iff_ne]; omega
      have g6 := g4.resolve_left g5
      rw [show decide ((48 : Int) ≤ (g : Int) ∧ (g : Int) ≤ 57) = true from decide_eq_true ⟨by have := g6.1; omega, by have := g6.2; omega⟩] at HDG
      go_wp2_with (first | (go_at_call 56; refine (HDG.out _).mono ?_; rintro e w9 ⟨rfl, rfl⟩) | (go_at_call 57; refine (HC.out).mono ?_; intro e w5 h5; obtain ⟨v5, c5, rfl⟩ := RsP.two h5))
      go_ret2
      rw [HRW.out]
      exact h5.mono HK.out
  rw [if_neg g4] at HRW
  have e4 : ((g : Int) == 45) = false := by rw [beq_eq_false_iff_ne]; exact fun h => g4 (.inl (by omega))
  rw [show decide ((48 : Int) ≤ (g : Int) ∧ (g : Int) ≤ 57) = false from decide_eq_false (fun h => g4 (.inr ⟨by omega, by omega⟩))] at HDG
  by_cases g5 : g = 34
  · rw [if_pos g5] at HRW
    have HC := hid (E.quo W i n d HI2.out HR2.out (HLT.out (by omega)) (HG.out.trans g5))
    clear g4
    subst g5
    go_wp2_with (first | (go_at_call 56; refine (HDG.out _).mono ?_; rintro e w9 ⟨rfl, rfl⟩) | (go_at_call 58; refine (HC.out).mono ?_; intro e w5 h5; obtain ⟨v5, c5, rfl⟩ := RsP.two h5))
    go_ret2
    rw [HRW.out]
    exact h5.mono HK.out
  rw [if_neg g5] at HRW
  have e5 : ((g : Int) == 34) = false := by rw [beq_eq_false_iff_ne]; omega
  by_cases g6 : g = 91
  · rw [if_pos g6] at HRW
    have HC := hid (list_of E (fun f' hf' => HIH.out f' (by omega)) W n i HI2.out HR2.out (HLT.out (by omega)) hn hs (f := F) (by have := HLT.out (by omega); omega))
    rw [HD.out] at HC
    clear g4
    subst g6
    go_wp2_with (first | (go_at_call 56; refine (HDG.out _).mono ?_; rintro e w9 ⟨rfl, rfl⟩) | (go_at_call 59; refine (HC.out).mono ?_; intro e w5 h5; obtain ⟨v5, c5, rfl⟩ := RsP.two h5))
    go_ret2
    rw [HRW.out]
    exact h5.mono HK.out
  rw [if_neg g6] at HRW
  have e6 : ((g : Int) == 91) = false := by rw [beq_eq_false_iff_ne]; omega
  clear g4
  go_wp2_with (go_at_call 56; refine (HDG.out _).mono ?_; rintro e w9 ⟨rfl, rfl⟩)
  go_ret2
  rw [HRW.out]
  exact ⟨HK.out, rfl, HR2.out, hi, by decide⟩
end Go.Proofs.YtbpbkihcfdnphaaDoor
