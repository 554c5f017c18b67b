/-
  The reference's escape by a contract.
-/
import Derived.Test.YtecabbifkcnbeaaGreatDoorNumber
import Derived.Test.YtecabbifkcnbeaaGreatDoorBackBad
namespace Go.Proofs.YtecabbifkcnbeaaGreatDoor
open Go.RowKit
/-- What escape answers and leaves. -/
def EscP (w : World) (b : Nat) (s : ByteArray) (bd : Int) (r : Option Nat × Nat) (e : Ending) (w' : World) : Prop := Rk b w w' ∧ r.2 ≤ s.size ∧
  match r.1 with
  | some c => e = .returned (.int .u8 c) ∧ RRAt w' b s r.2 bd 0
  | none => e = .returned (.int .u8 0) ∧ RRAt w' b s r.2 (r.2 : Int) 5
theorem wordK_one (s : ByteArray) (i : Nat) : wordK s i [120] = if nxt s i = 120 then 1 else 0 := by
  have e : (120 : UInt8).toNat = 120 := rfl
  simp only [wordK, e]
theorem byD_h {s : ByteArray} {i : Nat} (h : hexV (nxt s i) < 0 ∨ (2 ≤ hexV (nxt s i) ∧ hexV (nxt s i) ≤ 6)) : byD s i = (none, i) := by
  unfold byD
  exact if_pos h
theorem byD_l {s : ByteArray} {i : Nat} (h : ¬ (hexV (nxt s i) < 0 ∨ (2 ≤ hexV (nxt s i) ∧ hexV (nxt s i) ≤ 6))) (h2 : hexV (nxt s (i + 1)) < 0 ∨ (32 ≤ 16 * hexV (nxt s i) + hexV (nxt s (i + 1)) ∧ 16 * hexV (nxt s i) + hexV (nxt s (i + 1)) ≤ 126)) : byD s i = (none, i + 1) := by
  unfold byD
  exact (if_neg h).trans (if_pos h2)
theorem byD_y {s : ByteArray} {i : Nat} (h : ¬ (hexV (nxt s i) < 0 ∨ (2 ≤ hexV (nxt s i) ∧ hexV (nxt s i) ≤ 6))) (h2 : ¬ (hexV (nxt s (i + 1)) < 0 ∨ (32 ≤ 16 * hexV (nxt s i) + hexV (nxt s (i + 1)) ∧ 16 * hexV (nxt s i) + hexV (nxt s (i + 1)) ≤ 126))) : byD s i = (some (16 * hexV (nxt s i) + hexV (nxt s (i + 1))).toNat, i + 2) := by
  unfold byD
  exact (if_neg h).trans (if_neg h2)
set_option maxRecDepth 100000 in
set_option maxHeartbeats 4000000 in
theorem escape_any (w : World) (b : Nat) (s : ByteArray) (i : Nat) (bd : Int) (h : RRAt w b s i bd 0) (hi : i ≤ s.size) (hs : s.size ≤ 1048576) :
    Calls Tryz.prog 190 #[.pointer (some ⟨b, 0, none⟩)] w (EscP w b s bd (escD s i)) := by
  have HH := hid h
  have his : (i : Int) ≤ 1048576 := by omega
  clear h
  go_enter Tryz.func190, Tryz.ntmps190
  go_wp2_with fail
  refine (peek_any w b s i bd 0 HH.out hi hs).mono ?_
  rintro e w1 ⟨rfl, k1, rfl⟩
  have HR1 := hid (HH.out.drewN k1)
  have HK1 := hid ((Rk.refl b w).drewN k1)
  generalize w.drewN k1 = w1 at *
  clear HH
  obtain ⟨c0, c1, c2, c3⟩ := HR1.out.four
  have f1 := HR1.out.free 1
  by_cases h34 : pk s i = 34 ∨ pk s i = 92
  · have hin := (pk_in (s := s) (i := i) (by omega)).1
    have HN := hid (show escD s i = (some (pk s i), i + 1) by
      have e := (pk_in (s := s) (i := i) (by omega)).2
      unfold escD
      rw [← e, if_pos h34])
    have HE := hid (show Rk b w (w1.setCell ⟨b, 1, none⟩ (.int .i64 ((i : Int) + 1))) ∧ RRAt (w1.setCell ⟨b, 1, none⟩ (.int .i64 ((i : Int) + 1))) b s (i + 1) bd 0 from ⟨HK1.out.set 1 _, RRAt.set1' HR1.out (by omega)⟩)
    rcases h34 with h | h
    all_goals
      rw [h] at HN
      rw [h]
      go_wp2_with fail
      go_ret
      rw [HN.out]
      exact ⟨HE.out.1, hin, rfl, HE.out.2⟩
  · have q1 : (((pk s i : Nat) : Int) == 34) = false := by rw [beq_eq_false_iff_ne]; omega
    have q2 : (((pk s i : Nat) : Int) == 92) = false := by rw [beq_eq_false_iff_ne]; omega
    have HN := hid (show escD s i = if nxt s i = 120 then byD s (i + 1) else (none, i) by
      have e1 := pk_nxt (s := s) (i := i) (c := 34) (by decide) (by decide)
      have e2 := pk_nxt (s := s) (i := i) (c := 92) (by decide) (by decide)
      unfold escD
      rw [if_neg (by omega)])
    go_wp2_with fail
    refine (rword_any w1 b s i bd ⟨#[120]⟩ HR1.out hi hs (by decide) (fun k h => by
      have h' : k < 1 := h
      obtain rfl : k = 0 := Nat.lt_one_iff.1 h'
      exact (by decide : (120 : UInt8).toNat ≠ 0))).mono ?_
    rintro e w2 ⟨rfl, hk2, hle, hW⟩
    have hW' : (wordK s i [120] = 1 ∧ RRAt w2 b s (i + wordK s i [120]) bd 0) ∨ (wordK s i [120] ≠ 1 ∧ RRAt w2 b s (i + wordK s i [120]) ((i + wordK s i [120] : Nat) : Int) 5) := hW
    have hle' : i + wordK s i [120] ≤ s.size := hle
    have HK2 := hid (HK1.out.trans hk2)
    clear hW hk2 hle c0 c1 c2 c3 f1 q1 q2 h34
    rw [wordK_one] at hW' hle'
    by_cases hx : nxt s i = 120
    · rw [if_pos hx] at hW' hle'
      rw [if_pos hx] at HN
      have HR2 := hid (show RRAt w2 b s (i + 1) bd 0 from (hW'.resolve_right (fun h => h.1 rfl)).2)
      clear hW' hx
      obtain ⟨p, hp⟩ : ∃ p, i + 1 = p := ⟨_, rfl⟩
      rw [hp] at HR2 HN hle'
      clear hp
      have hps : (p : Int) ≤ 1048576 := by omega
      go_wp2_with fail
      refine (peek_any w2 b s p bd 0 HR2.out hle' hs).mono ?_
      rintro e w3 ⟨rfl, k3, rfl⟩
      have HR3 := hid (HR2.out.drewN k3)
      have HK3 := hid (HK2.out.drewN k3)
      generalize w2.drewN k3 = w3 at *
      clear HR2 HK2
      obtain ⟨c0, c1, c2, c3⟩ := HR3.out.four
      have f1 := HR3.out.free 1
      go_wp2_with fail
      refine (digit16_any w3 _ (pk_le s p)).mono ?_
      rintro e w4 ⟨rfl, rfl⟩
      rw [dgV_pk]
      have hHb := hexV_bounds s p
      have HNH := hid (fun h => nxt_hex (s := s) (i := p) h)
      have HB1 := hid (fun h => byD_h (s := s) (i := p) h)
      have HB2 := hid (fun h h2 => byD_l (s := s) (i := p) h h2)
      have HB3 := hid (fun h h2 => byD_y (s := s) (i := p) h h2)
      have HF := hid (fail_any w4 b s p bd 5 p HR3.out)
      generalize hexV (nxt s p) = H at *
      by_cases H0 : H < 0
      · have h1 : ¬ 0 ≤ H := by omega
        have HE := hid (show byD s p = (none, p) from HB1.out (by omega))
        go_wp2_with (first | (go_at_call 114; refine HF.out.mono ?_; rintro e w5 ⟨rfl, hk5, hr5⟩; obtain ⟨d0, d1, d2, d3⟩ := hr5.four))
        go_ret
        rw [HN.out, HE.out]
        exact ⟨HK3.out.trans hk5, hle', rfl, hr5⟩
      by_cases H2 : 2 ≤ H ∧ H ≤ 6
      · obtain ⟨h2, h6⟩ := H2
        have HE := hid (show byD s p = (none, p) from HB1.out (by omega))
        go_wp2_with (first | (go_at_call 114; refine HF.out.mono ?_; rintro e w5 ⟨rfl, hk5, hr5⟩; obtain ⟨d0, d1, d2, d3⟩ := hr5.four))
        go_ret
        rw [HN.out, HE.out]
        exact ⟨HK3.out.trans hk5, hle', rfl, hr5⟩
      by_cases H3 : H < 2
      · have h1 : ¬ 2 ≤ H := by omega
        have h7 : (H == 7) = false := beq_eq_false_iff_ne.2 (by omega)
        have hin : p < s.size := HNH.out (by omega)
        go_wp2_with fail
        have HR5 := hid (show RRAt (w4.setCell ⟨b, 1, none⟩ (.int .i64 ((p : Int) + 1))) b s (p + 1) bd 0 from RRAt.set1' HR3.out (by omega))
        have HK5 := hid (HK3.out.set 1 (.int .i64 ((p : Int) + 1)))
        generalize w4.setCell ⟨b, 1, none⟩ (.int .i64 ((p : Int) + 1)) = w5 at *
        clear c0 c1 c2 c3 f1
        refine (peek_any w5 b s (p + 1) bd 0 HR5.out hin hs).mono ?_
        rintro e w6 ⟨rfl, k6, rfl⟩
        have HR6 := hid (HR5.out.drewN k6)
        have HK6 := hid (HK5.out.drewN k6)
        generalize w5.drewN k6 = w6 at *
        obtain ⟨c0, c1, c2, c3⟩ := HR6.out.four
        have f1 := HR6.out.free 1
        go_wp2_with fail
        refine (digit16_any w6 _ (pk_le s (p + 1))).mono ?_
        rintro e w7 ⟨rfl, rfl⟩
        rw [dgV_pk]
        have hGb := hexV_bounds s (p + 1)
        have HNG := hid (fun h => nxt_hex (s := s) (i := p + 1) h)
        generalize hexV (nxt s (p + 1)) = G at *
        have HF2 := hid (fail_any w7 b s (p + 1) bd 5 ((p + 1 : Nat) : Int) HR6.out)
        obtain ⟨p2, hp2⟩ : ∃ p2, p + 1 = p2 := ⟨_, rfl⟩
        have HP2 := hid hp2
        have hin : p2 ≤ s.size := by omega
        rw [hp2] at HR6 HF2 HNG c1
        clear hp2 HF
        have hps2 : (p2 : Int) ≤ 1048576 := by omega
        by_cases g0 : G < 0
        · have g1 : ¬ 0 ≤ G := by omega
          have HE := hid (show byD s p = (none, p2) by rw [← HP2.out]; exact HB2.out (by omega) (by omega))
          go_wp2_with (first | (go_at_call 114; refine HF2.out.mono ?_; rintro e w8 ⟨rfl, hk8, hr8⟩; obtain ⟨d0, d1, d2, d3⟩ := hr8.four))
          go_ret
          rw [HN.out, HE.out]
          exact ⟨HK6.out.trans hk8, hin, rfl, hr8⟩
        · have g1 : 0 ≤ G := by omega
          have hin2 : p2 < s.size := HNG.out (by omega)
          have HE := hid (show byD s p = (some (16 * H + G).toNat, p + 2) from HB3.out (by omega) (by omega))
          have hw : IntKind.i64.wrap (H * 16) = H * 16 := by rw [IntKind.wrap_i64]; omega
          have hw2 : IntKind.i64.wrap (H * 16 + G) = H * 16 + G := by rw [IntKind.wrap_i64]; omega
          have hw3 : IntKind.u8.wrap (H * 16 + G) = H * 16 + G := by rw [IntKind.wrap_u8]; omega
          have HEN := hid (show EscP w b s bd (some (16 * H + G).toNat, p + 2) (.returned (.int .u8 (H * 16 + G))) (w7.setCell ⟨b, 1, none⟩ (.int .i64 ((p2 : Int) + 1))) by
            refine ⟨HK6.out.set 1 _, by have := HP2.out; show p + 2 ≤ s.size; omega, ?_, RRAt.set1' HR6.out (by have := HP2.out; show (p2 : Int) + 1 = ((p + 2 : Nat) : Int); omega)⟩
            show Ending.returned (.int .u8 (H * 16 + G)) = .returned (.int .u8 (((16 * H + G).toNat : Nat) : Int))
            congr 2 <;> omega)
          go_wp2_with fail
          go_ret
          rw [HN.out, HE.out]
          exact HEN.out
      have H4 : 2 ≤ H := by omega
      have H5 : ¬ H ≤ 6 := by omega
      by_cases H7 : H = 7
      · have h7 : (H == 7) = true := by simp [H7]
        have hin : p < s.size := HNH.out (by omega)
        go_wp2_with fail
        have HR5 := hid (show RRAt (w4.setCell ⟨b, 1, none⟩ (.int .i64 ((p : Int) + 1))) b s (p + 1) bd 0 from RRAt.set1' HR3.out (by omega))
        have HK5 := hid (HK3.out.set 1 (.int .i64 ((p : Int) + 1)))
        generalize w4.setCell ⟨b, 1, none⟩ (.int .i64 ((p : Int) + 1)) = w5 at *
        clear c0 c1 c2 c3 f1
        refine (peek_any w5 b s (p + 1) bd 0 HR5.out hin hs).mono ?_
        rintro e w6 ⟨rfl, k6, rfl⟩
        have HR6 := hid (HR5.out.drewN k6)
        have HK6 := hid (HK5.out.drewN k6)
        generalize w5.drewN k6 = w6 at *
        obtain ⟨c0, c1, c2, c3⟩ := HR6.out.four
        have f1 := HR6.out.free 1
        go_wp2_with fail
        refine (digit16_any w6 _ (pk_le s (p + 1))).mono ?_
        rintro e w7 ⟨rfl, rfl⟩
        rw [dgV_pk]
        have hGb := hexV_bounds s (p + 1)
        have HNG := hid (fun h => nxt_hex (s := s) (i := p + 1) h)
        generalize hexV (nxt s (p + 1)) = G at *
        have HF2 := hid (fail_any w7 b s (p + 1) bd 5 ((p + 1 : Nat) : Int) HR6.out)
        obtain ⟨p2, hp2⟩ : ∃ p2, p + 1 = p2 := ⟨_, rfl⟩
        have HP2 := hid hp2
        have hin : p2 ≤ s.size := by omega
        rw [hp2] at HR6 HF2 HNG c1
        clear hp2 HF
        have hps2 : (p2 : Int) ≤ 1048576 := by omega
        by_cases g0 : G < 0
        · have g1 : ¬ 0 ≤ G := by omega
          have HE := hid (show byD s p = (none, p2) by rw [← HP2.out]; exact HB2.out (by omega) (by omega))
          go_wp2_with (first | (go_at_call 114; refine HF2.out.mono ?_; rintro e w8 ⟨rfl, hk8, hr8⟩; obtain ⟨d0, d1, d2, d3⟩ := hr8.four))
          go_ret
          rw [HN.out, HE.out]
          exact ⟨HK6.out.trans hk8, hin, rfl, hr8⟩
        by_cases g15 : G = 15
        · subst g15
          subst H7
          have hin2 : p2 < s.size := HNG.out (by omega)
          have HE := hid (show byD s p = (some ((16 : Int) * 7 + 15).toNat, p + 2) from HB3.out (by omega) (by omega))
          have hw : IntKind.i64.wrap ((7 : Int) * 16) = 7 * 16 := by rw [IntKind.wrap_i64]; omega
          have hw2 : IntKind.i64.wrap ((7 : Int) * 16 + 15) = 7 * 16 + 15 := by rw [IntKind.wrap_i64]; omega
          have hw3 : IntKind.u8.wrap ((7 : Int) * 16 + 15) = 7 * 16 + 15 := by rw [IntKind.wrap_u8]; omega
          have HEN := hid (show EscP w b s bd (some ((16 : Int) * 7 + 15).toNat, p + 2) (.returned (.int .u8 (7 * 16 + 15))) (w7.setCell ⟨b, 1, none⟩ (.int .i64 ((p2 : Int) + 1))) by
            refine ⟨HK6.out.set 1 _, by have := HP2.out; show p + 2 ≤ s.size; omega, ?_, RRAt.set1' HR6.out (by have := HP2.out; show (p2 : Int) + 1 = ((p + 2 : Nat) : Int); omega)⟩
            show Ending.returned (.int .u8 (7 * 16 + 15)) = .returned (.int .u8 ((((16 : Int) * 7 + 15).toNat : Nat) : Int))
            congr 2 <;> omega)
          go_wp2_with fail
          go_ret
          rw [HN.out, HE.out]
          exact HEN.out
        · have g1 : (G == 15) = false := beq_eq_false_iff_ne.2 g15
          have g2 : (G != 15) = true := by simp [g15]
          have g3 : 0 ≤ G := by omega
          have HE := hid (show byD s p = (none, p2) by rw [← HP2.out]; exact HB2.out (by omega) (by omega))
          go_wp2_with (first | (go_at_call 114; refine HF2.out.mono ?_; rintro e w8 ⟨rfl, hk8, hr8⟩; obtain ⟨d0, d1, d2, d3⟩ := hr8.four))
          go_ret
          rw [HN.out, HE.out]
          exact ⟨HK6.out.trans hk8, hin, rfl, hr8⟩
      · have h7 : (H == 7) = false := beq_eq_false_iff_ne.2 H7
        have hin : p < s.size := HNH.out (by omega)
        go_wp2_with fail
        have HR5 := hid (show RRAt (w4.setCell ⟨b, 1, none⟩ (.int .i64 ((p : Int) + 1))) b s (p + 1) bd 0 from RRAt.set1' HR3.out (by omega))
        have HK5 := hid (HK3.out.set 1 (.int .i64 ((p : Int) + 1)))
        generalize w4.setCell ⟨b, 1, none⟩ (.int .i64 ((p : Int) + 1)) = w5 at *
        clear c0 c1 c2 c3 f1
        refine (peek_any w5 b s (p + 1) bd 0 HR5.out hin hs).mono ?_
        rintro e w6 ⟨rfl, k6, rfl⟩
        have HR6 := hid (HR5.out.drewN k6)
        have HK6 := hid (HK5.out.drewN k6)
        generalize w5.drewN k6 = w6 at *
        obtain ⟨c0, c1, c2, c3⟩ := HR6.out.four
        have f1 := HR6.out.free 1
        go_wp2_with fail
        refine (digit16_any w6 _ (pk_le s (p + 1))).mono ?_
        rintro e w7 ⟨rfl, rfl⟩
        rw [dgV_pk]
        have hGb := hexV_bounds s (p + 1)
        have HNG := hid (fun h => nxt_hex (s := s) (i := p + 1) h)
        generalize hexV (nxt s (p + 1)) = G at *
        have HF2 := hid (fail_any w7 b s (p + 1) bd 5 ((p + 1 : Nat) : Int) HR6.out)
        obtain ⟨p2, hp2⟩ : ∃ p2, p + 1 = p2 := ⟨_, rfl⟩
        have HP2 := hid hp2
        have hin : p2 ≤ s.size := by omega
        rw [hp2] at HR6 HF2 HNG c1
        clear hp2 HF
        have hps2 : (p2 : Int) ≤ 1048576 := by omega
        by_cases g0 : G < 0
        · have g1 : ¬ 0 ≤ G := by omega
          have HE := hid (show byD s p = (none, p2) by rw [← HP2.out]; exact HB2.out (by omega) (by omega))
          go_wp2_with (first | (go_at_call 114; refine HF2.out.mono ?_; rintro e w8 ⟨rfl, hk8, hr8⟩; obtain ⟨d0, d1, d2, d3⟩ := hr8.four))
          go_ret
          rw [HN.out, HE.out]
          exact ⟨HK6.out.trans hk8, hin, rfl, hr8⟩
        · have g1 : 0 ≤ G := by omega
          have hin2 : p2 < s.size := HNG.out (by omega)
          have HE := hid (show byD s p = (some (16 * H + G).toNat, p + 2) from HB3.out (by omega) (by omega))
          have hw : IntKind.i64.wrap (H * 16) = H * 16 := by rw [IntKind.wrap_i64]; omega
          have hw2 : IntKind.i64.wrap (H * 16 + G) = H * 16 + G := by rw [IntKind.wrap_i64]; omega
          have hw3 : IntKind.u8.wrap (H * 16 + G) = H * 16 + G := by rw [IntKind.wrap_u8]; omega
          have HEN := hid (show EscP w b s bd (some (16 * H + G).toNat, p + 2) (.returned (.int .u8 (H * 16 + G))) (w7.setCell ⟨b, 1, none⟩ (.int .i64 ((p2 : Int) + 1))) by
            refine ⟨HK6.out.set 1 _, by have := HP2.out; show p + 2 ≤ s.size; omega, ?_, RRAt.set1' HR6.out (by have := HP2.out; show (p2 : Int) + 1 = ((p + 2 : Nat) : Int); omega)⟩
            show Ending.returned (.int .u8 (H * 16 + G)) = .returned (.int .u8 (((16 * H + G).toNat : Nat) : Int))
            congr 2 <;> omega)
          go_wp2_with fail
          go_ret
          rw [HN.out, HE.out]
          exact HEN.out
    · rw [if_neg hx] at hW' hle'
      rw [if_neg hx] at HN
      have HR2 := hid (show RRAt w2 b s i (i : Int) 5 from (hW'.resolve_left (fun h => absurd h.1 (by decide))).2)
      clear hW' hx
      go_wp2_with fail
      refine (peek_any w2 b s i i 5 HR2.out hi hs).mono ?_
      rintro e w3 ⟨rfl, k3, rfl⟩
      have HR3 := hid (HR2.out.drewN k3)
      have HK3 := hid (HK2.out.drewN k3)
      generalize w2.drewN k3 = w3 at *
      clear HR2 HK2
      obtain ⟨c0, c1, c2, c3⟩ := HR3.out.four
      go_wp2_with fail
      refine (digit16_any w3 _ (pk_le s i)).mono ?_
      rintro e w4 ⟨rfl, rfl⟩
      generalize dgV (pk s i) = H at *
      go_wp2_with fail
      go_ret
      rw [HN.out]
      exact ⟨HK3.out, hi, rfl, HR3.out⟩
end Go.Proofs.YtecabbifkcnbeaaGreatDoor
