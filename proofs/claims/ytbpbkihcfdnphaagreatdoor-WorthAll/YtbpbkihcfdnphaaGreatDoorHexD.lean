/-
  The reader's byDigits and escaped, each by a contract.
-/
import Derived.Test.YtbpbkihcfdnphaaGreatDoorRdr
import Derived.Test.YtbpbkihcfdnphaaGreatDoorEsc
import Derived.Test.YtbpbkihcfdnphaaGreatDoorShelf
namespace Go.Proofs.YtbpbkihcfdnphaaGreatDoor
open Go.RowKit
/-- What a byte is as a digit; -1: none. -/
def hexV (c : Nat) : Int := Lib.indexByte hexL c.toUInt8
theorem indexByte_lt : ∀ (l : List UInt8) (c : UInt8), -1 ≤ Lib.indexByte l c ∧ (Lib.indexByte l c < l.length)
  | [], _ => by simp [Lib.indexByte]
  | b :: l, c => by
    obtain ⟨h1, h2⟩ := indexByte_lt l c
    simp only [Lib.indexByte, List.length_cons]
    split
    · omega
    split
    · omega
    · rename_i h3
      have h4 : Lib.indexByte l c ≠ -1 := by simpa using h3
      omega
theorem hexV_lt (c : Nat) : -1 ≤ hexV c ∧ hexV c ≤ 15 := by
  have h := indexByte_lt hexL c.toUInt8
  have e : hexL.length = 16 := rfl
  unfold hexV
  omega
theorem hexV_bounds (s : ByteArray) (i : Nat) : -1 ≤ hexV (nxt s i) ∧ hexV (nxt s i) ≤ 15 := hexV_lt _
theorem index_any (c : Nat) (w : World) : Calls Tryz.prog 99 #[.string ⟨#[48, 49, 50, 51, 52, 53, 54, 55, 56, 57, 97, 98, 99, 100, 101, 102]⟩, .int .u8 c] w fun e w' => e = .returned (.int .i64 (hexV c)) ∧ w' = w :=
  Tryz.strings_IndexByte _ (c : Int) w
/-- What byDigits reads: the byte, or none; and where it stands then. -/
def byD (s : ByteArray) (i : Nat) : Option Nat × Nat :=
  let h := hexV (nxt s i)
  if h < 0 ∨ (2 ≤ h ∧ h ≤ 6) then (none, i)
  else
    let l := hexV (nxt s (i + 1))
    if l < 0 ∨ (32 ≤ 16 * h + l ∧ 16 * h + l ≤ 126) then (none, i + 1) else (some (16 * h + l).toNat, i + 2)
def BydR (w : World) (b : Nat) (s : ByteArray) (n : Nat) (r : Option Nat × Nat) (e : Ending) (w' : World) : Prop := Kp (· ≠ b) w w' ∧ RdAt w' b s r.2 n ∧ r.2 ≤ s.size ∧
  e = .returned (match r.1 with | some c => .tuple #[.int .u8 c, .int .i64 0] | none => .tuple #[.int .u8 0, .int .i64 5])
theorem nxt_hex {s : ByteArray} {i : Nat} (h : 0 ≤ hexV (nxt s i)) : i < s.size := by
  rcases Nat.lt_or_ge i s.size with h' | h'
  · exact h'
  · rw [nxt_end (by omega)] at h
    exact absurd h (by decide)
theorem bits_all : ∀ h l : Fin 16, bits .or .i64 ((h.1 : Int) * 16) (l.1 : Int) = (h.1 : Int) * 16 + (l.1 : Int) := by decide
theorem bits_or (H G : Int) (h0 : 0 ≤ H) (h1 : H ≤ 15) (g0 : 0 ≤ G) (g1 : G ≤ 15) : bits .or .i64 (H * 16) G = H * 16 + G := by
  have e := bits_all ⟨H.toNat, by omega⟩ ⟨G.toNat, by omega⟩
  simp only [Int.toNat_of_nonneg h0, Int.toNat_of_nonneg g0] at e
  exact e
set_option maxRecDepth 100000 in
set_option maxHeartbeats 2000000 in
theorem byDigits_any (w : World) (b : Nat) (s : ByteArray) (i n : Nat) (h : RdAt w b s i n) (hi : i ≤ s.size) (hs : s.size ≤ 1048576) :
    Calls Tryz.prog 87 #[.pointer (some ⟨b, 0, none⟩)] w (BydR w b s n (byD s i)) := by
  have HN := hid (next_any w b s i n h hi hs)
  have HH := hid h
  have HI := hid hi
  have HS := hid hs
  have hi' : (i : Int) ≤ 1048576 := by omega
  obtain ⟨hv1, hv2⟩ := hexV_bounds s i
  have HIX := hid (fun w => index_any (nxt s i) w)
  obtain ⟨H, hH⟩ : ∃ H, hexV (nxt s i) = H := ⟨_, rfl⟩
  have HHV := hid hH
  rw [hH] at HIX hv1 hv2
  clear h hi hs hH
  go_enter Tryz.func87, Tryz.ntmps87
  go_wp2_with fail
  refine HN.out.mono ?_
  rintro e w1 ⟨rfl, k, rfl⟩
  go_wp2_with fail
  refine (HIX.out _).mono ?_
  rintro e w2 ⟨rfl, rfl⟩
  by_cases h0 : H < 0
  · have hH1 : H = -1 := by omega
    subst hH1
    go_wp2_with fail
    go_ret2
    have er : byD s i = (none, i) := by simp only [byD, HHV.out]; rfl
    rw [er]
    exact ⟨((Ext.refl w).drewN k).kp _, ((Ext.refl w).drewN k).block HH.out, HI.out, rfl⟩
  · have h0' : 0 ≤ H := by omega
    have HH0 := hid h0'
    have HLT := hid (show i + 1 ≤ s.size from nxt_hex (by rw [HHV.out]; exact h0'))
    clear h0
    go_wp2_with fail
    by_cases hp : 2 ≤ H ∧ H ≤ 7
    · refine (plainByte_any _ _).mono ?_
      rintro e w3 ⟨rfl, rfl⟩
      rw [decide_eq_true (show (32 : Int) ≤ H * 16 ∧ H * 16 ≤ 126 by omega)]
      go_wp2_with fail
      rw [bits_or H 15 HH0.out hv2 (by decide) (by decide)]
      refine (plainByte_any _ _).mono ?_
      rintro e w3 ⟨rfl, rfl⟩
      by_cases h6 : H ≤ 6
      · rw [decide_eq_true (show (32 : Int) ≤ (H * 16 + 15) % 256 ∧ (H * 16 + 15) % 256 ≤ 126 by omega)]
        go_wp2_with fail
        go_ret2
        have er : byD s i = (none, i) := by simp only [byD, HHV.out]; rw [if_pos (by omega)]
        rw [er]
        exact ⟨((Ext.refl w).drewN k).kp _, ((Ext.refl w).drewN k).block HH.out, HI.out, rfl⟩
      · rw [decide_eq_false (show ¬ ((32 : Int) ≤ (H * 16 + 15) % 256 ∧ (H * 16 + 15) % 256 ≤ 126) by omega)]
        have HB := hid (((Ext.refl w).drewN k).block HH.out)
        have c1 := cell_of (i := 1) HB.out rfl
        have f1 := frozen_of (i := 1) HB.out
        simp only [List.getElem_toArray, List.getElem_cons_zero, List.getElem_cons_succ] at c1
        go_wp2_with fail
        have hb5 : RdAt ((w.drewN k).setCell ⟨b, 1, none⟩ (.int .i64 ((i : Int) + 1))) b s (i + 1) n := (set_at HB.out 1 _).trans rfl
        have hk5 : Kp (· ≠ b) w ((w.drewN k).setCell ⟨b, 1, none⟩ (.int .i64 ((i : Int) + 1))) := (((Ext.refl w).drewN k).kp _).trans (Kp.set _ _ _ _ (fun h => h rfl))
        generalize (w.drewN k).setCell ⟨b, 1, none⟩ (.int .i64 ((i : Int) + 1)) = V at hb5 hk5 ⊢
        have HB5 := hid hb5
        have HK5 := hid hk5
        clear hb5 hk5 c1 f1
        refine (next_any V b s (i + 1) n HB5.out HLT.out HS.out).mono ?_
        rintro e V1 ⟨rfl, k2, rfl⟩
        go_wp2_with fail
        refine (index_any (nxt s (i + 1)) _).mono ?_
        rintro e V2 ⟨rfl, rfl⟩
        obtain ⟨lv1, lv2⟩ := hexV_bounds s (i + 1)
        obtain ⟨G, hG⟩ : ∃ G, hexV (nxt s (i + 1)) = G := ⟨_, rfl⟩
        have HGV := hid hG
        rw [hG] at lv1 lv2
        rw [hG]
        clear hG
        by_cases g0 : G < 0
        · have hG1 : G = -1 := by omega
          subst hG1
          go_wp2_with fail
          go_ret2
          have er : byD s i = (none, i + 1) := by simp only [byD, HHV.out, HGV.out]; rw [if_neg (by omega), if_pos (by omega)]
          rw [er]
          exact ⟨HK5.out.drewN _, ((Ext.refl V).drewN k2).block HB5.out, HLT.out, rfl⟩
        · have g0' : 0 ≤ G := by omega
          have HBT := hid (bits_or H G HH0.out hv2 g0' lv2)
          have hp2 := nxt_hex (s := s) (i := i + 1) (by rw [HGV.out]; exact g0')
          have HP2 := hid hp2
          clear g0 hp2
          go_wp2_with fail
          rw [HBT.out]
          refine (plainByte_any _ _).mono ?_
          rintro e V3 ⟨rfl, rfl⟩
          by_cases hpl : (32 : Int) ≤ (H * 16 + G) % 256 ∧ (H * 16 + G) % 256 ≤ 126
          · rw [decide_eq_true hpl]
            have HPL := hid hpl
            clear hpl
            go_wp2_with fail
            go_ret2
            have er : byD s i = (none, i + 1) := by simp only [byD, HHV.out, HGV.out]; rw [if_neg (by omega), if_pos (by have := HPL.out; omega)]
            rw [er]
            exact ⟨HK5.out.drewN _, ((Ext.refl V).drewN k2).block HB5.out, HLT.out, rfl⟩
          · rw [decide_eq_false hpl]
            have HPL := hid hpl
            clear hpl
            have HB6 := hid (((Ext.refl V).drewN k2).block HB5.out)
            have c1 := cell_of (i := 1) HB6.out rfl
            have f1 := frozen_of (i := 1) HB6.out
            simp only [List.getElem_toArray, List.getElem_cons_zero, List.getElem_cons_succ] at c1
            go_wp2_with fail
            rw [HBT.out]
            go_ret2
            have er : byD s i = (some (16 * H + G).toNat, i + 2) := by simp only [byD, HHV.out, HGV.out]; rw [if_neg (by omega), if_neg (by have := HPL.out; omega)]
            rw [er]
            refine ⟨(HK5.out.drewN _).trans (Kp.set _ _ _ _ (fun h => h rfl)), (set_at HB6.out 1 _).trans rfl, HP2.out, ?_⟩
            show Ending.returned (.tuple #[.int .u8 ((H * 16 + G) % 256), .int .i64 0]) = .returned (.tuple #[.int .u8 ((16 * H + G).toNat : Nat), .int .i64 0])
            rw [show (H * 16 + G) % 256 = ((16 * H + G).toNat : Int) by omega]
    · refine (plainByte_any _ _).mono ?_
      rintro e w3 ⟨rfl, rfl⟩
      rw [decide_eq_false (show ¬ ((32 : Int) ≤ H * 16 ∧ H * 16 ≤ 126) by omega)]
      have HB := hid (((Ext.refl w).drewN k).block HH.out)
      have c1 := cell_of (i := 1) HB.out rfl
      have f1 := frozen_of (i := 1) HB.out
      simp only [List.getElem_toArray, List.getElem_cons_zero, List.getElem_cons_succ] at c1
      go_wp2_with fail
      have hb5 : RdAt ((w.drewN k).setCell ⟨b, 1, none⟩ (.int .i64 ((i : Int) + 1))) b s (i + 1) n := (set_at HB.out 1 _).trans rfl
      have hk5 : Kp (· ≠ b) w ((w.drewN k).setCell ⟨b, 1, none⟩ (.int .i64 ((i : Int) + 1))) := (((Ext.refl w).drewN k).kp _).trans (Kp.set _ _ _ _ (fun h => h rfl))
      generalize (w.drewN k).setCell ⟨b, 1, none⟩ (.int .i64 ((i : Int) + 1)) = V at hb5 hk5 ⊢
      have HB5 := hid hb5
      have HK5 := hid hk5
      clear hb5 hk5 c1 f1
      refine (next_any V b s (i + 1) n HB5.out HLT.out HS.out).mono ?_
      rintro e V1 ⟨rfl, k2, rfl⟩
      go_wp2_with fail
      refine (index_any (nxt s (i + 1)) _).mono ?_
      rintro e V2 ⟨rfl, rfl⟩
      obtain ⟨lv1, lv2⟩ := hexV_bounds s (i + 1)
      obtain ⟨G, hG⟩ : ∃ G, hexV (nxt s (i + 1)) = G := ⟨_, rfl⟩
      have HGV := hid hG
      rw [hG] at lv1 lv2
      rw [hG]
      clear hG
      by_cases g0 : G < 0
      · have hG1 : G = -1 := by omega
        subst hG1
        go_wp2_with fail
        go_ret2
        have er : byD s i = (none, i + 1) := by simp only [byD, HHV.out, HGV.out]; rw [if_neg (by omega), if_pos (by omega)]
        rw [er]
        exact ⟨HK5.out.drewN _, ((Ext.refl V).drewN k2).block HB5.out, HLT.out, rfl⟩
      · have g0' : 0 ≤ G := by omega
        have HBT := hid (bits_or H G HH0.out hv2 g0' lv2)
        have hp2 := nxt_hex (s := s) (i := i + 1) (by rw [HGV.out]; exact g0')
        have HP2 := hid hp2
        clear g0 hp2
        go_wp2_with fail
        rw [HBT.out]
        refine (plainByte_any _ _).mono ?_
        rintro e V3 ⟨rfl, rfl⟩
        by_cases hpl : (32 : Int) ≤ (H * 16 + G) % 256 ∧ (H * 16 + G) % 256 ≤ 126
        · rw [decide_eq_true hpl]
          have HPL := hid hpl
          clear hpl
          go_wp2_with fail
          go_ret2
          have er : byD s i = (none, i + 1) := by simp only [byD, HHV.out, HGV.out]; rw [if_neg (by omega), if_pos (by have := HPL.out; omega)]
          rw [er]
          exact ⟨HK5.out.drewN _, ((Ext.refl V).drewN k2).block HB5.out, HLT.out, rfl⟩
        · rw [decide_eq_false hpl]
          have HPL := hid hpl
          clear hpl
          have HB6 := hid (((Ext.refl V).drewN k2).block HB5.out)
          have c1 := cell_of (i := 1) HB6.out rfl
          have f1 := frozen_of (i := 1) HB6.out
          simp only [List.getElem_toArray, List.getElem_cons_zero, List.getElem_cons_succ] at c1
          go_wp2_with fail
          rw [HBT.out]
          go_ret2
          have er : byD s i = (some (16 * H + G).toNat, i + 2) := by simp only [byD, HHV.out, HGV.out]; rw [if_neg (by omega), if_neg (by have := HPL.out; omega)]
          rw [er]
          refine ⟨(HK5.out.drewN _).trans (Kp.set _ _ _ _ (fun h => h rfl)), (set_at HB6.out 1 _).trans rfl, HP2.out, ?_⟩
          show Ending.returned (.tuple #[.int .u8 ((H * 16 + G) % 256), .int .i64 0]) = .returned (.tuple #[.int .u8 ((16 * H + G).toNat : Nat), .int .i64 0])
          rw [show (H * 16 + G) % 256 = ((16 * H + G).toNat : Int) by omega]
/-- What escaped reads. -/
def escD (s : ByteArray) (i : Nat) : Option Nat × Nat := if nxt s i = 34 ∨ nxt s i = 92 then (some (nxt s i), i + 1) else if nxt s i = 120 then byD s (i + 1) else (none, i)
theorem nxt_in {s : ByteArray} {i : Nat} (h : nxt s i ≠ 0) : i < s.size := by
  rcases Nat.lt_or_ge i s.size with h' | h'
  · exact h'
  · exact absurd (nxt_end (by omega)) h
set_option maxRecDepth 100000 in
set_option maxHeartbeats 2000000 in
theorem escaped_any (w : World) (b : Nat) (s : ByteArray) (i n : Nat) (h : RdAt w b s i n) (hi : i ≤ s.size) (hs : s.size ≤ 1048576) :
    Calls Tryz.prog 76 #[.pointer (some ⟨b, 0, none⟩)] w (BydR w b s n (escD s i)) := by
  have HN := hid (next_any w b s i n h hi hs)
  have HH := hid h
  have HI := hid hi
  have HS := hid hs
  have hi' : (i : Int) ≤ 1048576 := by omega
  obtain ⟨g, hg⟩ : ∃ g, nxt s i = g := ⟨_, rfl⟩
  have HG := hid hg
  rw [hg] at HN
  clear h hi hs hg
  go_enter Tryz.func76, Tryz.ntmps76
  go_wp2_with fail
  refine HN.out.mono ?_
  rintro e w1 ⟨rfl, k, rfl⟩
  have HB := hid (((Ext.refl w).drewN k).block HH.out)
  have c1 := cell_of (i := 1) HB.out rfl
  have f1 := frozen_of (i := 1) HB.out
  simp only [List.getElem_toArray, List.getElem_cons_zero, List.getElem_cons_succ] at c1
  by_cases h1 : g = 34
  · subst h1
    have HLT := hid (nxt_in (s := s) (i := i) (by rw [HG.out]; decide))
    go_wp2_with fail
    go_ret2
    have er : escD s i = (some 34, i + 1) := by unfold escD; rw [HG.out]; rfl
    rw [er]
    exact ⟨(((Ext.refl w).drewN k).kp _).trans (Kp.set _ _ _ _ (fun h => h rfl)), (set_at HB.out 1 _).trans rfl, HLT.out, rfl⟩
  · by_cases h2 : g = 92
    · subst h2
      have HLT := hid (nxt_in (s := s) (i := i) (by rw [HG.out]; decide))
      go_wp2_with fail
      go_ret2
      have er : escD s i = (some 92, i + 1) := by unfold escD; rw [HG.out]; rfl
      rw [er]
      exact ⟨(((Ext.refl w).drewN k).kp _).trans (Kp.set _ _ _ _ (fun h => h rfl)), (set_at HB.out 1 _).trans rfl, HLT.out, rfl⟩
    · by_cases h3 : g = 120
      · subst h3
        have HLT := hid (nxt_in (s := s) (i := i) (by rw [HG.out]; decide))
        go_wp2_with fail
        have hb5 : RdAt ((w.drewN k).setCell ⟨b, 1, none⟩ (.int .i64 ((i : Int) + 1))) b s (i + 1) n := (set_at HB.out 1 _).trans rfl
        have hk5 : Kp (· ≠ b) w ((w.drewN k).setCell ⟨b, 1, none⟩ (.int .i64 ((i : Int) + 1))) := (((Ext.refl w).drewN k).kp _).trans (Kp.set _ _ _ _ (fun h => h rfl))
        refine (byDigits_any _ b s (i + 1) n hb5 HLT.out HS.out).mono ?_
        rintro e w2 ⟨hk2, hr2, hl2, rfl⟩
        have HK2 := hid (hk5.trans hk2)
        have HR2 := hid hr2
        have HL2 := hid hl2
        have HER := hid (show escD s i = byD s (i + 1) by unfold escD; rw [HG.out]; rfl)
        clear hk2 hr2 hl2 hb5 hk5 c1 f1
        rcases hq : byD s (i + 1) with ⟨_ | c, a⟩
        · rw [hq] at HER HR2 HL2
          clear hq
          go_wp2_with fail
          go_ret2
          rw [HER.out]
          exact ⟨HK2.out, HR2.out, HL2.out, rfl⟩
        · rw [hq] at HER HR2 HL2
          clear hq
          go_wp2_with fail
          go_ret2
          rw [HER.out]
          exact ⟨HK2.out, HR2.out, HL2.out, rfl⟩
      · have e1 : ((g : Int) == 34) = false := by rw [beq_eq_false_iff_ne]; omega
        have e2 : ((g : Int) == 92) = false := by rw [beq_eq_false_iff_ne]; omega
        have e3 : ((g : Int) == 120) = false := by rw [beq_eq_false_iff_ne]; omega
        have HE := hid (And.intro h1 (And.intro h2 h3))
        clear h1 h2 h3
        go_wp2_with fail
        go_ret2
        have er : escD s i = (none, i) := by unfold escD; rw [HG.out, if_neg (by have := HE.out; omega), if_neg (by have := HE.out; omega)]
        rw [er]
        exact ⟨((Ext.refl w).drewN k).kp _, HB.out, HI.out, rfl⟩
end Go.Proofs.YtbpbkihcfdnphaaGreatDoor
