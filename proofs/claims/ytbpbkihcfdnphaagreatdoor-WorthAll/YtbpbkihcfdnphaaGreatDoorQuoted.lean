/-
  The reader's quoted by a contract.
-/
import Derived.Test.YtbpbkihcfdnphaaGreatDoorHexD
import Derived.Test.YtbpbkihcfdnphaaGreatDoorBuildW
import Derived.Test.YtbpbkihcfdnphaaGreatDoorNumber
import Derived.Test.YtbpbkihcfdnphaaGreatDoorIsF
namespace Go.Proofs.YtbpbkihcfdnphaaGreatDoor
open Go.RowKit
/-- A text from i on, behind acc. -/
def quoL (s : ByteArray) : Nat → Nat → List UInt8 → Rs
  | 0, _, _ => .bad 1 0
  | f + 1, i, acc =>
    if nxt s i = 34 then .ok (.node 4 0 ⟨acc.toArray⟩ []) (i + 1)
    else if ¬ (32 ≤ nxt s i ∧ nxt s i ≤ 126) then .bad 5 i
    else if nxt s i = 92 then (match escD s (i + 1) with
      | (none, a) => .bad 5 a
      | (some c, a) => quoL s f a (acc ++ [c.toUInt8]))
    else quoL s f (i + 1) (acc ++ [(nxt s i).toUInt8])
/-- What quoted reads at i. -/
def quoQ (s : ByteArray) (i : Nat) : Rs := quoL s (s.size + 1) (i + 1) []
theorem builder_kp {T e : TypeId} {B bb b : Nat} {bs : List Value} {w w' : World} (h : Lib.IsBuilderF T e B bb bs w) (hk : Kp (· ≠ b) w w') (hb : b < B) : Lib.IsBuilderF T e B bb bs w' := by
  have row : ∀ {v : Value} {n : Nat} {xs : List Value}, w.ownsRowF B e 1 v n xs → w'.ownsRowF B e 1 v n xs := fun {v n xs} h => by
    refine ⟨h.1, ?_⟩
    rcases h.2 with h | ⟨g, cap, cur, fz, h1, h2, h3, h4⟩
    · exact .inl h
    · exact .inr ⟨g, cap, cur, fz, h1, h2, hk.block' h3 (by show g ≠ b; omega), h4⟩
  have key : ∀ p, Lib.BuilderAtF T e B bb p bs w → Lib.BuilderAtF T e B bb p bs w' := fun p ⟨hB, v, hbk, hown, hne⟩ => ⟨hB, v, hk.block' hbk (by show bb ≠ b; omega), row hown, hne⟩
  exact h.elim (fun x => .inl (key _ x)) (fun x => .inr (key _ x))
theorem byD_some {s : ByteArray} {i c a : Nat} (h : byD s i = (some c, a)) : a = i + 2 ∧ c < 256 := by
  have h1 := hexV_bounds s i
  have h2 := hexV_bounds s (i + 1)
  simp only [byD] at h
  split at h
  · cases h
  split at h
  · cases h
  · cases h; omega
theorem byD_none {s : ByteArray} {i a : Nat} (h : byD s i = (none, a)) : i ≤ a := by
  simp only [byD] at h
  split at h
  · cases h; omega
  split at h
  · cases h; omega
  · cases h
theorem escD_some {s : ByteArray} {i c a : Nat} (h : escD s i = (some c, a)) : i < a ∧ c < 256 := by
  unfold escD at h
  split at h
  · rename_i hq; cases h; omega
  split at h
  · have := byD_some h; omega
  · cases h
theorem builder_new (w : World) : Lib.IsBuilderF 117 5 w.heap.size w.heap.size (Lib.byteCells []) (w.alloc (.cells #[.pointer none, .slice none 0 0] 117)) :=
  .inl ⟨Nat.le_refl _, .slice none 0 0, blk0 w _, World.ownsRowF_nil _ _ _ _, by simp [Value.ownBlock]⟩
theorem u8_cell (acc : List UInt8) (c : Nat) (h : c < 256) : Lib.byteCells acc ++ [.int .u8 (c : Int)] = Lib.byteCells (acc ++ [Nat.toUInt8 c]) := by
  rw [app_len]
  congr 1
  simp only [Lib.byteCells, List.map_cons, List.map_nil]
  have e : (Nat.toUInt8 c).toNat = c := by simp; omega
  rw [e]
theorem byteCells_len' (l : List UInt8) : (Lib.byteCells l).length = l.length := by simp [Lib.byteCells]
set_option maxRecDepth 100000 in
set_option maxHeartbeats 4000000 in
theorem quoted_any (w : World) (b : Nat) (s : ByteArray) (i n d : Nat) (h : RdAt w b s i n) (hi : i < s.size) (hs : s.size ≤ 1048576) :
    Calls Tryz.prog 66 #[.pointer (some ⟨b, 0, none⟩)] w (RsP w b s n (d + 1) (quoQ s i)) := by
  have HH := hid h
  have HI := hid hi
  have HS := hid hs
  have hi' : (i : Int) ≤ 1048576 := by omega
  have hbl := lt_of_block h
  have c1 := cell_of (i := 1) h rfl
  have f1 := frozen_of (i := 1) h
  simp only [List.getElem_toArray, List.getElem_cons_zero, List.getElem_cons_succ] at c1
  clear h hi hs
  go_enter Tryz.func66, Tryz.ntmps66
  go_wp2_with fail
  go_loopw [] (fun wr => ∃ (f j : Nat) (acc : List UInt8), quoQ s i = quoL s f j acc ∧ s.size < f + j ∧ j ≤ s.size ∧ acc.length ≤ j ∧ RdAt wr b s j n ∧ Lib.IsBuilderF 117 5 w.heap.size w.heap.size (Lib.byteCells acc) wr ∧ Kp (· ≠ b) w wr) (fun wr => s.size - atOf b wr)
  case atStart =>
    have hb0 := builder_new (w.setCell ⟨b, 1, none⟩ (.int .i64 ((i : Int) + 1)))
    rw [size_set] at hb0
    exact ⟨s.size + 1, i + 1, [], rfl, by omega, HI.out, Nat.zero_le _, blkOld _ ((set_at HH.out 1 _).trans rfl), hb0, (Kp.set _ _ _ _ (fun h => h rfl)).alloc _⟩
  case round =>
    obtain ⟨f0, j, acc, hq, hf, hj, hal, hr, hbw, hkp⟩ := hrel
    obtain ⟨f, rfl⟩ : ∃ f, f0 = f + 1 := ⟨f0 - 1, by omega⟩
    have HQ := hid hq
    have HF := hid hf
    have HAL := hid hal
    have HR := hid hr
    have HBR := hid hbw
    have HKP := hid hkp
    have hj' : (j : Int) ≤ 1048576 := by have := HS.out; omega
    have HJ := hid hj
    have HTK := hid (take_any wr b s j n 34 hr hj HS.out)
    clear c1 f1 hq hf hal hr hbw hkp hj
    obtain ⟨g, hg⟩ : ∃ g, nxt s j = g := ⟨_, rfl⟩
    have HG := hid hg
    rw [hg] at HTK
    clear hg
    go_wp2_with fail
    refine HTK.out.mono ?_
    rintro e w1 ⟨rfl, hk1, _, hr1⟩
    have HK1 := hid (HKP.out.trans hk1)
    have HB1 := hid (builder_kp HBR.out hk1 hbl)
    clear hk1
    by_cases h34 : g = 34
    · rw [if_pos h34] at hr1
      rw [decide_eq_true h34]
      have HR1 := hid hr1
      have HLT := hid (nxt_in (s := s) (i := j) (by rw [HG.out, h34]; decide))
      have HE := hid (show quoQ s i = .ok (.node 4 0 ⟨acc.toArray⟩ []) (j + 1) by rw [HQ.out, quoL, HG.out, if_pos h34])
      clear hr1 h34
      go_wp2_with fail
      refine (Tryz.Builder_String_any_f w.heap.size w.heap.size _ w1 HB1.out HK1.out.size).mono ?_
      rintro e w2 ⟨rfl, _, hx2⟩
      have HK2 := hid (HK1.out.under hx2 (Nat.le_refl _))
      have HR2 := hid (show RdAt w2 b s (j + 1) n from (Below.block hx2 b hbl).trans HR1.out)
      clear hx2
      go_wp2_with fail
      go_ret2
      rw [HE.out]
      refine ⟨HK2.out, .iface 79 (.string ⟨acc.toArray⟩), [], rfl, .inr (.inr (.inr (.inl ⟨rfl, rfl, rfl, rfl, ?_, rfl⟩))), fun x hx => (by cases hx), List.nodup_nil, HR2.out, HLT.out⟩
      show acc.toArray.size ≤ _
      have := HAL.out; have := HJ.out; have := HS.out
      simp
      omega
    · rw [if_neg h34] at hr1
      rw [decide_eq_false h34]
      have HR1 := hid hr1
      have HNX := hid (next_any w1 b s j n hr1 HJ.out HS.out)
      rw [HG.out] at HNX
      clear hr1
      go_wp2_with fail
      refine HNX.out.mono ?_
      rintro e w2 ⟨rfl, kd, rfl⟩
      have HK2 := hid (HK1.out.drewN kd)
      have HR2 := hid (show RdAt (w1.drewN kd) b s j n from ((Ext.refl w1).drewN kd).block HR1.out)
      have HB2 := hid (builder_ext HB1.out ((Ext.refl w1).drewN kd))
      generalize w1.drewN kd = w2 at HK2 HR2 HB2 ⊢
      go_wp2_with fail
      refine (plainByte_any _ _).mono ?_
      rintro e w3 ⟨rfl, rfl⟩
      by_cases hpl : (32 : Int) ≤ g ∧ (g : Int) ≤ 126
      · rw [decide_eq_true hpl]
        have HLT := hid (nxt_in (s := s) (i := j) (by rw [HG.out]; omega))
        have c1 := cell_of (i := 1) HR2.out rfl
        have f1 := frozen_of (i := 1) HR2.out
        simp only [List.getElem_toArray, List.getElem_cons_zero, List.getElem_cons_succ] at c1
        have hr3 : RdAt (w3.setCell ⟨b, 1, none⟩ (.int .i64 ((j : Int) + 1))) b s (j + 1) n := (set_at HR2.out 1 _).trans rfl
        have hk3 := Kp.set (K := (· ≠ b)) w3 b 1 (.int .i64 ((j : Int) + 1)) (fun h => h rfl)
        have HR3 := hid hr3
        have HK3 := hid (HK2.out.trans hk3)
        have HB3 := hid (builder_kp HB2.out hk3 hbl)
        clear hr3 hk3
        by_cases h92 : g = 92
        · have HE1 := hid (show ∀ r, escD s (j + 1) = r → quoL s (f + 1) j acc = (match r with | (none, a) => Rs.bad 5 a | (some c, a) => quoL s f a (acc ++ [c.toUInt8])) from fun r hr => by rw [quoL, HG.out, if_neg h34, if_neg (by omega), if_pos h92, hr])
          subst h92
          clear h34 hpl
          go_wp2_with fail
          generalize w3.setCell ⟨b, 1, none⟩ (.int .i64 ((j : Int) + 1)) = w4 at HR3 HK3 HB3 ⊢
          refine (escaped_any w4 b s (j + 1) n HR3.out HLT.out HS.out).mono ?_
          rintro e w5 ⟨hk5, hr5, hl5, rfl⟩
          have HKW := hid (HK3.out.trans hk5)
          have HBW := hid (builder_kp HB3.out hk5 hbl)
          have HRW := hid hr5
          have HLE := hid hl5
          clear hk5 hr5 hl5
          rcases hqq : escD s (j + 1) with ⟨_ | c, a⟩
          · have HST := hid (HE1.out _ hqq)
            rw [hqq] at HRW HLE
            clear hqq c1 f1
            go_wp2_with fail
            go_ret2
            rw [HQ.out, HST.out]
            exact ⟨HKW.out, rfl, HRW.out, HLE.out, by decide⟩
          · have HST := hid (HE1.out _ hqq)
            have hca := escD_some hqq
            have hcc : c < 256 := hca.2
            have HCA := hid hca.1
            rw [hqq] at HRW HLE
            clear hqq hca
            have HCELL := hid (u8_cell acc c (by omega))
            clear c1 f1
            go_wp2_with fail
            refine (writeByte_any w.heap.size w.heap.size _ c w5 HBW.out (by have := HAL.out; have := HS.out; rw [byteCells_len']; omega) (by have := HKW.out.size; omega)).mono ?_
            rintro e w6 ⟨rfl, hb6, hx6⟩
            have HB6 := hid (HCELL.out ▸ hb6)
            have HK6 := hid (HKW.out.under hx6 (Nat.le_refl _))
            have HR6 := hid (show RdAt w6 b s a n from (Below.block hx6 b hbl).trans HRW.out)
            clear hb6 hx6
            go_wp2_with fail
            go_roundw
            case rel => exact ⟨f, a, acc ++ [Nat.toUInt8 c], HQ.out.trans HST.out, by have := HF.out; have := HCA.out; omega, HLE.out, by rw [List.length_append]; have := HAL.out; have := HCA.out; simp; omega, HR6.out, HB6.out, HK6.out⟩
            case measure => rw [atOf_rd HR6.out, atOf_rd HR.out]; have := HLE.out; have := HCA.out; omega
        · have HST := hid (show quoL s (f + 1) j acc = quoL s f (j + 1) (acc ++ [Nat.toUInt8 g]) by rw [quoL, HG.out, if_neg h34, if_neg (by omega), if_neg h92])
          have e92 : ((g : Int) == 92) = false := by rw [beq_eq_false_iff_ne]; omega
          have hgg : g < 256 := by omega
          have HLE := hid (show j + 1 ≤ s.size from HLT.out)
          clear h34 hpl h92
          go_wp2_with fail
          generalize w3.setCell ⟨b, 1, none⟩ (.int .i64 ((j : Int) + 1)) = w4 at HR3 HK3 HB3 ⊢
          have HKW := HK3
          have HBW := HB3
          have HRW := HR3
          have HCELL := hid (u8_cell acc g (by omega))
          clear c1 f1
          skip
          refine (writeByte_any w.heap.size w.heap.size _ g w4 HBW.out (by have := HAL.out; have := HS.out; rw [byteCells_len']; omega) (by have := HKW.out.size; omega)).mono ?_
          rintro e w6 ⟨rfl, hb6, hx6⟩
          have HB6 := hid (HCELL.out ▸ hb6)
          have HK6 := hid (HKW.out.under hx6 (Nat.le_refl _))
          have HR6 := hid (show RdAt w6 b s (j + 1) n from (Below.block hx6 b hbl).trans HRW.out)
          clear hb6 hx6
          go_wp2_with fail
          go_roundw
          case rel => exact ⟨f, (j + 1), acc ++ [Nat.toUInt8 g], HQ.out.trans HST.out, by have := HF.out; omega, HLE.out, by rw [List.length_append]; have := HAL.out; simp; omega, HR6.out, HB6.out, HK6.out⟩
          case measure => rw [atOf_rd HR6.out, atOf_rd HR.out]; have := HLE.out; have := HLT.out; omega
      · rw [decide_eq_false hpl]
        have HE := hid (show quoQ s i = .bad 5 j by rw [HQ.out, quoL, HG.out, if_neg h34, if_pos (by omega)])
        clear hpl h34
        go_wp2_with fail
        go_ret2
        rw [HE.out]
        exact ⟨HK2.out, rfl, HR2.out, HJ.out, by decide⟩
end Go.Proofs.YtbpbkihcfdnphaaGreatDoor
