/-
  writeText by a contract: a text's bytes between quotes, each by itself or by its digits.
-/
import Derived.Test.YtbpbkihcfdnphaaDoorBytes
import Derived.Test.YtbpbkihcfdnphaaDoorWf
import Derived.Laws.BitsAllLaws
namespace Go.Proofs.YtbpbkihcfdnphaaDoor
open Go.RowKit
def hexL : List UInt8 := [48, 49, 50, 51, 52, 53, 54, 55, 56, 57, 97, 98, 99, 100, 101, 102]
/-- How a byte is written. -/
def esc (b : UInt8) : List UInt8 :=
  if b = 34 ∨ b = 92 then [92, b] else if 32 ≤ b.toNat ∧ b.toNat ≤ 126 then [b] else [92, 120, hexL.getD (b.toNat / 16) 0, hexL.getD (b.toNat % 16) 0]
theorem esc_len (b : UInt8) : (esc b).length ≤ 4 := by unfold esc; split; · simp
                                                       split <;> simp
theorem plainByte_any (c : Int) (w : World) : Calls Tryd.prog 53 #[.int .u8 c] w fun e w' => e = .returned (.bool (decide (32 ≤ c ∧ c ≤ 126))) ∧ w' = w := by
  by_cases h1 : (32 : Int) ≤ c
  · by_cases h2 : c ≤ 126
    · go_enter Tryd.func53, Tryd.ntmps53
      go_wp2
      go_ret
      exact ⟨ret_bool (decide_eq_true ⟨h1, h2⟩).symm, rfl⟩
    · go_enter Tryd.func53, Tryd.ntmps53
      go_wp2
      go_ret
      exact ⟨ret_bool (decide_eq_false (fun h => by omega)).symm, rfl⟩
  · have h3 : decide ((32 : Int) ≤ c) = false := decide_eq_false h1
    go_enter Tryd.func53, Tryd.ntmps53
    go_wp2
    go_ret
    exact ⟨ret_bool (by symm; first | exact decide_eq_false (fun h => by omega) | exact (decide_eq_false (fun h => by omega)).trans h3.symm), rfl⟩
theorem ret_sl {a : Option Addr} {n m c : Nat} (h : n = m) : Ending.returned (.slice a n c) = .returned (.slice a m c) := by rw [h]
def escs (x : List UInt8) : List UInt8 := x.flatMap esc
theorem escs_take (x : ByteArray) (j : Nat) (h : j < x.data.toList.length) : escs (x.data.toList.take (j + 1)) = escs (x.data.toList.take j) ++ esc x.data.toList[j] := by
  unfold escs
  rw [List.take_add_one, List.getElem?_eq_getElem h, List.flatMap_append]
  simp
theorem escs_len (l : List UInt8) : (escs l).length ≤ 4 * l.length := by
  induction l with
  | nil => simp [escs]
  | cons b r ih => have := esc_len b; unfold escs at *; simp only [List.flatMap_cons, List.length_append, List.length_cons]; omega
theorem hex_at (k : Nat) (h : k < (ByteArray.mk #[48, 49, 50, 51, 52, 53, 54, 55, 56, 57, 97, 98, 99, 100, 101, 102]).size) : (ByteArray.mk #[48, 49, 50, 51, 52, 53, 54, 55, 56, 57, 97, 98, 99, 100, 101, 102])[k] = hexL.getD k 0 := by
  have h2 : k < 16 := h
  have key : ∀ k : Fin 16, (ByteArray.mk #[48, 49, 50, 51, 52, 53, 54, 55, 56, 57, 97, 98, 99, 100, 101, 102])[k.1]'(show k.1 < 16 from k.2) = hexL.getD k.1 0 := by decide
  exact key ⟨k, h2⟩
theorem hex_lit (b : UInt8) {h1 : ((b.toNat : Int) / 16).toNat < (ByteArray.mk #[48, 49, 50, 51, 52, 53, 54, 55, 56, 57, 97, 98, 99, 100, 101, 102]).size} {h2 : ((b.toNat : Int) % 16).toNat < (ByteArray.mk #[48, 49, 50, 51, 52, 53, 54, 55, 56, 57, 97, 98, 99, 100, 101, 102]).size} :
    #[Value.int .u8 92, .int .u8 120, .int .u8 ((ByteArray.mk #[48, 49, 50, 51, 52, 53, 54, 55, 56, 57, 97, 98, 99, 100, 101, 102])[((b.toNat : Int) / 16).toNat]'h1).toNat, .int .u8 ((ByteArray.mk #[48, 49, 50, 51, 52, 53, 54, 55, 56, 57, 97, 98, 99, 100, 101, 102])[((b.toNat : Int) % 16).toNat]'h2).toNat] = (Lib.byteCells [92, 120, hexL.getD (b.toNat / 16) 0, hexL.getD (b.toNat % 16) 0]).toArray := by
  rw [hex_at, hex_at]
  rw [show ((b.toNat : Int) / 16).toNat = b.toNat / 16 by omega, show ((b.toNat : Int) % 16).toNat = b.toNat % 16 by omega]
  rfl
/-- How a text is written. -/
def quo (x : ByteArray) : List UInt8 := 34 :: (escs x.data.toList ++ [34])
set_option maxRecDepth 100000 in
set_option maxHeartbeats 4000000 in
theorem writeText_any (B : Nat) (v : Value) (l : List UInt8) (x : ByteArray) (w : World) (hB : B ≤ w.heap.size) (hown : Bs B w v l) (hx : x.size ≤ 4000000) (hl : l.length ≤ 1000000000) :
    Calls Tryd.prog 42 #[v, .string x] w fun e w' => ∃ ao c, e = .returned (.slice ao (l ++ quo x).length c) ∧ Bs B w' (.slice ao (l ++ quo x).length c) (l ++ quo x) ∧ Below B w w' := by
  have HO := hid hown
  have HB := hid hB
  have hx' : (x.size : Int) ≤ 4000000 := by omega
  have hxl : x.data.toList.length = x.size := by rw [Array.length_toList]; rfl
  clear hown hB
  obtain ⟨ao, c, rfl⟩ := HO.out.shape
  go_enter Tryd.func42, Tryd.ntmps42
  go_wp2_with (at_builtin; refine app_lit rfl _ _ rfl rfl B _ l [34] rfl HB.out HO.out rfl rfl rfl (by simp; omega) ?_; intro a1 c1 w1 ho1 hb1)
  have HO1 := hid ho1
  have HB1 := hid hb1
  clear ho1 hb1
  have hlen : ∀ j, (escs (x.data.toList.take j)).length ≤ 4 * x.size := fun j => by
    have := escs_len (x.data.toList.take j)
    have h2 : (x.data.toList.take j).length ≤ x.data.toList.length := by rw [List.length_take]; omega
    omega
  have HLN := hid hlen
  clear hlen
  go_loopw [0, 12] (fun o i wr => ∃ (j : Nat) (a' : Option Addr) (c' : Nat), j ≤ x.size ∧ i = .int .i64 j ∧ o = .slice a' (l ++ [34] ++ escs (x.data.toList.take j)).length c' ∧ Bs B wr (.slice a' (l ++ [34] ++ escs (x.data.toList.take j)).length c') (l ++ [34] ++ escs (x.data.toList.take j)) ∧ Below B w wr) (fun _ i _ => x.size - (intOf i).toNat)
  case atStart => exact ⟨0, a1, c1, Nat.zero_le _, rfl, by simp [escs], by simpa [escs] using HO1.out, HB1.out⟩
  case round =>
    obtain ⟨j, a', c', hj, rfl, rfl, hbs, hbw⟩ := hrel
    have HBS := hid hbs
    have HBW := hid hbw
    have HBZ := hid (Nat.le_trans HB.out hbw.size)
    clear hbs hbw
    by_cases hlt : j < x.size
    · have hlt' : (j : Int) < x.size := by omega
      have hjl : j < x.data.toList.length := by omega
      have HT := hid (escs_take x j hjl)
      have HLJ := hid (HLN.out j)
      obtain ⟨b, hb⟩ : ∃ b, x.data.toList[j] = b := ⟨_, rfl⟩
      rw [hb] at HT
      generalize hacc : l ++ [34] ++ escs (x.data.toList.take j) = acc at HBS ⊢
      have hal : acc.length ≤ 1020000000 := by rw [← hacc]; simp; have := HLJ.out; omega
      have hbx : x[j] = b := hb
      clear hb
      go_upto_region 7 with fail
      clear hbx
      by_cases b1 : b = 34 ∨ b = 92
      · have HE := hid (show esc b = [92, b] from if_pos b1)
        have q1 : (((b.toNat : Int)) == 34 || ((b.toNat : Int)) == 92) = true := by rcases b1 with rfl | rfl <;> rfl
        rcases b1 with rfl | rfl
        · go_wp2_with (at_builtin; refine app_lit rfl _ _ rfl rfl B _ acc [92, 34] rfl HBZ.out HBS.out rfl rfl rfl (by simp; omega) ?_; intro a2 c2 w2 ho2 hb2)
          go_roundw
          case rel =>
            have REL : ∃ (j' : Nat) (a' : Option Addr) (c' : Nat), j' ≤ x.size ∧ Value.int .i64 ((j : Int) + 1) = .int .i64 j' ∧ Value.slice a2 (acc.length + 2) c2 = .slice a' (l ++ [34] ++ escs (x.data.toList.take j')).length c' ∧ Bs B w2 (.slice a' (l ++ [34] ++ escs (x.data.toList.take j')).length c') (l ++ [34] ++ escs (x.data.toList.take j')) ∧ Below B w w2 :=
              ⟨j + 1, a2, c2, hlt, by go_num, by rw [HT.out, HE.out, ← List.append_assoc, hacc, List.length_append]; rfl, by rw [HT.out, HE.out, ← List.append_assoc, hacc]; exact ho2, HBW.out.trans hb2⟩
            first | exact REL | ((repeat apply Exists.intro); exact ⟨REL, rfl⟩)
          case measure => simp [intOf]; omega
        · go_wp2_with (at_builtin; refine app_lit rfl _ _ rfl rfl B _ acc [92, 92] rfl HBZ.out HBS.out rfl rfl rfl (by simp; omega) ?_; intro a2 c2 w2 ho2 hb2)
          go_roundw
          case rel =>
            have REL : ∃ (j' : Nat) (a' : Option Addr) (c' : Nat), j' ≤ x.size ∧ Value.int .i64 ((j : Int) + 1) = .int .i64 j' ∧ Value.slice a2 (acc.length + 2) c2 = .slice a' (l ++ [34] ++ escs (x.data.toList.take j')).length c' ∧ Bs B w2 (.slice a' (l ++ [34] ++ escs (x.data.toList.take j')).length c') (l ++ [34] ++ escs (x.data.toList.take j')) ∧ Below B w w2 :=
              ⟨j + 1, a2, c2, hlt, by go_num, by rw [HT.out, HE.out, ← List.append_assoc, hacc, List.length_append]; rfl, by rw [HT.out, HE.out, ← List.append_assoc, hacc]; exact ho2, HBW.out.trans hb2⟩
            first | exact REL | ((repeat apply Exists.intro); exact ⟨REL, rfl⟩)
          case measure => simp [intOf]; omega
      · have q1 : (((b.toNat : Int)) == 34) = false := by
          rw [beq_eq_false_iff_ne]; exact fun h => b1 (.inl (UInt8.toNat_inj.1 (by have : (34 : UInt8).toNat = 34 := rfl; omega)))
        have q2 : (((b.toNat : Int)) == 92) = false := by
          rw [beq_eq_false_iff_ne]; exact fun h => b1 (.inr (UInt8.toNat_inj.1 (by have : (92 : UInt8).toNat = 92 := rfl; omega)))
        by_cases b2 : 32 ≤ b.toNat ∧ b.toNat ≤ 126
        · have HE := hid (show esc b = [b] from (if_neg b1).trans (if_pos b2))
          have HP := hid (fun w => plainByte_any (b.toNat : Int) w)
          rw [show decide ((32 : Int) ≤ (b.toNat : Int) ∧ (b.toNat : Int) ≤ 126) = true from decide_eq_true (by omega)] at HP
          clear b1 b2
          go_wp2_with (first | (go_at_call 53; refine (HP.out _).mono ?_; rintro e w9 ⟨rfl, rfl⟩) | (at_builtin; refine app_lit rfl _ _ rfl rfl B _ acc [b] rfl HBZ.out HBS.out rfl rfl rfl (by simp; omega) ?_; intro a2 c2 w2 ho2 hb2))
          go_roundw
          case rel =>
            have REL : ∃ (j' : Nat) (a' : Option Addr) (c' : Nat), j' ≤ x.size ∧ Value.int .i64 ((j : Int) + 1) = .int .i64 j' ∧ Value.slice a2 (acc.length + 1) c2 = .slice a' (l ++ [34] ++ escs (x.data.toList.take j')).length c' ∧ Bs B w2 (.slice a' (l ++ [34] ++ escs (x.data.toList.take j')).length c') (l ++ [34] ++ escs (x.data.toList.take j')) ∧ Below B w w2 :=
              ⟨j + 1, a2, c2, hlt, by go_num, by rw [HT.out, HE.out, ← List.append_assoc, hacc, List.length_append]; rfl, by rw [HT.out, HE.out, ← List.append_assoc, hacc]; exact ho2, HBW.out.trans hb2⟩
            first | exact REL | ((repeat apply Exists.intro); exact ⟨REL, rfl⟩)
          case measure => simp [intOf]; omega
        · have HE := hid (show esc b = [92, 120, hexL.getD (b.toNat / 16) 0, hexL.getD (b.toNat % 16) 0] from (if_neg b1).trans (if_neg b2))
          have HP := hid (fun w => plainByte_any (b.toNat : Int) w)
          rw [show decide ((32 : Int) ≤ (b.toNat : Int) ∧ (b.toNat : Int) ≤ 126) = false from decide_eq_false (by omega)] at HP
          clear b1 b2
          go_wp2_with (first | (go_at_call 53; refine (HP.out _).mono ?_; rintro e w9 ⟨rfl, rfl⟩))
          have n1 : b.toNat < 256 := b.toNat_lt
          have qa : bits .and .u8 (b.toNat : Int) 15 = (b.toNat : Int) % 16 := by
            have e := u8_and_nat b.toNat 15 n1 (by decide)
            rw [show b.toNat &&& 15 = b.toNat % 16 from Nat.and_two_pow_sub_one_eq_mod b.toNat 4] at e
            exact e.trans (by omega)
          have i1 : (0 : Int) ≤ (b.toNat : Int) / 16 := by omega
          have i2 : (b.toNat : Int) / 16 < 16 := by omega
          have i3 : (0 : Int) ≤ (b.toNat : Int) % 16 := by omega
          have i4 : (b.toNat : Int) % 16 < 16 := by omega
          go_region_held3 (fun _ => True) (exact trivial) (first | (refine step_lit (w := w9.drew) (by rfl) _ _ (by rfl) (by rfl) B _ acc [92, 120, hexL.getD (b.toNat / 16) 0, hexL.getD (b.toNat % 16) 0] (by rfl) HBZ.out (HBS.out.ext (Ext.refl _).drew) (hex_lit b) (by rfl) (by rfl) (by simp; omega) ?_; intro a2 c2 w2 ho2 hb2; have hb3 : Below B w9 w2 := ((Below.refl B w9).drew).trans hb2))
          all_goals
            have REL : ∃ (j' : Nat) (a' : Option Addr) (c' : Nat), j' ≤ x.size ∧ Value.int .i64 ((j : Int) + 1) = .int .i64 j' ∧ Value.slice a2 (acc.length + 4) c2 = .slice a' (l ++ [34] ++ escs (x.data.toList.take j')).length c' ∧ Bs B w2 (.slice a' (l ++ [34] ++ escs (x.data.toList.take j')).length c') (l ++ [34] ++ escs (x.data.toList.take j')) ∧ Below B w w2 :=
              ⟨j + 1, a2, c2, hlt, by go_num, by rw [HT.out, HE.out, ← List.append_assoc, hacc, List.length_append]; rfl, by rw [HT.out, HE.out, ← List.append_assoc, hacc]; exact ho2, HBW.out.trans hb3⟩
            have HREL := hid REL
            clear REL ho2 hb2 hb3
            first
              | exact ⟨HREL.out, by simp [intOf]; omega⟩
              | (go_wp2_with fail
                 go_roundw
                 case rel => first | exact HREL.out | ((repeat apply Exists.intro); exact ⟨HREL.out, rfl⟩)
                 case measure => simp [intOf]; omega)
    · have hje : j = x.size := by omega
      have HT := hid (show x.data.toList.take j = x.data.toList by rw [hje, ← hxl, List.take_length])
      have HLJ := hid (HLN.out j)
      have hfin : l ++ [34] ++ escs (x.data.toList.take j) ++ [34] = l ++ quo x := by rw [HT.out]; simp [quo]
      generalize hacc : l ++ [34] ++ escs (x.data.toList.take j) = acc at HBS hfin ⊢
      have hal : acc.length ≤ 1020000000 := by rw [← hacc]; simp; have := HLJ.out; omega
      have HF := hid hfin
      clear hacc hfin
      go_wp2_with (at_builtin; refine app_lit rfl _ _ rfl rfl B _ acc [34] rfl HBZ.out HBS.out rfl rfl rfl (by simp; omega) ?_; intro a2 c2 w2 ho2 hb2)
      go_ret
      rw [HF.out] at ho2
      exact ⟨a2, c2, ret_sl (by rw [← HF.out]; simp), ho2, HBW.out.trans hb2⟩
end Go.Proofs.YtbpbkihcfdnphaaDoor
