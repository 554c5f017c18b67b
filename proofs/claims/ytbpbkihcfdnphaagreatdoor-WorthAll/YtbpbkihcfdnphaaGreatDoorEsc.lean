/-
  Bytes of one's own: a literal or a text is appended.
-/
import Derived.Test.YtbpbkihcfdnphaaGreatDoorWf
import Derived.Lib.AppendStr
import Derived.Lib.UnsafeStr
import Derived.Laws.OwnMore
import Derived.Maps.AppendAt
import Derived.Deep.RegionHeld3
import Derived.Laws.BitsAllLaws
namespace Go.Proofs.YtbpbkihcfdnphaaGreatDoor
open Go.RowKit
theorem byteInfo : (Tryz.prog.info? 5).map (fun i => (i.zero, i.size, i.bytes)) = some (some (.int .u8 0), 1, 1) := by kernel_rfl
/-- The slice v of bytes lies in memory of one's own, from B on, and reads as l. -/
def Bs (B : Nat) (w : World) (v : Value) (l : List UInt8) : Prop := w.ownsRow B 5 1 v l.length (Lib.byteCells l)
theorem Bs.nil (B : Nat) (w : World) : Bs B w (.slice none 0 0) [] := World.ownsRow_nil _ _ _ _
theorem Bs.shape {B : Nat} {w : World} {v : Value} {l : List UInt8} (h : Bs B w v l) : ∃ ao c, v = .slice ao l.length c := by
  rcases h.2 with ⟨hv, h0⟩ | ⟨g, cap, cur, hv, _⟩
  · exact ⟨none, 0, by rw [hv, h0]⟩
  · exact ⟨_, _, hv⟩
theorem Bs.alloc {B : Nat} {w : World} {v : Value} {l : List UInt8} (h : Bs B w v l) (o : Obj) : Bs B (w.alloc o) v l := World.ownsRow.alloc h o
theorem Bs.ext {B : Nat} {w w' : World} {v : Value} {l : List UInt8} (h : Bs B w v l) (hx : Ext w w') : Bs B w' v l := by
  obtain ⟨h1, h2⟩ := h
  refine ⟨h1, ?_⟩
  rcases h2 with h2 | ⟨g, cap, cur, hv, hg, hb, hr⟩
  · exact .inl h2
  · exact .inr ⟨g, cap, cur, hv, hg, hx.block hb, hr⟩
theorem app_len {l m : List UInt8} : Lib.byteCells (l ++ m) = Lib.byteCells l ++ Lib.byteCells m := by simp [Lib.byteCells]
theorem news_at {w : World} {ty : TypeId} (m : List UInt8) (j : Nat) (u : Value) (h : (Lib.byteCells m)[j]? = some u) : (w.alloc (.cells (Lib.byteCells m).toArray ty)).cell? (Addr.add ⟨w.heap.size, 0, none⟩ j) = some u := by
  have e : Addr.add ⟨w.heap.size, 0, none⟩ j = ⟨w.heap.size, j, none⟩ := by
    by_cases hj : j = 0
    · subst hj; simp [Addr.add]
    · simp [Addr.add, hj]
  rw [e]
  exact cell_of (blk0 w _) (by simpa using h)
theorem run_lit {w : World} {ty : TypeId} (B : Nat) (v : Value) (l m : List UInt8) (hB : B ≤ w.heap.size) (hown : Bs B w v l) (hlim : l.length + m.length ≤ 140737488355328) :
    ∃ ao c w', (Builtin.append_ #[61, 61] 61 #[v, .slice (some ⟨w.heap.size, 0, none⟩) m.length m.length]).run Tryz.prog (w.alloc (.cells (Lib.byteCells m).toArray ty)) = .ok (.slice ao (l ++ m).length c) w' ∧ Bs B w' (.slice ao (l ++ m).length c) (l ++ m) ∧ Below B w w' := by
  obtain ⟨i, hi, hz0, hz1, hz2⟩ := info_parts byteInfo
  obtain ⟨v', w', hr, ho, hg, _, _⟩ := run_append_own_at (P := Tryz.prog) (w.alloc (.cells (Lib.byteCells m).toArray ty)) B 61 61 5 i (.int .u8 0) 1 1 Tryz.underlying61 hi hz0 hz1 hz2 rfl (by decide) v l.length (Lib.byteCells l) (hown.alloc _) ⟨w.heap.size, 0, none⟩ m.length m.length (Lib.byteCells m) (by rw [Lib.byteCells_length]; omega) (news_at m) (fun u hu => by obtain ⟨b, _, rfl⟩ := List.mem_map.1 hu; rfl) (by unfold maxLen; omega) (by omega) (by rw [blkS]; omega)
  have ho2 : Bs B w' v' (l ++ m) := by
    unfold Bs
    rw [List.length_append, app_len]
    exact ho
  obtain ⟨ao, c, rfl⟩ := ho2.shape
  exact ⟨ao, c, w', hr, ho2, Below.grown ((Below.refl B w).alloc hB _) hg (by rw [blkS]; omega) (fun k hk => (World.ownsRow.lt hown k hk).1)⟩
theorem app_lit {ops : Array Oper} {rest : List Oper} {o : Oper} {a : Act} {Q : Exit → Act → World → Prop} {w : World} {cs : Array Value} {ty : TypeId} (hgd : o.guard = none) (s x : Operand)
    (ho : o.op = .call { callee := .builtin .append, args := #[s, x], argTypes := #[61, 61] }) (hty : o.type = 61) (B : Nat) (v : Value) (l m : List UInt8) (hs : a.eval s = v) (hB : B ≤ w.heap.size) (hown : Bs B w v l)
    (hcs : cs = (Lib.byteCells m).toArray) {k : Nat} (hk : k = m.length) (hx : a.eval x = .slice (some ⟨w.heap.size, 0, none⟩) k k) (hlim : l.length + m.length ≤ 140737488355328)
    (h : ∀ ao c w', Bs B w' (.slice ao (l ++ m).length c) (l ++ m) → Below B w w' → wpList Tryz.prog ops Q rest (a.put o.dst (.slice ao (l ++ m).length c)) w') : wpList Tryz.prog ops Q (o :: rest) a (w.alloc (.cells cs ty)) := by
  subst hcs
  subst hk
  refine wpList_plain hgd fun K hK => ?_
  obtain ⟨ao, c, w', hr, h2, h3⟩ := run_lit (ty := ty) B v l m hB hown hlim
  unfold Oper.wp execOp
  simp only [ho, hty, resolve, invoke, builtin, Sem.run_bind, Sem.run_pure, Result.andThen_ok, List.map_toArray, List.map_cons, List.map_nil, hs, hx, hr]
  exact hK _ _ (h ao c w' h2 h3)
theorem step_lit {ops : Array Oper} {o : Oper} {a : Act} {K : Act → World → Prop} {Q : Exit → Act → World → Prop} {E : Prop} {w : World} {cs : Array Value} {ty : TypeId} (hgd : o.guard = none) (s x : Operand)
    (ho : o.op = .call { callee := .builtin .append, args := #[s, x], argTypes := #[61, 61] }) (hty : o.type = 61) (B : Nat) (v : Value) (l m : List UInt8) (hs : a.eval s = v) (hB : B ≤ w.heap.size) (hown : Bs B w v l)
    (hcs : cs = (Lib.byteCells m).toArray) {k : Nat} (hk : k = m.length) (hx : a.eval x = .slice (some ⟨w.heap.size, 0, none⟩) k k) (hlim : l.length + m.length ≤ 140737488355328)
    (h : ∀ ao c w', Bs B w' (.slice ao (l ++ m).length c) (l ++ m) → Below B w w' → K (a.put o.dst (.slice ao (l ++ m).length c)) w') :
    if Region.wanted o (yielded ops a.tmps) = true then Oper.wp Tryz.prog o a (w.alloc (.cells cs ty)) K Q else E := by
  have hw : Region.wanted o (yielded ops a.tmps) = true := by simp [Region.wanted, hgd]
  rw [if_pos hw]
  subst hcs
  subst hk
  obtain ⟨ao, c, w', hr, h2, h3⟩ := run_lit (ty := ty) B v l m hB hown hlim
  unfold Oper.wp execOp
  simp only [ho, hty, resolve, invoke, builtin, Sem.run_bind, Sem.run_pure, Result.andThen_ok, List.map_toArray, List.map_cons, List.map_nil, hs, hx, hr]
  exact h ao c w' h2 h3
theorem app_str {ops : Array Oper} {rest : List Oper} {o : Oper} {a : Act} {Q : Exit → Act → World → Prop} {w : World} (hgd : o.guard = none) (sl x : Operand)
    (ho : o.op = .call { callee := .builtin .append, args := #[sl, x], argTypes := #[61, 9] }) (B : Nat) (v : Value) (l : List UInt8) (hs : a.eval sl = v) (hB : B ≤ w.heap.size) (hown : Bs B w v l)
    (s : ByteArray) (hx : a.eval x = .string s) (hlim : l.length + s.size ≤ 140737488355328)
    (h : ∀ ao c w', Bs B w' (.slice ao (l ++ s.data.toList).length c) (l ++ s.data.toList) → Below B w w' → wpList Tryz.prog ops Q rest (a.put o.dst (.slice ao (l ++ s.data.toList).length c)) w') : wpList Tryz.prog ops Q (o :: rest) a w := by
  obtain ⟨i, hi, hz0, hz1, hz2⟩ := info_parts byteInfo
  refine Lib.wpList_append_own_string w hgd sl x 61 9 ho B 5 i Tryz.underlying61 Tryz.underlying9 hi hz0 hz1 hz2 v l.length (Lib.byteCells l) hs hown s hx (by unfold maxLen; omega) hlim hB ?_
  intro v' w' h1 h2 _
  have ho2 : Bs B w' v' (l ++ s.data.toList) := by
    unfold Bs
    rw [List.length_append, app_len, Array.length_toList]
    exact h1
  obtain ⟨ao, c, rfl⟩ := ho2.shape
  exact h ao c w' ho2 (Below.grown (Below.refl B w) h2 hB (fun k hk => (World.ownsRow.lt hown k hk).1))
end Go.Proofs.YtbpbkihcfdnphaaGreatDoor
/-
  writeText by a contract: a text's bytes between quotes, each by itself or by its digits.
-/
namespace Go.Proofs.YtbpbkihcfdnphaaGreatDoor
open Go.RowKit
def hexL : List UInt8 := [48, 49, 50, 51, 52, 53, 54, 55, 56, 57, 97, 98, 99, 100, 101, 102]
/-- How a byte is written. -/
def esc (b : UInt8) : List UInt8 :=
  if b = 34 ∨ b = 92 then [92, b] else if 32 ≤ b.toNat ∧ b.toNat ≤ 126 then [b] else [92, 120, hexL.getD (b.toNat / 16) 0, hexL.getD (b.toNat % 16) 0]
theorem esc_len (b : UInt8) : (esc b).length ≤ 4 := by unfold esc; split; · simp
                                                       split <;> simp
theorem plainByte_any (c : Int) (w : World) : Calls Tryz.prog 61 #[.int .u8 c] w fun e w' => e = .returned (.bool (decide (32 ≤ c ∧ c ≤ 126))) ∧ w' = w := by
  by_cases h1 : (32 : Int) ≤ c
  · by_cases h2 : c ≤ 126
    · go_enter Tryz.func61, Tryz.ntmps61
      go_wp2
      go_ret
      exact ⟨ret_bool (decide_eq_true ⟨h1, h2⟩).symm, rfl⟩
    · go_enter Tryz.func61, Tryz.ntmps61
      go_wp2
      go_ret
      exact ⟨ret_bool (decide_eq_false (fun h => by omega)).symm, rfl⟩
  · have h3 : decide ((32 : Int) ≤ c) = false := decide_eq_false h1
    go_enter Tryz.func61, Tryz.ntmps61
    go_wp2
    go_ret
    exact ⟨ret_bool (by symm; first | exact decide_eq_false (fun h => by omega) | exact (decide_eq_false (fun h => by omega)).trans h3.symm), rfl⟩
theorem ret_sl {a : Option Addr} {n m c : Nat} (h : n = m) : Ending.returned (.slice a n c) = .returned (.slice a m c) := by rw [h]
def escs (x : List UInt8) : List UInt8 := x.flatMap esc
theorem escs_take (x : ByteArray) (j : Nat) (h : j < x.data.toList.length) : escs (x.data.toList.take (j + 1)) = escs (x.data.toList.take j) ++ esc x.data.toList[j] := by
  unfold escs
  rw [List.take_add_one, List.getElem?_eq_getElem h, List.flatMap_append]
  simp
theorem escs_len (l : List UInt8) : (escs l).length ≤ 4 * l.length := by
  induction l with
  | nil => simp [escs]
  | cons b r ih => have := esc_len b; unfold escs at *; simp only [List.flatMap_cons, List.length_append, List.length_cons]; omega
theorem hex_at (k : Nat) (h : k < (ByteArray.mk #[48, 49, 50, 51, 52, 53, 54, 55, 56, 57, 97, 98, 99, 100, 101, 102]).size) : (ByteArray.mk #[48, 49, 50, 51, 52, 53, 54, 55, 56, 57, 97, 98, 99, 100, 101, 102])[k] = hexL.getD k 0 := by
  have h2 : k < 16 := h
  have key : ∀ k : Fin 16, (ByteArray.mk #[48, 49, 50, 51, 52, 53, 54, 55, 56, 57, 97, 98, 99, 100, 101, 102])[k.1]'(show k.1 < 16 from k.2) = hexL.getD k.1 0 := by decide
  exact key ⟨k, h2⟩
theorem hex_lit (b : UInt8) {h1 : ((b.toNat : Int) / 16).toNat < (ByteArray.mk #[48, 49, 50, 51, 52, 53, 54, 55, 56, 57, 97, 98, 99, 100, 101, 102]).size} {h2 : ((b.toNat : Int) % 16).toNat < (ByteArray.mk #[48, 49, 50, 51, 52, 53, 54, 55, 56, 57, 97, 98, 99, 100, 101, 102]).size} :
    #[Value.int .u8 92, .int .u8 120, .int .u8 ((ByteArray.mk #[48, 49, 50, 51, 52, 53, 54, 55, 56, 57, 97, 98, 99, 100, 101, 102])[((b.toNat : Int) / 16).toNat]'h1).toNat, .int .u8 ((ByteArray.mk #[48, 49, 50, 51, 52, 53, 54, 55, 56, 57, 97, 98, 99, 100, 101, 102])[((b.toNat : Int) % 16).toNat]'h2).toNat] = (Lib.byteCells [92, 120, hexL.getD (b.toNat / 16) 0, hexL.getD (b.toNat % 16) 0]).toArray := by
  rw [hex_at, hex_at]
  rw [show ((b.toNat : Int) / 16).toNat = b.toNat / 16 by omega, show ((b.toNat : Int) % 16).toNat = b.toNat % 16 by omega]
  rfl
/-- How a text is written. -/
def quo (x : ByteArray) : List UInt8 := 34 :: (escs x.data.toList ++ [34])
set_option maxRecDepth 100000 in
set_option maxHeartbeats 4000000 in
theorem writeText_any (B : Nat) (v : Value) (l : List UInt8) (x : ByteArray) (w : World) (hB : B ≤ w.heap.size) (hown : Bs B w v l) (hx : x.size ≤ 4000000) (hl : l.length ≤ 1000000000) :
    Calls Tryz.prog 43 #[v, .string x] w fun e w' => ∃ ao c, e = .returned (.slice ao (l ++ quo x).length c) ∧ Bs B w' (.slice ao (l ++ quo x).length c) (l ++ quo x) ∧ Below B w w' := by
  have HO := hid hown
  have HB := hid hB
  have hx' : (x.size : Int) ≤ 4000000 := by omega
  have hxl : x.data.toList.length = x.size := by rw [Array.length_toList]; rfl
  clear hown hB
  obtain ⟨ao, c, rfl⟩ := HO.out.shape
  go_enter Tryz.func43, Tryz.ntmps43
  go_wp2_with (at_builtin; refine app_lit rfl _ _ rfl rfl B _ l [34] rfl HB.out HO.out rfl rfl rfl (by simp; omega) ?_; intro a1 c1 w1 ho1 hb1)
  have HO1 := hid ho1
  have HB1 := hid hb1
  clear ho1 hb1
  have hlen : ∀ j, (escs (x.data.toList.take j)).length ≤ 4 * x.size := fun j => by
    have := escs_len (x.data.toList.take j)
    have h2 : (x.data.toList.take j).length ≤ x.data.toList.length := by rw [List.length_take]; omega
    omega
  have HLN := hid hlen
  clear hlen
  go_loopw [0, 12] (fun o i wr => ∃ (j : Nat) (a' : Option Addr) (c' : Nat), j ≤ x.size ∧ i = .int .i64 j ∧ o = .slice a' (l ++ [34] ++ escs (x.data.toList.take j)).length c' ∧ Bs B wr (.slice a' (l ++ [34] ++ escs (x.data.toList.take j)).length c') (l ++ [34] ++ escs (x.data.toList.take j)) ∧ Below B w wr) (fun _ i _ => x.size - (intOf i).toNat)
  case atStart => exact ⟨0, a1, c1, Nat.zero_le _, rfl, by simp [escs], by simpa [escs] using HO1.out, HB1.out⟩
  case round =>
    obtain ⟨j, a', c', hj, rfl, rfl, hbs, hbw⟩ := hrel
    have HBS := hid hbs
    have HBW := hid hbw
    have HBZ := hid (Nat.le_trans HB.out hbw.size)
    clear hbs hbw
    by_cases hlt : j < x.size
    · have hlt' : (j : Int) < x.size := by omega
      have hjl : j < x.data.toList.length := by omega
      have HT := hid (escs_take x j hjl)
      have HLJ := hid (HLN.out j)
      obtain ⟨b, hb⟩ : ∃ b, x.data.toList[j] = b := ⟨_, rfl⟩
      rw [hb] at HT
      generalize hacc : l ++ [34] ++ escs (x.data.toList.take j) = acc at HBS ⊢
      have hal : acc.length ≤ 1020000000 := by rw [← hacc]; simp; have := HLJ.out; omega
      have hbx : x[j] = b := hb
      clear hb
      go_upto_region 7 with fail
      clear hbx
      by_cases b1 : b = 34 ∨ b = 92
      · have HE := hid (show esc b = [92, b] from if_pos b1)
        have q1 : (((b.toNat : Int)) == 34 || ((b.toNat : Int)) == 92) = true := by rcases b1 with rfl | rfl <;> rfl
        rcases b1 with rfl | rfl
        · go_wp2_with (at_builtin; refine app_lit rfl _ _ rfl rfl B _ acc [92, 34] rfl HBZ.out HBS.out rfl rfl rfl (by simp; omega) ?_; intro a2 c2 w2 ho2 hb2)
          go_roundw
          case rel =>
            have REL : ∃ (j' : Nat) (a' : Option Addr) (c' : Nat), j' ≤ x.size ∧ Value.int .i64 ((j : Int) + 1) = .int .i64 j' ∧ Value.slice a2 (acc.length + 2) c2 = .slice a' (l ++ [34] ++ escs (x.data.toList.take j')).length c' ∧ Bs B w2 (.slice a' (l ++ [34] ++ escs (x.data.toList.take j')).length c') (l ++ [34] ++ escs (x.data.toList.take j')) ∧ Below B w w2 :=
              ⟨j + 1, a2, c2, hlt, by go_num, by rw [HT.out, HE.out, ← List.append_assoc, hacc, List.length_append]; rfl, by rw [HT.out, HE.out, ← List.append_assoc, hacc]; exact ho2, HBW.out.trans hb2⟩
            first | exact REL | ((repeat apply Exists.intro); exact ⟨REL, rfl⟩)
          case measure => simp [intOf]; omega
        · go_wp2_with (at_builtin; refine app_lit rfl _ _ rfl rfl B _ acc [92, 92] rfl HBZ.out HBS.out rfl rfl rfl (by simp; omega) ?_; intro a2 c2 w2 ho2 hb2)
          go_roundw
          case rel =>
            have REL : ∃ (j' : Nat) (a' : Option Addr) (c' : Nat), j' ≤ x.size ∧ Value.int .i64 ((j : Int) + 1) = .int .i64 j' ∧ Value.slice a2 (acc.length + 2) c2 = .slice a' (l ++ [34] ++ escs (x.data.toList.take j')).length c' ∧ Bs B w2 (.slice a' (l ++ [34] ++ escs (x.data.toList.take j')).length c') (l ++ [34] ++ escs (x.data.toList.take j')) ∧ Below B w w2 :=
              ⟨j + 1, a2, c2, hlt, by go_num, by rw [HT.out, HE.out, ← List.append_assoc, hacc, List.length_append]; rfl, by rw [HT.out, HE.out, ← List.append_assoc, hacc]; exact ho2, HBW.out.trans hb2⟩
            first | exact REL | ((repeat apply Exists.intro); exact ⟨REL, rfl⟩)
          case measure => simp [intOf]; omega
      · have q1 : (((b.toNat : Int)) == 34) = false := by
          rw [beq_eq_false_iff_ne]; exact fun h => b1 (.inl (UInt8.toNat_inj.1 (by have : (34 : UInt8).toNat = 34 := rfl; omega)))
        have q2 : (((b.toNat : Int)) == 92) = false := by
          rw [beq_eq_false_iff_ne]; exact fun h => b1 (.inr (UInt8.toNat_inj.1 (by have : (92 : UInt8).toNat = 92 := rfl; omega)))
        by_cases b2 : 32 ≤ b.toNat ∧ b.toNat ≤ 126
        · have HE := hid (show esc b = [b] from (if_neg b1).trans (if_pos b2))
          have HP := hid (fun w => plainByte_any (b.toNat : Int) w)
          rw [show decide ((32 : Int) ≤ (b.toNat : Int) ∧ (b.toNat : Int) ≤ 126) = true from decide_eq_true (by omega)] at HP
          clear b1 b2
          go_wp2_with (first | (go_at_call 61; refine (HP.out _).mono ?_; rintro e w9 ⟨rfl, rfl⟩) | (at_builtin; refine app_lit rfl _ _ rfl rfl B _ acc [b] rfl HBZ.out HBS.out rfl rfl rfl (by simp; omega) ?_; intro a2 c2 w2 ho2 hb2))
          go_roundw
          case rel =>
            have REL : ∃ (j' : Nat) (a' : Option Addr) (c' : Nat), j' ≤ x.size ∧ Value.int .i64 ((j : Int) + 1) = .int .i64 j' ∧ Value.slice a2 (acc.length + 1) c2 = .slice a' (l ++ [34] ++ escs (x.data.toList.take j')).length c' ∧ Bs B w2 (.slice a' (l ++ [34] ++ escs (x.data.toList.take j')).length c') (l ++ [34] ++ escs (x.data.toList.take j')) ∧ Below B w w2 :=
              ⟨j + 1, a2, c2, hlt, by go_num, by rw [HT.out, HE.out, ← List.append_assoc, hacc, List.length_append]; rfl, by rw [HT.out, HE.out, ← List.append_assoc, hacc]; exact ho2, HBW.out.trans hb2⟩
            first | exact REL | ((repeat apply Exists.intro); exact ⟨REL, rfl⟩)
          case measure => simp [intOf]; omega
        · have HE := hid (show esc b = [92, 120, hexL.getD (b.toNat / 16) 0, hexL.getD (b.toNat % 16) 0] from (if_neg b1).trans (if_neg b2))
          have HP := hid (fun w => plainByte_any (b.toNat : Int) w)
          rw [show decide ((32 : Int) ≤ (b.toNat : Int) ∧ (b.toNat : Int) ≤ 126) = false from decide_eq_false (by omega)] at HP
          clear b1 b2
          go_wp2_with (first | (go_at_call 61; refine (HP.out _).mono ?_; rintro e w9 ⟨rfl, rfl⟩))
          have n1 : b.toNat < 256 := b.toNat_lt
          have qa : bits .and .u8 (b.toNat : Int) 15 = (b.toNat : Int) % 16 := by
            have e := u8_and_nat b.toNat 15 n1 (by decide)
            rw [show b.toNat &&& 15 = b.toNat % 16 from Nat.and_two_pow_sub_one_eq_mod b.toNat 4] at e
            exact e.trans (by omega)
          have i1 : (0 : Int) ≤ (b.toNat : Int) / 16 := by omega
          have i2 : (b.toNat : Int) / 16 < 16 := by omega
          have i3 : (0 : Int) ≤ (b.toNat : Int) % 16 := by omega
          have i4 : (b.toNat : Int) % 16 < 16 := by omega
          go_region_held3 (fun _ => True) (exact trivial) (first | (refine step_lit (w := w9.drew) (by rfl) _ _ (by rfl) (by rfl) B _ acc [92, 120, hexL.getD (b.toNat / 16) 0, hexL.getD (b.toNat % 16) 0] (by rfl) HBZ.out (HBS.out.ext (Ext.refl _).drew) (hex_lit b) (by rfl) (by rfl) (by simp; omega) ?_; intro a2 c2 w2 ho2 hb2; have hb3 : Below B w9 w2 := ((Below.refl B w9).drew).trans hb2))
          all_goals
            have REL : ∃ (j' : Nat) (a' : Option Addr) (c' : Nat), j' ≤ x.size ∧ Value.int .i64 ((j : Int) + 1) = .int .i64 j' ∧ Value.slice a2 (acc.length + 4) c2 = .slice a' (l ++ [34] ++ escs (x.data.toList.take j')).length c' ∧ Bs B w2 (.slice a' (l ++ [34] ++ escs (x.data.toList.take j')).length c') (l ++ [34] ++ escs (x.data.toList.take j')) ∧ Below B w w2 :=
              ⟨j + 1, a2, c2, hlt, by go_num, by rw [HT.out, HE.out, ← List.append_assoc, hacc, List.length_append]; rfl, by rw [HT.out, HE.out, ← List.append_assoc, hacc]; exact ho2, HBW.out.trans hb3⟩
            have HREL := hid REL
            clear REL ho2 hb2 hb3
            first
              | exact ⟨HREL.out, by simp [intOf]; omega⟩
              | (go_wp2_with fail
                 go_roundw
                 case rel => first | exact HREL.out | ((repeat apply Exists.intro); exact ⟨HREL.out, rfl⟩)
                 case measure => simp [intOf]; omega)
    · have hje : j = x.size := by omega
      have HT := hid (show x.data.toList.take j = x.data.toList by rw [hje, ← hxl, List.take_length])
      have HLJ := hid (HLN.out j)
      have hfin : l ++ [34] ++ escs (x.data.toList.take j) ++ [34] = l ++ quo x := by rw [HT.out]; simp [quo]
      generalize hacc : l ++ [34] ++ escs (x.data.toList.take j) = acc at HBS hfin ⊢
      have hal : acc.length ≤ 1020000000 := by rw [← hacc]; simp; have := HLJ.out; omega
      have HF := hid hfin
      clear hacc hfin
      go_wp2_with (at_builtin; refine app_lit rfl _ _ rfl rfl B _ acc [34] rfl HBZ.out HBS.out rfl rfl rfl (by simp; omega) ?_; intro a2 c2 w2 ho2 hb2)
      go_ret
      rw [HF.out] at ho2
      exact ⟨a2, c2, ret_sl (by rw [← HF.out]; simp), ho2, HBW.out.trans hb2⟩
end Go.Proofs.YtbpbkihcfdnphaaGreatDoor
