/-
  Bytes of one's own, appended to: what is no block of bytes stays. The reference's write of a text.
-/
import Derived.Test.YtbpbkihcfdnphaaGreatDoorRDig
import Derived.Test.YtbpbkihcfdnphaaGreatDoorPTwin
namespace Go.Proofs.YtbpbkihcfdnphaaGreatDoor
open Go.RowKit
/-- What lies below B stays, and so does every block that is none of bytes. -/
structure Gk (B : Nat) (w w' : World) : Prop where
  below : Below B w w'
  other : ∀ (q : Nat) (cs : Array Value) (ty : TypeId), ty ≠ 5 → w.heap[q]? = some (.cells cs ty) → w'.heap[q]? = some (.cells cs ty)
theorem Gk.refl (B : Nat) (w : World) : Gk B w w := ⟨Below.refl _ _, fun _ _ _ _ h => h⟩
theorem Gk.trans {B : Nat} {a b c : World} (h : Gk B a b) (k : Gk B b c) : Gk B a c := ⟨h.below.trans k.below, fun q cs ty ht hq => k.other q cs ty ht (h.other q cs ty ht hq)⟩
theorem Gk.ofExt {B : Nat} {w w' : World} (h : Ext w w') (hB : B ≤ w.heap.size) : Gk B w w' := ⟨Below.mono h hB, fun _ _ _ _ hq => h.block hq⟩
theorem Gk.grown {B : Nat} {w w1 w' : World} {v : Value} {l : List UInt8} (hown : Bs B w v l) (hx : Ext w w1) (hg : w1.grownBy w' v.ownBlock) (hb : Below B w w') : Gk B w w' := by
  refine ⟨hb, fun q cs ty hty hq => ?_⟩
  have h1 := hx.block hq
  have hne : some q ≠ v.ownBlock := fun e => by
    rcases hown.2 with ⟨hv, _⟩ | ⟨g, cap, cur, hv, _, hcur, _⟩
    · rw [hv] at e; cases e
    · rw [hv] at e
      have e' : some q = some g := e
      injection e' with e'
      subst e'
      rw [hq] at hcur
      injection hcur with e1
      injection e1 with _ e2
      exact hty e2
  rw [hg.block q (lt_of_block h1) hne]
  exact h1
theorem run_litG {w : World} {ty : TypeId} (B : Nat) (v : Value) (l m : List UInt8) (hB : B ≤ w.heap.size) (hown : Bs B w v l) (hlim : l.length + m.length ≤ 140737488355328) :
    ∃ ao c w', (Builtin.append_ #[61, 61] 61 #[v, .slice (some ⟨w.heap.size, 0, none⟩) m.length m.length]).run Tryz.prog (w.alloc (.cells (Lib.byteCells m).toArray ty)) = .ok (.slice ao (l ++ m).length c) w' ∧ Bs B w' (.slice ao (l ++ m).length c) (l ++ m) ∧ Gk B w w' := by
  obtain ⟨i, hi, hz0, hz1, hz2⟩ := info_parts byteInfo
  obtain ⟨v', w', hr, ho, hg, _, _⟩ := run_append_own_at (P := Tryz.prog) (w.alloc (.cells (Lib.byteCells m).toArray ty)) B 61 61 5 i (.int .u8 0) 1 1 Tryz.underlying61 hi hz0 hz1 hz2 rfl (by decide) v l.length (Lib.byteCells l) (hown.alloc _) ⟨w.heap.size, 0, none⟩ m.length m.length (Lib.byteCells m) (by rw [Lib.byteCells_length]; omega) (news_at m) (fun u hu => by obtain ⟨b, _, rfl⟩ := List.mem_map.1 hu; rfl) (by unfold maxLen; omega) (by omega) (by rw [blkS]; omega)
  have ho2 : Bs B w' v' (l ++ m) := by
    unfold Bs
    rw [List.length_append, app_len]
    exact ho
  obtain ⟨ao, c, rfl⟩ := ho2.shape
  exact ⟨ao, c, w', hr, ho2, Gk.grown hown (Ext.alloc _ _) hg (Below.grown ((Below.refl B w).alloc hB _) hg (by rw [blkS]; omega) (fun k hk => (World.ownsRow.lt hown k hk).1))⟩
theorem app_litG {ops : Array Oper} {rest : List Oper} {o : Oper} {a : Act} {Q : Exit → Act → World → Prop} {w : World} {cs : Array Value} {ty : TypeId} (hgd : o.guard = none) (s x : Operand)
    (ho : o.op = .call { callee := .builtin .append, args := #[s, x], argTypes := #[61, 61] }) (hty : o.type = 61) (B : Nat) (v : Value) (l m : List UInt8) (hs : a.eval s = v) (hB : B ≤ w.heap.size) (hown : Bs B w v l)
    (hcs : cs = (Lib.byteCells m).toArray) {k : Nat} (hk : k = m.length) (hx : a.eval x = .slice (some ⟨w.heap.size, 0, none⟩) k k) (hlim : l.length + m.length ≤ 140737488355328)
    (h : ∀ ao c w', Bs B w' (.slice ao (l ++ m).length c) (l ++ m) → Gk B w w' → wpList Tryz.prog ops Q rest (a.put o.dst (.slice ao (l ++ m).length c)) w') : wpList Tryz.prog ops Q (o :: rest) a (w.alloc (.cells cs ty)) := by
  subst hcs
  subst hk
  refine wpList_plain hgd fun K hK => ?_
  obtain ⟨ao, c, w', hr, h2, h3⟩ := run_litG (ty := ty) B v l m hB hown hlim
  unfold Oper.wp execOp
  simp only [ho, hty, resolve, invoke, builtin, Sem.run_bind, Sem.run_pure, Result.andThen_ok, List.map_toArray, List.map_cons, List.map_nil, hs, hx, hr]
  exact hK _ _ (h ao c w' h2 h3)
theorem step_litG {ops : Array Oper} {o : Oper} {a : Act} {K : Act → World → Prop} {Q : Exit → Act → World → Prop} {E : Prop} {w : World} {cs : Array Value} {ty : TypeId} (hgd : o.guard = none) (s x : Operand)
    (ho : o.op = .call { callee := .builtin .append, args := #[s, x], argTypes := #[61, 61] }) (hty : o.type = 61) (B : Nat) (v : Value) (l m : List UInt8) (hs : a.eval s = v) (hB : B ≤ w.heap.size) (hown : Bs B w v l)
    (hcs : cs = (Lib.byteCells m).toArray) {k : Nat} (hk : k = m.length) (hx : a.eval x = .slice (some ⟨w.heap.size, 0, none⟩) k k) (hlim : l.length + m.length ≤ 140737488355328)
    (h : ∀ ao c w', Bs B w' (.slice ao (l ++ m).length c) (l ++ m) → Gk B w w' → K (a.put o.dst (.slice ao (l ++ m).length c)) w') :
    if Region.wanted o (yielded ops a.tmps) = true then Oper.wp Tryz.prog o a (w.alloc (.cells cs ty)) K Q else E := by
  have hw : Region.wanted o (yielded ops a.tmps) = true := by simp [Region.wanted, hgd]
  rw [if_pos hw]
  subst hcs
  subst hk
  obtain ⟨ao, c, w', hr, h2, h3⟩ := run_litG (ty := ty) B v l m hB hown hlim
  unfold Oper.wp execOp
  simp only [ho, hty, resolve, invoke, builtin, Sem.run_bind, Sem.run_pure, Result.andThen_ok, List.map_toArray, List.map_cons, List.map_nil, hs, hx, hr]
  exact h ao c w' h2 h3
theorem app_strG {ops : Array Oper} {rest : List Oper} {o : Oper} {a : Act} {Q : Exit → Act → World → Prop} {w : World} (hgd : o.guard = none) (sl x : Operand)
    (ho : o.op = .call { callee := .builtin .append, args := #[sl, x], argTypes := #[61, 9] }) (B : Nat) (v : Value) (l : List UInt8) (hs : a.eval sl = v) (hB : B ≤ w.heap.size) (hown : Bs B w v l)
    (s : ByteArray) (hx : a.eval x = .string s) (hlim : l.length + s.size ≤ 140737488355328)
    (h : ∀ ao c w', Bs B w' (.slice ao (l ++ s.data.toList).length c) (l ++ s.data.toList) → Gk B w w' → wpList Tryz.prog ops Q rest (a.put o.dst (.slice ao (l ++ s.data.toList).length c)) w') : wpList Tryz.prog ops Q (o :: rest) a w := by
  obtain ⟨i, hi, hz0, hz1, hz2⟩ := info_parts byteInfo
  refine Lib.wpList_append_own_string w hgd sl x 61 9 ho B 5 i Tryz.underlying61 Tryz.underlying9 hi hz0 hz1 hz2 v l.length (Lib.byteCells l) hs hown s hx (by unfold maxLen; omega) hlim hB ?_
  intro v' w' h1 h2 _
  have ho2 : Bs B w' v' (l ++ s.data.toList) := by
    unfold Bs
    rw [List.length_append, app_len, Array.length_toList]
    exact h1
  obtain ⟨ao, c, rfl⟩ := ho2.shape
  exact h ao c w' ho2 (Gk.grown hown (Ext.refl _) h2 (Below.grown (Below.refl B w) h2 hB (fun k hk => (World.ownsRow.lt hown k hk).1)))
set_option maxRecDepth 100000 in
set_option maxHeartbeats 4000000 in
theorem rwrite_text (B : Nat) (n : Int) (x : ByteArray) (a0 : Option Addr) (kl c0 : Nat) (o : Value) (l : List UInt8) (w : World) (hB : B ≤ w.heap.size) (hown : Bs B w o l) (hx : x.size ≤ 4000000) (hl : l.length ≤ 1000000000) :
    Calls Tryz.prog 38 #[o, .agg #[.int .i64 4, .int .i64 n, .string x, .slice a0 kl c0]] w fun e w' => ∃ ao c, e = .returned (.slice ao (l ++ quo x).length c) ∧ Bs B w' (.slice ao (l ++ quo x).length c) (l ++ quo x) ∧ Gk B w w' := by
  have HGW := hid (Gk.ofExt (Ext.alloc w (.cells #[.int .i64 4, .int .i64 n, .string x, .slice a0 kl c0] 27)) hB)
  have HO := hid (hown.alloc (.cells #[.int .i64 4, .int .i64 n, .string x, .slice a0 kl c0] 27))
  have HB := hid (show B ≤ (w.alloc (.cells #[.int .i64 4, .int .i64 n, .string x, .slice a0 kl c0] 27)).heap.size by rw [blkS]; omega)
  have HBOX := hid (blk0 w (.cells #[.int .i64 4, .int .i64 n, .string x, .slice a0 kl c0] 27))
  have hx' : (x.size : Int) ≤ 4000000 := by omega
  have hxl : x.data.toList.length = x.size := by rw [Array.length_toList]; rfl
  obtain ⟨ao, c, rfl⟩ := hown.shape
  clear hown hB
  go_enter Tryz.func38, Tryz.ntmps38
  go_upto_block 0 with fail
  obtain ⟨s0, s1, s2, s3⟩ := four_of HBOX.out
  generalize w.alloc (.cells #[.int .i64 4, .int .i64 n, .string x, .slice a0 kl c0] 27) = W0 at *
  go_wp2_with (at_builtin; refine app_litG rfl _ _ rfl rfl B _ l [34] rfl HB.out HO.out rfl rfl rfl (by simp; omega) ?_; intro a1 c1 w1 ho1 hb1)
  have HO1 := hid ho1
  have HB1 := hid hb1
  clear ho1 hb1 s0 s1 s2 s3
  have hlen : ∀ j, (escs (x.data.toList.take j)).length ≤ 4 * x.size := fun j => by
    have := escs_len (x.data.toList.take j)
    have h2 : (x.data.toList.take j).length ≤ x.data.toList.length := by rw [List.length_take]; omega
    omega
  have HLN := hid hlen
  clear hlen
  go_loopw [0, 5] (fun o i wr => ∃ (j : Nat) (a' : Option Addr) (c' : Nat), j ≤ x.size ∧ i = .int .i64 j ∧ o = .slice a' (l ++ [34] ++ escs (x.data.toList.take j)).length c' ∧ Bs B wr (.slice a' (l ++ [34] ++ escs (x.data.toList.take j)).length c') (l ++ [34] ++ escs (x.data.toList.take j)) ∧ Gk B W0 wr) (fun _ i _ => x.size - (intOf i).toNat)
  case atStart => exact ⟨0, a1, c1, Nat.zero_le _, rfl, by simp [escs], by simpa [escs] using HO1.out, HB1.out⟩
  case round =>
    obtain ⟨j, a', c', hj, rfl, rfl, hbs, hbw⟩ := hrel
    have HBS := hid hbs
    have HBW := hid hbw
    have HBZ := hid (Nat.le_trans HB.out hbw.below.size)
    obtain ⟨s0, s1, s2, s3⟩ := four_of (hbw.other _ _ _ (by decide) HBOX.out)
    clear hbs hbw
    by_cases hlt : j < x.size
    · have hlt' : (j : Int) < x.size := by omega
      have hjl : j < x.data.toList.length := by omega
      have HT := hid (escs_take x j hjl)
      have HLJ := hid (HLN.out j)
      obtain ⟨b, hb⟩ : ∃ b, x.data.toList[j] = b := ⟨_, rfl⟩
      rw [hb] at HT
      generalize hacc : l ++ [34] ++ escs (x.data.toList.take j) = acc at HBS ⊢
      have hal : acc.length ≤ 1020000000 := by rw [← hacc]; simp; have := HLJ.out; omega
      have hbx : x[j] = b := hb
      clear hb
      go_upto_region 17 with fail
      clear hbx
      by_cases b1 : b = 34 ∨ b = 92
      · have HE := hid (show esc b = [92, b] from if_pos b1)
        rcases b1 with rfl | rfl
        · go_wp2_with (at_builtin; refine app_litG rfl _ _ rfl rfl B _ acc [92, 34] rfl HBZ.out HBS.out rfl rfl rfl (by simp; omega) ?_; intro a2 c2 w2 ho2 hb2)
          go_roundw
          case rel =>
            have REL : ∃ (j' : Nat) (a' : Option Addr) (c' : Nat), j' ≤ x.size ∧ Value.int .i64 ((j : Int) + 1) = .int .i64 j' ∧ Value.slice a2 (acc.length + 2) c2 = .slice a' (l ++ [34] ++ escs (x.data.toList.take j')).length c' ∧ Bs B w2 (.slice a' (l ++ [34] ++ escs (x.data.toList.take j')).length c') (l ++ [34] ++ escs (x.data.toList.take j')) ∧ Gk B W0 w2 :=
              ⟨j + 1, a2, c2, hlt, by go_num, by rw [HT.out, HE.out, ← List.append_assoc, hacc, List.length_append]; rfl, by rw [HT.out, HE.out, ← List.append_assoc, hacc]; exact ho2, HBW.out.trans hb2⟩
            first | exact REL | ((repeat apply Exists.intro); exact ⟨REL, rfl⟩)
          case measure => simp [intOf]; omega
        · go_wp2_with (at_builtin; refine app_litG rfl _ _ rfl rfl B _ acc [92, 92] rfl HBZ.out HBS.out rfl rfl rfl (by simp; omega) ?_; intro a2 c2 w2 ho2 hb2)
          go_roundw
          case rel =>
            have REL : ∃ (j' : Nat) (a' : Option Addr) (c' : Nat), j' ≤ x.size ∧ Value.int .i64 ((j : Int) + 1) = .int .i64 j' ∧ Value.slice a2 (acc.length + 2) c2 = .slice a' (l ++ [34] ++ escs (x.data.toList.take j')).length c' ∧ Bs B w2 (.slice a' (l ++ [34] ++ escs (x.data.toList.take j')).length c') (l ++ [34] ++ escs (x.data.toList.take j')) ∧ Gk B W0 w2 :=
              ⟨j + 1, a2, c2, hlt, by go_num, by rw [HT.out, HE.out, ← List.append_assoc, hacc, List.length_append]; rfl, by rw [HT.out, HE.out, ← List.append_assoc, hacc]; exact ho2, HBW.out.trans hb2⟩
            first | exact REL | ((repeat apply Exists.intro); exact ⟨REL, rfl⟩)
          case measure => simp [intOf]; omega
      · have q1 : (((b.toNat : Int)) == 34) = false := by
          rw [beq_eq_false_iff_ne]; exact fun h => b1 (.inl (UInt8.toNat_inj.1 (by have : (34 : UInt8).toNat = 34 := rfl; omega)))
        have q2 : (((b.toNat : Int)) == 92) = false := by
          rw [beq_eq_false_iff_ne]; exact fun h => b1 (.inr (UInt8.toNat_inj.1 (by have : (92 : UInt8).toNat = 92 := rfl; omega)))
        by_cases b2 : 32 ≤ b.toNat ∧ b.toNat ≤ 126
        · have HE := hid (show esc b = [b] from (if_neg b1).trans (if_pos b2))
          obtain ⟨b3, b4⟩ := b2
          have b5 : (32 : Int) ≤ (b.toNat : Int) := by omega
          have b6 : (b.toNat : Int) ≤ 126 := by omega
          clear b1
          go_wp2_with (at_builtin; refine app_litG rfl _ _ rfl rfl B _ acc [b] rfl HBZ.out HBS.out rfl rfl rfl (by simp; omega) ?_; intro a2 c2 w2 ho2 hb2)
          go_roundw
          case rel =>
            have REL : ∃ (j' : Nat) (a' : Option Addr) (c' : Nat), j' ≤ x.size ∧ Value.int .i64 ((j : Int) + 1) = .int .i64 j' ∧ Value.slice a2 (acc.length + 1) c2 = .slice a' (l ++ [34] ++ escs (x.data.toList.take j')).length c' ∧ Bs B w2 (.slice a' (l ++ [34] ++ escs (x.data.toList.take j')).length c') (l ++ [34] ++ escs (x.data.toList.take j')) ∧ Gk B W0 w2 :=
              ⟨j + 1, a2, c2, hlt, by go_num, by rw [HT.out, HE.out, ← List.append_assoc, hacc, List.length_append]; rfl, by rw [HT.out, HE.out, ← List.append_assoc, hacc]; exact ho2, HBW.out.trans hb2⟩
            first | exact REL | ((repeat apply Exists.intro); exact ⟨REL, rfl⟩)
          case measure => simp [intOf]; omega
        · have HE := hid (show esc b = [92, 120, hexL.getD (b.toNat / 16) 0, hexL.getD (b.toNat % 16) 0] from (if_neg b1).trans (if_neg b2))
          have n1 : b.toNat < 256 := b.toNat_lt
          have i1 : (0 : Int) ≤ (b.toNat : Int) / 16 := by omega
          have i2 : (b.toNat : Int) / 16 < 16 := by omega
          have i3 : (0 : Int) ≤ (b.toNat : Int) % 16 := by omega
          have i4 : (b.toNat : Int) % 16 < 16 := by omega
          have wq : IntKind.u8.wrap ((b.toNat : Int) / 16) = (b.toNat : Int) / 16 := by rw [IntKind.wrap_u8]; omega
          have wm : IntKind.u8.wrap ((b.toNat : Int) % 16) = (b.toNat : Int) % 16 := by rw [IntKind.wrap_u8]; omega
          have wt : (b.toNat : Int).tmod 16 = (b.toNat : Int) % 16 := Int.tmod_eq_emod_of_nonneg (by omega)
          have wd : (b.toNat : Int).tdiv 16 = (b.toNat : Int) / 16 := Int.tdiv_eq_ediv_of_nonneg (by omega)
          have HS := hid (show ((32 : Int) ≤ (b.toNat : Int) ∧ ¬ (b.toNat : Int) ≤ 126) ∨ ¬ (32 : Int) ≤ (b.toNat : Int) by omega)
          clear b1 b2
          rcases HS.out with ⟨b3, b4⟩ | b3
          · have b5 : ¬ b.toNat ≤ 126 := by omega
            go_upto_region 16 with fail
            go_region_held3 (fun _ => True) (exact trivial) (first | (refine step_litG (w := wr.drew) (by rfl) _ _ (by rfl) (by rfl) B _ acc [92, 120, hexL.getD (b.toNat / 16) 0, hexL.getD (b.toNat % 16) 0] (by rfl) HBZ.out (HBS.out.ext (Ext.refl _).drew) (hex_lit b) (by rfl) (by rfl) (by simp; omega) ?_; intro a2 c2 w2 ho2 hb3; have hb2 : Gk B wr w2 := (Gk.ofExt ((Ext.refl wr).drew) HBZ.out).trans hb3))
            all_goals
                have REL : ∃ (j' : Nat) (a' : Option Addr) (c' : Nat), j' ≤ x.size ∧ Value.int .i64 ((j : Int) + 1) = .int .i64 j' ∧ Value.slice a2 (acc.length + 4) c2 = .slice a' (l ++ [34] ++ escs (x.data.toList.take j')).length c' ∧ Bs B w2 (.slice a' (l ++ [34] ++ escs (x.data.toList.take j')).length c') (l ++ [34] ++ escs (x.data.toList.take j')) ∧ Gk B W0 w2 :=
                  ⟨j + 1, a2, c2, hlt, by go_num, by rw [HT.out, HE.out, ← List.append_assoc, hacc, List.length_append]; rfl, by rw [HT.out, HE.out, ← List.append_assoc, hacc]; exact ho2, HBW.out.trans hb2⟩
                have HREL := hid REL
                clear REL ho2 hb2 hb3
                first
                  | exact ⟨HREL.out, by simp [intOf]; omega⟩
                  | (go_wp2_with fail
                     go_roundw
                     case rel => first | exact HREL.out | ((repeat apply Exists.intro); exact ⟨HREL.out, rfl⟩)
                     case measure => simp [intOf]; omega)
          · have b5 : ¬ 32 ≤ b.toNat := by omega
            go_upto_region 16 with fail
            go_region_held3 (fun _ => True) (exact trivial) (first | (refine step_litG (w := wr.drew) (by rfl) _ _ (by rfl) (by rfl) B _ acc [92, 120, hexL.getD (b.toNat / 16) 0, hexL.getD (b.toNat % 16) 0] (by rfl) HBZ.out (HBS.out.ext (Ext.refl _).drew) (hex_lit b) (by rfl) (by rfl) (by simp; omega) ?_; intro a2 c2 w2 ho2 hb3; have hb2 : Gk B wr w2 := (Gk.ofExt ((Ext.refl wr).drew) HBZ.out).trans hb3))
            all_goals
                have REL : ∃ (j' : Nat) (a' : Option Addr) (c' : Nat), j' ≤ x.size ∧ Value.int .i64 ((j : Int) + 1) = .int .i64 j' ∧ Value.slice a2 (acc.length + 4) c2 = .slice a' (l ++ [34] ++ escs (x.data.toList.take j')).length c' ∧ Bs B w2 (.slice a' (l ++ [34] ++ escs (x.data.toList.take j')).length c') (l ++ [34] ++ escs (x.data.toList.take j')) ∧ Gk B W0 w2 :=
                  ⟨j + 1, a2, c2, hlt, by go_num, by rw [HT.out, HE.out, ← List.append_assoc, hacc, List.length_append]; rfl, by rw [HT.out, HE.out, ← List.append_assoc, hacc]; exact ho2, HBW.out.trans hb2⟩
                have HREL := hid REL
                clear REL ho2 hb2 hb3
                first
                  | exact ⟨HREL.out, by simp [intOf]; omega⟩
                  | (go_wp2_with fail
                     go_roundw
                     case rel => first | exact HREL.out | ((repeat apply Exists.intro); exact ⟨HREL.out, rfl⟩)
                     case measure => simp [intOf]; omega)
    · have hje : j = x.size := by omega
      have HT := hid (show x.data.toList.take j = x.data.toList by rw [hje, ← hxl, List.take_length])
      have HLJ := hid (HLN.out j)
      have hfin : l ++ [34] ++ escs (x.data.toList.take j) ++ [34] = l ++ quo x := by rw [HT.out]; simp [quo]
      generalize hacc : l ++ [34] ++ escs (x.data.toList.take j) = acc at HBS hfin ⊢
      have hal : acc.length ≤ 1020000000 := by rw [← hacc]; simp; have := HLJ.out; omega
      have HF := hid hfin
      clear hacc hfin
      go_wp2_with (at_builtin; refine app_litG rfl _ _ rfl rfl B _ acc [34] rfl HBZ.out HBS.out rfl rfl rfl (by simp; omega) ?_; intro a2 c2 w2 ho2 hb2)
      go_ret
      rw [HF.out] at ho2
      exact ⟨a2, c2, ret_sl (by rw [← HF.out]; simp), ho2, (HGW.out.trans HBW.out).trans hb2⟩
end Go.Proofs.YtbpbkihcfdnphaaGreatDoor
