/-
  Twins, Untouched and Worked of the statements, by contracts: a list of plain values, each light one in memory of its own; these are as they were; an answer is the document's.
-/
import Derived.Test.YtecabbifkcnbeaaGreatDoorCLight
import Derived.Test.YtecabbifkcnbeaaGreatDoorCWork
import Derived.Test.YtecabbifkcnbeaaGreatDoorQuoted
import Derived.Test.YtecabbifkcnbeaaGreatDoorCIn
namespace Go.Proofs.YtecabbifkcnbeaaGreatDoor
open Go.RowKit
/-- What a twin reads as: the value; of a light one, a mark stands behind each list. -/
def EL (K : Nat → Prop) (w : World) (d : Nat) (u : Value) (t : T) : Prop := Rd K w d u t ∧ (lightB t = true → MRd K w d u t)
theorem EL.keep {K : Nat → Prop} {w w' : World} {d : Nat} {u : Value} {t : T} (h : EL K w d u t) (hk : Kp K w w') : EL K w' d u t := ⟨h.1.keep hk, fun e => (h.2 e).keep hk⟩
theorem EL.mono {K L : Nat → Prop} {w : World} {d : Nat} {u : Value} {t : T} (h : EL K w d u t) (hl : ∀ k, k < w.heap.size → K k → L k) : EL L w d u t := ⟨h.1.mono hl, fun e => (h.2 e).mono hl⟩
theorem EL.later {K : Nat → Prop} {w w' : World} {d : Nat} {u : Value} {t : T} (h : EL K w d u t) (hx : Ext w w') : EL K w' d u t := h.keep (hx.kp K)
/-- A list of twins that is being made. -/
def TItems (w : World) (base d : Nat) (lv : Value) (acc : List T) : Prop := ∃ (us : List Value), w.ownsRow base 34 4 lv acc.length us ∧
  ∀ j, (h : j < acc.length) → ∃ u0 u1 u2 u3, us[j * 4]? = some u0 ∧ us[j * 4 + 1]? = some u1 ∧ us[j * 4 + 2]? = some u2 ∧ us[j * 4 + 3]? = some u3 ∧ EL (fun x => lv.ownBlock ≠ some x) w d (.agg #[u0, u1, u2, u3]) acc[j]
theorem TItems.nil {w : World} (base d : Nat) : TItems w base d (.slice none 0 0) [] := ⟨[], World.ownsRow_nil _ _ _ _, fun _ h => absurd h (Nat.not_lt_zero _)⟩
theorem TItems.keep {w w' : World} {base d : Nat} {lv : Value} {acc : List T} {K : Nat → Prop} (h : TItems w base d lv acc) (hk : Kp K w w') (hK : ∀ k, k < w.heap.size → K k) : TItems w' base d lv acc := by
  obtain ⟨us, ho, hi⟩ := h
  refine ⟨us, ⟨ho.1, ?_⟩, fun j hj => ?_⟩
  · rcases ho.2 with h | ⟨g, cap, cur, hv, hg, hb, hr⟩
    · exact .inl h
    · exact .inr ⟨g, cap, cur, hv, hg, hk.block' hb (hK g (lt_of_block hb)), hr⟩
  · obtain ⟨u0, u1, u2, u3, h0, h1, h2, h3, hr⟩ := hi j hj
    exact ⟨u0, u1, u2, u3, h0, h1, h2, h3, ((hr.mono (L := fun x => lv.ownBlock ≠ some x ∧ x < w.heap.size) (fun k hk h => ⟨h, hk⟩)).keep (hk.mono (fun k h1 h2 => hK k h2.2))).mono (fun _ _ h => h.1)⟩
theorem TItems.shape {w : World} {base d : Nat} {lv : Value} {acc : List T} (h : TItems w base d lv acc) : ∃ ao c, lv = .slice ao acc.length c := by
  obtain ⟨us, ho, _⟩ := h
  rcases ho.2 with ⟨hv, h0⟩ | ⟨g, cap, cur, hv, _⟩
  · exact ⟨none, 0, by rw [hv, h0]⟩
  · exact ⟨_, _, hv⟩
theorem TItems.own {w : World} {base d : Nat} {lv : Value} {acc : List T} (h : TItems w base d lv acc) {g : Nat} (e : lv.ownBlock = some g) : base ≤ g ∧ g < w.heap.size := by
  obtain ⟨us, ho, _⟩ := h
  exact World.ownsRow.lt ho g e
theorem run_titem {w : World} {ty : TypeId} (base d : Nat) (lv : Value) (acc : List T) (k n : Int) (x : ByteArray) (a : Option Addr) (l c : Nat) (t : T) (hB : base ≤ w.heap.size) (hit : TItems w base d lv acc) (hrd : EL (fun x => lv.ownBlock ≠ some x) w d (.agg #[.int .i64 k, .int .i64 n, .string x, .slice a l c]) t) (hlim : (acc.length + 1) * 56 ≤ 140737488351232) :
    ∃ ao c' w', (Builtin.append_ #[24, 24] 24 #[lv, .slice (some ⟨w.heap.size, 0, none⟩) 1 1]).run Tryz.prog (w.alloc (.cells #[.int .i64 k, .int .i64 n, .string x, .slice a l c] ty)) = .ok (.slice ao (acc ++ [t]).length c') w' ∧ TItems w' base d (.slice ao (acc ++ [t]).length c') (acc ++ [t]) ∧ Below base w w' := by
  have hit0 := hit
  obtain ⟨us, ho, hi⟩ := hit
  obtain ⟨ii, hii, hz0, hz1, hz2⟩ := info_parts plainInfo
  have hrow : (w.alloc (.cells #[.int .i64 k, .int .i64 n, .string x, .slice a l c] ty)).ownsRow base 34 4 lv acc.length us := World.ownsRow.alloc ho _
  have hnews : ∀ (j : Nat) (u : Value), [Value.int .i64 k, .int .i64 n, .string x, .slice a l c][j]? = some u → (w.alloc (.cells #[.int .i64 k, .int .i64 n, .string x, .slice a l c] ty)).cell? (Addr.add ⟨w.heap.size, 0, none⟩ j) = some u := by
    intro j u hu
    have e : Addr.add ⟨w.heap.size, 0, none⟩ j = ⟨w.heap.size, j, none⟩ := by
      by_cases hj : j = 0
      · subst hj; simp [Addr.add]
      · simp [Addr.add, hj]
    rw [e]
    exact cell_of (blk0 w _) (by simpa using hu)
  obtain ⟨v', w', hr, ho2, hg, _, hat⟩ := run_append_own_at (P := Tryz.prog) (w.alloc (.cells #[.int .i64 k, .int .i64 n, .string x, .slice a l c] ty)) base 24 24 34 ii _ 4 56 Tryz.underlying24 hii hz0 hz1 hz2 rfl (by decide) lv acc.length us hrow ⟨w.heap.size, 0, none⟩ 1 1 [.int .i64 k, .int .i64 n, .string x, .slice a l c] rfl hnews (fun u hu => by simp at hu; rcases hu with rfl | rfl | rfl | rfl <;> rfl) (by unfold maxLen; omega) (by omega) (by rw [blkS]; omega)
  have hkp := grown_kp hg
  have hsz : w.heap.size + 1 ≤ w'.heap.size := by have := hg.size; rw [blkS] at this; exact this
  have hold : ∀ (x : Nat), x < w.heap.size → lv.ownBlock ≠ some x → v'.ownBlock ≠ some x := fun x hx hne => by
    rcases hat with e | e
    · rw [e]; exact hne
    · rw [e, blkS]; intro h; injection h with h; omega
  have hul : us.length = acc.length * 4 := ho.1
  have hmv : ∀ u t, EL (fun x => lv.ownBlock ≠ some x) w d u t → EL (fun x => v'.ownBlock ≠ some x) w' d u t := fun u t h =>
    (((h.mono (L := fun x => lv.ownBlock ≠ some x ∧ x < w.heap.size) (fun k hk h => ⟨h, hk⟩)).later (Ext.alloc _ _)).keep (hkp.mono (fun k _ hk => hk.1))).mono (fun q _ hq => hold q hq.2 hq.1)
  have hI : TItems w' base d v' (acc ++ [t]) := by
    refine ⟨us ++ [.int .i64 k, .int .i64 n, .string x, .slice a l c], by rw [List.length_append]; exact ho2, fun j hj => ?_⟩
    by_cases hj' : j < acc.length
    · obtain ⟨u0, u1, u2, u3, h0, h1, h2, h3, hr3⟩ := hi j hj'
      refine ⟨u0, u1, u2, u3, by rw [List.getElem?_append_left (by omega)]; exact h0, by rw [List.getElem?_append_left (by omega)]; exact h1, by rw [List.getElem?_append_left (by omega)]; exact h2, by rw [List.getElem?_append_left (by omega)]; exact h3, ?_⟩
      rw [List.getElem_append_left hj']
      exact hmv _ _ hr3
    · have hje : j = acc.length := by simp at hj; omega
      subst hje
      refine ⟨.int .i64 k, .int .i64 n, .string x, .slice a l c, by rw [← hul]; simp, by rw [← hul]; simp, by rw [← hul]; simp, by rw [← hul]; simp, ?_⟩
      simp only [List.getElem_append_right (Nat.le_refl _), Nat.sub_self, List.getElem_cons_zero]
      exact hmv _ _ hrd
  obtain ⟨ao, c', rfl⟩ := hI.shape
  exact ⟨ao, c', w', hr, hI, Below.grown ((Below.refl base w).alloc hB _) hg (by rw [blkS]; omega) (fun k hk => (World.ownsRow.lt ho k hk).1)⟩
theorem app_titem {ops : Array Oper} {rest : List Oper} {o : Oper} {ac : Act} {Q : Exit → Act → World → Prop} {w : World} {ty : TypeId} (hgd : o.guard = none) (s y : Operand)
    (ho : o.op = .call { callee := .builtin .append, args := #[s, y], argTypes := #[24, 24] }) (hty : o.type = 24) (base d : Nat) (lv : Value) (acc : List T) (k n : Int) (x : ByteArray) (a : Option Addr) (l c : Nat) (t : T) (hs : ac.eval s = lv) (hx : ac.eval y = .slice (some ⟨w.heap.size, 0, none⟩) 1 1)
    (hB : base ≤ w.heap.size) (hit : TItems w base d lv acc) (hrd : EL (fun x => lv.ownBlock ≠ some x) w d (.agg #[.int .i64 k, .int .i64 n, .string x, .slice a l c]) t) (hlim : (acc.length + 1) * 56 ≤ 140737488351232)
    (h : ∀ ao c' w', TItems w' base d (.slice ao (acc.length + 1) c') (acc ++ [t]) → Below base w w' → wpList Tryz.prog ops Q rest (ac.put o.dst (.slice ao (acc.length + 1) c')) w') : wpList Tryz.prog ops Q (o :: rest) ac (w.alloc (.cells #[.int .i64 k, .int .i64 n, .string x, .slice a l c] ty)) := by
  refine wpList_plain hgd fun K hK => ?_
  obtain ⟨ao, c', w', hr, h2, h3⟩ := run_titem (ty := ty) base d lv acc k n x a l c t hB hit hrd hlim
  unfold Oper.wp execOp
  rw [List.length_append] at hr h2
  simp only [ho, hty, resolve, invoke, builtin, Sem.run_bind, Sem.run_pure, Result.andThen_ok, List.map_toArray, List.map_cons, List.map_nil, hs, hx, hr]
  exact hK _ _ (h ao c' w' h2 h3)
theorem TItems.at {w : World} {base d m c : Nat} {ao : Option Addr} {acc : List T} (h : TItems w base d (.slice ao m c) acc) (j : Nat) (hj : j < acc.length) : ∃ g u0 u1 u2 u3, ao = some ⟨g, 0, none⟩ ∧ Four w g (j * 4) u0 u1 u2 u3 ∧ EL (fun _ => True) w d (.agg #[u0, u1, u2, u3]) acc[j] := by
  obtain ⟨us, ho, hi⟩ := h
  rcases ho.2 with ⟨hv, h1⟩ | ⟨g, cap, cur, hv, hbg, hbk, h3, h4, h5, h6⟩
  · omega
  · injection hv with e1 e2 e3
    subst e1; subst e2; subst e3
    obtain ⟨u0, u1, u2, u3, q0, q1, q2, q3, hr⟩ := hi j hj
    have key : ∀ i u, i < acc.length * 4 → us[i]? = some u → w.cell? ⟨g, i, none⟩ = some u := fun i u hi hu => by
      rw [← h6, List.getElem?_take_of_lt hi] at hu
      exact cell_of hbk (by simpa using hu)
    exact ⟨g, u0, u1, u2, u3, rfl, ⟨key _ _ (by omega) q0, key _ _ (by omega) q1, key _ _ (by omega) q2, key _ _ (by omega) q3⟩, hr.mono (fun _ _ _ => trivial)⟩
theorem TItems.prow {w : World} {base d m c : Nat} {ao : Option Addr} {acc : List T} (h : TItems w base d (.slice ao m c) acc) : PRow w ao acc := by
  rcases Nat.eq_zero_or_pos acc.length with h0 | h0
  · exact .inl (List.eq_nil_of_length_eq_zero h0)
  · obtain ⟨g, _, _, _, _, rfl, _⟩ := h.at 0 h0
    refine .inr ⟨g, 0, rfl, fun j hj => ?_⟩
    obtain ⟨g', u0, u1, u2, u3, e, h4, hr⟩ := h.at j hj
    injection e with e
    injection e with e
    subst e
    exact ⟨_, d, u0, u1, u2, u3, by rw [Nat.zero_add]; exact h4, hr.1⟩
def TwLp (w : World) (d : Nat) (ks : List T) (q3 q4 : Value) (wr : World) : Prop := ∃ (j : Nat) (ao : Option Addr) (c : Nat), j ≤ ks.length ∧ q4 = .int .i64 j ∧ q3 = .slice ao j c ∧ TItems wr w.heap.size d (.slice ao j c) (ks.take j) ∧ Ext w wr
def TwinsR (w : World) (d : Nat) (ks : List T) (e : Ending) (w' : World) : Prop := ∃ ao c, e = .returned (.slice ao ks.length c) ∧ TItems w' w.heap.size d (.slice ao ks.length c) ks ∧ Ext w w'
set_option maxRecDepth 100000 in
set_option maxHeartbeats 4000000 in
theorem twins_any {K : Nat → Prop} {d : Nat} {a : Option Addr} {c : Nat} {ks : List T} (w : World) (h : RdL K w d a ks) : Calls Tryz.prog 7 #[.slice a ks.length c] w (TwinsR w d ks) := by
  have HK := hid h
  obtain ⟨n, hne⟩ : ∃ n, ks.length = n := ⟨_, rfl⟩
  have HNE := hid hne
  have hn56 : n * 56 ≤ 140737488351232 := by have := h.1; omega
  have hn' : (n : Int) ≤ 140737488351232 := by omega
  rw [hne]
  clear h hne
  go_enter Tryz.func7, Tryz.ntmps7
  go_wp2_with fail
  go_loopw [3, 4] (fun q3 q4 wr => TwLp w d ks q3 q4 wr) (fun _ q4 _ => n - (intOf q4).toNat)
  case atStart => exact ⟨0, none, 0, Nat.zero_le _, rfl, rfl, TItems.nil _ _, Ext.refl _⟩
  case round =>
    obtain ⟨j, ao, c1, hj, rfl, rfl, hit, hx⟩ := hrel
    have HIT := hid hit
    have HX := hid hx
    rw [HNE.out] at hj
    clear hit hx
    by_cases hlt : j < n
    · have hlt' : (j : Int) < n := by omega
      have hjx : j < ks.length := by rw [HNE.out]; exact hlt
      obtain ⟨g, off, k', n', x', a', l', c', rfl, hg, h4, hrd0⟩ := HK.out.kid hjx
      obtain ⟨o0, o1, o2, o3⟩ := Four.keep h4 (HX.out.kp K) hg
      have hgl := lt_of_cell o0
      have HLOW := hid (hrd0.low)
      have hrd := hrd0.later HX.out
      have HL := hid (show (ks.take j).length = j by rw [List.length_take, Nat.min_eq_left (Nat.le_of_lt hjx)])
      have HS := hid (show ks.take j ++ [ks[j]] = ks.take (j + 1) from (List.take_succ_eq_append_getElem hjx).symm)
      generalize ks[j] = t at *
      generalize ks.take j = acc at *
      have HLG := hid (fun o => Light_any (wr.alloc o) (hrd.later (Ext.alloc wr o)))
      have HTW := hid (fun w1 (hx1 : Ext wr w1) => twin_any d _ t K w1 (hrd.later hx1))
      clear hjx h4 hrd0 hrd hg
      go_wp2_with fail
      refine (HLG.out _).mono ?_
      rintro e w1 ⟨rfl, hx1⟩
      have HX1 := hid hx1
      have HB1 := hid (hx1.block (blk0 wr (.cells #[.int .i64 k', .int .i64 n', .string x', .slice a' l' c'] 34)))
      clear hx1 o0 o1 o2 o3
      obtain ⟨b, hb⟩ : ∃ b, lightB t = b := ⟨_, rfl⟩
      rw [hb]
      have HBT := hid hb
      clear hb
      obtain ⟨p0, p1, p2, p3⟩ := four_of HB1.out
      have HSZ := hid (show wr.heap.size + 1 ≤ w1.heap.size by have := HX1.out.size; rw [blkS] at this; exact this)
      cases b with
      | false =>
        have HIT2 := hid (HIT.out.keep (((Ext.alloc wr _).trans HX1.out).kp (fun _ => True)) (fun _ _ => trivial))
        have HEL := hid (show EL (fun x => (Value.slice ao j c1).ownBlock ≠ some x) w1 d (.agg #[.int .i64 k', .int .i64 n', .string x', .slice a' l' c']) t from
          ⟨(HLOW.out.later (HX.out.trans ((Ext.alloc wr _).trans HX1.out))).mono (fun q _ hq e => by have := (HIT.out.own e).1; omega), fun e => by rw [HBT.out] at e; cases e⟩)
        have hgl1 : wr.heap.size < w1.heap.size := by have := HSZ.out; omega
        go_wp2_with (at_builtin; go_loud (refine app_titem rfl _ _ rfl rfl w.heap.size d (.slice ao j c1) acc k' n' x' a' l' c' t rfl rfl (Nat.le_trans HX.out.size (Nat.le_trans (by rw [blkS]; omega) HX1.out.size)) HIT2.out HEL.out (by rw [HL.out]; omega) ?_); intro a5 c5 w5 hit5 hb5; rw [HL.out] at hit5 ⊢)
        go_roundw
        case rel => exact ⟨j + 1, a5, c5, by rw [HNE.out]; omega, by go_num, rfl, by rw [← HS.out]; exact hit5, Below.trans (HX.out.trans ((Ext.alloc wr _).trans HX1.out)) hb5⟩
        case measure => simp [intOf]; omega
      | true =>
        have hgl1 : wr.heap.size < w1.heap.size := by have := HSZ.out; omega
        go_wp2_with fail
        refine (HTW.out _ ((Ext.alloc wr _).trans HX1.out)).mono ?_
        rintro e w2 ⟨v2, rfl, hm2, hx2⟩
        have HX2 := hid hx2
        have HM2 := hid hm2
        obtain ⟨u0, u1, u2, u3, rfl⟩ := hm2.rd.agg
        obtain ⟨k2, n2, x2, a2, c2, rfl, rfl, rfl, rfl⟩ := hm2.rd.shape
        have HB2 := hid (hx2.block HB1.out)
        clear hx2 hm2 p0 p1 p2 p3 hgl hgl1
        obtain ⟨p0, p1, p2, p3⟩ := four_of HB2.out
        obtain ⟨f0, f1, f2, f3⟩ := four_free HB2.out
        have HB3 := hid (four_set (u0 := .int .i64 k2) (u1 := .int .i64 n2) (u2 := .string x2) (u3 := .slice a2 t.kids.length c2) HB2.out)
        have HKP := hid (Kp.set4 w2 wr.heap.size 0 (.int .i64 k2) (.int .i64 n2) (.string x2) (.slice a2 t.kids.length c2))
        have HIT2 := hid ((HIT.out.keep (((Ext.alloc wr _).trans (HX1.out.trans HX2.out)).kp (fun _ => True)) (fun _ _ => trivial)))
        generalize t.kids.length = tl at *
        have HSZ2 := hid (show w1.heap.size ≤ w2.heap.size from HX2.out.size)
        obtain ⟨W3, hW3⟩ : ∃ W3, ((((w2.setCell ⟨wr.heap.size, 0, none⟩ (.int .i64 k2)).setCell ⟨wr.heap.size, 1, none⟩ (.int .i64 n2)).setCell ⟨wr.heap.size, 2, none⟩ (.string x2)).setCell ⟨wr.heap.size, 3, none⟩ (.slice a2 tl c2)) = W3 := ⟨_, rfl⟩
        have HKP3 := hid (show Kp (· ≠ wr.heap.size) w2 W3 from hW3 ▸ HKP.out)
        have HB4 := hid (show W3.heap[wr.heap.size]? = some (.cells #[.int .i64 k2, .int .i64 n2, .string x2, .slice a2 tl c2] 34) from hW3 ▸ HB3.out)
        have HIT3 := hid (show TItems W3 w.heap.size d (.slice ao j c1) acc from (HIT.out.keep ((((Ext.alloc wr _).trans (HX1.out.trans HX2.out)).kp (· < wr.heap.size)).trans (HKP3.out.mono (fun k _ (h : k < wr.heap.size) => by omega))) (fun _ h => h)))
        have HEL := hid (show EL (fun x => (Value.slice ao j c1).ownBlock ≠ some x) W3 d (.agg #[.int .i64 k2, .int .i64 n2, .string x2, .slice a2 tl c2]) t from by
          have h1 := (HM2.out.keep (HKP3.out.mono (fun k _ h => by have := HSZ.out; omega)))
          have h2 := h1.mono (L := fun x => (Value.slice ao j c1).ownBlock ≠ some x) (fun k _ h e => by have := (HIT.out.own e).2; have := HSZ.out; omega)
          exact ⟨h2.rd, fun _ => h2⟩)
        have HS3 := hid (show W3.heap.size = w2.heap.size by rw [← hW3]; simp only [size_set])
        have HE3 := hid (show Ext w W3 from (HKP3.out.extOf (HX.out.trans ((Ext.alloc wr _).trans (HX1.out.trans HX2.out))) HX.out.size))
        have hB0 : w.heap.size ≤ W3.heap.size := HE3.out.size
        obtain ⟨r0, r1, r2, r3⟩ := four_of HB4.out
        have hgl3 := lt_of_cell r0
        clear HB3 HKP HIT2
        go_wp2_with (at_builtin; go_loud (refine app_titem rfl _ _ rfl rfl w.heap.size d (.slice ao j c1) acc k2 n2 x2 a2 tl c2 t rfl (by rw [HS3.out]; rfl) hB0 HIT3.out HEL.out (by rw [HL.out]; omega) ?_); intro a5 c5 w5 hit5 hb5; rw [HL.out] at hit5 ⊢)
        go_roundw
        case rel => exact ⟨j + 1, a5, c5, by rw [HNE.out]; omega, by go_num, rfl, by rw [← HS.out]; exact hit5, Below.trans HE3.out hb5⟩
        case measure => simp [intOf]; omega
    · have hje : j = n := by omega
      have hlt2 : decide ((j : Int) < n) = false := decide_eq_false (by omega)
      have hlt3 : ¬ (j : Int) < n := by omega
      have HI2 := hid (show TItems wr w.heap.size d (.slice ao n c1) ks by
        have := HIT.out
        rwa [hje, List.take_of_length_le (by have := HNE.out; omega)] at this)
      subst hje
      go_wp2_with fail
      go_ret
      exact ⟨ao, c1, by rw [HNE.out]; rfl, by rw [HNE.out]; exact HI2.out, HX.out⟩
end Go.Proofs.YtecabbifkcnbeaaGreatDoor
/-
  Plain and Is of the statements' own, each by a contract: of values that are not too great.
-/
namespace Go.Proofs.YtecabbifkcnbeaaGreatDoor
open Go.RowKit
def PlainR (w : World) (d : Nat) (t : T) (e : Ending) (w' : World) : Prop := Ext w w' ∧ ∃ u0 u1 u2 u3, e = .returned (.tuple #[.agg #[u0, u1, u2, u3], .bool true]) ∧ Rd (fun x => w.heap.size ≤ x) w' d (.agg #[u0, u1, u2, u3]) t
set_option maxRecDepth 100000 in
set_option maxHeartbeats 4000000 in
theorem Plain_any {K : Nat → Prop} {d : Nat} {v : Value} {t : T} (w : World) (hr : VRd K w d v t) (hn : t.nodes ≤ 70000) (hd : t.deep ≤ 70) : Calls Tryz.prog 18 #[v] w (PlainR w d t) := by
  obtain ⟨τ, p, rfl⟩ := hr.iface
  have HR := hid hr.low
  have HN := hid hn
  have HD := hid hd
  clear hr hn hd
  go_enter Tryz.func18, Tryz.ntmps18
  go_wp2_with fail
  have hx2 : Ext w ((w.alloc (.cells #[.int .i64 0, .int .i64 0, .string ⟨#[]⟩, .slice none 0 0] 34)).alloc (.cells #[.int .i64 0] 3)) := Ext.alloc2 _ _ _
  have hb1 : ((w.alloc (.cells #[.int .i64 0, .int .i64 0, .string ⟨#[]⟩, .slice none 0 0] 34)).alloc (.cells #[.int .i64 0] 3)).heap[w.heap.size]? = some (.cells #[.int .i64 0, .int .i64 0, .string ⟨#[]⟩, .slice none 0 0] 34) := blkOld _ (blk0 w _)
  have hb2 : ((w.alloc (.cells #[.int .i64 0, .int .i64 0, .string ⟨#[]⟩, .slice none 0 0] 34)).alloc (.cells #[.int .i64 0] 3)).heap[w.heap.size + 1]? = some (.cells #[.int .i64 (0 : Nat)] 3) := blk1 w _ _
  have hs2 : ((w.alloc (.cells #[.int .i64 0, .int .i64 0, .string ⟨#[]⟩, .slice none 0 0] 34)).alloc (.cells #[.int .i64 0] 3)).heap.size = w.heap.size + 2 := by rw [blkS, blkS]
  generalize ((w.alloc (.cells #[.int .i64 0, .int .i64 0, .string ⟨#[]⟩, .slice none 0 0] 34)).alloc (.cells #[.int .i64 0] 3)) = V at hx2 hb1 hb2 hs2 ⊢
  refine (pln_any d (.iface τ p) t (· < w.heap.size) V (w.heap.size + 1) 0 0 (HR.out.later hx2) (by omega) hb2 (by have := HN.out; omega) (by have := HD.out; omega)).mono ?_
  rintro e V2 ⟨hk, _, u0, u1, u2, u3, rfl, hrd⟩
  obtain ⟨k', n', x', a', c', rfl, rfl, rfl, rfl⟩ := hrd.shape
  have HRD := hid hrd
  generalize t.kids.length = lk at *
  have HX := hid (Kp.extOf hx2 hk (Nat.le_succ _))
  have HB := hid (hk.block' hb1 (by show w.heap.size ≠ w.heap.size + 1; omega))
  have HS := hid hs2
  obtain ⟨r0, r1, r2, r3⟩ := four_of HB.out
  have f0 := frozen_of (i := 0) HB.out
  have f1 := frozen_of (i := 1) HB.out
  have f2 := frozen_of (i := 2) HB.out
  have f3 := frozen_of (i := 3) HB.out
  clear hk hrd hx2 hb1 hb2 hs2
  go_wp2_with fail
  have hb5 := set4_block HB.out 0 (.int .i64 k') (.int .i64 n') (.string x') (.slice a' lk c')
  have hk2 := Kp.set4 V2 w.heap.size 0 (.int .i64 k') (.int .i64 n') (.string x') (.slice a' lk c')
  have hX2 := Kp.extOf HX.out hk2 (Nat.le_refl _)
  generalize ((((V2.setCell ⟨w.heap.size, 0, none⟩ (.int .i64 k')).setCell ⟨w.heap.size, 0 + 1, none⟩ (.int .i64 n')).setCell ⟨w.heap.size, 0 + 2, none⟩ (.string x')).setCell ⟨w.heap.size, 0 + 3, none⟩ (.slice a' lk c')) = W at hb5 hk2 hX2 ⊢
  have z0 : W.cell? ⟨w.heap.size, 0, none⟩ = some (.int .i64 k') := cell_of hb5 (by simp [set4A])
  have z1 : W.cell? ⟨w.heap.size, 1, none⟩ = some (.int .i64 n') := cell_of hb5 (by simp [set4A])
  have z2 : W.cell? ⟨w.heap.size, 2, none⟩ = some (.string x') := cell_of hb5 (by simp [set4A])
  have z3 : W.cell? ⟨w.heap.size, 3, none⟩ = some (.slice a' lk c') := cell_of hb5 (by simp [set4A])
  refine bodyPost_ret (v := .tuple #[.agg #[.int .i64 k', .int .i64 n', .string x', .slice a' lk c'], .bool true]) (by simp [results, Tryz.results18, go_sem, z0, z1, z2, z3]) rfl ?_
  refine ⟨hX2, _, _, _, _, rfl, ?_⟩
  have hq := HRD.out.keep (hk2.mono (fun q _ hq e => by have e' : q = w.heap.size := e; have := HS.out; have hq' : V.heap.size ≤ q := hq; omega))
  exact hq.mono (fun q _ hq => by have := HS.out; have hq' : V.heap.size ≤ q := hq; show w.heap.size ≤ q; omega)
set_option maxRecDepth 100000 in
set_option maxHeartbeats 4000000 in
theorem is_any {K K' : Nat → Prop} {d d' : Nat} {v v' : Value} {t t' : T} (w : World) (hr : VRd K w d v t) (hr' : Rd K' w d' v' t') (hn : t.nodes ≤ 70000) (hd : t.deep ≤ 70) : Calls Tryz.prog 19 #[v, v'] w fun e w' => e = .returned (.bool (T.beq t t')) ∧ Ext w w' := by
  obtain ⟨τ, p, rfl⟩ := hr.iface
  obtain ⟨u0, u1, u2, u3, rfl⟩ := hr'.agg
  obtain ⟨k1, n1, x1, a1, c1, rfl, rfl, rfl, rfl⟩ := hr'.shape
  have HR := hid hr
  have HR' := hid hr'
  generalize t'.kids.length = l1 at *
  have HN := hid hn
  have HD := hid hd
  clear hr hn hd hr'
  go_enter Tryz.func19, Tryz.ntmps19
  go_wp2_with fail
  refine (Plain_any (w.alloc _) (HR.out.later (Ext.alloc w _)) HN.out HD.out).mono ?_
  rintro e V ⟨hx, u0, u1, u2, u3, rfl, hrd⟩
  obtain ⟨k', n', x', a', c', rfl, rfl, rfl, rfl⟩ := hrd.shape
  have HRD := hid hrd
  generalize t.kids.length = lk at *
  have HX := hid ((Ext.alloc w _).trans hx)
  obtain ⟨m0, m1, m2, m3⟩ := four_of (hx.block (blk0 w _))
  have HRV := hid (HR'.out.later HX.out)
  have hwl : w.heap.size < V.heap.size := lt_of_cell m0
  clear hx hrd
  go_wp2_with fail
  refine (eq_any d _ _ t t' _ _ _ d' (HRD.out.later (Ext.alloc V _)) (HRV.out.later (Ext.alloc V _))).mono ?_
  rintro e V2 ⟨rfl, hx2⟩
  have HX2 := hid (HX.out.trans ((Ext.alloc V _).trans hx2))
  clear hx2
  go_wp2_with fail
  go_ret
  exact ⟨rfl, HX2.out⟩
end Go.Proofs.YtecabbifkcnbeaaGreatDoor
/-
  Fits of the statements, by contracts: none beside an error; the value that was asked for.
-/
namespace Go.Proofs.YtecabbifkcnbeaaGreatDoor
open Go.RowKit
theorem eq_nil_nil (w : World) : (binOp .eql 29 .nilIface .nilIface).run Tryz.prog w = .ok (.bool true) w := by kernel_rfl
attribute [local go_sem] eq_nil_nil
set_option maxRecDepth 100000 in
theorem fits_err (e : Int) (he : e ≠ 0) (p : Value) (hp : ∃ k n x a l c, p = .agg #[.int .i64 k, .int .i64 n, .string x, .slice a l c]) (w : World) : Calls Tryz.prog 34 #[.nilIface, .int .i64 e, p, .int .i64 e] w fun r w' => r = .returned (.bool true) ∧ Ext w w' := by
  obtain ⟨k, n, x, a, l, c, rfl⟩ := hp
  have he1 : (e == 0) = false := by simpa using he
  go_enter Tryz.func34, Tryz.ntmps34
  go_wp2_with fail
  go_ret
  exact ⟨rfl, Ext.alloc _ _⟩
set_option maxRecDepth 100000 in
theorem fits_ok {K K' : Nat → Prop} {d d' : Nat} {v v' : Value} {t : T} (w : World) (hr : VRd K w d v t) (hr' : Rd K' w d' v' t) (hm : t.may) : Calls Tryz.prog 34 #[v, .int .i64 0, v', .int .i64 0] w fun r w' => r = .returned (.bool true) ∧ Ext w w' := by
  obtain ⟨τ, q, rfl⟩ := hr.iface
  obtain ⟨u0, u1, u2, u3, rfl⟩ := hr'.agg
  obtain ⟨k, n, x, a, c, rfl, rfl, rfl, rfl⟩ := hr'.shape
  have HI := hid (show ∀ W', Ext w W' → Calls Tryz.prog 19 #[.iface τ q, .agg #[.int .i64 k, .int .i64 n, .string x, .slice a t.kids.length c]] W' fun r w' => r = .returned (.bool true) ∧ Ext W' w' from fun W' hx => by
    have e := is_any W' (hr.later hx) (hr'.later hx) (Nat.le_trans (T.nodes_size _) (Nat.le_trans hm.2.1 (by decide))) (Nat.le_trans hm.2.2 (by decide))
    rw [(T.beq_eq _ _).2 rfl] at e
    exact e)
  clear hr hr'
  generalize (T.kids t).length = kt at *
  go_enter Tryz.func34, Tryz.ntmps34
  go_wp2_with fail
  refine (HI.out _ (Ext.alloc _ _)).mono ?_
  rintro e w1 ⟨rfl, hx1⟩
  have HX1 := hid ((Ext.alloc w _).trans hx1)
  clear hx1
  go_wp2_with fail
  go_ret
  exact ⟨rfl, HX1.out⟩
end Go.Proofs.YtecabbifkcnbeaaGreatDoor
