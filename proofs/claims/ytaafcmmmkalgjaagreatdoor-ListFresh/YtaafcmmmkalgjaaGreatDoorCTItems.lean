/-
  Two slices that are being made: values that were answered, and plain values; what lies elsewhere is kept.
-/
import Derived.Test.YtaafcmmmkalgjaaGreatDoorKItems
import Derived.Test.YtaafcmmmkalgjaaGreatDoorCFits
import Derived.Test.YtaafcmmmkalgjaaGreatDoorPMarks
namespace Go.Proofs.YtaafcmmmkalgjaaGreatDoor
open Go.RowKit
/-- The slice qv holds values as acc tells; its row lies in a block of O, what is read lies in blocks of R. -/
def VQ (w : World) (base : Nat) (O R : Nat → Prop) (qv : Value) (acc : List T) : Prop := ∃ us : List Value, w.ownsRow base 35 1 qv acc.length us ∧ (∀ q, qv.ownBlock = some q → O q) ∧
  ∀ j, (h : j < acc.length) → ∃ u d, us[j]? = some u ∧ VRd R w d u acc[j]
/-- The slice wv holds plain values as acc tells; its row lies in a block of O, what is read lies in blocks of R. -/
def PQ (w : World) (base : Nat) (O R : Nat → Prop) (wv : Value) (acc : List T) : Prop := ∃ us : List Value, w.ownsRow base 30 4 wv acc.length us ∧ (∀ q, wv.ownBlock = some q → O q) ∧
  ∀ j, (h : j < acc.length) → ∃ u0 u1 u2 u3 d, us[j * 4]? = some u0 ∧ us[j * 4 + 1]? = some u1 ∧ us[j * 4 + 2]? = some u2 ∧ us[j * 4 + 3]? = some u3 ∧ Rd R w d (.agg #[u0, u1, u2, u3]) acc[j]
theorem VQ.nil {w : World} (base : Nat) (O R : Nat → Prop) : VQ w base O R (.slice none 0 0) [] :=
  ⟨[], World.ownsRow_nil _ _ _ _, fun q h => by simp [Value.ownBlock] at h, fun j h => absurd h (Nat.not_lt_zero _)⟩
theorem PQ.nil {w : World} (base : Nat) (O R : Nat → Prop) : PQ w base O R (.slice none 0 0) [] :=
  ⟨[], World.ownsRow_nil _ _ _ _, fun q h => by simp [Value.ownBlock] at h, fun j h => absurd h (Nat.not_lt_zero _)⟩
theorem VQ.shape {w : World} {base : Nat} {O R : Nat → Prop} {qv : Value} {acc : List T} (h : VQ w base O R qv acc) : ∃ ao c, qv = .slice ao acc.length c := by
  obtain ⟨us, ho, _⟩ := h
  rcases ho.2 with ⟨hv, h0⟩ | ⟨g, cap, cur, hv, _⟩
  · exact ⟨none, 0, by rw [hv, h0]⟩
  · exact ⟨_, _, hv⟩
theorem PQ.shape {w : World} {base : Nat} {O R : Nat → Prop} {qv : Value} {acc : List T} (h : PQ w base O R qv acc) : ∃ ao c, qv = .slice ao acc.length c := by
  obtain ⟨us, ho, _⟩ := h
  rcases ho.2 with ⟨hv, h0⟩ | ⟨g, cap, cur, hv, _⟩
  · exact ⟨none, 0, by rw [hv, h0]⟩
  · exact ⟨_, _, hv⟩
theorem VQ.own {w : World} {base : Nat} {O R : Nat → Prop} {qv : Value} {acc : List T} (h : VQ w base O R qv acc) {q : Nat} (hq : qv.ownBlock = some q) : base ≤ q ∧ O q ∧ ∃ cur, w.heap[q]? = some (.cells cur 35) := by
  obtain ⟨us, ho, hO, _⟩ := h
  refine ⟨(World.ownsRow.lt ho q hq).1, hO q hq, ?_⟩
  rcases ho.2 with ⟨hv, _⟩ | ⟨g, cap, cur, hv, _, hb, _⟩
  · rw [hv] at hq; simp [Value.ownBlock] at hq
  · rw [hv] at hq; simp [Value.ownBlock] at hq; subst hq; exact ⟨cur, hb⟩
theorem PQ.own {w : World} {base : Nat} {O R : Nat → Prop} {qv : Value} {acc : List T} (h : PQ w base O R qv acc) {q : Nat} (hq : qv.ownBlock = some q) : base ≤ q ∧ O q ∧ ∃ cur, w.heap[q]? = some (.cells cur 30) := by
  obtain ⟨us, ho, hO, _⟩ := h
  refine ⟨(World.ownsRow.lt ho q hq).1, hO q hq, ?_⟩
  rcases ho.2 with ⟨hv, _⟩ | ⟨g, cap, cur, hv, _, hb, _⟩
  · rw [hv] at hq; simp [Value.ownBlock] at hq
  · rw [hv] at hq; simp [Value.ownBlock] at hq; subst hq; exact ⟨cur, hb⟩
theorem VQ.keep' {w w' : World} {base : Nat} {O R L : Nat → Prop} {qv : Value} {acc : List T} (h : VQ w base O R qv acc) (hk : Kp L w w') (hO : ∀ q, qv.ownBlock = some q → L q) (hR : ∀ q, q < w.heap.size → R q → L q) : VQ w' base O R qv acc := by
  obtain ⟨us, ho, hq, hi⟩ := h
  refine ⟨us, ⟨ho.1, ?_⟩, hq, fun j hj => ?_⟩
  · rcases ho.2 with h | ⟨g, cap, cur, hv, hg, hb, hr⟩
    · exact .inl h
    · exact .inr ⟨g, cap, cur, hv, hg, hk.block' hb (hO g (by rw [hv]; rfl)), hr⟩
  · obtain ⟨u, d, h1, h2⟩ := hi j hj
    exact ⟨u, d, h1, h2.keep (hk.mono hR)⟩
theorem PQ.keep' {w w' : World} {base : Nat} {O R L : Nat → Prop} {qv : Value} {acc : List T} (h : PQ w base O R qv acc) (hk : Kp L w w') (hO : ∀ q, qv.ownBlock = some q → L q) (hR : ∀ q, q < w.heap.size → R q → L q) : PQ w' base O R qv acc := by
  obtain ⟨us, ho, hq, hi⟩ := h
  refine ⟨us, ⟨ho.1, ?_⟩, hq, fun j hj => ?_⟩
  · rcases ho.2 with h | ⟨g, cap, cur, hv, hg, hb, hr⟩
    · exact .inl h
    · exact .inr ⟨g, cap, cur, hv, hg, hk.block' hb (hO g (by rw [hv]; rfl)), hr⟩
  · obtain ⟨u0, u1, u2, u3, d, h0, h1, h2, h3, hr⟩ := hi j hj
    exact ⟨u0, u1, u2, u3, d, h0, h1, h2, h3, hr.keep (hk.mono hR)⟩
theorem VQ.mono {w : World} {base : Nat} {O R O' R' : Nat → Prop} {qv : Value} {acc : List T} (h : VQ w base O R qv acc) (hO : ∀ q, q < w.heap.size → O q → O' q) (hR : ∀ q, q < w.heap.size → R q → R' q) : VQ w base O' R' qv acc := by
  have hlt : ∀ q, qv.ownBlock = some q → q < w.heap.size := fun q hq => by obtain ⟨_, _, cur, hc⟩ := h.own hq; exact lt_of_block hc
  obtain ⟨us, ho, hq, hi⟩ := h
  refine ⟨us, ho, fun q hqq => hO q (hlt q hqq) (hq q hqq), fun j hj => ?_⟩
  obtain ⟨u, d, h1, h2⟩ := hi j hj
  exact ⟨u, d, h1, h2.mono hR⟩
theorem PQ.mono {w : World} {base : Nat} {O R O' R' : Nat → Prop} {qv : Value} {acc : List T} (h : PQ w base O R qv acc) (hO : ∀ q, q < w.heap.size → O q → O' q) (hR : ∀ q, q < w.heap.size → R q → R' q) : PQ w base O' R' qv acc := by
  have hlt : ∀ q, qv.ownBlock = some q → q < w.heap.size := fun q hq => by obtain ⟨_, _, cur, hc⟩ := h.own hq; exact lt_of_block hc
  obtain ⟨us, ho, hq, hi⟩ := h
  refine ⟨us, ho, fun q hqq => hO q (hlt q hqq) (hq q hqq), fun j hj => ?_⟩
  obtain ⟨u0, u1, u2, u3, d, h0, h1, h2, h3, hr⟩ := hi j hj
  exact ⟨u0, u1, u2, u3, d, h0, h1, h2, h3, hr.mono hR⟩
theorem VQ.later {w w' : World} {base : Nat} {O R : Nat → Prop} {qv : Value} {acc : List T} (h : VQ w base O R qv acc) (hx : Ext w w') : VQ w' base O R qv acc := h.keep' (hx.kp (fun _ => True)) (fun _ _ => trivial) (fun _ _ _ => trivial)
theorem PQ.later {w w' : World} {base : Nat} {O R : Nat → Prop} {qv : Value} {acc : List T} (h : PQ w base O R qv acc) (hx : Ext w w') : PQ w' base O R qv acc := h.keep' (hx.kp (fun _ => True)) (fun _ _ => trivial) (fun _ _ _ => trivial)
theorem VQ.at {w : World} {base : Nat} {O R : Nat → Prop} {ao : Option Addr} {m c : Nat} {acc : List T} (h : VQ w base O R (.slice ao m c) acc) {j : Nat} (hj : j < acc.length) : ∃ g τ p d, ao = some ⟨g, 0, none⟩ ∧ w.cell? ⟨g, j, none⟩ = some (.iface τ p) ∧ VRd R w d (.iface τ p) acc[j] := by
  obtain ⟨us, ho, _, hi⟩ := h
  obtain ⟨u, d, h1, h2⟩ := hi j hj
  obtain ⟨τ, p, rfl⟩ := h2.iface
  rcases ho.2 with ⟨_, h0⟩ | ⟨g, cap, cur, e0, hb, hc, h4, h5, h6, h7⟩
  · omega
  · cases e0
    rw [← h7, List.getElem?_take_of_lt (by omega)] at h1
    exact ⟨g, τ, p, d, rfl, cell_of hc (by simpa using h1), h2⟩
theorem PQ.at {w : World} {base : Nat} {O R : Nat → Prop} {ao : Option Addr} {m c : Nat} {acc : List T} (h : PQ w base O R (.slice ao m c) acc) {j : Nat} (hj : j < acc.length) : ∃ g k n x a l c' d, ao = some ⟨g, 0, none⟩ ∧ Four w g (j * 4) (.int .i64 k) (.int .i64 n) (.string x) (.slice a l c') ∧ Rd R w d (.agg #[.int .i64 k, .int .i64 n, .string x, .slice a l c']) acc[j] := by
  obtain ⟨us, ho, _, hi⟩ := h
  obtain ⟨u0, u1, u2, u3, d, q0, q1, q2, q3, hr⟩ := hi j hj
  obtain ⟨k, n, x, a, c', rfl, rfl, rfl, rfl⟩ := hr.shape
  rcases ho.2 with ⟨_, h0⟩ | ⟨g, cap, cur, e0, hb, hc, h4, h5, h6, h7⟩
  · omega
  · cases e0
    have key : ∀ i u, i < acc.length * 4 → us[i]? = some u → w.cell? ⟨g, i, none⟩ = some u := fun i u hi hu => by
      rw [← h7, List.getElem?_take_of_lt hi] at hu
      exact cell_of hc (by simpa using hu)
    exact ⟨g, k, n, x, a, _, c', d, rfl, ⟨key _ _ (by omega) q0, key _ _ (by omega) q1, key _ _ (by omega) q2, key _ _ (by omega) q3⟩, hr⟩
/-- What an append onto one of the two leaves of the other one's rows and of what is read. -/
theorem rows_ne {w : World} {base base' : Nat} {O R O' R' : Nat → Prop} {qv wv : Value} {acc acc' : List T} (h : VQ w base O R qv acc) (h' : PQ w base' O' R' wv acc') {q : Nat} (hq : qv.ownBlock = some q) : wv.ownBlock ≠ some q := fun e => by
  obtain ⟨_, _, cur, hc⟩ := h.own hq
  obtain ⟨_, _, cur', hc'⟩ := h'.own e
  rw [hc] at hc'
  injection hc' with hc'
  injection hc' with _ e2
  exact absurd e2 (by decide)
theorem run_vq {w : World} {ty : TypeId} (base : Nat) (O R : Nat → Prop) (qv wv : Value) (acc acc' : List T) (τ : TypeId) (p : Value) (t : T) (d : Nat) (hB : base ≤ w.heap.size) (hq : VQ w base O R qv acc) (hw : PQ w base O R wv acc') (hrd : VRd R w d (.iface τ p) t)
    (hOR : ∀ q, O q → ¬ R q) (hnew : ∀ q, w.heap.size ≤ q → O q) (hlim : acc.length ≤ 2000000) :
    ∃ ao c w', (Builtin.append_ #[24, 24] 24 #[qv, .slice (some ⟨w.heap.size, 0, none⟩) 1 1]).run Tryz.prog (w.alloc (.cells #[.iface τ p] ty)) = .ok (.slice ao (acc ++ [t]).length c) w' ∧ VQ w' base O R (.slice ao (acc ++ [t]).length c) (acc ++ [t]) ∧ PQ w' base O R wv acc' ∧ Kp (fun q => ¬ O q) w w' := by
  have hne := fun q (e : qv.ownBlock = some q) => rows_ne hq hw e
  obtain ⟨us, ho, hO, hi⟩ := hq
  obtain ⟨ii, hii, hz0, hz1, hz2⟩ := info_parts valueInfo
  have hrow : (w.alloc (.cells #[.iface τ p] ty)).ownsRow base 35 1 qv acc.length us := World.ownsRow.alloc ho _
  obtain ⟨v', w', hr, ho2, hg, _, hat⟩ := run_append_own_at (P := Tryz.prog) (w.alloc (.cells #[.iface τ p] ty)) base 24 24 35 ii .nilIface 1 16 Tryz.underlying24 hii hz0 hz1 hz2 rfl (by decide) qv acc.length us hrow ⟨w.heap.size, 0, none⟩ 1 1 [.iface τ p] rfl (cell_one_new _ _ _) (fun u hu => by simp at hu; subst hu; rfl) (by unfold maxLen; omega) (by omega) (by rw [blkS]; omega)
  have hkp : Kp (fun k => qv.ownBlock ≠ some k) w w' := ((Ext.alloc w _).kp _).trans (grown_kp hg)
  have hRk : ∀ q, R q → qv.ownBlock ≠ some q := fun q hR e => hOR q (hO q e) hR
  have hI : VQ w' base O R v' (acc ++ [t]) := by
    refine ⟨us ++ [.iface τ p], by rw [List.length_append]; exact ho2, fun q hq => ?_, fun j hj => ?_⟩
    · rcases hat with e | e
      · rw [e] at hq; exact hO q hq
      · rw [e, blkS] at hq; injection hq with hq; exact hnew q (by omega)
    · have hul : us.length = acc.length := by have := ho.1; omega
      by_cases hj' : j < acc.length
      · obtain ⟨u, d', h1, h3⟩ := hi j hj'
        refine ⟨u, d', by rw [List.getElem?_append_left (by omega)]; exact h1, ?_⟩
        rw [List.getElem_append_left hj']
        exact h3.keep (hkp.mono (fun k _ hk => hRk k hk))
      · have hje : j = acc.length := by simp at hj; omega
        subst hje
        refine ⟨.iface τ p, d, by rw [← hul]; simp, ?_⟩
        simp only [List.getElem_append_right (Nat.le_refl _), Nat.sub_self, List.getElem_cons_zero]
        exact hrd.keep (hkp.mono (fun k _ hk => hRk k hk))
  obtain ⟨ao, c, rfl⟩ := hI.shape
  exact ⟨ao, c, w', hr, hI, hw.keep' hkp (fun q e e' => hne q e' e) (fun q _ hq => hRk q hq), hkp.mono (fun q _ hq e => hq (hO q e))⟩
theorem run_pq {w : World} {ty : TypeId} (base : Nat) (O R : Nat → Prop) (qv wv : Value) (acc acc' : List T) (k n : Int) (x : ByteArray) (a : Option Addr) (l c : Nat) (t : T) (d : Nat) (hB : base ≤ w.heap.size) (hq : VQ w base O R qv acc) (hw : PQ w base O R wv acc') (hrd : Rd R w d (.agg #[.int .i64 k, .int .i64 n, .string x, .slice a l c]) t)
    (hOR : ∀ q, O q → ¬ R q) (hnew : ∀ q, w.heap.size ≤ q → O q) (hlim : acc'.length ≤ 2000000) :
    ∃ ao c' w', (Builtin.append_ #[25, 25] 25 #[wv, .slice (some ⟨w.heap.size, 0, none⟩) 1 1]).run Tryz.prog (w.alloc (.cells #[.int .i64 k, .int .i64 n, .string x, .slice a l c] ty)) = .ok (.slice ao (acc' ++ [t]).length c') w' ∧ PQ w' base O R (.slice ao (acc' ++ [t]).length c') (acc' ++ [t]) ∧ VQ w' base O R qv acc ∧ Kp (fun q => ¬ O q) w w' := by
  have hne := fun q (e : qv.ownBlock = some q) => rows_ne hq hw e
  obtain ⟨us, ho, hO, hi⟩ := hw
  obtain ⟨ii, hii, hz0, hz1, hz2⟩ := info_parts plainInfo
  have hrow : (w.alloc (.cells #[.int .i64 k, .int .i64 n, .string x, .slice a l c] ty)).ownsRow base 30 4 wv acc'.length us := World.ownsRow.alloc ho _
  have hnews : ∀ (j : Nat) (u : Value), [Value.int .i64 k, .int .i64 n, .string x, .slice a l c][j]? = some u → (w.alloc (.cells #[.int .i64 k, .int .i64 n, .string x, .slice a l c] ty)).cell? (Addr.add ⟨w.heap.size, 0, none⟩ j) = some u := by
    intro j u hu
    have e : Addr.add ⟨w.heap.size, 0, none⟩ j = ⟨w.heap.size, j, none⟩ := by
      by_cases hj : j = 0
      · subst hj; simp [Addr.add]
      · simp [Addr.add, hj]
    rw [e]
    exact cell_of (blk0 w _) (by simpa using hu)
  obtain ⟨v', w', hr, ho2, hg, _, hat⟩ := run_append_own_at (P := Tryz.prog) (w.alloc (.cells #[.int .i64 k, .int .i64 n, .string x, .slice a l c] ty)) base 25 25 30 ii _ 4 56 Tryz.underlying25 hii hz0 hz1 hz2 rfl (by decide) wv acc'.length us hrow ⟨w.heap.size, 0, none⟩ 1 1 [.int .i64 k, .int .i64 n, .string x, .slice a l c] rfl hnews (fun u hu => by simp at hu; rcases hu with rfl | rfl | rfl | rfl <;> rfl) (by unfold maxLen; omega) (by omega) (by rw [blkS]; omega)
  have hkp : Kp (fun k => wv.ownBlock ≠ some k) w w' := ((Ext.alloc w _).kp _).trans (grown_kp hg)
  have hRk : ∀ q, R q → wv.ownBlock ≠ some q := fun q hR e => hOR q (hO q e) hR
  have hI : PQ w' base O R v' (acc' ++ [t]) := by
    refine ⟨us ++ [.int .i64 k, .int .i64 n, .string x, .slice a l c], by rw [List.length_append]; exact ho2, fun q hq => ?_, fun j hj => ?_⟩
    · rcases hat with e | e
      · rw [e] at hq; exact hO q hq
      · rw [e, blkS] at hq; injection hq with hq; exact hnew q (by omega)
    · have hul : us.length = acc'.length * 4 := ho.1
      by_cases hj' : j < acc'.length
      · obtain ⟨u0, u1, u2, u3, d', h0, h1, h2, h3, hr3⟩ := hi j hj'
        refine ⟨u0, u1, u2, u3, d', by rw [List.getElem?_append_left (by omega)]; exact h0, by rw [List.getElem?_append_left (by omega)]; exact h1, by rw [List.getElem?_append_left (by omega)]; exact h2, by rw [List.getElem?_append_left (by omega)]; exact h3, ?_⟩
        rw [List.getElem_append_left hj']
        exact hr3.keep (hkp.mono (fun k _ hk => hRk k hk))
      · have hje : j = acc'.length := by simp at hj; omega
        subst hje
        refine ⟨.int .i64 k, .int .i64 n, .string x, .slice a l c, d, by rw [← hul]; simp, by rw [← hul]; simp, by rw [← hul]; simp, by rw [← hul]; simp, ?_⟩
        simp only [List.getElem_append_right (Nat.le_refl _), Nat.sub_self, List.getElem_cons_zero]
        exact hrd.keep (hkp.mono (fun k _ hk => hRk k hk))
  obtain ⟨ao, c', rfl⟩ := hI.shape
  exact ⟨ao, c', w', hr, hI, hq.keep' hkp (fun q e e' => hne q e e') (fun q _ hq => hRk q hq), hkp.mono (fun q _ hq e => hq (hO q e))⟩
theorem app_vq {ops : Array Oper} {rest : List Oper} {o : Oper} {a : Act} {Q : Exit → Act → World → Prop} {w : World} {ty : TypeId} (hgd : o.guard = none) (s x : Operand)
    (ho : o.op = .call { callee := .builtin .append, args := #[s, x], argTypes := #[24, 24] }) (hty : o.type = 24) (base : Nat) (O R : Nat → Prop) (qv wv : Value) (acc acc' : List T) (τ : TypeId) (p : Value) (t : T) (d : Nat) (hs : a.eval s = qv) (hx : a.eval x = .slice (some ⟨w.heap.size, 0, none⟩) 1 1)
    (hB : base ≤ w.heap.size) (hq : VQ w base O R qv acc) (hw : PQ w base O R wv acc') (hrd : VRd R w d (.iface τ p) t) (hOR : ∀ q, O q → ¬ R q) (hnew : ∀ q, w.heap.size ≤ q → O q) (hlim : acc.length ≤ 2000000)
    (h : ∀ ao c w', VQ w' base O R (.slice ao (acc.length + 1) c) (acc ++ [t]) → PQ w' base O R wv acc' → Kp (fun q => ¬ O q) w w' → wpList Tryz.prog ops Q rest (a.put o.dst (.slice ao (acc.length + 1) c)) w') : wpList Tryz.prog ops Q (o :: rest) a (w.alloc (.cells #[.iface τ p] ty)) := by
  refine wpList_plain hgd fun K hK => ?_
  obtain ⟨ao, c, w', hr, h2, h3, h4⟩ := run_vq (ty := ty) base O R qv wv acc acc' τ p t d hB hq hw hrd hOR hnew hlim
  unfold Oper.wp execOp
  rw [List.length_append] at hr h2
  simp only [ho, hty, resolve, invoke, builtin, Sem.run_bind, Sem.run_pure, Result.andThen_ok, List.map_toArray, List.map_cons, List.map_nil, hs, hx, hr]
  exact hK _ _ (h ao c w' h2 h3 h4)
theorem app_pq {ops : Array Oper} {rest : List Oper} {o : Oper} {ac : Act} {Q : Exit → Act → World → Prop} {w : World} {ty : TypeId} (hgd : o.guard = none) (s y : Operand)
    (ho : o.op = .call { callee := .builtin .append, args := #[s, y], argTypes := #[25, 25] }) (hty : o.type = 25) (base : Nat) (O R : Nat → Prop) (qv wv : Value) (acc acc' : List T) (k n : Int) (x : ByteArray) (a : Option Addr) (l c : Nat) (t : T) (d : Nat) (hs : ac.eval s = wv) (hx : ac.eval y = .slice (some ⟨w.heap.size, 0, none⟩) 1 1)
    (hB : base ≤ w.heap.size) (hq : VQ w base O R qv acc) (hw : PQ w base O R wv acc') (hrd : Rd R w d (.agg #[.int .i64 k, .int .i64 n, .string x, .slice a l c]) t) (hOR : ∀ q, O q → ¬ R q) (hnew : ∀ q, w.heap.size ≤ q → O q) (hlim : acc'.length ≤ 2000000)
    (h : ∀ ao c' w', PQ w' base O R (.slice ao (acc'.length + 1) c') (acc' ++ [t]) → VQ w' base O R qv acc → Kp (fun q => ¬ O q) w w' → wpList Tryz.prog ops Q rest (ac.put o.dst (.slice ao (acc'.length + 1) c')) w') : wpList Tryz.prog ops Q (o :: rest) ac (w.alloc (.cells #[.int .i64 k, .int .i64 n, .string x, .slice a l c] ty)) := by
  refine wpList_plain hgd fun K hK => ?_
  obtain ⟨ao, c', w', hr, h2, h3, h4⟩ := run_pq (ty := ty) base O R qv wv acc acc' k n x a l c t d hB hq hw hrd hOR hnew hlim
  unfold Oper.wp execOp
  rw [List.length_append] at hr h2
  simp only [ho, hty, resolve, invoke, builtin, Sem.run_bind, Sem.run_pure, Result.andThen_ok, List.map_toArray, List.map_cons, List.map_nil, hs, hx, hr]
  exact hK _ _ (h ao c' w' h2 h3 h4)
end Go.Proofs.YtaafcmmmkalgjaaGreatDoor
/-
  Light of the statements: whether a plain value is so small that it is played; by a contract.
-/
namespace Go.Proofs.YtaafcmmmkalgjaaGreatDoor
open Go.RowKit
mutual
/-- What is left of a number behind a plain value. -/
def lightN (n : Int) (dp : Nat) : T → Int
  | .node _ _ x ks => if 70 < dp then -1 else lightL (n - 1 - (x.size / 4 : Nat)) (dp + 1) ks
def lightL (n : Int) (dp : Nat) : List T → Int
  | [] => n
  | t :: r => if 0 ≤ n then lightL (lightN n dp t) dp r else n
end
def lightB (t : T) : Bool := decide (0 ≤ lightN 70000 0 t)
theorem lightL_neg {n : Int} (h : ¬ 0 ≤ n) (dp : Nat) (l : List T) : lightL n dp l = n := by
  cases l with
  | nil => simp only [lightL]
  | cons t r => simp only [lightL]; rw [if_neg h]
theorem lightL_step {n : Int} (h : 0 ≤ n) (dp : Nat) (l : List T) (j : Nat) (hj : j < l.length) : lightL n dp (l.drop j) = lightL (lightN n dp l[j]) dp (l.drop (j + 1)) := by
  rw [List.drop_eq_getElem_cons hj]
  simp only [lightL]
  rw [if_pos h]
theorem lightL_end (n : Int) (dp : Nat) (l : List T) (j : Nat) (hj : ¬ j < l.length) : lightL n dp (l.drop j) = n := by
  rw [List.drop_eq_nil_of_le (by omega)]
  simp only [lightL]
def LightR (w : World) (n : Int) (dp : Nat) (t : T) (e : Ending) (w' : World) : Prop := ∃ m : Int, e = .returned (.int .i64 m) ∧ m = lightN n dp t ∧ -35184372087810 ≤ m ∧ m ≤ 70000 ∧ Ext w w'
set_option maxRecDepth 100000 in
set_option maxHeartbeats 2000000 in
theorem light_any : ∀ (d : Nat) (v : Value) (t : T) (K : Nat → Prop) (w : World) (n : Int) (dp : Nat), Rd K w d v t → 0 ≤ n → n ≤ 70000 → dp ≤ 71 →
    Calls Tryz.prog 34 #[v, .int .i64 n, .int .i64 dp] w (LightR w n dp t) := by
  intro d
  induction d with
  | zero => intro v t K w n dp h; exact h.elim
  | succ d ih =>
    intro v t K w n dp hr hn0 hn1 hdp
    obtain ⟨k, m, x, ks⟩ := t
    have hxs : x.size ≤ 140737488351232 := by obtain ⟨_, _, _, h2, _⟩ := hr; exact h2
    obtain ⟨a, c, rfl, hkl⟩ := hr.kidsL
    have HK := hid hkl
    have HIH := hid ih
    have hl' : (ks.length : Int) ≤ 140737488355328 := by have := hkl.1; omega
    have hdq : (x.size : Int).tdiv 4 = ((x.size / 4 : Nat) : Int) := by rw [Int.tdiv_eq_ediv_of_nonneg (by omega)]; rfl
    have HD := hid (show lightN n dp (.node k m x ks) = if 70 < dp then -1 else lightL (n - 1 - (x.size / 4 : Nat)) (dp + 1) ks by simp only [lightN])
    have hq : x.size / 4 ≤ 35184372087808 := by omega
    clear hr hkl ih
    generalize x.size / 4 = q at *
    have hq' : (q : Int) ≤ 35184372087808 := by omega
    have hxs' : (x.size : Int) ≤ 140737488351232 := by omega
    have hq0 : 0 ≤ (q : Int) := by omega
    by_cases h70 : 70 < dp
    · have h70' : (70 : Int) < dp := by omega
      have HR := hid (show lightN n dp (.node k m x ks) = -1 by rw [HD.out, if_pos h70])
      clear h70 HD
      go_enter Tryz.func34, Tryz.ntmps34
      go_wp2_with fail
      go_ret
      exact ⟨-1, rfl, HR.out.symm, by decide, by decide, Ext.alloc _ _⟩
    · have h70' : ¬ (70 : Int) < dp := by omega
      have HR := hid (show lightN n dp (.node k m x ks) = lightL (n - 1 - (q : Int)) (dp + 1) (ks.drop 0) by rw [HD.out, if_neg h70, List.drop_zero])
      have hdp' : (dp : Int) ≤ 70 := by omega
      have hdp2 : dp + 1 ≤ 71 := by omega
      have hdc : (dp : Int) + 1 = ((dp + 1 : Nat) : Int) := by omega
      have HDP := hid hdc
      clear h70 HD hdc
      go_enter Tryz.func34, Tryz.ntmps34
      go_wp2_with fail
      go_loopw [1, 7] (fun q1 i wr => ∃ (j : Nat) (nn : Int), j ≤ ks.length ∧ i = .int .i64 j ∧ q1 = .int .i64 nn ∧ lightN n dp (.node k m x ks) = lightL nn (dp + 1) (ks.drop j) ∧ -35184372087810 ≤ nn ∧ nn ≤ 70000 ∧ wr.heap[w.heap.size]? = some (.cells #[.int .i64 k, .int .i64 m, .string x, .slice a ks.length c] 30) ∧ Ext w wr) (fun _ i _ => ks.length - (intOf i).toNat)
      case atStart => exact ⟨0, _, Nat.zero_le _, rfl, rfl, HR.out, by omega, by omega, blk0 _ _, Ext.alloc _ _⟩
      case round =>
        obtain ⟨j, nn, hj, rfl, rfl, hrec, hb1, hb2, hbt, hx⟩ := hrel
        have HX := hid hx
        have HBT := hid hbt
        have HREC := hid hrec
        obtain ⟨t0, t1, t2, t3⟩ := four_of hbt
        clear hx hbt hrec
        by_cases hlt : j < ks.length
        · have hlt' : (j : Int) < ks.length := by omega
          by_cases h0 : 0 ≤ nn
          · obtain ⟨g, off, k', n', x', a', l', c', rfl, hg, h4, hrd⟩ := HK.out.kid hlt
            obtain ⟨o0, o1, o2, o3⟩ := Four.keep h4 (HX.out.kp K) hg
            have hgl := lt_of_cell o0
            have HC := hid (HIH.out _ ks[j] K wr nn (dp + 1) (hrd.later HX.out) h0 hb2 hdp2)
            rw [← HDP.out] at HC
            clear h4 hrd
            have HREC2 := hid (HREC.out.trans (lightL_step h0 (dp + 1) ks j hlt))
            go_wp2_with fail
            refine HC.out.mono ?_
            rintro e w2 ⟨m2, rfl, hm2, hb3, hb4, hy⟩
            have HM2 := hid hm2
            have HY := hid hy
            clear hy hm2 HC t0 t1 t2 t3 o0 o1 o2 o3
            go_wp2_with fail
            go_roundw
            case rel => exact ⟨j + 1, m2, hlt, by go_num, rfl, by rw [HREC2.out, HM2.out], hb3, hb4, HY.out.block HBT.out, HX.out.trans HY.out⟩
            case measure => simp [intOf]; omega
          · have HF := hid (HREC.out.trans (lightL_neg h0 _ _))
            have h0' : decide (0 ≤ nn) = false := decide_eq_false h0
            go_wp2_with fail
            go_ret
            exact ⟨nn, rfl, HF.out.symm, hb1, hb2, HX.out⟩
        · have HF := hid (HREC.out.trans (lightL_end _ _ _ _ hlt))
          have hlt' : ¬ (j : Int) < ks.length := by omega
          go_wp2_with fail
          go_ret
          exact ⟨nn, rfl, HF.out.symm, hb1, hb2, HX.out⟩
set_option maxRecDepth 100000 in
theorem Light_any {K : Nat → Prop} {d : Nat} {v : Value} {t : T} (w : World) (hr : Rd K w d v t) : Calls Tryz.prog 18 #[v] w fun e w' => e = .returned (.bool (lightB t)) ∧ Ext w w' := by
  obtain ⟨u0, u1, u2, u3, rfl⟩ := hr.agg
  obtain ⟨k, n, x, a, c, rfl, rfl, rfl, rfl⟩ := hr.shape
  have HC := hid (fun w1 (h : Ext w w1) => light_any d _ t K w1 70000 0 (hr.later h) (by decide) (by decide) (by decide))
  have HB := hid (show lightB t = decide (0 ≤ lightN 70000 0 t) from rfl)
  clear hr
  generalize (T.kids t).length = kt at *
  go_enter Tryz.func18, Tryz.ntmps18
  go_wp2_with fail
  refine (HC.out _ (Ext.alloc _ _)).mono ?_
  rintro e w2 ⟨m2, rfl, hm2, hb3, hb4, hy⟩
  have HY := hid ((Ext.alloc w _).trans hy)
  have HM2 := hid hm2
  clear hy hm2 HC
  go_wp2_with fail
  go_ret
  exact ⟨by rw [HB.out, HM2.out]; rfl, HY.out⟩
end Go.Proofs.YtaafcmmmkalgjaaGreatDoor
/-
  A list of twins that is being made; by laws.
-/
namespace Go.Proofs.YtaafcmmmkalgjaaGreatDoor
open Go.RowKit
/-- What a twin reads as: the value; of a light one, a mark stands behind each list. -/
def EL (K : Nat → Prop) (w : World) (d : Nat) (u : Value) (t : T) : Prop := Rd K w d u t ∧ (lightB t = true → MRd K w d u t)
theorem EL.keep {K : Nat → Prop} {w w' : World} {d : Nat} {u : Value} {t : T} (h : EL K w d u t) (hk : Kp K w w') : EL K w' d u t := ⟨h.1.keep hk, fun e => (h.2 e).keep hk⟩
theorem EL.mono {K L : Nat → Prop} {w : World} {d : Nat} {u : Value} {t : T} (h : EL K w d u t) (hl : ∀ k, k < w.heap.size → K k → L k) : EL L w d u t := ⟨h.1.mono hl, fun e => (h.2 e).mono hl⟩
theorem EL.later {K : Nat → Prop} {w w' : World} {d : Nat} {u : Value} {t : T} (h : EL K w d u t) (hx : Ext w w') : EL K w' d u t := h.keep (hx.kp K)
/-- A list of twins that is being made. -/
def TItems (w : World) (base d : Nat) (lv : Value) (acc : List T) : Prop := ∃ (us : List Value), w.ownsRow base 30 4 lv acc.length us ∧
  ∀ j, (h : j < acc.length) → ∃ u0 u1 u2 u3, us[j * 4]? = some u0 ∧ us[j * 4 + 1]? = some u1 ∧ us[j * 4 + 2]? = some u2 ∧ us[j * 4 + 3]? = some u3 ∧ EL (fun x => lv.ownBlock ≠ some x) w d (.agg #[u0, u1, u2, u3]) acc[j]
theorem TItems.nil {w : World} (base d : Nat) : TItems w base d (.slice none 0 0) [] := ⟨[], World.ownsRow_nil _ _ _ _, fun _ h => absurd h (Nat.not_lt_zero _)⟩
theorem TItems.keep {w w' : World} {base d : Nat} {lv : Value} {acc : List T} {K : Nat → Prop} (h : TItems w base d lv acc) (hk : Kp K w w') (hK : ∀ k, k < w.heap.size → K k) : TItems w' base d lv acc := by
  obtain ⟨us, ho, hi⟩ := h
  refine ⟨us, ⟨ho.1, ?_⟩, fun j hj => ?_⟩
  · rcases ho.2 with h | ⟨g, cap, cur, hv, hg, hb, hr⟩
    · exact .inl h
    · exact .inr ⟨g, cap, cur, hv, hg, hk.block' hb (hK g (lt_of_block hb)), hr⟩
  · obtain ⟨u0, u1, u2, u3, h0, h1, h2, h3, hr⟩ := hi j hj
    exact ⟨u0, u1, u2, u3, h0, h1, h2, h3, ((hr.mono (L := fun x => lv.ownBlock ≠ some x ∧ x < w.heap.size) (fun k hk h => ⟨h, hk⟩)).keep (hk.mono (fun k h1 h2 => hK k h2.2))).mono (fun _ _ h => h.1)⟩
theorem TItems.shape {w : World} {base d : Nat} {lv : Value} {acc : List T} (h : TItems w base d lv acc) : ∃ ao c, lv = .slice ao acc.length c := by
  obtain ⟨us, ho, _⟩ := h
  rcases ho.2 with ⟨hv, h0⟩ | ⟨g, cap, cur, hv, _⟩
  · exact ⟨none, 0, by rw [hv, h0]⟩
  · exact ⟨_, _, hv⟩
theorem TItems.own {w : World} {base d : Nat} {lv : Value} {acc : List T} (h : TItems w base d lv acc) {g : Nat} (e : lv.ownBlock = some g) : base ≤ g ∧ g < w.heap.size := by
  obtain ⟨us, ho, _⟩ := h
  exact World.ownsRow.lt ho g e
theorem run_titem {w : World} {ty : TypeId} (base d : Nat) (lv : Value) (acc : List T) (k n : Int) (x : ByteArray) (a : Option Addr) (l c : Nat) (t : T) (hB : base ≤ w.heap.size) (hit : TItems w base d lv acc) (hrd : EL (fun x => lv.ownBlock ≠ some x) w d (.agg #[.int .i64 k, .int .i64 n, .string x, .slice a l c]) t) (hlim : (acc.length + 1) * 56 ≤ 140737488351232) :
    ∃ ao c' w', (Builtin.append_ #[25, 25] 25 #[lv, .slice (some ⟨w.heap.size, 0, none⟩) 1 1]).run Tryz.prog (w.alloc (.cells #[.int .i64 k, .int .i64 n, .string x, .slice a l c] ty)) = .ok (.slice ao (acc ++ [t]).length c') w' ∧ TItems w' base d (.slice ao (acc ++ [t]).length c') (acc ++ [t]) ∧ Below base w w' := by
  have hit0 := hit
  obtain ⟨us, ho, hi⟩ := hit
  obtain ⟨ii, hii, hz0, hz1, hz2⟩ := info_parts plainInfo
  have hrow : (w.alloc (.cells #[.int .i64 k, .int .i64 n, .string x, .slice a l c] ty)).ownsRow base 30 4 lv acc.length us := World.ownsRow.alloc ho _
  have hnews : ∀ (j : Nat) (u : Value), [Value.int .i64 k, .int .i64 n, .string x, .slice a l c][j]? = some u → (w.alloc (.cells #[.int .i64 k, .int .i64 n, .string x, .slice a l c] ty)).cell? (Addr.add ⟨w.heap.size, 0, none⟩ j) = some u := by
    intro j u hu
    have e : Addr.add ⟨w.heap.size, 0, none⟩ j = ⟨w.heap.size, j, none⟩ := by
      by_cases hj : j = 0
      · subst hj; simp [Addr.add]
      · simp [Addr.add, hj]
    rw [e]
    exact cell_of (blk0 w _) (by simpa using hu)
  obtain ⟨v', w', hr, ho2, hg, _, hat⟩ := run_append_own_at (P := Tryz.prog) (w.alloc (.cells #[.int .i64 k, .int .i64 n, .string x, .slice a l c] ty)) base 25 25 30 ii _ 4 56 Tryz.underlying25 hii hz0 hz1 hz2 rfl (by decide) lv acc.length us hrow ⟨w.heap.size, 0, none⟩ 1 1 [.int .i64 k, .int .i64 n, .string x, .slice a l c] rfl hnews (fun u hu => by simp at hu; rcases hu with rfl | rfl | rfl | rfl <;> rfl) (by unfold maxLen; omega) (by omega) (by rw [blkS]; omega)
  have hkp := grown_kp hg
  have hsz : w.heap.size + 1 ≤ w'.heap.size := by have := hg.size; rw [blkS] at this; exact this
  have hold : ∀ (x : Nat), x < w.heap.size → lv.ownBlock ≠ some x → v'.ownBlock ≠ some x := fun x hx hne => by
    rcases hat with e | e
    · rw [e]; exact hne
    · rw [e, blkS]; intro h; injection h with h; omega
  have hul : us.length = acc.length * 4 := ho.1
  have hmv : ∀ u t, EL (fun x => lv.ownBlock ≠ some x) w d u t → EL (fun x => v'.ownBlock ≠ some x) w' d u t := fun u t h =>
    (((h.mono (L := fun x => lv.ownBlock ≠ some x ∧ x < w.heap.size) (fun k hk h => ⟨h, hk⟩)).later (Ext.alloc _ _)).keep (hkp.mono (fun k _ hk => hk.1))).mono (fun q _ hq => hold q hq.2 hq.1)
  have hI : TItems w' base d v' (acc ++ [t]) := by
    refine ⟨us ++ [.int .i64 k, .int .i64 n, .string x, .slice a l c], by rw [List.length_append]; exact ho2, fun j hj => ?_⟩
    by_cases hj' : j < acc.length
    · obtain ⟨u0, u1, u2, u3, h0, h1, h2, h3, hr3⟩ := hi j hj'
      refine ⟨u0, u1, u2, u3, by rw [List.getElem?_append_left (by omega)]; exact h0, by rw [List.getElem?_append_left (by omega)]; exact h1, by rw [List.getElem?_append_left (by omega)]; exact h2, by rw [List.getElem?_append_left (by omega)]; exact h3, ?_⟩
      rw [List.getElem_append_left hj']
      exact hmv _ _ hr3
    · have hje : j = acc.length := by simp at hj; omega
      subst hje
      refine ⟨.int .i64 k, .int .i64 n, .string x, .slice a l c, by rw [← hul]; simp, by rw [← hul]; simp, by rw [← hul]; simp, by rw [← hul]; simp, ?_⟩
      simp only [List.getElem_append_right (Nat.le_refl _), Nat.sub_self, List.getElem_cons_zero]
      exact hmv _ _ hrd
  obtain ⟨ao, c', rfl⟩ := hI.shape
  exact ⟨ao, c', w', hr, hI, Below.grown ((Below.refl base w).alloc hB _) hg (by rw [blkS]; omega) (fun k hk => (World.ownsRow.lt ho k hk).1)⟩
theorem app_titem {ops : Array Oper} {rest : List Oper} {o : Oper} {ac : Act} {Q : Exit → Act → World → Prop} {w : World} {ty : TypeId} (hgd : o.guard = none) (s y : Operand)
    (ho : o.op = .call { callee := .builtin .append, args := #[s, y], argTypes := #[25, 25] }) (hty : o.type = 25) (base d : Nat) (lv : Value) (acc : List T) (k n : Int) (x : ByteArray) (a : Option Addr) (l c : Nat) (t : T) (hs : ac.eval s = lv) (hx : ac.eval y = .slice (some ⟨w.heap.size, 0, none⟩) 1 1)
    (hB : base ≤ w.heap.size) (hit : TItems w base d lv acc) (hrd : EL (fun x => lv.ownBlock ≠ some x) w d (.agg #[.int .i64 k, .int .i64 n, .string x, .slice a l c]) t) (hlim : (acc.length + 1) * 56 ≤ 140737488351232)
    (h : ∀ ao c' w', TItems w' base d (.slice ao (acc.length + 1) c') (acc ++ [t]) → Below base w w' → wpList Tryz.prog ops Q rest (ac.put o.dst (.slice ao (acc.length + 1) c')) w') : wpList Tryz.prog ops Q (o :: rest) ac (w.alloc (.cells #[.int .i64 k, .int .i64 n, .string x, .slice a l c] ty)) := by
  refine wpList_plain hgd fun K hK => ?_
  obtain ⟨ao, c', w', hr, h2, h3⟩ := run_titem (ty := ty) base d lv acc k n x a l c t hB hit hrd hlim
  unfold Oper.wp execOp
  rw [List.length_append] at hr h2
  simp only [ho, hty, resolve, invoke, builtin, Sem.run_bind, Sem.run_pure, Result.andThen_ok, List.map_toArray, List.map_cons, List.map_nil, hs, hx, hr]
  exact hK _ _ (h ao c' w' h2 h3)
theorem TItems.at {w : World} {base d m c : Nat} {ao : Option Addr} {acc : List T} (h : TItems w base d (.slice ao m c) acc) (j : Nat) (hj : j < acc.length) : ∃ g u0 u1 u2 u3, ao = some ⟨g, 0, none⟩ ∧ Four w g (j * 4) u0 u1 u2 u3 ∧ EL (fun _ => True) w d (.agg #[u0, u1, u2, u3]) acc[j] := by
  obtain ⟨us, ho, hi⟩ := h
  rcases ho.2 with ⟨hv, h1⟩ | ⟨g, cap, cur, hv, hbg, hbk, h3, h4, h5, h6⟩
  · omega
  · injection hv with e1 e2 e3
    subst e1; subst e2; subst e3
    obtain ⟨u0, u1, u2, u3, q0, q1, q2, q3, hr⟩ := hi j hj
    have key : ∀ i u, i < acc.length * 4 → us[i]? = some u → w.cell? ⟨g, i, none⟩ = some u := fun i u hi hu => by
      rw [← h6, List.getElem?_take_of_lt hi] at hu
      exact cell_of hbk (by simpa using hu)
    exact ⟨g, u0, u1, u2, u3, rfl, ⟨key _ _ (by omega) q0, key _ _ (by omega) q1, key _ _ (by omega) q2, key _ _ (by omega) q3⟩, hr.mono (fun _ _ _ => trivial)⟩
end Go.Proofs.YtaafcmmmkalgjaaGreatDoor
