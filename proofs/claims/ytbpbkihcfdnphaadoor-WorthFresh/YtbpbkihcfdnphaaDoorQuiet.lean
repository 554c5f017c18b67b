/-
  Two slices that are being made: values that were answered, and plain values; what lies elsewhere is kept.
-/
import Derived.Test.YtbpbkihcfdnphaaDoorPItems
namespace Go.Proofs.YtbpbkihcfdnphaaDoor
open Go.RowKit
/-- The slice qv holds values as acc tells; its row lies in a block of O, what is read lies in blocks of R. -/
def VQ (w : World) (base : Nat) (O R : Nat → Prop) (qv : Value) (acc : List T) : Prop := ∃ us : List Value, w.ownsRow base 30 1 qv acc.length us ∧ (∀ q, qv.ownBlock = some q → O q) ∧
  ∀ j, (h : j < acc.length) → ∃ u d, us[j]? = some u ∧ VRd R w d u acc[j]
/-- The slice wv holds plain values as acc tells; its row lies in a block of O, what is read lies in blocks of R. -/
def PQ (w : World) (base : Nat) (O R : Nat → Prop) (wv : Value) (acc : List T) : Prop := ∃ us : List Value, w.ownsRow base 24 4 wv acc.length us ∧ (∀ q, wv.ownBlock = some q → O q) ∧
  ∀ j, (h : j < acc.length) → ∃ u0 u1 u2 u3 d, us[j * 4]? = some u0 ∧ us[j * 4 + 1]? = some u1 ∧ us[j * 4 + 2]? = some u2 ∧ us[j * 4 + 3]? = some u3 ∧ Rd R w d (.agg #[u0, u1, u2, u3]) acc[j]
theorem VQ.nil {w : World} (base : Nat) (O R : Nat → Prop) : VQ w base O R (.slice none 0 0) [] :=
  ⟨[], World.ownsRow_nil _ _ _ _, fun q h => by simp [Value.ownBlock] at h, fun j h => absurd h (Nat.not_lt_zero _)⟩
theorem PQ.nil {w : World} (base : Nat) (O R : Nat → Prop) : PQ w base O R (.slice none 0 0) [] :=
  ⟨[], World.ownsRow_nil _ _ _ _, fun q h => by simp [Value.ownBlock] at h, fun j h => absurd h (Nat.not_lt_zero _)⟩
theorem VQ.shape {w : World} {base : Nat} {O R : Nat → Prop} {qv : Value} {acc : List T} (h : VQ w base O R qv acc) : ∃ ao c, qv = .slice ao acc.length c := by
  obtain ⟨us, ho, _⟩ := h
  rcases ho.2 with ⟨hv, h0⟩ | ⟨g, cap, cur, hv, _⟩
  · exact ⟨none, 0, by rw [hv, h0]⟩
  · exact ⟨_, _, hv⟩
theorem PQ.shape {w : World} {base : Nat} {O R : Nat → Prop} {qv : Value} {acc : List T} (h : PQ w base O R qv acc) : ∃ ao c, qv = .slice ao acc.length c := by
  obtain ⟨us, ho, _⟩ := h
  rcases ho.2 with ⟨hv, h0⟩ | ⟨g, cap, cur, hv, _⟩
  · exact ⟨none, 0, by rw [hv, h0]⟩
  · exact ⟨_, _, hv⟩
theorem VQ.own {w : World} {base : Nat} {O R : Nat → Prop} {qv : Value} {acc : List T} (h : VQ w base O R qv acc) {q : Nat} (hq : qv.ownBlock = some q) : base ≤ q ∧ O q ∧ ∃ cur, w.heap[q]? = some (.cells cur 30) := by
  obtain ⟨us, ho, hO, _⟩ := h
  refine ⟨(World.ownsRow.lt ho q hq).1, hO q hq, ?_⟩
  rcases ho.2 with ⟨hv, _⟩ | ⟨g, cap, cur, hv, _, hb, _⟩
  · rw [hv] at hq; simp [Value.ownBlock] at hq
  · rw [hv] at hq; simp [Value.ownBlock] at hq; subst hq; exact ⟨cur, hb⟩
theorem PQ.own {w : World} {base : Nat} {O R : Nat → Prop} {qv : Value} {acc : List T} (h : PQ w base O R qv acc) {q : Nat} (hq : qv.ownBlock = some q) : base ≤ q ∧ O q ∧ ∃ cur, w.heap[q]? = some (.cells cur 24) := by
  obtain ⟨us, ho, hO, _⟩ := h
  refine ⟨(World.ownsRow.lt ho q hq).1, hO q hq, ?_⟩
  rcases ho.2 with ⟨hv, _⟩ | ⟨g, cap, cur, hv, _, hb, _⟩
  · rw [hv] at hq; simp [Value.ownBlock] at hq
  · rw [hv] at hq; simp [Value.ownBlock] at hq; subst hq; exact ⟨cur, hb⟩
theorem VQ.keep' {w w' : World} {base : Nat} {O R L : Nat → Prop} {qv : Value} {acc : List T} (h : VQ w base O R qv acc) (hk : Kp L w w') (hO : ∀ q, qv.ownBlock = some q → L q) (hR : ∀ q, q < w.heap.size → R q → L q) : VQ w' base O R qv acc := by
  obtain ⟨us, ho, hq, hi⟩ := h
  refine ⟨us, ⟨ho.1, ?_⟩, hq, fun j hj => ?_⟩
  · rcases ho.2 with h | ⟨g, cap, cur, hv, hg, hb, hr⟩
    · exact .inl h
    · exact .inr ⟨g, cap, cur, hv, hg, hk.block' hb (hO g (by rw [hv]; rfl)), hr⟩
  · obtain ⟨u, d, h1, h2⟩ := hi j hj
    exact ⟨u, d, h1, h2.keep (hk.mono hR)⟩
theorem PQ.keep' {w w' : World} {base : Nat} {O R L : Nat → Prop} {qv : Value} {acc : List T} (h : PQ w base O R qv acc) (hk : Kp L w w') (hO : ∀ q, qv.ownBlock = some q → L q) (hR : ∀ q, q < w.heap.size → R q → L q) : PQ w' base O R qv acc := by
  obtain ⟨us, ho, hq, hi⟩ := h
  refine ⟨us, ⟨ho.1, ?_⟩, hq, fun j hj => ?_⟩
  · rcases ho.2 with h | ⟨g, cap, cur, hv, hg, hb, hr⟩
    · exact .inl h
    · exact .inr ⟨g, cap, cur, hv, hg, hk.block' hb (hO g (by rw [hv]; rfl)), hr⟩
  · obtain ⟨u0, u1, u2, u3, d, h0, h1, h2, h3, hr⟩ := hi j hj
    exact ⟨u0, u1, u2, u3, d, h0, h1, h2, h3, hr.keep (hk.mono hR)⟩
theorem VQ.mono {w : World} {base : Nat} {O R O' R' : Nat → Prop} {qv : Value} {acc : List T} (h : VQ w base O R qv acc) (hO : ∀ q, q < w.heap.size → O q → O' q) (hR : ∀ q, q < w.heap.size → R q → R' q) : VQ w base O' R' qv acc := by
  have hlt : ∀ q, qv.ownBlock = some q → q < w.heap.size := fun q hq => by obtain ⟨_, _, cur, hc⟩ := h.own hq; exact lt_of_block hc
  obtain ⟨us, ho, hq, hi⟩ := h
  refine ⟨us, ho, fun q hqq => hO q (hlt q hqq) (hq q hqq), fun j hj => ?_⟩
  obtain ⟨u, d, h1, h2⟩ := hi j hj
  exact ⟨u, d, h1, h2.mono hR⟩
theorem PQ.mono {w : World} {base : Nat} {O R O' R' : Nat → Prop} {qv : Value} {acc : List T} (h : PQ w base O R qv acc) (hO : ∀ q, q < w.heap.size → O q → O' q) (hR : ∀ q, q < w.heap.size → R q → R' q) : PQ w base O' R' qv acc := by
  have hlt : ∀ q, qv.ownBlock = some q → q < w.heap.size := fun q hq => by obtain ⟨_, _, cur, hc⟩ := h.own hq; exact lt_of_block hc
  obtain ⟨us, ho, hq, hi⟩ := h
  refine ⟨us, ho, fun q hqq => hO q (hlt q hqq) (hq q hqq), fun j hj => ?_⟩
  obtain ⟨u0, u1, u2, u3, d, h0, h1, h2, h3, hr⟩ := hi j hj
  exact ⟨u0, u1, u2, u3, d, h0, h1, h2, h3, hr.mono hR⟩
theorem VQ.later {w w' : World} {base : Nat} {O R : Nat → Prop} {qv : Value} {acc : List T} (h : VQ w base O R qv acc) (hx : Ext w w') : VQ w' base O R qv acc := h.keep' (hx.kp (fun _ => True)) (fun _ _ => trivial) (fun _ _ _ => trivial)
theorem PQ.later {w w' : World} {base : Nat} {O R : Nat → Prop} {qv : Value} {acc : List T} (h : PQ w base O R qv acc) (hx : Ext w w') : PQ w' base O R qv acc := h.keep' (hx.kp (fun _ => True)) (fun _ _ => trivial) (fun _ _ _ => trivial)
theorem VQ.at {w : World} {base : Nat} {O R : Nat → Prop} {ao : Option Addr} {m c : Nat} {acc : List T} (h : VQ w base O R (.slice ao m c) acc) {j : Nat} (hj : j < acc.length) : ∃ g τ p d, ao = some ⟨g, 0, none⟩ ∧ w.cell? ⟨g, j, none⟩ = some (.iface τ p) ∧ VRd R w d (.iface τ p) acc[j] := by
  obtain ⟨us, ho, _, hi⟩ := h
  obtain ⟨u, d, h1, h2⟩ := hi j hj
  obtain ⟨τ, p, rfl⟩ := h2.iface
  rcases ho.2 with ⟨_, h0⟩ | ⟨g, cap, cur, e0, hb, hc, h4, h5, h6, h7⟩
  · omega
  · cases e0
    rw [← h7, List.getElem?_take_of_lt (by omega)] at h1
    exact ⟨g, τ, p, d, rfl, cell_of hc (by simpa using h1), h2⟩
theorem PQ.at {w : World} {base : Nat} {O R : Nat → Prop} {ao : Option Addr} {m c : Nat} {acc : List T} (h : PQ w base O R (.slice ao m c) acc) {j : Nat} (hj : j < acc.length) : ∃ g k n x a l c' d, ao = some ⟨g, 0, none⟩ ∧ Four w g (j * 4) (.int .i64 k) (.int .i64 n) (.string x) (.slice a l c') ∧ Rd R w d (.agg #[.int .i64 k, .int .i64 n, .string x, .slice a l c']) acc[j] := by
  obtain ⟨us, ho, _, hi⟩ := h
  obtain ⟨u0, u1, u2, u3, d, q0, q1, q2, q3, hr⟩ := hi j hj
  obtain ⟨k, n, x, a, c', rfl, rfl, rfl, rfl⟩ := hr.shape
  rcases ho.2 with ⟨_, h0⟩ | ⟨g, cap, cur, e0, hb, hc, h4, h5, h6, h7⟩
  · omega
  · cases e0
    have key : ∀ i u, i < acc.length * 4 → us[i]? = some u → w.cell? ⟨g, i, none⟩ = some u := fun i u hi hu => by
      rw [← h7, List.getElem?_take_of_lt hi] at hu
      exact cell_of hc (by simpa using hu)
    exact ⟨g, k, n, x, a, _, c', d, rfl, ⟨key _ _ (by omega) q0, key _ _ (by omega) q1, key _ _ (by omega) q2, key _ _ (by omega) q3⟩, hr⟩
/-- What an append onto one of the two leaves of the other one's rows and of what is read. -/
theorem rows_ne {w : World} {base base' : Nat} {O R O' R' : Nat → Prop} {qv wv : Value} {acc acc' : List T} (h : VQ w base O R qv acc) (h' : PQ w base' O' R' wv acc') {q : Nat} (hq : qv.ownBlock = some q) : wv.ownBlock ≠ some q := fun e => by
  obtain ⟨_, _, cur, hc⟩ := h.own hq
  obtain ⟨_, _, cur', hc'⟩ := h'.own e
  rw [hc] at hc'
  injection hc' with hc'
  injection hc' with _ e2
  exact absurd e2 (by decide)
theorem run_vq {w : World} {ty : TypeId} (base : Nat) (O R : Nat → Prop) (qv wv : Value) (acc acc' : List T) (τ : TypeId) (p : Value) (t : T) (d : Nat) (hB : base ≤ w.heap.size) (hq : VQ w base O R qv acc) (hw : PQ w base O R wv acc') (hrd : VRd R w d (.iface τ p) t)
    (hOR : ∀ q, O q → ¬ R q) (hnew : ∀ q, w.heap.size ≤ q → O q) (hlim : acc.length ≤ 2000000) :
    ∃ ao c w', (Builtin.append_ #[49, 49] 49 #[qv, .slice (some ⟨w.heap.size, 0, none⟩) 1 1]).run Tryd.prog (w.alloc (.cells #[.iface τ p] ty)) = .ok (.slice ao (acc ++ [t]).length c) w' ∧ VQ w' base O R (.slice ao (acc ++ [t]).length c) (acc ++ [t]) ∧ PQ w' base O R wv acc' ∧ Kp (fun q => ¬ O q) w w' := by
  have hne := fun q (e : qv.ownBlock = some q) => rows_ne hq hw e
  obtain ⟨us, ho, hO, hi⟩ := hq
  obtain ⟨ii, hii, hz0, hz1, hz2⟩ := info_parts valueInfo
  have hrow : (w.alloc (.cells #[.iface τ p] ty)).ownsRow base 30 1 qv acc.length us := World.ownsRow.alloc ho _
  obtain ⟨v', w', hr, ho2, hg, _, hat⟩ := run_append_own_at (P := Tryd.prog) (w.alloc (.cells #[.iface τ p] ty)) base 49 49 30 ii .nilIface 1 16 Tryd.underlying49 hii hz0 hz1 hz2 rfl (by decide) qv acc.length us hrow ⟨w.heap.size, 0, none⟩ 1 1 [.iface τ p] rfl (cell_one_new _ _ _) (fun u hu => by simp at hu; subst hu; rfl) (by unfold maxLen; omega) (by omega) (by rw [blkS]; omega)
  have hkp : Kp (fun k => qv.ownBlock ≠ some k) w w' := ((Ext.alloc w _).kp _).trans (grown_kp hg)
  have hRk : ∀ q, R q → qv.ownBlock ≠ some q := fun q hR e => hOR q (hO q e) hR
  have hI : VQ w' base O R v' (acc ++ [t]) := by
    refine ⟨us ++ [.iface τ p], by rw [List.length_append]; exact ho2, fun q hq => ?_, fun j hj => ?_⟩
    · rcases hat with e | e
      · rw [e] at hq; exact hO q hq
      · rw [e, blkS] at hq; injection hq with hq; exact hnew q (by omega)
    · have hul : us.length = acc.length := by have := ho.1; omega
      by_cases hj' : j < acc.length
      · obtain ⟨u, d', h1, h3⟩ := hi j hj'
        refine ⟨u, d', by rw [List.getElem?_append_left (by omega)]; exact h1, ?_⟩
        rw [List.getElem_append_left hj']
        exact h3.keep (hkp.mono (fun k _ hk => hRk k hk))
      · have hje : j = acc.length := by simp at hj; omega
        subst hje
        refine ⟨.iface τ p, d, by rw [← hul]; simp, ?_⟩
        simp only [List.getElem_append_right (Nat.le_refl _), Nat.sub_self, List.getElem_cons_zero]
        exact hrd.keep (hkp.mono (fun k _ hk => hRk k hk))
  obtain ⟨ao, c, rfl⟩ := hI.shape
  exact ⟨ao, c, w', hr, hI, hw.keep' hkp (fun q e e' => hne q e' e) (fun q _ hq => hRk q hq), hkp.mono (fun q _ hq e => hq (hO q e))⟩
theorem run_pq {w : World} {ty : TypeId} (base : Nat) (O R : Nat → Prop) (qv wv : Value) (acc acc' : List T) (k n : Int) (x : ByteArray) (a : Option Addr) (l c : Nat) (t : T) (d : Nat) (hB : base ≤ w.heap.size) (hq : VQ w base O R qv acc) (hw : PQ w base O R wv acc') (hrd : Rd R w d (.agg #[.int .i64 k, .int .i64 n, .string x, .slice a l c]) t)
    (hOR : ∀ q, O q → ¬ R q) (hnew : ∀ q, w.heap.size ≤ q → O q) (hlim : acc'.length ≤ 2000000) :
    ∃ ao c' w', (Builtin.append_ #[22, 22] 22 #[wv, .slice (some ⟨w.heap.size, 0, none⟩) 1 1]).run Tryd.prog (w.alloc (.cells #[.int .i64 k, .int .i64 n, .string x, .slice a l c] ty)) = .ok (.slice ao (acc' ++ [t]).length c') w' ∧ PQ w' base O R (.slice ao (acc' ++ [t]).length c') (acc' ++ [t]) ∧ VQ w' base O R qv acc ∧ Kp (fun q => ¬ O q) w w' := by
  have hne := fun q (e : qv.ownBlock = some q) => rows_ne hq hw e
  obtain ⟨us, ho, hO, hi⟩ := hw
  obtain ⟨ii, hii, hz0, hz1, hz2⟩ := info_parts plainInfo
  have hrow : (w.alloc (.cells #[.int .i64 k, .int .i64 n, .string x, .slice a l c] ty)).ownsRow base 24 4 wv acc'.length us := World.ownsRow.alloc ho _
  have hnews : ∀ (j : Nat) (u : Value), [Value.int .i64 k, .int .i64 n, .string x, .slice a l c][j]? = some u → (w.alloc (.cells #[.int .i64 k, .int .i64 n, .string x, .slice a l c] ty)).cell? (Addr.add ⟨w.heap.size, 0, none⟩ j) = some u := by
    intro j u hu
    have e : Addr.add ⟨w.heap.size, 0, none⟩ j = ⟨w.heap.size, j, none⟩ := by
      by_cases hj : j = 0
      · subst hj; simp [Addr.add]
      · simp [Addr.add, hj]
    rw [e]
    exact cell_of (blk0 w _) (by simpa using hu)
  obtain ⟨v', w', hr, ho2, hg, _, hat⟩ := run_append_own_at (P := Tryd.prog) (w.alloc (.cells #[.int .i64 k, .int .i64 n, .string x, .slice a l c] ty)) base 22 22 24 ii _ 4 56 Tryd.underlying22 hii hz0 hz1 hz2 rfl (by decide) wv acc'.length us hrow ⟨w.heap.size, 0, none⟩ 1 1 [.int .i64 k, .int .i64 n, .string x, .slice a l c] rfl hnews (fun u hu => by simp at hu; rcases hu with rfl | rfl | rfl | rfl <;> rfl) (by unfold maxLen; omega) (by omega) (by rw [blkS]; omega)
  have hkp : Kp (fun k => wv.ownBlock ≠ some k) w w' := ((Ext.alloc w _).kp _).trans (grown_kp hg)
  have hRk : ∀ q, R q → wv.ownBlock ≠ some q := fun q hR e => hOR q (hO q e) hR
  have hI : PQ w' base O R v' (acc' ++ [t]) := by
    refine ⟨us ++ [.int .i64 k, .int .i64 n, .string x, .slice a l c], by rw [List.length_append]; exact ho2, fun q hq => ?_, fun j hj => ?_⟩
    · rcases hat with e | e
      · rw [e] at hq; exact hO q hq
      · rw [e, blkS] at hq; injection hq with hq; exact hnew q (by omega)
    · have hul : us.length = acc'.length * 4 := ho.1
      by_cases hj' : j < acc'.length
      · obtain ⟨u0, u1, u2, u3, d', h0, h1, h2, h3, hr3⟩ := hi j hj'
        refine ⟨u0, u1, u2, u3, d', by rw [List.getElem?_append_left (by omega)]; exact h0, by rw [List.getElem?_append_left (by omega)]; exact h1, by rw [List.getElem?_append_left (by omega)]; exact h2, by rw [List.getElem?_append_left (by omega)]; exact h3, ?_⟩
        rw [List.getElem_append_left hj']
        exact hr3.keep (hkp.mono (fun k _ hk => hRk k hk))
      · have hje : j = acc'.length := by simp at hj; omega
        subst hje
        refine ⟨.int .i64 k, .int .i64 n, .string x, .slice a l c, d, by rw [← hul]; simp, by rw [← hul]; simp, by rw [← hul]; simp, by rw [← hul]; simp, ?_⟩
        simp only [List.getElem_append_right (Nat.le_refl _), Nat.sub_self, List.getElem_cons_zero]
        exact hrd.keep (hkp.mono (fun k _ hk => hRk k hk))
  obtain ⟨ao, c', rfl⟩ := hI.shape
  exact ⟨ao, c', w', hr, hI, hq.keep' hkp (fun q e e' => hne q e e') (fun q _ hq => hRk q hq), hkp.mono (fun q _ hq e => hq (hO q e))⟩
theorem app_vq {ops : Array Oper} {rest : List Oper} {o : Oper} {a : Act} {Q : Exit → Act → World → Prop} {w : World} {ty : TypeId} (hgd : o.guard = none) (s x : Operand)
    (ho : o.op = .call { callee := .builtin .append, args := #[s, x], argTypes := #[49, 49] }) (hty : o.type = 49) (base : Nat) (O R : Nat → Prop) (qv wv : Value) (acc acc' : List T) (τ : TypeId) (p : Value) (t : T) (d : Nat) (hs : a.eval s = qv) (hx : a.eval x = .slice (some ⟨w.heap.size, 0, none⟩) 1 1)
    (hB : base ≤ w.heap.size) (hq : VQ w base O R qv acc) (hw : PQ w base O R wv acc') (hrd : VRd R w d (.iface τ p) t) (hOR : ∀ q, O q → ¬ R q) (hnew : ∀ q, w.heap.size ≤ q → O q) (hlim : acc.length ≤ 2000000)
    (h : ∀ ao c w', VQ w' base O R (.slice ao (acc.length + 1) c) (acc ++ [t]) → PQ w' base O R wv acc' → Kp (fun q => ¬ O q) w w' → wpList Tryd.prog ops Q rest (a.put o.dst (.slice ao (acc.length + 1) c)) w') : wpList Tryd.prog ops Q (o :: rest) a (w.alloc (.cells #[.iface τ p] ty)) := by
  refine wpList_plain hgd fun K hK => ?_
  obtain ⟨ao, c, w', hr, h2, h3, h4⟩ := run_vq (ty := ty) base O R qv wv acc acc' τ p t d hB hq hw hrd hOR hnew hlim
  unfold Oper.wp execOp
  rw [List.length_append] at hr h2
  simp only [ho, hty, resolve, invoke, builtin, Sem.run_bind, Sem.run_pure, Result.andThen_ok, List.map_toArray, List.map_cons, List.map_nil, hs, hx, hr]
  exact hK _ _ (h ao c w' h2 h3 h4)
theorem app_pq {ops : Array Oper} {rest : List Oper} {o : Oper} {ac : Act} {Q : Exit → Act → World → Prop} {w : World} {ty : TypeId} (hgd : o.guard = none) (s y : Operand)
    (ho : o.op = .call { callee := .builtin .append, args := #[s, y], argTypes := #[22, 22] }) (hty : o.type = 22) (base : Nat) (O R : Nat → Prop) (qv wv : Value) (acc acc' : List T) (k n : Int) (x : ByteArray) (a : Option Addr) (l c : Nat) (t : T) (d : Nat) (hs : ac.eval s = wv) (hx : ac.eval y = .slice (some ⟨w.heap.size, 0, none⟩) 1 1)
    (hB : base ≤ w.heap.size) (hq : VQ w base O R qv acc) (hw : PQ w base O R wv acc') (hrd : Rd R w d (.agg #[.int .i64 k, .int .i64 n, .string x, .slice a l c]) t) (hOR : ∀ q, O q → ¬ R q) (hnew : ∀ q, w.heap.size ≤ q → O q) (hlim : acc'.length ≤ 2000000)
    (h : ∀ ao c' w', PQ w' base O R (.slice ao (acc'.length + 1) c') (acc' ++ [t]) → VQ w' base O R qv acc → Kp (fun q => ¬ O q) w w' → wpList Tryd.prog ops Q rest (ac.put o.dst (.slice ao (acc'.length + 1) c')) w') : wpList Tryd.prog ops Q (o :: rest) ac (w.alloc (.cells #[.int .i64 k, .int .i64 n, .string x, .slice a l c] ty)) := by
  refine wpList_plain hgd fun K hK => ?_
  obtain ⟨ao, c', w', hr, h2, h3, h4⟩ := run_pq (ty := ty) base O R qv wv acc acc' k n x a l c t d hB hq hw hrd hOR hnew hlim
  unfold Oper.wp execOp
  rw [List.length_append] at hr h2
  simp only [ho, hty, resolve, invoke, builtin, Sem.run_bind, Sem.run_pure, Result.andThen_ok, List.map_toArray, List.map_cons, List.map_nil, hs, hx, hr]
  exact hK _ _ (h ao c' w' h2 h3 h4)
end Go.Proofs.YtbpbkihcfdnphaaDoor
