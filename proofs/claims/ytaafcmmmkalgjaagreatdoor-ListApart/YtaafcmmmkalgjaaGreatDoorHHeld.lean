/-
  The statements' own book of list (Take), by a contract: each list of a value in memory of its own is written over with a mark of its own.
-/
import Derived.Test.YtaafcmmmkalgjaaGreatDoorVLists
import Derived.Test.YtaafcmmmkalgjaaGreatDoorLBoth
namespace Go.Proofs.YtaafcmmmkalgjaaGreatDoor
open Go.RowKit
/-- A list that is held: its block, if it has one, its length, its room. -/
abbrev LE := Option Nat × Nat × Nat
def sE (r : LE) : Value := .slice (r.1.map fun g => (⟨g, 0, none⟩ : Addr)) r.2.1 r.2.2
def mkI (i : Nat) : Int := -1000001 - (i : Int)
/-- The list is full of the i-th mark. -/
def FullE (w : World) (base : Nat) (r : LE) (i : Nat) : Prop := match r.1 with
  | none => r.2 = (0, 0)
  | some g => base ≤ g ∧ r.2.1 ≤ r.2.2 ∧ r.2.1 ≤ 65536 ∧ ∃ cs, w.heap[g]? = some (.cells cs 35) ∧ cs.size = r.2.2 ∧ ∀ k, k < r.2.2 → k < r.2.1 + 2000 → cs[k]? = some (.iface 83 (.int .i64 (mkI i)))
/-- The blocks of the lists. -/
def blE (rs : List LE) : List Nat := rs.filterMap (·.1)
structure LB (w : World) (b base : Nat) (lv : Value) (rs : List LE) : Prop where
  box : w.heap[b]? = some (.cells #[lv] 45)
  ble : base ≤ b
  row : w.ownsRow base 81 1 lv rs.length (rs.map sE)
  full : ∀ i, (h : i < rs.length) → FullE w base rs[i] i
  nd : (blE rs).Nodup
/-- The book's blocks. -/
def LBk (b : Nat) (lv : Value) (rs : List LE) (q : Nat) : Prop := q = b ∨ lv.ownBlock = some q ∨ q ∈ blE rs
theorem blE_mem {rs : List LE} {q : Nat} : q ∈ blE rs ↔ ∃ i, ∃ (h : i < rs.length), rs[i].1 = some q := by
  unfold blE
  rw [List.mem_filterMap]
  constructor
  · rintro ⟨r, hr, e⟩
    obtain ⟨i, hi, rfl⟩ := List.getElem_of_mem hr
    exact ⟨i, hi, e⟩
  · rintro ⟨i, hi, e⟩
    exact ⟨rs[i], List.getElem_mem hi, e⟩
theorem blE_append (rs ns : List LE) : blE (rs ++ ns) = blE rs ++ blE ns := List.filterMap_append
theorem FullE.keep {K : Nat → Prop} {w w' : World} {base : Nat} {r : LE} {i : Nat} (h : FullE w base r i) (hk : Kp K w w') (hr : ∀ q, r.1 = some q → K q) : FullE w' base r i := by
  obtain ⟨o, m, c⟩ := r
  cases o with
  | none => exact h
  | some g =>
    obtain ⟨h1, h2, h3, cs, h4, h5, h6⟩ := h
    exact ⟨h1, h2, h3, cs, hk.block' h4 (hr g rfl), h5, h6⟩
theorem LB.keep {K : Nat → Prop} {w w' : World} {b base : Nat} {lv : Value} {rs : List LE} (h : LB w b base lv rs) (hk : Kp K w w') (hK : ∀ q, LBk b lv rs q → K q) : LB w' b base lv rs where
  box := hk.block' h.box (hK b (.inl rfl))
  ble := h.ble
  row := ownsRow_keep h.row hk (fun q hq => hK q (.inr (.inl hq)))
  full := fun i hi => (h.full i hi).keep hk (fun q hq => hK q (.inr (.inr (blE_mem.2 ⟨i, hi, hq⟩))))
  nd := h.nd
theorem LB.later {w w' : World} {b base : Nat} {lv : Value} {rs : List LE} (h : LB w b base lv rs) (hx : Ext w w') : LB w' b base lv rs := h.keep (hx.kp (fun _ => True)) (fun _ _ => trivial)
theorem LB.ty {w : World} {b base : Nat} {lv : Value} {rs : List LE} (h : LB w b base lv rs) {q : Nat} (hq : q ∈ blE rs) : base ≤ q ∧ ∃ cs, w.heap[q]? = some (.cells cs 35) := by
  obtain ⟨i, hi, e⟩ := blE_mem.1 hq
  have hf := h.full i hi
  generalize rs[i] = r at hf e
  obtain ⟨o, m, c⟩ := r
  obtain rfl : o = some q := e
  obtain ⟨h1, _, _, cs, h4, _⟩ := hf
  exact ⟨h1, cs, h4⟩
theorem LB.low {w : World} {b base : Nat} {lv : Value} {rs : List LE} (h : LB w b base lv rs) {q : Nat} (hq : LBk b lv rs q) : base ≤ q ∧ q < w.heap.size := by
  rcases hq with rfl | hq | hq
  · exact ⟨h.ble, lt_of_block h.box⟩
  · obtain ⟨h1, cur, h2⟩ := ownsRow_block h.row hq
    exact ⟨h1, lt_of_block h2⟩
  · obtain ⟨h1, cs, h2⟩ := h.ty hq
    exact ⟨h1, lt_of_block h2⟩
theorem ty_ne {w : World} {p q : Nat} {c c' : Array Value} {t t' : TypeId} (h1 : w.heap[p]? = some (.cells c t)) (h2 : w.heap[q]? = some (.cells c' t')) (hne : t ≠ t') : p ≠ q := fun e => by
  subst e
  rw [h1] at h2
  injection h2 with h2
  injection h2 with _ h2
  exact hne h2
theorem LB.box_ne {w : World} {b base : Nat} {lv : Value} {rs : List LE} (h : LB w b base lv rs) : (∀ q, lv.ownBlock = some q → q ≠ b) ∧ (∀ q ∈ blE rs, q ≠ b) ∧ ∀ q, lv.ownBlock = some q → q ∉ blE rs := by
  refine ⟨fun q hq => ?_, fun q hq => ?_, fun q hq hq' => ?_⟩
  · obtain ⟨_, cur, h2⟩ := ownsRow_block h.row hq
    exact ty_ne h2 h.box (by decide)
  · obtain ⟨_, cs, h2⟩ := h.ty hq
    exact ty_ne h2 h.box (by decide)
  · obtain ⟨_, cur, h2⟩ := ownsRow_block h.row hq
    obtain ⟨_, cs, h3⟩ := h.ty hq'
    exact ty_ne h2 h3 (by decide) rfl
theorem LB.start {w : World} {b base : Nat} (h : w.heap[b]? = some (.cells #[.slice none 0 0] 45)) (hb : base ≤ b) : LB w b base (.slice none 0 0) [] where
  box := h
  ble := hb
  row := World.ownsRow_nil _ _ _ _
  full := fun _ h => absurd h (Nat.not_lt_zero _)
  nd := List.nodup_nil
/-- A list is laid behind the others. -/
theorem app_li {ops : Array Oper} {rest : List Oper} {o : Oper} {a : Act} {Q : Exit → Act → World → Prop} {w : World} {ty : TypeId} (hgd : o.guard = none) (s x : Operand)
    (ho : o.op = .call { callee := .builtin .append, args := #[s, x], argTypes := #[43, 43] }) (hty : o.type = 43) (base n : Nat) (lv u : Value) (xs : List Value) (hu : u.oneCell' = true) (hs : a.eval s = lv) (hx : a.eval x = .slice (some ⟨w.heap.size, 0, none⟩) 1 1)
    (hB : base ≤ w.heap.size) (hr : w.ownsRow base 81 1 lv n xs) (hlim : n ≤ 5000000)
    (h : ∀ ao c w', w'.ownsRow base 81 1 (.slice ao (n + 1) c) (n + 1) (xs ++ [u]) → Kp (fun q => lv.ownBlock ≠ some q) w w' → (∀ q, (Value.slice ao (n + 1) c).ownBlock = some q → lv.ownBlock = some q ∨ w.heap.size ≤ q) → wpList Tryz.prog ops Q rest (a.put o.dst (.slice ao (n + 1) c)) w') : wpList Tryz.prog ops Q (o :: rest) a (w.alloc (.cells #[u] ty)) := by
  refine wpList_plain hgd fun K hK => ?_
  obtain ⟨ii, hii, hz0, hz1, hz2⟩ := info_parts listInfo
  have hrow : (w.alloc (.cells #[u] ty)).ownsRow base 81 1 lv n xs := World.ownsRow.alloc hr _
  obtain ⟨v', w', hru, ho2, hg, _, hat⟩ := run_append_own_at (P := Tryz.prog) (w.alloc (.cells #[u] ty)) base 43 43 81 ii (.slice none 0 0) 1 24 Tryz.underlying43 hii hz0 hz1 hz2 rfl (by decide) lv n xs hrow ⟨w.heap.size, 0, none⟩ 1 1 [u] rfl (cell_one_new _ _ _) (fun v hv => by simp at hv; subst hv; exact hu) (by unfold maxLen; omega) (by omega) (by rw [blkS]; omega)
  have hkp : Kp (fun k => lv.ownBlock ≠ some k) w w' := ((Ext.alloc w _).kp _).trans (grown_kp hg)
  have hsh : ∃ ao c, v' = .slice ao (n + 1) c := by
    rcases ho2.2 with ⟨_, h0⟩ | ⟨g, cap, cur, hv, _⟩
    · exact absurd h0 (Nat.succ_ne_zero _)
    · exact ⟨_, _, hv⟩
  obtain ⟨ao, c, rfl⟩ := hsh
  unfold Oper.wp execOp
  simp only [ho, hty, resolve, invoke, builtin, Sem.run_bind, Sem.run_pure, Result.andThen_ok, List.map_toArray, List.map_cons, List.map_nil, hs, hx, hru]
  refine hK _ _ (h ao c w' ho2 hkp fun q hq => ?_)
  rcases hat with e | e
  · rw [e] at hq; exact .inl hq
  · rw [e, blkS] at hq; injection hq with hq; exact .inr (by omega)
/-- As app_room, and what is in the row. -/
theorem app_roomC {ops : Array Oper} {rest : List Oper} {o : Oper} {a : Act} {Q : Exit → Act → World → Prop} {w : World} {ty : TypeId} (hgd : o.guard = none) (s x : Operand)
    (ho : o.op = .call { callee := .builtin .append, args := #[s, x], argTypes := #[81, 81] }) (hty : o.type = 81) (g m c : Nat) (cur : Array Value) (u : Value) (h1 : u.oneCell' = true) (hs : a.eval s = .slice (some ⟨g, 0, none⟩) m c) (hx : a.eval x = .slice (some ⟨w.heap.size, 0, none⟩) 1 1)
    (hg : w.heap[g]? = some (.cells cur 35)) (hroom : m + 1 ≤ c) (hfit : m + 1 ≤ cur.size)
    (h : ∀ cur' w', cur'.size = cur.size → (∀ k, k ≠ m → cur'[k]? = cur[k]?) → cur'[m]? = some u → w'.heap[g]? = some (.cells cur' 35) → Kp (· ≠ g) w w' → wpList Tryz.prog ops Q rest (a.put o.dst (.slice (some ⟨g, 0, none⟩) (m + 1) c)) w') : wpList Tryz.prog ops Q (o :: rest) a (w.alloc (.cells #[u] ty)) := by
  refine wpList_plain hgd fun K hK => ?_
  obtain ⟨ii, hii, hz0, hz1, hz2⟩ := info_parts valueInfo
  have hr := run_append_room (P := Tryz.prog) (w.alloc (.cells #[u] ty)) 81 81 35 ii Tryz.underlying81 hii g m c cur (blkOld _ hg) ⟨w.heap.size, 0, none⟩ 1 1 [u] (by rw [hz1]; rfl) (cell_one_new _ _ _) (fun v hv => by simp at hv; subst hv; exact h1) hroom (by rw [hz1]; simpa using hfit)
  rw [hz1] at hr
  have hcz := Array.length_toList (xs := cur)
  unfold Oper.wp execOp
  simp only [ho, hty, resolve, invoke, builtin, Sem.run_bind, Sem.run_pure, Result.andThen_ok, List.map_toArray, List.map_cons, List.map_nil, hs, hx, hr]
  refine hK _ _ (h _ _ ?_ (fun k hk => ?_) ?_ (setRow_heap _ g cur _ 35 (0, 0) (blkOld _ hg)) ⟨rfl, rfl, rfl, by simp, fun k hk hne => (setRow_other _ g k _ hne).trans (heap_alloc_old w _ hk)⟩)
  · simp
    omega
  · simp only [Nat.mul_one, List.length_cons, List.length_nil, Nat.zero_add, List.getElem?_toArray]
    rcases Nat.lt_or_gt_of_ne hk with h | h
    · rw [List.append_assoc, List.getElem?_append_left (by rw [List.length_take]; omega), List.getElem?_take_of_lt h]; simp
    · rw [List.getElem?_append_right (by simp; omega), List.getElem?_drop]
      simp only [List.length_append, List.length_take, List.length_cons, List.length_nil]
      rw [show m + 1 + (k - (min m cur.toList.length + (0 + 1))) = k by omega]
      simp
  · simp only [Nat.mul_one, List.getElem?_toArray]
    rw [List.append_assoc, List.getElem?_append_right (by rw [List.length_take]; omega), List.length_take, show m - min m cur.toList.length = 0 by omega]
    rfl
end Go.Proofs.YtaafcmmmkalgjaaGreatDoor
/-
  Take of the statements' own book, by a contract: the walk.
-/
namespace Go.Proofs.YtaafcmmmkalgjaaGreatDoor
open Go.RowKit
def TakeE (w : World) (b base : Nat) (lv : Value) (rs : List LE) (bs : List Nat) (m : Nat) (e : Ending) (w' : World) : Prop := (∃ u, e = .returned u) ∧ ∃ lv' ns, LB w' b base lv' (rs ++ ns) ∧ (∀ q ∈ blE ns, q ∈ bs) ∧ ns.length ≤ m ∧ (∀ q, lv'.ownBlock = some q → lv.ownBlock = some q ∨ w.heap.size ≤ q) ∧ Kp (fun q => ¬ LBk b lv rs q ∧ q ∉ bs) w w'
theorem TakeE.none {w : World} {b base : Nat} {lv u : Value} {rs : List LE} {bs : List Nat} {m : Nat} (h : LB w b base lv rs) : TakeE w b base lv rs bs m (.returned u) w :=
  ⟨⟨_, rfl⟩, lv, [], by rw [List.append_nil]; exact h, fun q hq => by simp [blE] at hq, Nat.zero_le _, fun q hq => .inl hq, Kp.refl _ _⟩
/-- The book with one list more, when that is full. -/
theorem LB.add {w w3 wf : World} {b base g m c N : Nat} {lv lv3 : Value} {rs : List LE} {cs : Array Value} (h : LB w b base lv rs) (hN : rs.length = N) (hr : w3.ownsRow base 81 1 lv3 (N + 1) (rs.map sE ++ [sE (some g, m, c)])) (hk : Kp (fun q => lv.ownBlock ≠ some q) w w3) (hg : w.heap[g]? = some (.cells cs 35)) (hgn : g ∉ blE rs)
    (hkf : Kp (· ≠ g) (w3.setCell ⟨b, 0, none⟩ lv3) wf) (hf : FullE wf base (some g, m, c) N) : LB wf b base lv3 (rs ++ [(some g, m, c)]) := by
  subst hN
  obtain ⟨n1, n2, n3⟩ := h.box_ne
  have hbx : w3.heap[b]? = some (.cells #[lv] 45) := hk.block' h.box (fun e => n1 b e rfl)
  have hgl : lv.ownBlock ≠ some g := fun e => by
    obtain ⟨_, cur, h2⟩ := ownsRow_block h.row e
    exact ty_ne h2 hg (by decide) rfl
  have hg3 : w3.heap[g]? = some (.cells cs 35) := hk.block' hg hgl
  have hgb : g ≠ b := ty_ne hg h.box (by decide)
  have ks : Kp (· ≠ b) w3 (w3.setCell ⟨b, 0, none⟩ lv3) := Kp.set w3 b 0 _ (fun h => h rfl)
  have hrb : ∀ q, lv3.ownBlock = some q → q ≠ b ∧ q ≠ g := fun q hq => by
    obtain ⟨_, cur, h2⟩ := ownsRow_block hr hq
    exact ⟨ty_ne h2 hbx (by decide), ty_ne h2 hg3 (by decide)⟩
  refine ⟨?_, h.ble, ?_, fun i hi => ?_, ?_⟩
  · exact hkf.block' (set_at hbx 0 _) (fun e => hgb e.symm)
  · rw [List.length_append, List.map_append]
    exact ownsRow_keep (ownsRow_keep hr ks (fun q hq => (hrb q hq).1)) hkf (fun q hq => (hrb q hq).2)
  · by_cases hlt : i < rs.length
    · rw [List.getElem_append_left hlt]
      refine (((h.full i hlt).keep hk fun q hq e => n3 q e (blE_mem.2 ⟨i, hlt, hq⟩)).keep ks fun q hq => n2 q (blE_mem.2 ⟨i, hlt, hq⟩)).keep hkf fun q hq e => hgn (e ▸ blE_mem.2 ⟨i, hlt, hq⟩)
    · have hi' : i = rs.length := by rw [List.length_append] at hi; simp at hi; omega
      subst hi'
      rw [List.getElem_append_right (Nat.le_refl _)]
      simp only [Nat.sub_self, List.getElem_cons_zero]
      exact hf
  · rw [blE_append, List.nodup_append]
    refine ⟨h.nd, by simp [blE], fun a ha q hq e => ?_⟩
    have hq' : q = g := by simpa [blE] using hq
    exact hgn (hq' ▸ e ▸ ha)
attribute [local go_sem] as_un_li as_tu_li as_in_li as_tx_li as_li_li
set_option maxRecDepth 100000 in
set_option maxHeartbeats 8000000 in
theorem takeB_any : ∀ (d : Nat) (v : Value) (t : T) (bs : List Nat) (w : World) (b base : Nat) (lv : Value) (rs : List LE), VOwn w d v t bs → bs.Nodup → t.size ≤ 65536 → LB w b base lv rs → base ≤ w.heap.size → (∀ q ∈ bs, base ≤ q ∧ ¬ LBk b lv rs q) → rs.length + t.size ≤ 4000000 →
    Calls Tryz.prog 12 #[.pointer (some ⟨b, 0, none⟩), v] w (TakeE w b base lv rs bs t.size) := by
  intro d
  induction d with
  | zero => intro v t bs w b base lv rs h; exact h.elim
  | succ d ih =>
    intro v t bs w b base lv rs h hnd hsz hlb hbase hdis hlim
    obtain ⟨k, n, x, ks⟩ := t
    have HLB := hid hlb
    rcases h with ⟨rfl, rfl, rfl, rfl, rfl, rfl⟩ | ⟨rfl, rfl, rfl, rfl, B, hn, rfl⟩ | ⟨rfl, rfl, rfl, rfl, rfl⟩ | ⟨rfl, rfl, rfl, rfl, hxs, rfl⟩ | ⟨rfl, rfl, rfl, hll, g, c, cs, bss, rfl, hlc, hg, hcs, rfl, hbl, hks⟩
    · clear ih hsz hnd hlb hbase hdis hlim
      go_enter Tryz.func12, Tryz.ntmps12
      go_wp2_with fail
      (try simp only [Exit.inBlock, Exit.then])
      refine bodyPost_ret (results_none rfl _ _ _) rfl ?_
      exact TakeE.none HLB.out
    · clear ih hsz hnd hlb hbase hdis hlim hn
      go_enter Tryz.func12, Tryz.ntmps12
      go_wp2_with fail
      (try simp only [Exit.inBlock, Exit.then])
      refine bodyPost_ret (results_none rfl _ _ _) rfl ?_
      exact TakeE.none HLB.out
    · clear ih hsz hnd hlb hbase hdis hlim
      go_enter Tryz.func12, Tryz.ntmps12
      go_wp2_with fail
      (try simp only [Exit.inBlock, Exit.then])
      refine bodyPost_ret (results_none rfl _ _ _) rfl ?_
      exact TakeE.none HLB.out
    · clear ih hsz hnd hlb hbase hdis hlim
      go_enter Tryz.func12, Tryz.ntmps12
      go_wp2_with fail
      (try simp only [Exit.inBlock, Exit.then])
      refine bodyPost_ret (results_none rfl _ _ _) rfl ?_
      exact TakeE.none HLB.out

    · obtain ⟨hgn, hfn⟩ := List.nodup_cons.1 hnd
      have HIH := hid ih
      have HKS := hid hks
      have HGN := hid hgn
      have HFN := hid hfn
      have HCS := hid hcs
      have HG := hid hg
      have HLC := hid hlc
      have HBL := hid hbl
      have HBA := hid hbase
      have HDI := hid hdis
      have HSZ := hid (show ∀ u ∈ ks, u.size ≤ 65536 from fun u hu => by have := T.sizeL_mem hu; simp only [T.size] at hsz; omega)
      have HLM := hid (show rs.length + T.sizeL ks + 1 ≤ 4000000 by simp only [T.size] at hlim; omega)
      have HSS := hid (show T.sizeL ks + 1 ≤ (T.node 5 0 ⟨#[]⟩ ks).size by simp only [T.size]; omega)
      have hl : ks.length ≤ 65536 := by have := T.sizeL_len ks; simp only [T.size] at hsz; omega
      have HFL := hid (show ∀ (j : Nat) (b1 : List Nat), bss[j]? = some b1 → ∀ q ∈ b1, q ∈ bss.flatten from fun j b1 h q hq => List.mem_flatten.2 ⟨b1, List.mem_of_getElem? h, hq⟩)
      have HGL := hid (show ¬ LBk b lv rs g from (hdis g List.mem_cons_self).2)
      have HGB := hid (show base ≤ g from (hdis g List.mem_cons_self).1)
      clear ih hks hgn hfn hcs hg hlc hbl hsz hnd hlb hbase hdis hlim
      go_enter Tryz.func12, Tryz.ntmps12
      go_wp2_with fail
      go_loopw [6] (fun i wr => ∃ (j : Nat) (lv' : Value) (ns : List LE), j ≤ ks.length ∧ i = .int .i64 j ∧ LB wr b base lv' (rs ++ ns) ∧ (∀ q ∈ blE ns, q ∈ (bss.take j).flatten) ∧ ns.length ≤ T.sizeL (ks.take j) ∧ (∀ q, lv'.ownBlock = some q → lv.ownBlock = some q ∨ w.heap.size ≤ q) ∧ Kp (fun q => ¬ LBk b lv rs q ∧ q ∉ (bss.take j).flatten) w wr) (fun i _ => ks.length - (intOf i).toNat)
      case atStart => exact ⟨0, lv, [], Nat.zero_le _, rfl, by rw [List.append_nil]; exact HLB.out, fun q hq => by simp [blE] at hq, Nat.zero_le _, fun q hq => .inl hq, Kp.refl _ _⟩
      case round =>
        obtain ⟨j, lv', ns, hj, rfl, hlb, hin, hln, how, hkp⟩ := hrel
        have HL2 := hid hlb
        have HIN := hid hin
        have HLN := hid hln
        have HOW := hid how
        have HKP := hid hkp
        clear hlb hin hln how hkp
        have hgt : g ∉ (bss.take j).flatten := fun h => HGN.out ((flat_sub (List.take_sublist j bss)).subset h)
        have HGR := hid (HKP.out.block' HG.out ⟨HGL.out, hgt⟩)
        clear hgt
        by_cases hlt : j < ks.length
        · have hlt' : (j : Int) < ks.length := by omega
          obtain ⟨u, b1, hu, hbj, hown⟩ := HKS.out j hlt
          obtain ⟨τ, p, rfl⟩ := hown.rd.iface
          have HBJ := hid hbj
          have HB1 := hid (show ∀ q ∈ b1, q ∈ bss.flatten from HFL.out j b1 hbj)
          have HNB := hid (show ∀ q ∈ b1, q ∉ (bss.take j).flatten from fun q hq => not_before HFN.out hbj hq)
          have c0 : wr.cell? ⟨g, j, none⟩ = some (.iface τ p) := cell_of HGR.out hu
          have hgl := lt_of_cell c0
          have hsj := T.sizeL_take ks j hlt
          have hsp := T.sizeL_split ks (j + 1)
          have HC := hid (HIH.out _ ks[j] b1 wr b base lv' (rs ++ ns) (hown.keep (HKP.out.mono (fun q _ hq => ⟨(HDI.out q (List.mem_cons_of_mem _ (HB1.out q hq))).2, HNB.out q hq⟩))) (nodup_at HFN.out hbj) (HSZ.out _ (List.getElem_mem hlt)) HL2.out (Nat.le_trans HBA.out HKP.out.size) (fun q hq => ⟨(HDI.out q (List.mem_cons_of_mem _ (HB1.out q hq))).1, fun e => by
            have hd := (HDI.out q (List.mem_cons_of_mem _ (HB1.out q hq))).2
            have hq0 := hown.lt q hq
            rcases e with e | e | e
            · exact hd (.inl e)
            · rcases HOW.out q e with e | e
              · exact hd (.inr (.inl e))
              · omega
            · rw [blE_append, List.mem_append] at e
              rcases e with e | e
              · exact hd (.inr (.inr e))
              · exact HNB.out q hq (HIN.out q e)⟩) (by have := HLN.out; have := HLM.out; rw [List.length_append]; omega))
          have HLT := hid (show ∀ q ∈ b1, q < w.heap.size from fun q hq => hown.lt q hq)
          have HST := hid (show T.sizeL (ks.take (j + 1)) = T.sizeL (ks.take j) + ks[j].size from hsj)
          clear hown hbj hu hsj hsp
          go_wp2_with fail
          refine HC.out.mono ?_
          rintro e w2 ⟨⟨u2, rfl⟩, lv2, ns2, hlb2, hin2, hln2, how2, hk2⟩
          have HL3 := hid hlb2
          have HIN2 := hid hin2
          have HLN2 := hid hln2
          have HOW2 := hid how2
          have HK2 := hid hk2
          clear hlb2 hin2 hln2 how2 hk2 c0 hgl
          go_wp2_with fail
          go_roundw
          case rel =>
            refine ⟨j + 1, lv2, ns ++ ns2, hlt, by go_num, by rw [← List.append_assoc]; exact HL3.out, fun q hq => ?_, ?_, fun q hq => ?_, ?_⟩
            · rw [blE_append, List.mem_append] at hq
              exact (take_flat HBJ.out).2 (hq.imp (HIN.out q) (HIN2.out q))
            · rw [List.length_append, HST.out]
              have := HLN.out
              have := HLN2.out
              omega
            · rcases HOW2.out q hq with h | h
              · exact HOW.out q h
              · exact .inr (Nat.le_trans HKP.out.size h)
            · refine (HKP.out.mono (fun q _ h => ⟨h.1, fun e => h.2 ((take_flat HBJ.out).2 (.inl e))⟩)).chain HK2.out (fun q hq h => ⟨fun e => ?_, fun e => h.2 ((take_flat HBJ.out).2 (.inr e))⟩)
              rcases e with e | e | e
              · exact h.1 (.inl e)
              · rcases HOW.out q e with e | e
                · exact h.1 (.inr (.inl e))
                · omega
              · rw [blE_append, List.mem_append] at e
                rcases e with e | e
                · exact h.1 (.inr (.inr e))
                · exact h.2 ((take_flat HBJ.out).2 (.inl (HIN.out q e)))
          case measure => simp [intOf]; omega
        · have hje : j = ks.length := by omega
          subst hje
          rw [List.take_length] at HLN
          rw [show bss.take ks.length = bss by rw [← HBL.out, List.take_length]] at HIN HKP
          obtain ⟨N, hN⟩ : ∃ N, (rs ++ ns).length = N := ⟨_, rfl⟩
          have HN := hid hN
          have HROW := hid (show wr.ownsRow base 81 1 lv' N ((rs ++ ns).map sE) from hN ▸ HL2.out.row)
          have hNl : N ≤ 4000000 := by have := HLN.out; have := HLM.out; rw [List.length_append] at hN; omega
          have hNi : (N : Int) ≤ 4000000 := by omega
          have HGX := hid (show g ∉ blE (rs ++ ns) from fun e => by
            rw [blE_append, List.mem_append] at e
            rcases e with e | e
            · exact HGL.out (.inr (.inr e))
            · exact HGN.out (HIN.out g e))
          have HLE := hid (show ks.length ≤ 65536 from hl)
          clear hN hll
          obtain ⟨n1, _, _⟩ := HL2.out.box_ne
          have HN1 := hid n1
          clear n1
          have p0 : wr.cell? ⟨b, 0, none⟩ = some lv' := cell_of HL2.out.box rfl
          have hbl0 := lt_of_cell p0
          go_upto_region 7 with (at_builtin; refine app_li rfl _ _ rfl rfl base N lv' (.slice (some ⟨g, 0, none⟩) ks.length c) ((rs ++ ns).map sE) rfl rfl rfl (Nat.le_trans HBA.out HKP.out.size) HROW.out (by omega) ?_; intro ao3 c3 w3 hr3 hk3 ho3; have HR3 := hid hr3; have HK3 := hid hk3; have HO3 := hid ho3; have HBX := hid (hk3.block' HL2.out.box (fun e => HN1.out b e rfl)); clear hr3 hk3 ho3; have p3 := cell_of (i := 0) HBX.out rfl; have f3 := frozen_of (i := 0) HBX.out)
          obtain ⟨W4, hW4⟩ : ∃ W4, w3.setCell ⟨b, 0, none⟩ (.slice ao3 (N + 1) c3) = W4 := ⟨_, rfl⟩
          rw [hW4]
          have HW4 := hid hW4
          have KS4 := hid (show Kp (· ≠ b) w3 W4 from hW4 ▸ Kp.set w3 b 0 _ (fun h => h rfl))
          have hx4 : W4.heap[b]? = some (.cells #[.slice ao3 (N + 1) c3] 45) := hW4 ▸ set_at HBX.out 0 _
          have HG4 := hid (show W4.heap[g]? = some (.cells cs 35) from KS4.out.block' (HK3.out.block' HGR.out (fun e => by
            obtain ⟨_, cur, h2⟩ := ownsRow_block HROW.out e
            exact ty_ne h2 HGR.out (by decide) rfl)) (ty_ne HGR.out HL2.out.box (by decide)))
          have q0 : W4.cell? ⟨b, 0, none⟩ = some (.slice ao3 (N + 1) c3) := cell_of hx4 rfl
          have hbl4 := lt_of_cell q0
          have hwm : IntKind.i64.wrap (-1000000 - ((N : Int) + 1)) = mkI N := by rw [IntKind.wrap_i64]; unfold mkI; omega
          have hwm' : -1000000 - ((N : Int) + 1) = mkI N := by unfold mkI; omega
          obtain ⟨mk, hmk⟩ : ∃ mk, mkI N = mk := ⟨_, rfl⟩
          have HMK := hid hmk
          rw [hmk] at hwm hwm'
          clear hmk hW4 hx4 p0 p3 f3 hbl0
          go_upto_region 8 with fail
          have HFIN := hid (show ∀ (wf : World) (q : Nat) (cs2 : Array Value), Kp (· ≠ g) W4 wf → wf.heap[g]? = some (.cells cs2 35) → cs2.size = c → (∀ i, i < q → cs2[i]? = some (.iface 83 (.int .i64 mk))) → (c ≤ q ∨ ks.length + 2000 ≤ q) → ∀ u, TakeE w b base lv rs (g :: bss.flatten) (T.node 5 0 ⟨#[]⟩ ks).size (.returned u) wf from fun wf q cs2 hk hb hc hm hq u => by
            refine ⟨⟨_, rfl⟩, .slice ao3 (N + 1) c3, ns ++ [(some g, ks.length, c)], ?_, fun x hx => ?_, ?_, fun x hx => ?_, ?_⟩
            · rw [← List.append_assoc]
              refine HL2.out.add HN.out HR3.out HK3.out HGR.out HGX.out (HW4.out ▸ hk) ⟨HGB.out, HLC.out, HLE.out, cs2, hb, hc, fun k hk1 hk2 => ?_⟩
              have hk1' : k < c := hk1
              have hk2' : k < ks.length + 2000 := hk2
              rw [HMK.out]
              exact hm k (by omega)
            · rw [blE_append, List.mem_append] at hx
              rcases hx with hx | hx
              · exact List.mem_cons_of_mem _ (HIN.out x hx)
              · have hx' : x = g := by simpa [blE] using hx
                rw [hx']
                exact List.mem_cons_self
            · rw [List.length_append]
              have := HLN.out
              have := HSS.out
              simp only [List.length_cons, List.length_nil]
              omega
            · rcases HO3.out x hx with h | h
              · exact HOW.out x h
              · exact .inr (Nat.le_trans HKP.out.size h)
            · refine (((HKP.out.mono (fun x _ h => ⟨h.1, fun e => h.2 (List.mem_cons_of_mem _ e)⟩)).chain HK3.out (fun x hx h e => ?_)).chain KS4.out (fun x hx h e => h.1 (.inl e))).chain hk (fun x hx h e => h.2 (e ▸ List.mem_cons_self))
              rcases HOW.out x e with e | e
              · exact h.1 (.inr (.inl e))
              · omega)
          clear HR3 HK3 HO3 HBX HL2 HIN HLN HOW HKP HGR HROW HGX HN1
          go_wp2_with fail
          clear q0 hbl4
          go_loopw [8] (fun i wq => ∃ (k : Nat) (cs' : Array Value), k ≤ ks.length ∧ i = .int .i64 k ∧ wq.heap[g]? = some (.cells cs' 35) ∧ cs'.size = c ∧ (∀ i, i < k → cs'[i]? = some (.iface 83 (.int .i64 mk))) ∧ Kp (· ≠ g) W4 wq) (fun i _ => ks.length - (intOf i).toNat)
          case atStart => exact ⟨0, cs, Nat.zero_le _, rfl, HG4.out, HCS.out, fun _ h => absurd h (Nat.not_lt_zero _), Kp.refl _ _⟩
          case round =>
            obtain ⟨k, cs', hk, rfl, hb', hc', hm', hkq⟩ := hrel
            have HB' := hid hb'
            have HC' := hid hc'
            have HM' := hid hm'
            have HKQ := hid hkq
            clear hb' hc' hm' hkq
            by_cases hltk : k < ks.length
            · have hltk' : (k : Int) < ks.length := by omega
              have hkc : k < cs'.size := by rw [HC'.out]; have := HLC.out; omega
              have d0 := cell_of (i := k) HB'.out (Array.getElem?_eq_getElem hkc)
              have f0 := frozen_of (i := k) HB'.out
              go_wp2_with fail
              go_roundw
              case rel =>
                refine ⟨k + 1, cs'.setIfInBounds k (.iface 83 (.int .i64 mk)), hltk, by go_num, set_at HB'.out k _, by rw [Array.size_setIfInBounds]; exact HC'.out, fun i hi => ?_, HKQ.out.trans (Kp.set _ g k _ (fun h => h rfl))⟩
                by_cases e : i = k
                · rw [e]; exact set_get _ hkc
                · rw [set_get_other _ e]; exact HM'.out i (by omega)
              case measure => simp [intOf]; omega
            have hke : k = ks.length := by omega
            rw [hke] at HM'
            have hlk : ¬ (k : Int) < ks.length := by omega
            subst hke
            go_wp2_with fail
            clear hl
            go_loopw [4] (fun lq wq => ∃ (m : Nat) (cs2 : Array Value), lq = .slice (some ⟨g, 0, none⟩) m c ∧ m ≤ c ∧ Kp (· ≠ g) W4 wq ∧ wq.heap[g]? = some (.cells cs2 35) ∧ cs2.size = c ∧ ∀ i, i < m → cs2[i]? = some (.iface 83 (.int .i64 mk))) (fun lq _ => c - (match lq with | .slice _ m _ => m | _ => 0))
            case atStart => exact ⟨ks.length, cs', rfl, HLC.out, HKQ.out, HB'.out, HC'.out, HM'.out⟩
            case round =>
              obtain ⟨q, cs2, rfl, hqc, hk2, hb2, hc2, hm2⟩ := hrel
              have HK2 := hid hk2
              have HB2 := hid hb2
              have HC2 := hid hc2
              have HM2 := hid hm2
              have HQC := hid hqc
              clear hk2 hb2 hc2 hm2
              by_cases hlt2 : (q : Int) < min (c : Int) ((ks.length : Int) + 2000)
              · have hqc' : q + 1 ≤ c := by omega
                have HQ := hid hqc'
                clear hqc hqc'
                go_wp2_with (at_builtin; refine app_roomC rfl _ _ rfl rfl g q c cs2 (.iface 83 (.int .i64 mk)) rfl rfl rfl HB2.out HQ.out (by rw [HC2.out]; exact HQ.out) ?_; intro cs3 w5 hs3 ho3' hm3 hb3 hk3')
                go_roundw
                case rel =>
                  refine ⟨q + 1, cs3, rfl, HQ.out, HK2.out.trans hk3', hb3, hs3.trans HC2.out, fun i hi => ?_⟩
                  by_cases e : i = q
                  · rw [e]; exact hm3
                  · rw [ho3' i e]; exact HM2.out i (by omega)
                case measure => simp; have := HQ.out; omega
              · have HZ := hid (show c ≤ q ∨ ks.length + 2000 ≤ q by omega)
                clear hqc
                go_wp2_with fail
                go_end0
                exact HFIN.out _ q cs2 HK2.out HB2.out HC2.out HM2.out HZ.out _
end Go.Proofs.YtaafcmmmkalgjaaGreatDoor
/-
  Take of a value that may be none, or a list of no memory; Held: by contracts.
-/
namespace Go.Proofs.YtaafcmmmkalgjaaGreatDoor
open Go.RowKit
attribute [local go_sem] as_nil_li as_li_li
set_option maxRecDepth 100000 in
set_option maxHeartbeats 1000000 in
theorem take_nilI {w : World} {b base : Nat} {lv : Value} {rs : List LE} {bs : List Nat} {m : Nat} (h : LB w b base lv rs) : Calls Tryz.prog 12 #[.pointer (some ⟨b, 0, none⟩), .nilIface] w (TakeE w b base lv rs bs m) := by
  have HLB := hid h
  clear h
  go_enter Tryz.func12, Tryz.ntmps12
  go_wp2_with fail
  (try simp only [Exit.inBlock, Exit.then])
  refine bodyPost_ret (results_none rfl _ _ _) rfl ?_
  exact TakeE.none HLB.out
theorem LB.addN {w w3 : World} {b base N : Nat} {lv lv3 : Value} {rs : List LE} (h : LB w b base lv rs) (hN : rs.length = N) (hr : w3.ownsRow base 81 1 lv3 (N + 1) (rs.map sE ++ [.slice none 0 0])) (hk : Kp (fun q => lv.ownBlock ≠ some q) w w3) : LB (w3.setCell ⟨b, 0, none⟩ lv3) b base lv3 (rs ++ [(none, 0, 0)]) := by
  subst hN
  obtain ⟨n1, n2, n3⟩ := h.box_ne
  have hbx : w3.heap[b]? = some (.cells #[lv] 45) := hk.block' h.box (fun e => n1 b e rfl)
  have ks : Kp (· ≠ b) w3 (w3.setCell ⟨b, 0, none⟩ lv3) := Kp.set w3 b 0 _ (fun h => h rfl)
  have hrb : ∀ q, lv3.ownBlock = some q → q ≠ b := fun q hq => by
    obtain ⟨_, cur, h2⟩ := ownsRow_block hr hq
    exact ty_ne h2 hbx (by decide)
  refine ⟨set_at hbx 0 _, h.ble, ?_, fun i hi => ?_, ?_⟩
  · rw [List.length_append, List.map_append]
    exact ownsRow_keep hr ks hrb
  · by_cases hlt : i < rs.length
    · rw [List.getElem_append_left hlt]
      exact ((h.full i hlt).keep hk fun q hq e => n3 q e (blE_mem.2 ⟨i, hlt, hq⟩)).keep ks fun q hq => n2 q (blE_mem.2 ⟨i, hlt, hq⟩)
    · have hi' : i = rs.length := by rw [List.length_append] at hi; simp at hi; omega
      subst hi'
      rw [List.getElem_append_right (Nat.le_refl _)]
      simp only [Nat.sub_self, List.getElem_cons_zero]
      rfl
  · rw [blE_append]
    simpa [blE] using h.nd
set_option maxRecDepth 100000 in
set_option maxHeartbeats 4000000 in
theorem take_nilL {w : World} {b base : Nat} {lv : Value} {rs : List LE} {bs : List Nat} {m : Nat} (h : LB w b base lv rs) (hB : base ≤ w.heap.size) (hl : rs.length ≤ 4000000) (hm : 1 ≤ m) : Calls Tryz.prog 12 #[.pointer (some ⟨b, 0, none⟩), .iface 81 (.slice none 0 0)] w (TakeE w b base lv rs bs m) := by
  have HLB := hid h
  obtain ⟨N, hN⟩ : ∃ N, rs.length = N := ⟨_, rfl⟩
  have HN := hid hN
  have HROW := hid (show w.ownsRow base 81 1 lv N (rs.map sE) from hN ▸ h.row)
  have hNi : (N : Int) ≤ 4000000 := by omega
  have HBA := hid hB
  have HM := hid hm
  obtain ⟨n1, _, _⟩ := h.box_ne
  have HN1 := hid n1
  clear h n1 hN hl hB hm
  go_enter Tryz.func12, Tryz.ntmps12
  go_wp2_with fail
  go_loopw [6] (fun i wr => i = .int .i64 0 ∧ wr = w) (fun _ _ => 0)
  case atStart => exact ⟨rfl, rfl⟩
  case round =>
    obtain ⟨rfl, hw⟩ := hrel
    subst hw
    have p0 : wr.cell? ⟨b, 0, none⟩ = some lv := cell_of HLB.out.box rfl
    have hbl0 := lt_of_cell p0
    go_upto_region 7 with (at_builtin; refine app_li rfl _ _ rfl rfl base N lv (.slice none 0 0) (rs.map sE) rfl rfl rfl HBA.out HROW.out (by omega) ?_; intro ao3 c3 w3 hr3 hk3 ho3; have HR3 := hid hr3; have HK3 := hid hk3; have HO3 := hid ho3; have HBX := hid (hk3.block' HLB.out.box (fun e => HN1.out b e rfl)); clear hr3 hk3 ho3; have p3 := cell_of (i := 0) HBX.out rfl; have f3 := frozen_of (i := 0) HBX.out)
    have HL4 := hid (HLB.out.addN HN.out HR3.out HK3.out)
    have HK4 := hid (show Kp (fun q => ¬ LBk b lv rs q ∧ q ∉ bs) wr (w3.setCell ⟨b, 0, none⟩ (.slice ao3 (N + 1) c3)) from (HK3.out.mono (fun q _ h e => h.1 (.inr (.inl e)))).trans (Kp.set w3 b 0 _ (fun h => h.1 (.inl rfl))))
    obtain ⟨W4, hW4⟩ : ∃ W4, w3.setCell ⟨b, 0, none⟩ (.slice ao3 (N + 1) c3) = W4 := ⟨_, rfl⟩
    rw [hW4] at HL4 HK4 ⊢
    clear hW4 p0 p3 f3 hbl0
    have q0 : W4.cell? ⟨b, 0, none⟩ = some (.slice ao3 (N + 1) c3) := cell_of HL4.out.box rfl
    have hbl4 := lt_of_cell q0
    go_wp2_with fail
    go_loopw [8] (fun i wq => i = .int .i64 0 ∧ wq = W4) (fun _ _ => 0)
    case atStart => exact ⟨rfl, rfl⟩
    case round =>
      obtain ⟨rfl, hw⟩ := hrel
      subst hw
      go_wp2_with fail
      go_loopw [4] (fun lq wq => lq = .slice none 0 0 ∧ wq = wr) (fun _ _ => 0)
      case atStart => exact ⟨rfl, rfl⟩
      case round =>
        obtain ⟨rfl, hw⟩ := hrel
        subst hw
        go_wp2_with fail
        go_end0
        exact ⟨⟨_, rfl⟩, .slice ao3 (N + 1) c3, [(none, 0, 0)], HL4.out, fun q hq => by simp [blE] at hq, HM.out, HO3.out, HK4.out⟩
/-- A value in memory of its own, or none. -/
def VOwnZ (w : World) (d : Nat) (v : Value) (t : T) (bs : List Nat) : Prop := VOwnE w d v t bs ∨ (v = .nilIface ∧ bs = [])
theorem takeZ_any {d : Nat} {v : Value} {t : T} {bs : List Nat} {w : World} {b base : Nat} {lv : Value} {rs : List LE} (h : VOwnZ w d v t bs) (hn : bs.Nodup) (hz : t.size ≤ 65536) (hl : LB w b base lv rs) (hB : base ≤ w.heap.size) (hd : ∀ q ∈ bs, base ≤ q ∧ ¬ LBk b lv rs q) (hm : rs.length ≤ 3900000) :
    Calls Tryz.prog 12 #[.pointer (some ⟨b, 0, none⟩), v] w (TakeE w b base lv rs bs 65536) := by
  rcases h with (h | ⟨rfl, _, rfl⟩) | ⟨rfl, rfl⟩
  · refine (takeB_any d v t bs w b base lv rs h hn hz hl hB hd (by omega)).mono fun e w' ⟨hu, lv', ns, h1, h2, h3, h4, h5⟩ => ⟨hu, lv', ns, h1, h2, by omega, h4, h5⟩
  · exact take_nilL hl hB (by omega) (by decide)
  · exact take_nilI hl
end Go.Proofs.YtaafcmmmkalgjaaGreatDoor
/-
  Held of the statements' own book of list, by a contract: each list still has its own mark, all over.
-/
namespace Go.Proofs.YtaafcmmmkalgjaaGreatDoor
open Go.RowKit
theorem rowE_at {w : World} {base N : Nat} {a : Option Addr} {c : Nat} {rs : List LE} (h : w.ownsRow base 81 1 (.slice a N c) N (rs.map sE)) (hN : rs.length = N) {j : Nat} (hj : j < rs.length) : ∃ g, a = some ⟨g, 0, none⟩ ∧ w.cell? ⟨g, j, none⟩ = some (sE rs[j]) := by
  subst hN
  rcases h.2 with ⟨_, h0⟩ | ⟨g, cap, cur, e0, hb, hc, h1, h2, h3, h4⟩
  · omega
  · cases e0
    refine ⟨g, rfl, ?_⟩
    have e : (cur.toList.take (rs.length * 1))[j]? = some (sE rs[j]) := by rw [h4]; simp [hj]
    rw [List.getElem?_take_of_lt (by omega)] at e
    exact cell_of hc (by simpa using e)
theorem neqI (x y : Int) (w : World) : (binOp .neq 35 (.iface 83 (.int .i64 x)) (.iface 83 (.int .i64 y))).run Tryz.prog w = .ok (.bool (!(x == y))) w := by kernel_rfl
theorem neqMk (x : Int) (w : World) : (binOp .neq 35 (.iface 83 (.int .i64 x)) (.iface 83 (.int .i64 x))).run Tryz.prog w = .ok (.bool false) w := (neqI x x w).trans (by simp)
attribute [local go_sem] neqMk
set_option maxRecDepth 100000 in
set_option maxHeartbeats 4000000 in
theorem held_any {w : World} {b base : Nat} {lv : Value} {rs : List LE} (h : LB w b base lv rs) (hl : rs.length ≤ 4000000) : Calls Tryz.prog 13 #[.pointer (some ⟨b, 0, none⟩)] w fun e w' => e = .returned (.bool true) ∧ w' = w := by
  have HLB := hid h
  obtain ⟨N, hN⟩ : ∃ N, rs.length = N := ⟨_, rfl⟩
  have HN := hid hN
  have hrow : w.ownsRow base 81 1 lv N (rs.map sE) := hN ▸ h.row
  have hsh : ∃ a c, lv = .slice a N c := by
    rcases hrow.2 with ⟨hv, h0⟩ | ⟨g, cap, cur, hv, _⟩
    · exact ⟨none, 0, by rw [hv, h0]⟩
    · exact ⟨_, _, hv⟩
  obtain ⟨a, c, rfl⟩ := hsh
  have HROW := hid hrow
  have hNi : (N : Int) ≤ 4000000 := by omega
  have p0 : w.cell? ⟨b, 0, none⟩ = some (.slice a N c) := cell_of h.box rfl
  have hbl0 := lt_of_cell p0
  clear h hl hN hrow
  go_enter Tryz.func13, Tryz.ntmps13
  go_wp2_with fail
  go_loopw [3] (fun i wr => ∃ k : Nat, k ≤ N ∧ i = .int .i64 k ∧ wr = w) (fun i _ => N - (intOf i).toNat)
  case atStart => exact ⟨0, Nat.zero_le _, rfl, rfl⟩
  case round =>
    obtain ⟨k, hk, rfl, hw⟩ := hrel
    subst hw
    by_cases hlt : k < N
    · have hlt' : (k : Int) < N := by omega
      have hkr : k < rs.length := by rw [HN.out]; exact hlt
      obtain ⟨g, rfl, hce⟩ := rowE_at HROW.out HN.out hkr
      have hgl := lt_of_cell hce
      have HFU := hid (HLB.out.full k hkr)
      have hwm : IntKind.i64.wrap (-1000001 - (k : Int)) = mkI k := by rw [IntKind.wrap_i64]; unfold mkI; omega
      have hwm' : -1000001 - (k : Int) = mkI k := rfl
      generalize rs[k] = r at *
      obtain ⟨o, m, cp⟩ := r
      cases o with
      | none =>
        have hz : (m, cp) = (0, 0) := HFU.out
        obtain ⟨rfl, rfl⟩ : m = 0 ∧ cp = 0 := by injection hz with h1 h2; exact ⟨h1, h2⟩
        have hce' : wr.cell? ⟨g, k, none⟩ = some (.slice none 0 0) := hce
        clear hce hz
        generalize mkI k = mk at *
        go_wp2_with fail
        go_loopw [5] (fun i wq => i = .int .i64 0 ∧ wq = wr) (fun _ _ => 0)
        case atStart => exact ⟨rfl, rfl⟩
        case round =>
          obtain ⟨rfl, hw⟩ := hrel
          subst hw
          go_wp2_with fail
          go_roundw
          case rel => exact ⟨k + 1, hlt, by go_num, by trivial⟩
          case measure => simp [intOf]; omega
      | some g1 =>
        obtain ⟨_, hmc, hm65, cs, hcs, hcz, hmk⟩ := HFU.out
        have hmc' : m ≤ cp := hmc
        have hm65' : m ≤ 65536 := hm65
        have hcz' : cs.size = cp := hcz
        have HCS := hid hcs
        have HCZ := hid hcz'
        obtain ⟨mk, hmke⟩ : ∃ mk, mkI k = mk := ⟨_, rfl⟩
        have HMK := hid (show ∀ i, i < cp → i < m + 2000 → cs[i]? = some (.iface 83 (.int .i64 mk)) from hmke ▸ hmk)
        rw [hmke] at hwm hwm'
        clear hmke hmk hcs hcz hcz' hmc hm65
        obtain ⟨M, hM⟩ : ∃ M, min cp (m + 2000) = M := ⟨_, rfl⟩
        have hmin : min (cp : Int) ((m : Int) + 2000) = (M : Int) := by omega
        have hM1 : M ≤ cp := by omega
        have hM2 : M ≤ m + 2000 := by omega
        have hM1' : (M : Int) ≤ (cp : Int) := by omega
        have hce' : wr.cell? ⟨g, k, none⟩ = some (.slice (some ⟨g1, 0, none⟩) m cp) := hce
        clear hce hM
        go_wp2_with fail
        go_loopw [5] (fun i wq => ∃ j : Nat, j ≤ M ∧ i = .int .i64 j ∧ wq = wr) (fun i _ => M - (intOf i).toNat)
        case atStart => exact ⟨0, Nat.zero_le _, rfl, rfl⟩
        case round =>
          obtain ⟨j, hj, rfl, hw⟩ := hrel
          subst hw
          by_cases hltj : j < M
          · have hltj' : (j : Int) < M := by omega
            have d0 := cell_of HCS.out (HMK.out j (by omega) (by omega))
            have hgl1 := lt_of_cell d0
            go_wp2_with fail
            go_roundw
            case rel => exact ⟨j + 1, hltj, by go_num, by trivial⟩
            case measure => simp [intOf]; omega
          · have hje : ¬ (j : Int) < M := by omega
            go_wp2_with fail
            go_roundw
            case rel => exact ⟨k + 1, hlt, by go_num, by trivial⟩
            case measure => simp [intOf]; omega
    · have hke : ¬ (k : Int) < N := by omega
      go_wp2_with fail
      go_ret
      exact ⟨rfl, rfl⟩
end Go.Proofs.YtaafcmmmkalgjaaGreatDoor
