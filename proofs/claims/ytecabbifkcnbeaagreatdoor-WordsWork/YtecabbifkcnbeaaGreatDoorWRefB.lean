/-
  The document's package words: text, num, truth, find, kinds, by contracts.
-/
import Derived.Test.YtecabbifkcnbeaaGreatDoorWRRef
import Derived.Test.YtecabbifkcnbeaaGreatDoorPTwin
import Derived.Test.YtecabbifkcnbeaaGreatDoorWKinds
import Derived.Test.YtecabbifkcnbeaaGreatDoorCRight
import Derived.Lib.IndexLaws
import Derived.Test.YtecabbifkcnbeaaGreatDoorWOps
import Derived.Test.YtecabbifkcnbeaaGreatDoorComp
import Derived.Test.YtecabbifkcnbeaaGreatDoorCOf
import Derived.Test.YtecabbifkcnbeaaGreatDoorWrite
import Derived.Laws.BytesArg
import Derived.Laws.IdiomStrings
import Derived.Deep.QuietTactic
import Derived.BigQuiet
namespace Go.Proofs.YtecabbifkcnbeaaGreatDoor
open Go.RowKit
def tellI (b : Bool) : Int := if b then 1 else 0
def plV (k n : Int) (x : ByteArray) : Value := .agg #[.int .i64 k, .int .i64 n, .string x, .slice none 0 0]
theorem Rd.kind_eq {K : Nat → Prop} {w : World} {d : Nat} {k n : Int} {x : ByteArray} {sv : Value} {t : T} (h : Rd K w d (.agg #[.int .i64 k, .int .i64 n, .string x, sv]) t) : t.kind = k := by
  cases d with
  | zero => exact h.elim
  | succ d =>
    obtain ⟨k', n', x', ks⟩ := t
    obtain ⟨a, c, e, _⟩ := h
    simp only [Value.agg.injEq, Array.mk.injEq, List.cons.injEq, Value.int.injEq, true_and] at e
    exact e.1.symm
theorem Rd.num_eq {K : Nat → Prop} {w : World} {d : Nat} {k n : Int} {x : ByteArray} {sv : Value} {t : T} (h : Rd K w d (.agg #[.int .i64 k, .int .i64 n, .string x, sv]) t) : t.num = n := by
  cases d with
  | zero => exact h.elim
  | succ d =>
    obtain ⟨k', n', x', ks⟩ := t
    obtain ⟨a, c, e, _⟩ := h
    simp only [Value.agg.injEq, Array.mk.injEq, List.cons.injEq, Value.int.injEq, true_and] at e
    exact e.2.1.symm
theorem rnum_any10 (n : Int) (w : World) : Calls Tryz.prog 63 #[.int .i64 n] w fun e w' => e = .returned (plV 3 n ⟨#[]⟩) ∧ Ext w w' := by
  go_enter Tryz.func63, Tryz.ntmps63
  go_wp2_with fail
  obtain ⟨z0, z1, z2, z3⟩ := four_of (blk0 w (.cells #[.int .i64 3, .int .i64 n, .string ⟨#[]⟩, .slice none 0 0] 34))
  refine bodyPost_ret (v := plV 3 n ⟨#[]⟩) (by simp [results, Tryz.results63, go_sem, z0, z1, z2, z3, plV]) rfl ?_
  exact ⟨rfl, Ext.alloc _ _⟩
theorem rtext_any10 (s : ByteArray) (w : World) : Calls Tryz.prog 62 #[.string s] w fun e w' => e = .returned (plV 4 0 s) ∧ Ext w w' := by
  go_enter Tryz.func62, Tryz.ntmps62
  go_wp2_with fail
  obtain ⟨z0, z1, z2, z3⟩ := four_of (blk0 w (.cells #[.int .i64 4, .int .i64 0, .string s, .slice none 0 0] 34))
  refine bodyPost_ret (v := plV 4 0 s) (by simp [results, Tryz.results62, go_sem, z0, z1, z2, z3, plV]) rfl ?_
  exact ⟨rfl, Ext.alloc _ _⟩
theorem rtruth_any10 (b : Bool) (w : World) : Calls Tryz.prog 66 #[.bool b] w fun e w' => e = .returned (plV 2 (tellI b) ⟨#[]⟩) ∧ Ext w w' := by
  cases b with
  | false =>
    go_enter Tryz.func66, Tryz.ntmps66
    go_wp2_with fail
    obtain ⟨z0, z1, z2, z3⟩ := four_of (blkOld (.cells #[.int .i64 2, .int .i64 0, .string ⟨#[]⟩, .slice none 0 0] 34) (blk0 w (.cells #[.int .i64 2, .int .i64 0, .string ⟨#[]⟩, .slice none 0 0] 34)))
    refine bodyPost_ret (v := plV 2 0 ⟨#[]⟩) (by simp [results, Tryz.results66, go_sem, z0, z1, z2, z3, plV]) rfl ?_
    exact ⟨rfl, Ext.alloc2 _ _ _⟩
  | true =>
    go_enter Tryz.func66, Tryz.ntmps66
    go_wp2_with fail
    obtain ⟨z0, z1, z2, z3⟩ := four_of (blkOld (.cells #[.int .i64 2, .int .i64 1, .string ⟨#[]⟩, .slice none 0 0] 34) (blk0 w (.cells #[.int .i64 2, .int .i64 1, .string ⟨#[]⟩, .slice none 0 0] 34)))
    refine bodyPost_ret (v := plV 2 1 ⟨#[]⟩) (by simp [results, Tryz.results66, go_sem, z0, z1, z2, z3, plV]) rfl ?_
    exact ⟨rfl, Ext.alloc2 _ _ _⟩
theorem occ_ext (s t : ByteArray) (j : Nat) (_ : j + t.size ≤ s.size) : Lib.occAt s.data.toList t.data.toList j = decide (s.extract j (j + t.size) = t) := by
  have e : (s.extract j (j + t.size)).data.toList = (s.data.toList.drop j).take t.size := by
    rw [ByteArray.data_extract, Array.toList_extract]
    show List.extract s.data.toList j (j + t.size) = _
    rw [List.extract_eq_take_drop]
    congr 1
    omega
  have ht : t.data.toList.length = t.size := by rw [Array.length_toList]; rfl
  unfold Lib.occAt
  rw [Bool.eq_iff_iff, decide_eq_true_eq, List.isPrefixOf_iff_prefix, List.prefix_iff_eq_take, ht]
  constructor
  · intro q
    apply ByteArray.ext
    apply Array.ext'
    rw [e]; exact q.symm
  · intro q
    rw [← e, q]
theorem occ_out (s t : ByteArray) (j : Nat) (h : s.size < j + t.size) (hj : j ≤ s.size) : Lib.occAt s.data.toList t.data.toList j = false := by
  have ht : t.data.toList.length = t.size := by rw [Array.length_toList]; rfl
  have hs : s.data.toList.length = s.size := by rw [Array.length_toList]; rfl
  rw [Bool.eq_false_iff]
  intro q
  unfold Lib.occAt at q
  rw [List.isPrefixOf_iff_prefix] at q
  have := q.length_le
  rw [List.length_drop, ht, hs] at this
  omega
set_option maxRecDepth 100000 in
set_option maxHeartbeats 2000000 in
theorem rfind_any10 (s t : ByteArray) (hs : s.size ≤ 65535) (ht : t.size ≤ 65535) (w : World) : Calls Tryz.prog 64 #[.string s, .string t] w fun e w' => e = .returned (.int .i64 (Lib.index s.data.toList t.data.toList)) ∧ w' = w := by
  have hs' : (s.size : Int) ≤ 65535 := by omega
  have ht' : (t.size : Int) ≤ 65535 := by omega
  have hl : s.data.toList.length = s.size := by rw [Array.length_toList]; rfl
  have HF := hid (show ∀ j, j ≤ s.size → (∀ i, i < j → Lib.occAt s.data.toList t.data.toList i = false) → Lib.occAt s.data.toList t.data.toList j = true → Lib.index s.data.toList t.data.toList = (j : Int) from fun j h1 h2 h3 => Lib.index_first (by rw [hl]; exact h1) h3 h2)
  have HN := hid (show (∀ i, i ≤ s.size → Lib.occAt s.data.toList t.data.toList i = false) → Lib.index s.data.toList t.data.toList = -1 from fun h => Lib.index_none (fun i hi => h i (by rw [hl] at hi; exact hi)))
  have HO := hid (occ_ext s t)
  have HU := hid (occ_out s t)
  obtain ⟨V, hV⟩ : ∃ V, Lib.index s.data.toList t.data.toList = V := ⟨_, rfl⟩
  rw [hV] at HF HN ⊢
  clear hV hl
  go_enter Tryz.func64, Tryz.ntmps64
  go_wp2_with fail
  go_loopw [5] (fun q5 wr => ∃ j : Nat, j ≤ s.size + 1 ∧ q5 = .int .i64 j ∧ (∀ i, i < j → Lib.occAt s.data.toList t.data.toList i = false) ∧ wr = w) (fun q5 _ => s.size + 1 - (intOf q5).toNat)
  case atStart => exact ⟨0, Nat.zero_le _, rfl, fun _ h => absurd h (Nat.not_lt_zero _), rfl⟩
  case round =>
    obtain ⟨j, hj1, rfl, hno, rfl⟩ := hrel
    have HNO := hid hno
    clear hno
    by_cases hlt : j + t.size ≤ s.size
    · have hlt' : (j : Int) + t.size ≤ s.size := by omega
      have c1 : (0 : Int) ≤ j := by omega
      have c2 : (j : Int) ≤ (j : Int) + t.size := by omega
      have hon := HO.out j hlt
      have ee : s.extract (j : Int).toNat ((j : Int) + t.size).toNat = s.extract j (j + t.size) := by
        rw [show ((j : Int) + t.size).toNat = j + t.size by omega, Int.toNat_natCast]
      by_cases he : s.extract j (j + t.size) = t
      · have HV := hid (HF.out j (by omega) HNO.out (by rw [hon]; exact decide_eq_true he))
        have e1 : ((s.extract j (j + t.size)).toList == t.toList) = true := by rw [he]; exact beq_self_eq_true _
        clear hon he
        go_wp2_with fail
        go_ret
        exact ⟨by rw [HV.out]; rfl, rfl⟩
      · have HB := hid (hon.trans (decide_eq_false he))
        have e1 : ((s.extract j (j + t.size)).toList == t.toList) = false := by rw [beq_eq_false_iff_ne]; exact fun e => he (toList_inj e)
        clear hon he
        go_wp2_with fail
        go_roundw
        case rel => exact ⟨j + 1, by omega, by go_num, fun i hi => by
          rcases Nat.lt_succ_iff_lt_or_eq.1 hi with h | rfl
          · exact HNO.out i h
          · exact HB.out, by trivial⟩
        case measure => simp [intOf]; omega
    · have hlt3 : ¬ (j : Int) + t.size ≤ s.size := by omega
      have HV := hid (HN.out (fun i hi => by
        by_cases h : i < j
        · exact HNO.out i h
        · exact HU.out i (by omega) hi))
      go_wp2_with fail
      go_ret
      exact ⟨by rw [HV.out]; rfl, rfl⟩
end Go.Proofs.YtecabbifkcnbeaaGreatDoor
/-
  Bytes of one's own, appended to: what is no block of bytes stays. The reference's write of a text.
-/
namespace Go.Proofs.YtecabbifkcnbeaaGreatDoor
open Go.RowKit
/-- What lies below B stays, and so does every block that is none of bytes. -/
structure Gk (B : Nat) (w w' : World) : Prop where
  below : Below B w w'
  other : ∀ (q : Nat) (cs : Array Value) (ty : TypeId), ty ≠ 5 → w.heap[q]? = some (.cells cs ty) → w'.heap[q]? = some (.cells cs ty)
theorem Gk.refl (B : Nat) (w : World) : Gk B w w := ⟨Below.refl _ _, fun _ _ _ _ h => h⟩
theorem Gk.trans {B : Nat} {a b c : World} (h : Gk B a b) (k : Gk B b c) : Gk B a c := ⟨h.below.trans k.below, fun q cs ty ht hq => k.other q cs ty ht (h.other q cs ty ht hq)⟩
theorem Gk.ofExt {B : Nat} {w w' : World} (h : Ext w w') (hB : B ≤ w.heap.size) : Gk B w w' := ⟨Below.mono h hB, fun _ _ _ _ hq => h.block hq⟩
theorem Gk.grown {B : Nat} {w w1 w' : World} {v : Value} {l : List UInt8} (hown : Bs B w v l) (hx : Ext w w1) (hg : w1.grownBy w' v.ownBlock) (hb : Below B w w') : Gk B w w' := by
  refine ⟨hb, fun q cs ty hty hq => ?_⟩
  have h1 := hx.block hq
  have hne : some q ≠ v.ownBlock := fun e => by
    rcases hown.2 with ⟨hv, _⟩ | ⟨g, cap, cur, hv, _, hcur, _⟩
    · rw [hv] at e; cases e
    · rw [hv] at e
      have e' : some q = some g := e
      injection e' with e'
      subst e'
      rw [hq] at hcur
      injection hcur with e1
      injection e1 with _ e2
      exact hty e2
  rw [hg.block q (lt_of_block h1) hne]
  exact h1
theorem run_litG {w : World} {ty : TypeId} (B : Nat) (v : Value) (l m : List UInt8) (hB : B ≤ w.heap.size) (hown : Bs B w v l) (hlim : l.length + m.length ≤ 140737488355328) :
    ∃ ao c w', (Builtin.append_ #[177, 177] 177 #[v, .slice (some ⟨w.heap.size, 0, none⟩) m.length m.length]).run Tryz.prog (w.alloc (.cells (Lib.byteCells m).toArray ty)) = .ok (.slice ao (l ++ m).length c) w' ∧ Bs B w' (.slice ao (l ++ m).length c) (l ++ m) ∧ Gk B w w' := by
  obtain ⟨i, hi, hz0, hz1, hz2⟩ := info_parts byteInfo
  obtain ⟨v', w', hr, ho, hg, _, _⟩ := run_append_own_at (P := Tryz.prog) (w.alloc (.cells (Lib.byteCells m).toArray ty)) B 177 177 5 i (.int .u8 0) 1 1 Tryz.underlying177 hi hz0 hz1 hz2 rfl (by decide) v l.length (Lib.byteCells l) (hown.alloc _) ⟨w.heap.size, 0, none⟩ m.length m.length (Lib.byteCells m) (by rw [Lib.byteCells_length]; omega) (news_at m) (fun u hu => by obtain ⟨b, _, rfl⟩ := List.mem_map.1 hu; rfl) (by unfold maxLen; omega) (by omega) (by rw [blkS]; omega)
  have ho2 : Bs B w' v' (l ++ m) := by
    unfold Bs
    rw [List.length_append, app_len]
    exact ho
  obtain ⟨ao, c, rfl⟩ := ho2.shape
  exact ⟨ao, c, w', hr, ho2, Gk.grown hown (Ext.alloc _ _) hg (Below.grown ((Below.refl B w).alloc hB _) hg (by rw [blkS]; omega) (fun k hk => (World.ownsRow.lt hown k hk).1))⟩
theorem app_litG {ops : Array Oper} {rest : List Oper} {o : Oper} {a : Act} {Q : Exit → Act → World → Prop} {w : World} {cs : Array Value} {ty : TypeId} (hgd : o.guard = none) (s x : Operand)
    (ho : o.op = .call { callee := .builtin .append, args := #[s, x], argTypes := #[177, 177] }) (hty : o.type = 177) (B : Nat) (v : Value) (l m : List UInt8) (hs : a.eval s = v) (hB : B ≤ w.heap.size) (hown : Bs B w v l)
    (hcs : cs = (Lib.byteCells m).toArray) {k : Nat} (hk : k = m.length) (hx : a.eval x = .slice (some ⟨w.heap.size, 0, none⟩) k k) (hlim : l.length + m.length ≤ 140737488355328)
    (h : ∀ ao c w', Bs B w' (.slice ao (l ++ m).length c) (l ++ m) → Gk B w w' → wpList Tryz.prog ops Q rest (a.put o.dst (.slice ao (l ++ m).length c)) w') : wpList Tryz.prog ops Q (o :: rest) a (w.alloc (.cells cs ty)) := by
  subst hcs
  subst hk
  refine wpList_plain hgd fun K hK => ?_
  obtain ⟨ao, c, w', hr, h2, h3⟩ := run_litG (ty := ty) B v l m hB hown hlim
  unfold Oper.wp execOp
  simp only [ho, hty, resolve, invoke, builtin, Sem.run_bind, Sem.run_pure, Result.andThen_ok, List.map_toArray, List.map_cons, List.map_nil, hs, hx, hr]
  exact hK _ _ (h ao c w' h2 h3)
theorem step_litG {ops : Array Oper} {o : Oper} {a : Act} {K : Act → World → Prop} {Q : Exit → Act → World → Prop} {E : Prop} {w : World} {cs : Array Value} {ty : TypeId} (hgd : o.guard = none) (s x : Operand)
    (ho : o.op = .call { callee := .builtin .append, args := #[s, x], argTypes := #[177, 177] }) (hty : o.type = 177) (B : Nat) (v : Value) (l m : List UInt8) (hs : a.eval s = v) (hB : B ≤ w.heap.size) (hown : Bs B w v l)
    (hcs : cs = (Lib.byteCells m).toArray) {k : Nat} (hk : k = m.length) (hx : a.eval x = .slice (some ⟨w.heap.size, 0, none⟩) k k) (hlim : l.length + m.length ≤ 140737488355328)
    (h : ∀ ao c w', Bs B w' (.slice ao (l ++ m).length c) (l ++ m) → Gk B w w' → K (a.put o.dst (.slice ao (l ++ m).length c)) w') :
    if Region.wanted o (yielded ops a.tmps) = true then Oper.wp Tryz.prog o a (w.alloc (.cells cs ty)) K Q else E := by
  have hw : Region.wanted o (yielded ops a.tmps) = true := by simp [Region.wanted, hgd]
  rw [if_pos hw]
  subst hcs
  subst hk
  obtain ⟨ao, c, w', hr, h2, h3⟩ := run_litG (ty := ty) B v l m hB hown hlim
  unfold Oper.wp execOp
  simp only [ho, hty, resolve, invoke, builtin, Sem.run_bind, Sem.run_pure, Result.andThen_ok, List.map_toArray, List.map_cons, List.map_nil, hs, hx, hr]
  exact h ao c w' h2 h3
theorem app_strG {ops : Array Oper} {rest : List Oper} {o : Oper} {a : Act} {Q : Exit → Act → World → Prop} {w : World} (hgd : o.guard = none) (sl x : Operand)
    (ho : o.op = .call { callee := .builtin .append, args := #[sl, x], argTypes := #[177, 9] }) (B : Nat) (v : Value) (l : List UInt8) (hs : a.eval sl = v) (hB : B ≤ w.heap.size) (hown : Bs B w v l)
    (s : ByteArray) (hx : a.eval x = .string s) (hlim : l.length + s.size ≤ 140737488355328)
    (h : ∀ ao c w', Bs B w' (.slice ao (l ++ s.data.toList).length c) (l ++ s.data.toList) → Gk B w w' → wpList Tryz.prog ops Q rest (a.put o.dst (.slice ao (l ++ s.data.toList).length c)) w') : wpList Tryz.prog ops Q (o :: rest) a w := by
  obtain ⟨i, hi, hz0, hz1, hz2⟩ := info_parts byteInfo
  refine Lib.wpList_append_own_string w hgd sl x 177 9 ho B 5 i Tryz.underlying177 Tryz.underlying9 hi hz0 hz1 hz2 v l.length (Lib.byteCells l) hs hown s hx (by unfold maxLen; omega) hlim hB ?_
  intro v' w' h1 h2 _
  have ho2 : Bs B w' v' (l ++ s.data.toList) := by
    unfold Bs
    rw [List.length_append, app_len, Array.length_toList]
    exact h1
  obtain ⟨ao, c, rfl⟩ := ho2.shape
  exact h ao c w' ho2 (Gk.grown hown (Ext.refl _) h2 (Below.grown (Below.refl B w) h2 hB (fun k hk => (World.ownsRow.lt hown k hk).1)))
end Go.Proofs.YtecabbifkcnbeaaGreatDoor
/-
  worth.size by a contract.
-/
namespace Go.Proofs.YtecabbifkcnbeaaGreatDoor
open Go.RowKit
attribute [local go_sem] as_un_tx as_un_li as_tu_tx as_tu_li as_in_tx as_in_li as_tx_tx as_tx_li as_li_tx as_li_li
end Go.Proofs.YtecabbifkcnbeaaGreatDoor
/-
  Of, Size, Same, Compare of package worth, each by a contract.
-/
namespace Go.Proofs.YtecabbifkcnbeaaGreatDoor
open Go.RowKit
/-- What Size tells. -/
def sizeN (t : T) : Int := if t.may then t.size else 0
def cmpN (t t' : T) : Int := if t.may then (if t'.may then T.cmp t t' else -1) else (if t'.may then 1 else 0)
def sameN (t t' : T) : Bool := decide t.may && decide t'.may && decide (T.cmp t t' = 0)
end Go.Proofs.YtecabbifkcnbeaaGreatDoor
/-
  worth.Text by a contract.
-/
namespace Go.Proofs.YtecabbifkcnbeaaGreatDoor
open Go.RowKit
theorem convert_none (w : World) (c : Nat) : (convert 177 9 (.slice none 0 c)).run Tryz.prog w = .ok (.string ⟨#[]⟩) w := by kernel_rfl
set_option maxRecDepth 100000 in
theorem Bs.convert {B : Nat} {w : World} {ao : Option Addr} {c : Nat} {m : List UInt8} (h : Bs B w (.slice ao m.length c) m) : (convert 177 9 (.slice ao m.length c)).run Tryz.prog w = .ok (.string ⟨m.toArray⟩) w := by
  obtain ⟨h1, h2⟩ := h
  rcases h2 with ⟨hv, h0⟩ | ⟨g, cap, cur, hv, hg, hb, h3, h4, h5, h6⟩
  · injection hv with e1 e2 e3
    subst e1
    have e : m = [] := List.eq_nil_of_length_eq_zero h0
    subst e
    exact convert_none w c
  · injection hv with e1 e2 e3
    subst e1
    refine run_convert_bytes_back w 177 9 5 ⟨g, 0, none⟩ c m Tryz.underlying177 Tryz.underlying5 Tryz.underlying9 (fun j hj => ?_)
    have ea : Addr.add ⟨g, 0, none⟩ j = ⟨g, j, none⟩ := by
      by_cases hj : j = 0
      · subst hj; simp [Addr.add]
      · simp [Addr.add, hj]
    rw [ea]
    refine cell_of hb ?_
    have e : (cur.toList.take (m.length * 1))[j]? = some (.int .u8 (m[j].toNat : Int)) := by rw [h6]; simp [Lib.byteCells, hj]
    rw [List.getElem?_take_of_lt (by omega)] at e
    simpa using e
/-- What Text answers. -/
def textV (t : T) : Value := if t.may then (if t.wr.length ≤ 1048576 then .tuple #[.string ⟨t.wr.toArray⟩, .int .i64 0] else .tuple #[.string ⟨#[]⟩, .int .i64 2]) else .tuple #[.string ⟨#[]⟩, .int .i64 1]
end Go.Proofs.YtecabbifkcnbeaaGreatDoor
/-
  The document's package words: kinds and rep, by contracts.
-/
namespace Go.Proofs.YtecabbifkcnbeaaGreatDoor
open Go.RowKit
set_option maxRecDepth 100000 in
set_option maxHeartbeats 2000000 in
theorem rkinds_any10 {K : Nat → Prop} {d : Nat} (a : Option Addr) (c : Nat) (ts : List T) (b : Nat) (ks : List Int) (bb : Bool) (w : World) (h : RdL K w d a ts) (hm : ks.length ≤ ts.length) (hc : ∀ i, (hi : i < ks.length) → w.cell? ⟨b, i, none⟩ = some (.int .i64 ks[i]))
    (hT : (∀ i, (hi : i < ks.length) → (hj : i < ts.length) → ts[i].kind = ks[i]) → bb = true) (hF : ∀ i, (hi : i < ks.length) → (hj : i < ts.length) → ts[i].kind ≠ ks[i] → bb = false) : Calls Tryz.prog 61 #[.slice a ts.length c, .slice (some ⟨b, 0, none⟩) ks.length ks.length] w fun e w' => e = .returned (.bool bb) ∧ Ext w w' := by
  have HK := hid h
  have HC := hid hc
  have HT := hid hT
  have HF := hid hF
  have hts : (ts.length : Int) ≤ 140737488351232 := by have := h.1; omega
  obtain ⟨n, hne⟩ : ∃ n, ts.length = n := ⟨_, rfl⟩
  have HNE := hid hne
  obtain ⟨m, hme⟩ : ∃ m, ks.length = m := ⟨_, rfl⟩
  have HME := hid hme
  rw [hne] at hts
  rw [hne, hme] at hm
  rw [hne, hme]
  have hm' : (m : Int) ≤ n := by omega
  have HM := hid hm
  clear h hc hT hF hne hme hm
  go_enter Tryz.func61, Tryz.ntmps61
  go_wp2_with fail
  go_loopw [5] (fun q5 wr => ∃ j : Nat, j ≤ m ∧ q5 = .int .i64 j ∧ (∀ i, (hi : i < ks.length) → (hj : i < ts.length) → i < j → ts[i].kind = ks[i]) ∧ Ext w wr) (fun q5 _ => m - (intOf q5).toNat)
  case atStart => exact ⟨0, Nat.zero_le _, rfl, fun _ _ _ h => absurd h (Nat.not_lt_zero _), Ext.refl _⟩
  case round =>
    obtain ⟨j, hj, rfl, hall, hx⟩ := hrel
    have HX := hid hx
    clear hx
    have HALL := hid hall
    clear hall
    by_cases hlt : j < m
    · have hlt' : (j : Int) < m := by omega
      have hjk : j < ks.length := by rw [HME.out]; exact hlt
      have hjt : j < ts.length := by have := HM.out; rw [HNE.out]; omega
      have hjn : (j : Int) < n := by omega
      obtain ⟨g, off, k', n', x', a', l', c', rfl, hg, h4, hrd⟩ := HK.out.kid hjt
      obtain ⟨o0, o1, o2, o3⟩ := Four.keep h4 (HX.out.kp K) hg
      have p0 := (HX.out.kp (fun _ => True)).cell (HC.out j hjk) trivial
      have hgl := lt_of_cell o0
      have hgl2 := lt_of_cell p0
      have HKD := hid (show ts[j].kind = k' from hrd.kind_eq)
      have HFJ := hid (HF.out j hjk hjt)
      clear hrd h4
      obtain ⟨q, hq⟩ : ∃ q, ks[j] = q := ⟨_, rfl⟩
      have HQ := hid hq
      rw [hq] at p0 HFJ
      clear hq
      by_cases e3 : k' = q
      · have q1 : (k' == q) = true := by rw [beq_iff_eq]; exact e3
        have q2 : (k' != q) = false := by unfold bne; rw [q1]; rfl
        have HE := hid (HKD.out.trans (e3.trans HQ.out.symm))
        clear e3
        go_upto_region 4 with fail
        go_quiet (fail)
        go_wp2_with fail
        go_roundw
        case rel => exact ⟨j + 1, hlt, by go_num, fun i hi hj h => by
          rcases Nat.lt_succ_iff_lt_or_eq.1 h with h | rfl
          · exact HALL.out i hi hj h
          · exact HE.out, HX.out.drewN _⟩
        case measure => simp [intOf]; omega
      · have q1 : (k' == q) = false := by rw [beq_eq_false_iff_ne]; exact e3
        have q2 : (k' != q) = true := by unfold bne; rw [q1]; rfl
        have HB := hid (HFJ.out (by rw [HKD.out]; exact e3))
        clear e3 o1 o2 o3
        go_upto_region 4 with fail
        go_quiet (fail)
        go_wp2_with fail
        go_ret
        exact ⟨by rw [HB.out]; rfl, HX.out.drewN _⟩
    · have HB := hid (HT.out (fun i hi hj' => HALL.out i hi hj' (by have := HME.out; omega)))
      have hlt3 : ¬ (j : Int) < m := by omega
      go_wp2_with fail
      go_ret
      exact ⟨by rw [HB.out]; rfl, HX.out⟩
end Go.Proofs.YtecabbifkcnbeaaGreatDoor
