/-
  Bytes of one's own: a literal or a text is appended.
-/
import Derived.Test.YtecabbifkcnbeaaGreatDoorVal
import Derived.Lib.AppendStr
import Derived.Lib.UnsafeStr
import Derived.Laws.OwnMore
import Derived.Maps.AppendAt
import Derived.Deep.RegionHeld3
import Derived.Test.YtecabbifkcnbeaaGreatDoorComp
import Derived.Laws.BitsAllLaws
import Derived.Lib.ItoaLen
namespace Go.Proofs.YtecabbifkcnbeaaGreatDoor
open Go.RowKit
theorem byteInfo : (Tryz.prog.info? 5).map (fun i => (i.zero, i.size, i.bytes)) = some (some (.int .u8 0), 1, 1) := by kernel_rfl
/-- The slice v of bytes lies in memory of one's own, from B on, and reads as l. -/
def Bs (B : Nat) (w : World) (v : Value) (l : List UInt8) : Prop := w.ownsRow B 5 1 v l.length (Lib.byteCells l)
theorem Bs.nil (B : Nat) (w : World) : Bs B w (.slice none 0 0) [] := World.ownsRow_nil _ _ _ _
theorem Bs.shape {B : Nat} {w : World} {v : Value} {l : List UInt8} (h : Bs B w v l) : ∃ ao c, v = .slice ao l.length c := by
  rcases h.2 with ⟨hv, h0⟩ | ⟨g, cap, cur, hv, _⟩
  · exact ⟨none, 0, by rw [hv, h0]⟩
  · exact ⟨_, _, hv⟩
theorem Bs.alloc {B : Nat} {w : World} {v : Value} {l : List UInt8} (h : Bs B w v l) (o : Obj) : Bs B (w.alloc o) v l := World.ownsRow.alloc h o
theorem Bs.ext {B : Nat} {w w' : World} {v : Value} {l : List UInt8} (h : Bs B w v l) (hx : Ext w w') : Bs B w' v l := by
  obtain ⟨h1, h2⟩ := h
  refine ⟨h1, ?_⟩
  rcases h2 with h2 | ⟨g, cap, cur, hv, hg, hb, hr⟩
  · exact .inl h2
  · exact .inr ⟨g, cap, cur, hv, hg, hx.block hb, hr⟩
theorem app_len {l m : List UInt8} : Lib.byteCells (l ++ m) = Lib.byteCells l ++ Lib.byteCells m := by simp [Lib.byteCells]
theorem news_at {w : World} {ty : TypeId} (m : List UInt8) (j : Nat) (u : Value) (h : (Lib.byteCells m)[j]? = some u) : (w.alloc (.cells (Lib.byteCells m).toArray ty)).cell? (Addr.add ⟨w.heap.size, 0, none⟩ j) = some u := by
  have e : Addr.add ⟨w.heap.size, 0, none⟩ j = ⟨w.heap.size, j, none⟩ := by
    by_cases hj : j = 0
    · subst hj; simp [Addr.add]
    · simp [Addr.add, hj]
  rw [e]
  exact cell_of (blk0 w _) (by simpa using h)
theorem run_lit {w : World} {ty : TypeId} (B : Nat) (v : Value) (l m : List UInt8) (hB : B ≤ w.heap.size) (hown : Bs B w v l) (hlim : l.length + m.length ≤ 140737488355328) :
    ∃ ao c w', (Builtin.append_ #[177, 177] 177 #[v, .slice (some ⟨w.heap.size, 0, none⟩) m.length m.length]).run Tryz.prog (w.alloc (.cells (Lib.byteCells m).toArray ty)) = .ok (.slice ao (l ++ m).length c) w' ∧ Bs B w' (.slice ao (l ++ m).length c) (l ++ m) ∧ Below B w w' := by
  obtain ⟨i, hi, hz0, hz1, hz2⟩ := info_parts byteInfo
  obtain ⟨v', w', hr, ho, hg, _, _⟩ := run_append_own_at (P := Tryz.prog) (w.alloc (.cells (Lib.byteCells m).toArray ty)) B 177 177 5 i (.int .u8 0) 1 1 Tryz.underlying177 hi hz0 hz1 hz2 rfl (by decide) v l.length (Lib.byteCells l) (hown.alloc _) ⟨w.heap.size, 0, none⟩ m.length m.length (Lib.byteCells m) (by rw [Lib.byteCells_length]; omega) (news_at m) (fun u hu => by obtain ⟨b, _, rfl⟩ := List.mem_map.1 hu; rfl) (by unfold maxLen; omega) (by omega) (by rw [blkS]; omega)
  have ho2 : Bs B w' v' (l ++ m) := by
    unfold Bs
    rw [List.length_append, app_len]
    exact ho
  obtain ⟨ao, c, rfl⟩ := ho2.shape
  exact ⟨ao, c, w', hr, ho2, Below.grown ((Below.refl B w).alloc hB _) hg (by rw [blkS]; omega) (fun k hk => (World.ownsRow.lt hown k hk).1)⟩
theorem app_lit {ops : Array Oper} {rest : List Oper} {o : Oper} {a : Act} {Q : Exit → Act → World → Prop} {w : World} {cs : Array Value} {ty : TypeId} (hgd : o.guard = none) (s x : Operand)
    (ho : o.op = .call { callee := .builtin .append, args := #[s, x], argTypes := #[177, 177] }) (hty : o.type = 177) (B : Nat) (v : Value) (l m : List UInt8) (hs : a.eval s = v) (hB : B ≤ w.heap.size) (hown : Bs B w v l)
    (hcs : cs = (Lib.byteCells m).toArray) {k : Nat} (hk : k = m.length) (hx : a.eval x = .slice (some ⟨w.heap.size, 0, none⟩) k k) (hlim : l.length + m.length ≤ 140737488355328)
    (h : ∀ ao c w', Bs B w' (.slice ao (l ++ m).length c) (l ++ m) → Below B w w' → wpList Tryz.prog ops Q rest (a.put o.dst (.slice ao (l ++ m).length c)) w') : wpList Tryz.prog ops Q (o :: rest) a (w.alloc (.cells cs ty)) := by
  subst hcs
  subst hk
  refine wpList_plain hgd fun K hK => ?_
  obtain ⟨ao, c, w', hr, h2, h3⟩ := run_lit (ty := ty) B v l m hB hown hlim
  unfold Oper.wp execOp
  simp only [ho, hty, resolve, invoke, builtin, Sem.run_bind, Sem.run_pure, Result.andThen_ok, List.map_toArray, List.map_cons, List.map_nil, hs, hx, hr]
  exact hK _ _ (h ao c w' h2 h3)
theorem step_lit {ops : Array Oper} {o : Oper} {a : Act} {K : Act → World → Prop} {Q : Exit → Act → World → Prop} {E : Prop} {w : World} {cs : Array Value} {ty : TypeId} (hgd : o.guard = none) (s x : Operand)
    (ho : o.op = .call { callee := .builtin .append, args := #[s, x], argTypes := #[177, 177] }) (hty : o.type = 177) (B : Nat) (v : Value) (l m : List UInt8) (hs : a.eval s = v) (hB : B ≤ w.heap.size) (hown : Bs B w v l)
    (hcs : cs = (Lib.byteCells m).toArray) {k : Nat} (hk : k = m.length) (hx : a.eval x = .slice (some ⟨w.heap.size, 0, none⟩) k k) (hlim : l.length + m.length ≤ 140737488355328)
    (h : ∀ ao c w', Bs B w' (.slice ao (l ++ m).length c) (l ++ m) → Below B w w' → K (a.put o.dst (.slice ao (l ++ m).length c)) w') :
    if Region.wanted o (yielded ops a.tmps) = true then Oper.wp Tryz.prog o a (w.alloc (.cells cs ty)) K Q else E := by
  have hw : Region.wanted o (yielded ops a.tmps) = true := by simp [Region.wanted, hgd]
  rw [if_pos hw]
  subst hcs
  subst hk
  obtain ⟨ao, c, w', hr, h2, h3⟩ := run_lit (ty := ty) B v l m hB hown hlim
  unfold Oper.wp execOp
  simp only [ho, hty, resolve, invoke, builtin, Sem.run_bind, Sem.run_pure, Result.andThen_ok, List.map_toArray, List.map_cons, List.map_nil, hs, hx, hr]
  exact h ao c w' h2 h3
theorem app_str {ops : Array Oper} {rest : List Oper} {o : Oper} {a : Act} {Q : Exit → Act → World → Prop} {w : World} (hgd : o.guard = none) (sl x : Operand)
    (ho : o.op = .call { callee := .builtin .append, args := #[sl, x], argTypes := #[177, 9] }) (B : Nat) (v : Value) (l : List UInt8) (hs : a.eval sl = v) (hB : B ≤ w.heap.size) (hown : Bs B w v l)
    (s : ByteArray) (hx : a.eval x = .string s) (hlim : l.length + s.size ≤ 140737488355328)
    (h : ∀ ao c w', Bs B w' (.slice ao (l ++ s.data.toList).length c) (l ++ s.data.toList) → Below B w w' → wpList Tryz.prog ops Q rest (a.put o.dst (.slice ao (l ++ s.data.toList).length c)) w') : wpList Tryz.prog ops Q (o :: rest) a w := by
  obtain ⟨i, hi, hz0, hz1, hz2⟩ := info_parts byteInfo
  refine Lib.wpList_append_own_string w hgd sl x 177 9 ho B 5 i Tryz.underlying177 Tryz.underlying9 hi hz0 hz1 hz2 v l.length (Lib.byteCells l) hs hown s hx (by unfold maxLen; omega) hlim hB ?_
  intro v' w' h1 h2 _
  have ho2 : Bs B w' v' (l ++ s.data.toList) := by
    unfold Bs
    rw [List.length_append, app_len, Array.length_toList]
    exact h1
  obtain ⟨ao, c, rfl⟩ := ho2.shape
  exact h ao c w' ho2 (Below.grown (Below.refl B w) h2 hB (fun k hk => (World.ownsRow.lt hown k hk).1))
end Go.Proofs.YtecabbifkcnbeaaGreatDoor
/-
  writeText by a contract: a text's bytes between quotes, each by itself or by its digits.
-/
namespace Go.Proofs.YtecabbifkcnbeaaGreatDoor
open Go.RowKit
def hexL : List UInt8 := [48, 49, 50, 51, 52, 53, 54, 55, 56, 57, 97, 98, 99, 100, 101, 102]
/-- How a byte is written. -/
def esc (b : UInt8) : List UInt8 :=
  if b = 34 ∨ b = 92 then [92, b] else if 32 ≤ b.toNat ∧ b.toNat ≤ 126 then [b] else [92, 120, hexL.getD (b.toNat / 16) 0, hexL.getD (b.toNat % 16) 0]
theorem esc_len (b : UInt8) : (esc b).length ≤ 4 := by unfold esc; split; · simp
                                                       split <;> simp
theorem ret_sl {a : Option Addr} {n m c : Nat} (h : n = m) : Ending.returned (.slice a n c) = .returned (.slice a m c) := by rw [h]
def escs (x : List UInt8) : List UInt8 := x.flatMap esc
theorem escs_take (x : ByteArray) (j : Nat) (h : j < x.data.toList.length) : escs (x.data.toList.take (j + 1)) = escs (x.data.toList.take j) ++ esc x.data.toList[j] := by
  unfold escs
  rw [List.take_add_one, List.getElem?_eq_getElem h, List.flatMap_append]
  simp
theorem escs_len (l : List UInt8) : (escs l).length ≤ 4 * l.length := by
  induction l with
  | nil => simp [escs]
  | cons b r ih => have := esc_len b; unfold escs at *; simp only [List.flatMap_cons, List.length_append, List.length_cons]; omega
theorem hex_at (k : Nat) (h : k < (ByteArray.mk #[48, 49, 50, 51, 52, 53, 54, 55, 56, 57, 97, 98, 99, 100, 101, 102]).size) : (ByteArray.mk #[48, 49, 50, 51, 52, 53, 54, 55, 56, 57, 97, 98, 99, 100, 101, 102])[k] = hexL.getD k 0 := by
  have h2 : k < 16 := h
  have key : ∀ k : Fin 16, (ByteArray.mk #[48, 49, 50, 51, 52, 53, 54, 55, 56, 57, 97, 98, 99, 100, 101, 102])[k.1]'(show k.1 < 16 from k.2) = hexL.getD k.1 0 := by decide
  exact key ⟨k, h2⟩
theorem hex_lit (b : UInt8) {h1 : ((b.toNat : Int) / 16).toNat < (ByteArray.mk #[48, 49, 50, 51, 52, 53, 54, 55, 56, 57, 97, 98, 99, 100, 101, 102]).size} {h2 : ((b.toNat : Int) % 16).toNat < (ByteArray.mk #[48, 49, 50, 51, 52, 53, 54, 55, 56, 57, 97, 98, 99, 100, 101, 102]).size} :
    #[Value.int .u8 92, .int .u8 120, .int .u8 ((ByteArray.mk #[48, 49, 50, 51, 52, 53, 54, 55, 56, 57, 97, 98, 99, 100, 101, 102])[((b.toNat : Int) / 16).toNat]'h1).toNat, .int .u8 ((ByteArray.mk #[48, 49, 50, 51, 52, 53, 54, 55, 56, 57, 97, 98, 99, 100, 101, 102])[((b.toNat : Int) % 16).toNat]'h2).toNat] = (Lib.byteCells [92, 120, hexL.getD (b.toNat / 16) 0, hexL.getD (b.toNat % 16) 0]).toArray := by
  rw [hex_at, hex_at]
  rw [show ((b.toNat : Int) / 16).toNat = b.toNat / 16 by omega, show ((b.toNat : Int) % 16).toNat = b.toNat % 16 by omega]
  rfl
/-- How a text is written. -/
def quo (x : ByteArray) : List UInt8 := 34 :: (escs x.data.toList ++ [34])
end Go.Proofs.YtecabbifkcnbeaaGreatDoor
/-
  write and writeList, each by a contract: a value's text, behind bytes of one's own.
-/
namespace Go.Proofs.YtecabbifkcnbeaaGreatDoor
open Go.RowKit
attribute [local go_sem] as_un_un as_un_tu as_un_in as_un_tx as_un_li as_tu_un as_tu_tu as_tu_in as_tu_tx as_tu_li as_in_un as_in_tu as_in_in as_in_tx as_in_li as_tx_un as_tx_tu as_tx_in as_tx_tx as_tx_li as_li_un as_li_tu as_li_in as_li_tx as_li_li
namespace T
mutual
/-- A value's text. -/
def wr : T → List UInt8
  | node k n x ks => if k = 1 then [117, 110, 105, 116] else if k = 2 then (if n = 1 then [121, 101, 115] else [110, 111]) else if k = 3 then Lib.itoa n else if k = 4 then quo x else 91 :: (wrL ks ++ [93])
def wrL : List T → List UInt8 | [] => [] | t :: r => wr t ++ wrR r
def wrR : List T → List UInt8 | [] => [] | t :: r => [44, 32] ++ (wr t ++ wrR r)
end
mutual
def noInt : T → Prop | node k _ _ ks => k ≠ 3 ∧ noIntL ks
def noIntL : List T → Prop | [] => True | t :: r => noInt t ∧ noIntL r
end
mutual
/-- All numbers are ones of 64 bits. -/
def fitI : T → Prop | node k n _ ks => (k = 3 → -9223372036854775808 ≤ n ∧ n ≤ 9223372036854775807) ∧ fitIL ks
def fitIL : List T → Prop | [] => True | t :: r => fitI t ∧ fitIL r
end
theorem noIntL_mem {l : List T} (h : noIntL l) {u : T} (hu : u ∈ l) : noInt u := by
  induction l with
  | nil => cases hu
  | cons x r ih =>
    rcases List.mem_cons.1 hu with rfl | hu
    · exact h.1
    · exact ih h.2 hu
theorem fitIL_mem {l : List T} (h : fitIL l) {u : T} (hu : u ∈ l) : fitI u := by
  induction l with
  | nil => cases hu
  | cons x r ih =>
    rcases List.mem_cons.1 hu with rfl | hu
    · exact h.1
    · exact ih h.2 hu
mutual
theorem wr_len : ∀ t : T, fitI t → (wr t).length + 2 ≤ 26 * size t
  | node k n x ks, h => by
    have ih := wrL_len ks h.2
    have hq : (quo x).length ≤ 4 * x.size + 2 := by
      have := escs_len x.data.toList
      have e : x.data.toList.length = x.size := by rw [Array.length_toList]; rfl
      simp only [quo, List.length_cons, List.length_append, List.length_nil]
      omega
    simp only [wr, size]
    by_cases h1 : k = 1
    · rw [if_pos h1]; simp; omega
    rw [if_neg h1]
    by_cases h2 : k = 2
    · rw [if_pos h2]; split <;> simp <;> omega
    rw [if_neg h2]
    by_cases h3 : k = 3
    · rw [if_pos h3]
      have := Lib.itoa_length_le n (h.1 h3).1 (h.1 h3).2
      omega
    rw [if_neg h3]
    by_cases h4 : k = 4
    · rw [if_pos h4]; omega
    rw [if_neg h4]
    simp only [List.length_cons, List.length_append, List.length_nil]
    omega
theorem wrL_len : ∀ l : List T, fitIL l → (wrL l).length ≤ 26 * sizeL l
  | [], _ => by simp [wrL, sizeL]
  | t :: r, h => by
    have := wr_len t h.1
    have := wrR_len r h.2
    simp only [wrL, sizeL, List.length_append]
    omega
theorem wrR_len : ∀ l : List T, fitIL l → (wrR l).length ≤ 26 * sizeL l
  | [], _ => by simp [wrR, sizeL]
  | t :: r, h => by
    have := wr_len t h.1
    have := wrR_len r h.2
    simp only [wrR, sizeL, List.length_append, List.length_cons, List.length_nil]
    omega
end
theorem fitIL_take {l : List T} (h : fitIL l) (j : Nat) : fitIL (l.take j) := by
  induction l generalizing j with
  | nil => simp [fitIL]
  | cons x r ih =>
    cases j with
    | zero => simp [fitIL]
    | succ j => rw [List.take_succ_cons]; exact ⟨h.1, ih h.2 j⟩
theorem wrR_append (a b : List T) : wrR (a ++ b) = wrR a ++ wrR b := by
  induction a with
  | nil => simp [wrR]
  | cons x r ih => simp only [List.cons_append, wrR, ih, List.append_assoc]
theorem wrL_take (l : List T) (j : Nat) (h : j < l.length) : wrL (l.take (j + 1)) = wrL (l.take j) ++ ((if j = 0 then [] else [44, 32]) ++ wr l[j]) := by
  rw [take_succ' l j h]
  cases l with
  | nil => exact absurd h (Nat.not_lt_zero _)
  | cons t r =>
    cases j with
    | zero => simp [wrL, wrR]
    | succ j =>
      rw [List.take_succ_cons, List.cons_append, wrL, wrR_append, wrL]
      simp [wrR]
end T
/-- What write answers. -/
def WrR (B : Nat) (w : World) (m : List UInt8) (e : Ending) (w' : World) : Prop := ∃ ao c, e = .returned (.slice ao m.length c) ∧ Bs B w' (.slice ao m.length c) m ∧ Below B w w'
theorem below_kp {B : Nat} {w w' : World} (h : Below B w w') {K : Nat → Prop} (hk : ∀ g, K g → g < B) : Kp K w w' := ⟨h.os, h.tape, h.output, h.size, fun k _ hK => h.block k (hk k hK)⟩
theorem WrR.mono {B : Nat} {w w1 : World} {m : List UInt8} {e : Ending} {w' : World} (h : WrR B w1 m e w') (hb : Below B w w1) : WrR B w m e w' := by
  obtain ⟨ao, c, h1, h2, h3⟩ := h
  exact ⟨ao, c, h1, h2, hb.trans h3⟩
end Go.Proofs.YtecabbifkcnbeaaGreatDoor
