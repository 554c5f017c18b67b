/-
  Bytes of one's own: a literal or a text is appended.
-/
import Derived.Test.YtbpbkihcfdnphaaDoorVal
import Derived.Lib.AppendStr
import Derived.Lib.UnsafeStr
import Derived.Laws.OwnMore
import Derived.Maps.AppendAt
import Derived.Deep.RegionHeld3
namespace Go.Proofs.YtbpbkihcfdnphaaDoor
open Go.RowKit
theorem byteInfo : (Tryd.prog.info? 5).map (fun i => (i.zero, i.size, i.bytes)) = some (some (.int .u8 0), 1, 1) := by kernel_rfl
/-- The slice v of bytes lies in memory of one's own, from B on, and reads as l. -/
def Bs (B : Nat) (w : World) (v : Value) (l : List UInt8) : Prop := w.ownsRow B 5 1 v l.length (Lib.byteCells l)
theorem Bs.nil (B : Nat) (w : World) : Bs B w (.slice none 0 0) [] := World.ownsRow_nil _ _ _ _
theorem Bs.shape {B : Nat} {w : World} {v : Value} {l : List UInt8} (h : Bs B w v l) : ∃ ao c, v = .slice ao l.length c := by
  rcases h.2 with ⟨hv, h0⟩ | ⟨g, cap, cur, hv, _⟩
  · exact ⟨none, 0, by rw [hv, h0]⟩
  · exact ⟨_, _, hv⟩
theorem Bs.alloc {B : Nat} {w : World} {v : Value} {l : List UInt8} (h : Bs B w v l) (o : Obj) : Bs B (w.alloc o) v l := World.ownsRow.alloc h o
theorem Bs.ext {B : Nat} {w w' : World} {v : Value} {l : List UInt8} (h : Bs B w v l) (hx : Ext w w') : Bs B w' v l := by
  obtain ⟨h1, h2⟩ := h
  refine ⟨h1, ?_⟩
  rcases h2 with h2 | ⟨g, cap, cur, hv, hg, hb, hr⟩
  · exact .inl h2
  · exact .inr ⟨g, cap, cur, hv, hg, hx.block hb, hr⟩
theorem app_len {l m : List UInt8} : Lib.byteCells (l ++ m) = Lib.byteCells l ++ Lib.byteCells m := by simp [Lib.byteCells]
theorem news_at {w : World} {ty : TypeId} (m : List UInt8) (j : Nat) (u : Value) (h : (Lib.byteCells m)[j]? = some u) : (w.alloc (.cells (Lib.byteCells m).toArray ty)).cell? (Addr.add ⟨w.heap.size, 0, none⟩ j) = some u := by
  have e : Addr.add ⟨w.heap.size, 0, none⟩ j = ⟨w.heap.size, j, none⟩ := by
    by_cases hj : j = 0
    · subst hj; simp [Addr.add]
    · simp [Addr.add, hj]
  rw [e]
  exact cell_of (blk0 w _) (by simpa using h)
theorem run_lit {w : World} {ty : TypeId} (B : Nat) (v : Value) (l m : List UInt8) (hB : B ≤ w.heap.size) (hown : Bs B w v l) (hlim : l.length + m.length ≤ 140737488355328) :
    ∃ ao c w', (Builtin.append_ #[64, 64] 64 #[v, .slice (some ⟨w.heap.size, 0, none⟩) m.length m.length]).run Tryd.prog (w.alloc (.cells (Lib.byteCells m).toArray ty)) = .ok (.slice ao (l ++ m).length c) w' ∧ Bs B w' (.slice ao (l ++ m).length c) (l ++ m) ∧ Below B w w' := by
  obtain ⟨i, hi, hz0, hz1, hz2⟩ := info_parts byteInfo
  obtain ⟨v', w', hr, ho, hg, _, _⟩ := run_append_own_at (P := Tryd.prog) (w.alloc (.cells (Lib.byteCells m).toArray ty)) B 64 64 5 i (.int .u8 0) 1 1 Tryd.underlying64 hi hz0 hz1 hz2 rfl (by decide) v l.length (Lib.byteCells l) (hown.alloc _) ⟨w.heap.size, 0, none⟩ m.length m.length (Lib.byteCells m) (by rw [Lib.byteCells_length]; omega) (news_at m) (fun u hu => by obtain ⟨b, _, rfl⟩ := List.mem_map.1 hu; rfl) (by unfold maxLen; omega) (by omega) (by rw [blkS]; omega)
  have ho2 : Bs B w' v' (l ++ m) := by
    unfold Bs
    rw [List.length_append, app_len]
    exact ho
  obtain ⟨ao, c, rfl⟩ := ho2.shape
  exact ⟨ao, c, w', hr, ho2, Below.grown ((Below.refl B w).alloc hB _) hg (by rw [blkS]; omega) (fun k hk => (World.ownsRow.lt hown k hk).1)⟩
theorem app_lit {ops : Array Oper} {rest : List Oper} {o : Oper} {a : Act} {Q : Exit → Act → World → Prop} {w : World} {cs : Array Value} {ty : TypeId} (hgd : o.guard = none) (s x : Operand)
    (ho : o.op = .call { callee := .builtin .append, args := #[s, x], argTypes := #[64, 64] }) (hty : o.type = 64) (B : Nat) (v : Value) (l m : List UInt8) (hs : a.eval s = v) (hB : B ≤ w.heap.size) (hown : Bs B w v l)
    (hcs : cs = (Lib.byteCells m).toArray) {k : Nat} (hk : k = m.length) (hx : a.eval x = .slice (some ⟨w.heap.size, 0, none⟩) k k) (hlim : l.length + m.length ≤ 140737488355328)
    (h : ∀ ao c w', Bs B w' (.slice ao (l ++ m).length c) (l ++ m) → Below B w w' → wpList Tryd.prog ops Q rest (a.put o.dst (.slice ao (l ++ m).length c)) w') : wpList Tryd.prog ops Q (o :: rest) a (w.alloc (.cells cs ty)) := by
  subst hcs
  subst hk
  refine wpList_plain hgd fun K hK => ?_
  obtain ⟨ao, c, w', hr, h2, h3⟩ := run_lit (ty := ty) B v l m hB hown hlim
  unfold Oper.wp execOp
  simp only [ho, hty, resolve, invoke, builtin, Sem.run_bind, Sem.run_pure, Result.andThen_ok, List.map_toArray, List.map_cons, List.map_nil, hs, hx, hr]
  exact hK _ _ (h ao c w' h2 h3)
theorem step_lit {ops : Array Oper} {o : Oper} {a : Act} {K : Act → World → Prop} {Q : Exit → Act → World → Prop} {E : Prop} {w : World} {cs : Array Value} {ty : TypeId} (hgd : o.guard = none) (s x : Operand)
    (ho : o.op = .call { callee := .builtin .append, args := #[s, x], argTypes := #[64, 64] }) (hty : o.type = 64) (B : Nat) (v : Value) (l m : List UInt8) (hs : a.eval s = v) (hB : B ≤ w.heap.size) (hown : Bs B w v l)
    (hcs : cs = (Lib.byteCells m).toArray) {k : Nat} (hk : k = m.length) (hx : a.eval x = .slice (some ⟨w.heap.size, 0, none⟩) k k) (hlim : l.length + m.length ≤ 140737488355328)
    (h : ∀ ao c w', Bs B w' (.slice ao (l ++ m).length c) (l ++ m) → Below B w w' → K (a.put o.dst (.slice ao (l ++ m).length c)) w') :
    if Region.wanted o (yielded ops a.tmps) = true then Oper.wp Tryd.prog o a (w.alloc (.cells cs ty)) K Q else E := by
  have hw : Region.wanted o (yielded ops a.tmps) = true := by simp [Region.wanted, hgd]
  rw [if_pos hw]
  subst hcs
  subst hk
  obtain ⟨ao, c, w', hr, h2, h3⟩ := run_lit (ty := ty) B v l m hB hown hlim
  unfold Oper.wp execOp
  simp only [ho, hty, resolve, invoke, builtin, Sem.run_bind, Sem.run_pure, Result.andThen_ok, List.map_toArray, List.map_cons, List.map_nil, hs, hx, hr]
  exact h ao c w' h2 h3
theorem app_str {ops : Array Oper} {rest : List Oper} {o : Oper} {a : Act} {Q : Exit → Act → World → Prop} {w : World} (hgd : o.guard = none) (sl x : Operand)
    (ho : o.op = .call { callee := .builtin .append, args := #[sl, x], argTypes := #[64, 9] }) (B : Nat) (v : Value) (l : List UInt8) (hs : a.eval sl = v) (hB : B ≤ w.heap.size) (hown : Bs B w v l)
    (s : ByteArray) (hx : a.eval x = .string s) (hlim : l.length + s.size ≤ 140737488355328)
    (h : ∀ ao c w', Bs B w' (.slice ao (l ++ s.data.toList).length c) (l ++ s.data.toList) → Below B w w' → wpList Tryd.prog ops Q rest (a.put o.dst (.slice ao (l ++ s.data.toList).length c)) w') : wpList Tryd.prog ops Q (o :: rest) a w := by
  obtain ⟨i, hi, hz0, hz1, hz2⟩ := info_parts byteInfo
  refine Lib.wpList_append_own_string w hgd sl x 64 9 ho B 5 i Tryd.underlying64 Tryd.underlying9 hi hz0 hz1 hz2 v l.length (Lib.byteCells l) hs hown s hx (by unfold maxLen; omega) hlim hB ?_
  intro v' w' h1 h2 _
  have ho2 : Bs B w' v' (l ++ s.data.toList) := by
    unfold Bs
    rw [List.length_append, app_len, Array.length_toList]
    exact h1
  obtain ⟨ao, c, rfl⟩ := ho2.shape
  exact h ao c w' ho2 (Below.grown (Below.refl B w) h2 hB (fun k hk => (World.ownsRow.lt hown k hk).1))
end Go.Proofs.YtbpbkihcfdnphaaDoor
