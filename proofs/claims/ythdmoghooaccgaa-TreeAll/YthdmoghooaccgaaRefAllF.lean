/-
  What the reference's list of all nodes reads as; append as one step of a region that draws its order.
-/
import Derived.Test.YthdmoghooaccgaaRefCopy
import Derived.Test.YthdmoghooaccgaaPathAid
import Derived.Test.YthdmoghooaccgaaRefNames
import Derived.Deep.RegionHeld3
import Derived.Deep.AppendLies
import Derived.Deep.Cut
import Derived.Deep.CutRange
import Derived.Deep.CutBlock
namespace Go.Proofs.Ythdmoghooaccgaa
open Go.RowKit
theorem append_none (w : World) (c : Nat) : (Builtin.append_ #[27, 27] 27 #[.slice none 0 0, .slice none 0 c]).run Try.prog w = .ok (.slice none 0 0) w := by kernel_rfl
theorem append_ints (a : Option Addr) (n c : Nat) (xs : List Int) (w : World) (hb : xs.length * 8 ≤ 140737488355328) (h : Ints w (.slice a n c) xs) :
    ∃ a' c' w', (Builtin.append_ #[27, 27] 27 #[.slice none 0 0, .slice a n c]).run Try.prog w = .ok (.slice a' xs.length c') w' ∧ w'.ownsRow w.heap.size 3 1 (.slice a' xs.length c') xs.length (xs.map (Value.int .i64)) ∧ Ext w w' := by
  obtain ⟨i0, hi0, hz0, hz1, hz2⟩ := info_parts intInfo
  rcases h with ⟨⟨a0, c0, hv⟩, rfl⟩ | ⟨g, off, cap, hv, hc⟩
  · injection hv with h1 h2 h3
    subst h2
    cases a with
    | none =>
      obtain ⟨v', w', hr⟩ : ∃ v' w', (Builtin.append_ #[27, 27] 27 #[.slice none 0 0, .slice none 0 c]).run Try.prog w = .ok v' w' ∧ v' = .slice none 0 0 ∧ w' = w := ⟨_, _, append_none w c, rfl, rfl⟩
      obtain ⟨hr, rfl, rfl⟩ := hr
      exact ⟨_, _, _, hr, World.ownsRow_nil _ _ _ _, Ext.refl _⟩
    | some ad =>
      obtain ⟨v', w', hr, ho, hg, _, _⟩ := run_append_own_at (P := Try.prog) w w.heap.size 27 27 3 i0 (.int .i64 0) 1 8 Try.underlying27 hi0 hz0 hz1 hz2 rfl (by decide) (.slice none 0 0) 0 [] (World.ownsRow_nil _ _ _ _) ad 0 c [] rfl (fun j u hu => by simp at hu) (fun u hu => by simp at hu) (by unfold maxLen; omega) (by omega) (Nat.le_refl _)
      have ho2 : w'.ownsRow w.heap.size 3 1 v' 0 [] := ho
      obtain ⟨a', c', rfl⟩ := ownsRow_slice ho2
      exact ⟨a', c', w', hr, ho2, Below.grown (Ext.refl w) hg (Nat.le_refl _) (fun k hk => by simp [Value.ownBlock] at hk)⟩
  · injection hv with h1 h2 h3
    subst h1; subst h2; subst h3
    have hnews : ∀ (j : Nat) (u : Value), (xs.map (Value.int .i64))[j]? = some u → w.cell? (Addr.add ⟨g, off, none⟩ j) = some u := by
      intro j u hu
      rw [List.getElem?_map] at hu
      obtain ⟨x, hx, rfl⟩ := Option.map_eq_some_iff.1 hu
      rw [add_none]; exact hc j x hx
    have hone : ∀ u ∈ xs.map (Value.int .i64), u.oneCell' = true := by
      intro u hu
      obtain ⟨x, _, rfl⟩ := List.mem_map.1 hu
      rfl
    obtain ⟨v', w', hr, ho, hg, _, _⟩ := run_append_own_at (P := Try.prog) w w.heap.size 27 27 3 i0 (.int .i64 0) 1 8 Try.underlying27 hi0 hz0 hz1 hz2 rfl (by decide) (.slice none 0 0) 0 [] (World.ownsRow_nil _ _ _ _) ⟨g, off, none⟩ xs.length c (xs.map (Value.int .i64)) (by simp) hnews hone (by unfold maxLen; omega) (by simpa using hb) (Nat.le_refl _)
    have ho2 : w'.ownsRow w.heap.size 3 1 v' xs.length (xs.map (Value.int .i64)) := by simpa using ho
    obtain ⟨a', c', rfl⟩ := ownsRow_slice ho2
    exact ⟨a', c', w', hr, ho2, Below.grown (Ext.refl w) hg (Nat.le_refl _) (fun k hk => by simp [Value.ownBlock] at hk)⟩
theorem step_append_ints {ops : Array Oper} {o : Oper} {ac : Act} {K : Act → World → Prop} {Q : Exit → Act → World → Prop} {E : Prop} (w : World) (hgd : o.guard = none) (x : Operand)
    (ho : o.op = .call { callee := .builtin .append, args := #[.const (.slice none 0 0), x], argTypes := #[27, 27] }) (hty : o.type = 27)
    (a : Option Addr) (n c : Nat) (xs : List Int) (hx : ac.eval x = .slice a n c) (hb : xs.length * 8 ≤ 140737488355328) (hI : Ints w (.slice a n c) xs)
    (h : ∀ a' c' w', w'.ownsRow w.heap.size 3 1 (.slice a' xs.length c') xs.length (xs.map (Value.int .i64)) → Ext w w' → K (ac.put o.dst (.slice a' xs.length c')) w') :
    if Region.wanted o (yielded ops ac.tmps) = true then Oper.wp Try.prog o ac w K Q else E := by
  have hw : Region.wanted o (yielded ops ac.tmps) = true := by simp [Region.wanted, hgd]
  rw [if_pos hw]
  obtain ⟨a', c', w', hr, h2, h3⟩ := append_ints a n c xs w hb hI
  unfold Oper.wp execOp
  have hs : ac.eval (.const (.slice none 0 0)) = .slice none 0 0 := rfl
  simp only [ho, hty, resolve, invoke, builtin, Sem.run_bind, Sem.run_pure, Result.andThen_ok, List.map_toArray, List.map_cons, List.map_nil, hs, hx, hr]
  exact h a' c' w' h2 h3
theorem append_snoc (base : Nat) (a : Option Addr) (n c : Nat) (xs : List Int) (g : Nat) (k : Int) (w : World) (hn : n = xs.length) (hb : (xs.length + 1) * 8 ≤ 140737488355328) (hB : base ≤ w.heap.size) (h : w.ownsRow base 3 1 (.slice a n c) xs.length (xs.map (Value.int .i64))) (hk : w.cell? ⟨g, 0, none⟩ = some (.int .i64 k)) :
    ∃ a' c' w', (Builtin.append_ #[27, 27] 27 #[.slice a n c, .slice (some ⟨g, 0, none⟩) 1 1]).run Try.prog w = .ok (.slice a' (xs ++ [k]).length c') w' ∧ w'.ownsRow base 3 1 (.slice a' (xs ++ [k]).length c') (xs ++ [k]).length ((xs ++ [k]).map (Value.int .i64)) ∧ w.grownBy w' (Value.slice a n c).ownBlock := by
  subst hn
  obtain ⟨i0, hi0, hz0, hz1, hz2⟩ := info_parts intInfo
  have hnews : ∀ (j : Nat) (u : Value), [Value.int .i64 k][j]? = some u → w.cell? (Addr.add ⟨g, 0, none⟩ j) = some u := by
    intro j u hu
    match j, hu with
    | 0, hu => simp at hu; subst hu; rw [add_none]; exact hk
  have hone : ∀ u ∈ [Value.int .i64 k], u.oneCell' = true := by
    intro u hu
    simp at hu; subst hu; rfl
  obtain ⟨v', w', hr, ho, hg, _, _⟩ := run_append_own_at (P := Try.prog) w base 27 27 3 i0 (.int .i64 0) 1 8 Try.underlying27 hi0 hz0 hz1 hz2 rfl (by decide) (.slice a xs.length c) xs.length (xs.map (Value.int .i64)) h ⟨g, 0, none⟩ 1 1 [.int .i64 k] rfl hnews hone (by unfold maxLen; omega) (by omega) hB
  have ho2 : w'.ownsRow base 3 1 v' (xs ++ [k]).length ((xs ++ [k]).map (Value.int .i64)) := by simpa using ho
  obtain ⟨a', c', rfl⟩ := ownsRow_slice ho2
  exact ⟨a', c', w', hr, ho2, hg⟩
theorem step_append_snoc {ops : Array Oper} {o : Oper} {ac : Act} {K : Act → World → Prop} {Q : Exit → Act → World → Prop} {E : Prop} (w : World) (hgd : o.guard = none) (x y : Operand)
    (ho : o.op = .call { callee := .builtin .append, args := #[x, y], argTypes := #[27, 27] }) (hty : o.type = 27)
    (base : Nat) (a : Option Addr) (n c : Nat) (xs : List Int) (g : Nat) (k : Int) (hx : ac.eval x = .slice a n c) (hy : ac.eval y = .slice (some ⟨g, 0, none⟩) 1 1) (hn : n = xs.length) (hb : (xs.length + 1) * 8 ≤ 140737488355328) (hB : base ≤ w.heap.size)
    (hO : w.ownsRow base 3 1 (.slice a n c) xs.length (xs.map (Value.int .i64))) (hk : w.cell? ⟨g, 0, none⟩ = some (.int .i64 k))
    (h : ∀ a' c' w', w'.ownsRow base 3 1 (.slice a' (xs ++ [k]).length c') (xs ++ [k]).length ((xs ++ [k]).map (Value.int .i64)) → w.grownBy w' (Value.slice a n c).ownBlock → K (ac.put o.dst (.slice a' (xs ++ [k]).length c')) w') :
    if Region.wanted o (yielded ops ac.tmps) = true then Oper.wp Try.prog o ac w K Q else E := by
  have hw : Region.wanted o (yielded ops ac.tmps) = true := by simp [Region.wanted, hgd]
  rw [if_pos hw]
  obtain ⟨a', c', w', hr, h2, h3⟩ := append_snoc base a n c xs g k w hn hb hB hO hk
  unfold Oper.wp execOp
  simp only [ho, hty, resolve, invoke, builtin, Sem.run_bind, Sem.run_pure, Result.andThen_ok, List.map_toArray, List.map_cons, List.map_nil, hx, hy, hr]
  exact h a' c' w' h2 h3
theorem step_append_own {ops : Array Oper} {o : Oper} {ac : Act} {K : Act → World → Prop} {Q : Exit → Act → World → Prop} {E : Prop} (w : World) (hgd : o.guard = none) (x y : Operand) (t : TypeId)
    (ho : o.op = .call { callee := .builtin .append, args := #[x, y], argTypes := #[t, t] })
    (base : Nat) (e : TypeId) (i : TypeInfo) (z : Value) (size bytes : Nat) (ht : Try.prog.underlying t = some (.slice e)) (hi : Try.prog.info? e = some i) (hz : i.zero = some z)
    (hsize : i.size = size) (hby : i.bytes = bytes) (hzs : z.cells.size = size) (hsz : 0 < size)
    (v : Value) (n : Nat) (xs : List Value) (hx : ac.eval x = v) (hown : w.ownsRow base e size v n xs)
    (ad : Addr) (m c : Nat) (news : List Value) (hy : ac.eval y = .slice (some ad) m c) (hl : news.length = m * size) (hnews : ∀ j u, news[j]? = some u → w.cell? (ad.add j) = some u) (h1 : ∀ u ∈ news, u.oneCell' = true)
    (h63 : n + m ≤ maxLen) (hbytes : (n + m) * bytes ≤ 140737488355328) (hbase : base ≤ w.heap.size)
    (h : ∀ v' w', w'.ownsRow base e size v' (n + m) (xs ++ news) → w.grownBy w' v.ownBlock → (v'.ownBlock = v.ownBlock ∨ v'.ownBlock = some w.heap.size) → K (ac.put o.dst v') w') :
    if Region.wanted o (yielded ops ac.tmps) = true then Oper.wp Try.prog o ac w K Q else E := by
  have hw : Region.wanted o (yielded ops ac.tmps) = true := by simp [Region.wanted, hgd]
  rw [if_pos hw]
  obtain ⟨v', w', hr, h2, h3, _, h5⟩ := run_append_own_at (P := Try.prog) w base t o.type e i z size bytes ht hi hz hsize hby hzs hsz v n xs hown ad m c news hl hnews h1 h63 hbytes hbase
  unfold Oper.wp execOp
  simp only [ho, resolve, invoke, builtin, Sem.run_bind, Sem.run_pure, Result.andThen_ok, List.map_toArray, List.map_cons, List.map_nil, hx, hy, hr]
  exact h v' w' h2 h3 h5
theorem stepInfo : (Try.prog.info? 57).map (fun i => (i.zero, i.size, i.bytes)) = some (some (.agg #[.slice none 0 0, .string ⟨#[]⟩, .int .i64 0, .string ⟨#[]⟩, .slice none 0 0]), 5, 88) := by kernel_rfl
theorem news5 (w : World) (a b c d f : Value) (t : TypeId) : ∀ (e : Nat) (u : Value), [a, b, c, d, f][e]? = some u → (w.alloc (.cells #[a, b, c, d, f] t)).cell? ((⟨w.heap.size, 0, none⟩ : Addr).add e) = some u := fun e u he => by
  have hb := blk0 w (.cells #[a, b, c, d, f] t)
  rw [add_none, Nat.zero_add]
  refine cell_of hb ?_
  simpa using he
/-- A path in a block of K. -/
def IntsK (K : Nat → Prop) (w : World) (v : Value) (p : List Int) : Prop := Ints w v p ∧ ∀ q, v.ownBlock = some q → K q
theorem IntsK.keep {K : Nat → Prop} {w w' : World} {v : Value} {p : List Int} (h : IntsK K w v p) (hk : Kp K w w') : IntsK K w' v p := by
  refine ⟨?_, h.2⟩
  rcases h.1 with h1 | ⟨g, off, cap, rfl, hc⟩
  · exact .inl h1
  · exact .inr ⟨g, off, cap, rfl, fun j u hu => hk.cell (hc j u hu) (h.2 g rfl)⟩
theorem IntsK.mono {K L : Nat → Prop} {w : World} {v : Value} {p : List Int} (h : IntsK K w v p) (hl : ∀ q, K q → L q) : IntsK L w v p := ⟨h.1, fun q hq => hl q (h.2 q hq)⟩
/-- What the j-th step of a row reads as. -/
def StepAt (K : Nat → Prop) (w : World) (xs : List Value) (j : Nat) (y : List Int × T) : Prop :=
  ∃ pa pc u0 u1 u2 u3 d, xs[j * 5]? = some (.slice pa y.1.length pc) ∧ xs[j * 5 + 1]? = some u0 ∧ xs[j * 5 + 2]? = some u1 ∧ xs[j * 5 + 3]? = some u2 ∧ xs[j * 5 + 4]? = some u3 ∧ IntsK K w (.slice pa y.1.length pc) y.1 ∧ Rd K w d (.agg #[u0, u1, u2, u3]) y.2
theorem StepAt.keep {K : Nat → Prop} {w w' : World} {xs : List Value} {j : Nat} {y : List Int × T} (h : StepAt K w xs j y) (hk : Kp K w w') : StepAt K w' xs j y := by
  obtain ⟨pa, pc, u0, u1, u2, u3, d, h0, h1, h2, h3, h4, h5, h6⟩ := h
  exact ⟨pa, pc, u0, u1, u2, u3, d, h0, h1, h2, h3, h4, h5.keep hk, h6.keep hk⟩
theorem StepAt.mono {K L : Nat → Prop} {w : World} {xs : List Value} {j : Nat} {y : List Int × T} (h : StepAt K w xs j y) (hl : ∀ q, K q → L q) : StepAt L w xs j y := by
  obtain ⟨pa, pc, u0, u1, u2, u3, d, h0, h1, h2, h3, h4, h5, h6⟩ := h
  exact ⟨pa, pc, u0, u1, u2, u3, d, h0, h1, h2, h3, h4, h5.mono hl, h6.mono (fun q _ h => hl q h)⟩
theorem StepAt.app {K : Nat → Prop} {w : World} {xs : List Value} {j : Nat} {y : List Int × T} (h : StepAt K w xs j y) (zs : List Value) : StepAt K w (xs ++ zs) j y := by
  obtain ⟨pa, pc, u0, u1, u2, u3, d, h0, h1, h2, h3, h4, h5, h6⟩ := h
  have l : ∀ {i u}, xs[i]? = some u → (xs ++ zs)[i]? = some u := fun {i u} h => by rw [List.getElem?_append_left (List.getElem?_eq_some_iff.1 h).1]; exact h
  exact ⟨pa, pc, u0, u1, u2, u3, d, l h0, l h1, l h2, l h3, l h4, h5, h6⟩
/-- A row of steps of one's own, all it leads to in other blocks. -/
def Steps (w : World) (base : Nat) (v : Value) (ys : List (List Int × T)) (xs : List Value) : Prop :=
  w.ownsRow base 57 5 v ys.length xs ∧ ∀ j, (h : j < ys.length) → StepAt (fun q => base ≤ q ∧ q < w.heap.size ∧ v.ownBlock ≠ some q) w xs j ys[j]
theorem row5_slice {w : World} {base : Nat} {v : Value} {n : Nat} {xs : List Value} (h : w.ownsRow base 57 5 v n xs) : ∃ a c, v = .slice a n c := by
  rcases h.2 with ⟨rfl, rfl⟩ | ⟨g, cap, _, rfl, _⟩
  · exact ⟨_, _, rfl⟩
  · exact ⟨_, _, rfl⟩
theorem row5_any {w : World} {base : Nat} {v : Value} {n : Nat} {xs : List Value} (h : w.ownsRow base 57 5 v n xs) : ∃ a m c, v = .slice a m c := by
  obtain ⟨a, c, h⟩ := row5_slice h
  exact ⟨a, n, c, h⟩
theorem row5_keep {K : Nat → Prop} {w w' : World} {base : Nat} {v : Value} {n : Nat} {xs : List Value} (h : w.ownsRow base 57 5 v n xs) (hk : Kp K w w') (hb : ∀ b, v.ownBlock = some b → K b) : w'.ownsRow base 57 5 v n xs := by
  refine ⟨h.1, ?_⟩
  rcases h.2 with h | ⟨g, cap, cur, rfl, h1, h2, h3⟩
  · exact .inl h
  · exact .inr ⟨g, cap, cur, rfl, h1, hk.block' h2 (hb g rfl), h3⟩
theorem Steps.nil (w : World) (base : Nat) : Steps w base (.slice none 0 0) [] [] := ⟨World.ownsRow_nil _ _ _ _, fun _ h => absurd h (Nat.not_lt_zero _)⟩
theorem Steps.later {w w' : World} {base : Nat} {v : Value} {ys : List (List Int × T)} {xs : List Value} (h : Steps w base v ys xs) (hx : Ext w w') : Steps w' base v ys xs :=
  ⟨row5_keep h.1 (hx.kp (fun _ => True)) (fun _ _ => trivial), fun j hj => ((h.2 j hj).keep (hx.kp _)).mono (fun q hq => ⟨hq.1, by have := hx.size; omega, hq.2.2⟩)⟩
/-- A step more. -/
theorem Steps.snoc {w w2 w9 : World} {base : Nat} {v v9 : Value} {ys : List (List Int × T)} {xs : List Value} {p : List Int} {t : T} {pa : Option Addr} {pc d : Nat} {u0 u1 u2 u3 : Value} (h : Steps w base v ys xs) (hx : Ext w w2) (hb : base ≤ w.heap.size)
    (hp : IntsK (fun q => w.heap.size ≤ q) w2 (.slice pa p.length pc) p) (hpl : ∀ q, (Value.slice pa p.length pc).ownBlock = some q → q < w2.heap.size) (ht : Rd (fun q => w.heap.size ≤ q) w2 d (.agg #[u0, u1, u2, u3]) t)
    (hown : w9.ownsRow base 57 5 v9 (ys.length + 1) (xs ++ [.slice pa p.length pc, u0, u1, u2, u3])) (hk : Kp (fun q => some q ≠ v.ownBlock) w2 w9) (hat : v9.ownBlock = v.ownBlock ∨ ∃ q, v9.ownBlock = some q ∧ w2.heap.size ≤ q) :
    Steps w9 base v9 (ys ++ [(p, t)]) (xs ++ [.slice pa p.length pc, u0, u1, u2, u3]) := by
  have hlow : ∀ q, v.ownBlock = some q → q < w.heap.size := fun q hq => (h.1.lt q hq).2
  have hs2 := hx.size
  have hs9 := hk.size
  have hne : ∀ q, q < w2.heap.size → v.ownBlock ≠ some q → v9.ownBlock ≠ some q := fun q hq hv e => by
    rcases hat with h1 | ⟨q', h1, h2⟩
    · exact hv (h1.symm.trans e)
    · rw [h1] at e; cases e; omega
  have hxl : xs.length = ys.length * 5 := h.1.1
  refine ⟨by rw [List.length_append]; exact hown, fun j hj => ?_⟩
  by_cases hjl : j < ys.length
  · rw [List.getElem_append_left hjl]
    refine ((((h.2 j hjl).keep (hx.kp _)).mono (L := fun q => (base ≤ q ∧ q < w.heap.size) ∧ some q ≠ v.ownBlock) (fun q hq => ⟨⟨hq.1, hq.2.1⟩, fun e => hq.2.2 e.symm⟩)).keep (hk.mono (fun q _ hq => hq.2))).mono (fun q hq => ⟨hq.1.1, by omega, hne q (by omega) (fun e => hq.2 e.symm)⟩) |>.app _
  · have hje : j = ys.length := by simp at hj; omega
    subst hje
    rw [List.getElem_append_right (Nat.le_refl _)]
    simp only [Nat.sub_self, List.getElem_cons_zero]
    have a : ∀ e, e < 5 → (xs ++ [.slice pa p.length pc, u0, u1, u2, u3])[ys.length * 5 + e]? = [Value.slice pa p.length pc, u0, u1, u2, u3][e]? := fun e he => by
      rw [List.getElem?_append_right (by omega), hxl, show ys.length * 5 + e - ys.length * 5 = e by omega]
    have hK : ∀ q, w.heap.size ≤ q → some q ≠ v.ownBlock := fun q hq e => by have := hlow q e.symm; omega
    refine ⟨pa, pc, u0, u1, u2, u3, d, a 0 (by decide), a 1 (by decide), a 2 (by decide), a 3 (by decide), a 4 (by decide), ?_, ?_⟩
    · refine ⟨(hp.keep (hk.mono (fun q _ hq => hK q hq))).1, fun q hq => ?_⟩
      have h1 := hp.2 q hq
      have h2 := hpl q hq
      exact ⟨by omega, by omega, hne q h2 (fun e => hK q h1 e.symm)⟩
    · have h1 := (ht.mono (L := fun q => w.heap.size ≤ q ∧ q < w2.heap.size) (fun q hq h => ⟨h, hq⟩)).keep (hk.mono (fun q _ hq => hK q hq.1))
      exact h1.mono (fun q _ hq => ⟨by omega, by omega, hne q hq.2 (fun e => hK q hq.1 e.symm)⟩)
end Go.Proofs.Ythdmoghooaccgaa
/-
  The reference's all, by a contract.
-/
namespace Go.Proofs.Ythdmoghooaccgaa
open Go.RowKit
/-- What the loop of all holds. -/
def AllSt (w : World) (base : Nat) (lv : Value) (bx : Obj) (l : Value) (ys : List (List Int × T)) (wr : World) : Prop :=
  (∃ xs, Steps wr base l ys xs) ∧ wr.heap[w.heap.size]? = some bx ∧ Kp (fun q => some q ≠ lv.ownBlock) w wr ∧ (l.ownBlock = lv.ownBlock ∨ ∃ q, l.ownBlock = some q ∧ w.heap.size + 1 ≤ q)
set_option maxRecDepth 100000 in
set_option maxHeartbeats 4000000 in
theorem rall_any : ∀ (d : Nat) (v : Value) (t : T) (K : Nat → Prop) (w : World) (base : Nat) (lv : Value) (ys : List (List Int × T)) (xs : List Value) (pa : Option Addr) (pc : Nat) (p : List Int), Rd K w d v t → Steps w base lv ys xs → (∀ q, lv.ownBlock = some q → ¬ K q) → base ≤ w.heap.size →
    Ints w (.slice pa p.length pc) p → (∀ q, (Value.slice pa p.length pc).ownBlock = some q → lv.ownBlock ≠ some q) → ys.length + t.size ≤ 4000 → p.length + t.height ≤ 4000 →
    Calls Try.prog 54 #[lv, v, .slice pa p.length pc] w fun e w' => ∃ v' xs', e = .returned v' ∧ Steps w' base v' (ys ++ T.all p t) xs' ∧ Kp (fun q => some q ≠ lv.ownBlock) w w' ∧ (v'.ownBlock = lv.ownBlock ∨ ∃ q, v'.ownBlock = some q ∧ w.heap.size ≤ q) := by
  intro d
  induction d with
  | zero => intro v t K w base lv ys xs pa pc p h; exact h.elim
  | succ d ih =>
    intro v t K0 w base lv ys xs pa pc p hr0 hst hlk0 hbs hI hpq hsz hht
    obtain ⟨K, hK⟩ : ∃ K : Nat → Prop, K = fun q => K0 q ∧ q < w.heap.size := ⟨_, rfl⟩
    have hr : Rd K w (d + 1) v t := hr0.mono (fun q hq h => by rw [hK]; exact ⟨h, hq⟩)
    have hlk : ∀ q, lv.ownBlock = some q → ¬ K q := fun q hq h => by rw [hK] at h; exact hlk0 q hq h.1
    have hKl : ∀ q, K q → q < w.heap.size := fun q h => by rw [hK] at h; exact h.2
    clear hr0 hlk0 hK
    obtain ⟨k, n, x, ks⟩ := t
    have HRD := hid hr
    obtain ⟨a, c, rfl, hkl⟩ := hr.kidsL
    obtain ⟨la, lc, rfl⟩ := row5_slice hst.1
    have hl' : (ks.length : Int) ≤ 140737488355328 := by have := hkl.1; omega
    have HK := hid hkl
    have HIH := hid ih
    have HI := hid hI
    have HLK := hid hlk
    have HKL := hid hKl
    have HPQ := hid hpq
    have HLT := hid (show ∀ q, (Value.slice la ys.length lc).ownBlock = some q → q < w.heap.size from fun q hq => (hst.1.lt q hq).2)
    have HSZ := hid (And.intro (show ys.length + 1 + T.sizeL ks ≤ 4000 by simp only [T.size] at hsz; omega) (show p.length + 1 + T.heightL ks ≤ 4000 by simp only [T.height] at hht; omega))
    have hpl : p.length ≤ 4000 := by omega
    have hyl : ys.length ≤ 4000 := by omega
    have HALL := hid (show T.all p (.node k n x ks) = (p, .node k n x ks) :: T.allL p 0 ks from rfl)
    clear hr hkl ih hlk hsz hht hKl hI hpq
    obtain ⟨M, hM⟩ : ∃ M, w.alloc (.cells #[.string k, .int .i64 n, .string x, .slice a ks.length c] 26) = M := ⟨_, rfl⟩
    have HXM := hid (show Ext w M from hM ▸ Ext.alloc _ _)
    have HBT := hid (show M.heap[w.heap.size]? = some (.cells #[.string k, .int .i64 n, .string x, .slice a ks.length c] 26) from hM ▸ blk0 _ _)
    have hsM : M.heap.size = w.heap.size + 1 := by rw [← hM]; simp
    obtain ⟨t0, t1, t2, t3⟩ := four_of HBT.out
    have HSK := hid (show ∀ W', Ext M W' → W'.cell? ⟨w.heap.size, 0, none⟩ = some (.string k) ∧ W'.cell? ⟨w.heap.size, 1, none⟩ = some (.int .i64 n) ∧ W'.cell? ⟨w.heap.size, 2, none⟩ = some (.string x) ∧ W'.cell? ⟨w.heap.size, 3, none⟩ = some (.slice a ks.length c) from fun W' Y => four_of (Y.block HBT.out))
    have HIM := hid (HI.out.later HXM.out)
    have HRM := hid (HRD.out.later HXM.out)
    have HSM := hid (hst.later HXM.out)
    clear hst
    have HK9 := hid (show ∀ (w2 w9 : World) (o : Obj), (w2.alloc o).grownBy w9 (Value.slice la ys.length lc).ownBlock → Kp (fun q => some q ≠ (Value.slice la ys.length lc).ownBlock) w2 w9 from fun w2 w9 o hg => ((Ext.alloc w2 o).kp _).trans ⟨hg.os, hg.tape, hg.output, hg.size, fun q hq hne => hg.block q hq hne⟩)
    obtain ⟨i5, hi5, hy0, hy1, hy2⟩ := info_parts stepInfo
    go_enter Try.func54, Try.ntmps54
    go_wp2_with fail
    go_cut [0] from 8 to 15 (fun l wx => ∃ la2 lc2, l = .slice la2 (ys.length + 1) lc2 ∧ AllSt w base (.slice la ys.length lc) (.cells #[.string k, .int .i64 n, .string x, .slice a ks.length c] 26) l (ys ++ [(p, .node k n x ks)]) wx)
    case first =>
      go_region_held3 (fun W' => W'.cell? ⟨w.heap.size, 0, none⟩ = some (.string k) ∧ W'.cell? ⟨w.heap.size, 1, none⟩ = some (.int .i64 n) ∧ W'.cell? ⟨w.heap.size, 2, none⟩ = some (.string x) ∧ W'.cell? ⟨w.heap.size, 3, none⟩ = some (.slice a ks.length c))
        (first | exact SK9 | exact SK2 | exact SK1 | exact ⟨t0, t1, t2, t3⟩ | go_keep)
        (first
          | (refine step_append_ints _ (by rfl) _ (by rfl) (by rfl) pa p.length pc p (by rfl) (by omega) (HIM.out.later (by repeat (first | with_reducible exact Ext.refl _ | with_reducible exact Z2 | with_reducible refine Ext.drew ?_ | with_reducible refine Ext.more ?_ _))) ?_; intro a1 c1 w1 ho1 hx1; have Z1 : Ext M w1 := Ext.trans (by repeat (first | with_reducible exact Ext.refl _ | with_reducible exact Z2 | with_reducible refine Ext.drew ?_ | with_reducible refine Ext.more ?_ _)) hx1; have SK1 := HSK.out w1 Z1; have hs1 := hx1.size; have ho1' : w1.ownsRow M.heap.size 3 1 (.slice a1 p.length c1) p.length (p.map (Value.int .i64)) := row_mono ho1 (by simp))
          | (go_at_call 60; refine (own_any (d + 1) _ (.node k n x ks) K _ (HRM.out.later (by repeat (first | with_reducible exact Ext.refl _ | with_reducible exact Z1 | with_reducible refine Ext.drew ?_ | with_reducible refine Ext.more ?_ _)))).mono ?_; rintro e w2 ⟨v2, rfl, hr2, hx2⟩; obtain ⟨y0, y1, y2, y3, rfl⟩ := hr2.agg; obtain ⟨k5, n5, x5, a5, c5, rfl, rfl, rfl, rfl⟩ := hr2.shape; have Z2 : Ext M w2 := Ext.trans (by repeat (first | with_reducible exact Ext.refl _ | with_reducible exact Z1 | with_reducible refine Ext.drew ?_ | with_reducible refine Ext.more ?_ _)) hx2; have SK2 := HSK.out w2 Z2; have Y12 : Ext w1 w2 := Ext.trans (by repeat (first | with_reducible exact Ext.refl _ | with_reducible refine Ext.drew ?_ | with_reducible refine Ext.more ?_ _)) hx2; have hs2 := hx2.size; generalize (T.kids (T.node k n x ks)).length = kl5 at hr2)
          | (refine step_append_own _ (by rfl) _ _ 51 (by rfl) base 57 i5 (.agg #[.slice none 0 0, .string ⟨#[]⟩, .int .i64 0, .string ⟨#[]⟩, .slice none 0 0]) 5 88 Try.underlying51 hi5 hy0 hy1 hy2 rfl (by decide) _ ys.length xs (by rfl) (HSM.out.later (by repeat (first | with_reducible exact Z2 | with_reducible refine Ext.drew ?_ | with_reducible refine Ext.more ?_ _))).1 ⟨w2.heap.size, 0, none⟩ 1 1 [.slice a1 p.length c1, .string k5, .int .i64 n5, .string x5, .slice a5 kl5 c5] (by rfl) rfl (news5 w2 _ _ _ _ _ _) (by simp [Value.oneCell']) (by unfold maxLen; omega) (by omega) (by have := Z2.size; simp; omega) ?_; intro v9 w9 hown9 hgrow9 hat9; obtain ⟨a9, c9, rfl⟩ := row5_slice hown9; have K9 := HK9.out w2 w9 _ hgrow9; have SK9 := four_of (K9.block' (Z2.block HBT.out) (fun e => by have := HLT.out _ e.symm; omega))))
      all_goals
        go_wp2_with fail
        go_meet
        case rel =>
          refine ⟨a9, c9, rfl, ⟨_, Steps.snoc (w2 := w2.alloc (.cells #[.slice a1 p.length c1, .string k5, .int .i64 n5, .string x5, .slice a5 kl5 c5] 57)) HSM.out (Z2.more _) (by omega) ⟨(Ints.own rfl ho1').later (Y12.more _), fun q hq => (ho1'.lt q hq).1⟩ (fun q hq => by have h1 := (ho1'.lt q hq).2; have h2 := Y12.size; simp; omega) ((hr2.later (Ext.alloc w2 _)).mono (fun q _ hq => by have hq' : _ ≤ q := hq; have h3 := Z1.size; show M.heap.size ≤ q; omega)) hown9 ⟨hgrow9.os, hgrow9.tape, hgrow9.output, hgrow9.size, fun q hq hne => hgrow9.block q hq hne⟩ (hat9.imp id (fun h => ⟨_, h, Nat.le_refl _⟩))⟩, ?_, ?_, ?_⟩
          · exact K9.block' (Z2.block HBT.out) (fun e => by have := HLT.out _ e.symm; omega)
          · exact ((HXM.out.trans Z2).kp _).trans K9
          · rcases hat9 with h | h
            · exact .inl h
            · exact .inr ⟨_, h, by have := Z2.size; simp; omega⟩
    case rest =>
      obtain ⟨la2, lc2, rfl, hst0⟩ := hcut
      have HST := hid hst0
      clear hst0 t0 t1 t2 t3 HSK HIM HRM HSM HK9 hi5 hy0 hy1 hy2 HXM HBT hsM
      go_wp2_with fail
      go_loopw [0, 7] (fun l i wr => ∃ (j : Nat) (la3 : Option Addr) (n3 lc3 : Nat), j ≤ ks.length ∧ i = .int .i64 j ∧ l = .slice la3 n3 lc3 ∧ AllSt w base (.slice la ys.length lc) (.cells #[.string k, .int .i64 n, .string x, .slice a ks.length c] 26) l (ys ++ (p, .node k n x ks) :: T.allL p 0 (ks.take j)) wr) (fun _ i _ => ks.length - (intOf i).toNat)
      case atStart => exact ⟨0, _, _, _, Nat.zero_le _, rfl, rfl, HST.out⟩
      case round =>
        obtain ⟨j, la3, n3, lc3, hj, rfl, rfl, hst⟩ := hrel
        have HSJ := hid hst
        obtain ⟨t0, t1, t2, t3⟩ := four_of hst.2.1
        clear hst HST
        by_cases hlt : j < ks.length
        · have hlt' : (j : Int) < ks.length := by omega
          have HKP := hid (HSJ.out.2.2.1.mono (L := K) (fun q _ hq e => HLK.out q e.symm hq))
          obtain ⟨g, off, k', n', x', a', l', c', rfl, hg, h4, hrd⟩ := HK.out.kid hlt
          obtain ⟨m0, m1, m2, m3⟩ := h4.keep HKP.out hg
          have hgl := lt_of_cell m0
          have HRK := hid (hrd.keep HKP.out)
          have HIR := hid (show Ints wr (.slice pa p.length pc) p from (IntsK.keep (K := fun q => some q ≠ (Value.slice la ys.length lc).ownBlock) ⟨HI.out, fun q hq e => HPQ.out q hq e.symm⟩ HSJ.out.2.2.1).1)
          have HSK := hid (show ∀ W', Ext wr W' → W'.cell? ⟨w.heap.size, 0, none⟩ = some (.string k) ∧ W'.cell? ⟨w.heap.size, 1, none⟩ = some (.int .i64 n) ∧ W'.cell? ⟨w.heap.size, 2, none⟩ = some (.string x) ∧ W'.cell? ⟨w.heap.size, 3, none⟩ = some (.slice (some ⟨g, off, none⟩) ks.length c) ∧ W'.cell? ⟨g, off + j * 4, none⟩ = some (.string k') ∧ W'.cell? ⟨g, off + j * 4 + 1, none⟩ = some (.int .i64 n') ∧ W'.cell? ⟨g, off + j * 4 + 2, none⟩ = some (.string x') ∧ W'.cell? ⟨g, off + j * 4 + 3, none⟩ = some (.slice a' l' c') from fun W' Y => ⟨(Y.kp (fun _ => True)).cell t0 trivial, (Y.kp (fun _ => True)).cell t1 trivial, (Y.kp (fun _ => True)).cell t2 trivial, (Y.kp (fun _ => True)).cell t3 trivial, (Y.kp (fun _ => True)).cell m0 trivial, (Y.kp (fun _ => True)).cell m1 trivial, (Y.kp (fun _ => True)).cell m2 trivial, (Y.kp (fun _ => True)).cell m3 trivial⟩)
          obtain ⟨xs3, hs3⟩ := HSJ.out.1
          have HS3 := hid hs3
          have HNK := hid (show ∀ q, (Value.slice la3 n3 lc3).ownBlock = some q → ¬ K q from fun q hq hk => by
            rcases HSJ.out.2.2.2 with h | ⟨q', h, hq'⟩
            · rw [h] at hq; exact HLK.out q hq hk
            · rw [h] at hq; cases hq; have := HKL.out _ hk; omega)
          have HNB := hid (show some w.heap.size ≠ (Value.slice la3 n3 lc3).ownBlock from fun e => by
            rcases HSJ.out.2.2.2 with h | ⟨q', h, hq'⟩
            · rw [h] at e; have := HLT.out _ e.symm; omega
            · rw [h] at e; cases e; omega)
          have HG := hid hg
          have HSK9 := hid (show ∀ W', Kp (fun q => some q ≠ (Value.slice la3 n3 lc3).ownBlock) wr W' → W'.cell? ⟨w.heap.size, 0, none⟩ = some (.string k) ∧ W'.cell? ⟨w.heap.size, 1, none⟩ = some (.int .i64 n) ∧ W'.cell? ⟨w.heap.size, 2, none⟩ = some (.string x) ∧ W'.cell? ⟨w.heap.size, 3, none⟩ = some (.slice (some ⟨g, off, none⟩) ks.length c) ∧ W'.cell? ⟨g, off + j * 4, none⟩ = some (.string k') ∧ W'.cell? ⟨g, off + j * 4 + 1, none⟩ = some (.int .i64 n') ∧ W'.cell? ⟨g, off + j * 4 + 2, none⟩ = some (.string x') ∧ W'.cell? ⟨g, off + j * 4 + 3, none⟩ = some (.slice a' l' c') from fun W' Y => ⟨Y.cell t0 HNB.out, Y.cell t1 HNB.out, Y.cell t2 HNB.out, Y.cell t3 HNB.out, Y.cell m0 (fun e => HNK.out g e.symm HG.out), Y.cell m1 (fun e => HNK.out g e.symm HG.out), Y.cell m2 (fun e => HNK.out g e.symm HG.out), Y.cell m3 (fun e => HNK.out g e.symm HG.out)⟩)
          have HTK := hid (show ys ++ (p, T.node k n x ks) :: T.allL p 0 (ks.take (j + 1)) = (ys ++ (p, T.node k n x ks) :: T.allL p 0 (ks.take j)) ++ T.all (p ++ [(j : Int)]) ks[j] by rw [T.allL_take ks p j hlt, List.append_assoc, List.cons_append])
          have HSS := hid (show (ys ++ (p, T.node k n x ks) :: T.allL p 0 (ks.take j)).length + ks[j].size ≤ 4000 ∧ (p ++ [(j : Int)]).length + ks[j].height ≤ 4000 by
            have h1 := HSZ.out
            have h2 := T.sizeL_take ks j hlt
            have h3 := T.sizeL_split ks (j + 1)
            have h4 := T.heightL_mem (List.getElem_mem hlt)
            simp only [List.length_append, List.length_cons, T.allL_length, List.length_nil]
            omega)
          have HCALL := hid (show ∀ (a9 : Option Addr) (c9 : Nat) (w2 : World), Ext wr w2 → w2.ownsRow wr.heap.size 3 1 (.slice a9 (p.length + 1) c9) (p.length + 1) ((p ++ [(j : Int)]).map (Value.int .i64)) → Calls Try.prog 54 #[.slice la3 n3 lc3, .agg #[.string k', .int .i64 n', .string x', .slice a' l' c'], .slice a9 (p.length + 1) c9] w2 fun e w' => ∃ v' xs', e = .returned v' ∧ Steps w' base v' ((ys ++ (p, .node k n x ks) :: T.allL p 0 (ks.take j)) ++ T.all (p ++ [(j : Int)]) ks[j]) xs' ∧ Kp (fun q => some q ≠ (Value.slice la3 n3 lc3).ownBlock) w2 w' ∧ (v'.ownBlock = (Value.slice la3 n3 lc3).ownBlock ∨ ∃ q, v'.ownBlock = some q ∧ w2.heap.size ≤ q) from fun a9 c9 w2 Z2 ho2 => by
            have hlen : (p ++ [(j : Int)]).length = p.length + 1 := by simp
            have h := HIH.out (.agg #[.string k', .int .i64 n', .string x', .slice a' l' c']) ks[j] K w2 base (.slice la3 n3 lc3) (ys ++ (p, .node k n x ks) :: T.allL p 0 (ks.take j)) xs3 a9 c9 (p ++ [(j : Int)]) (HRK.out.later Z2) (HS3.out.later Z2) HNK.out (by have h1 := Z2.size; have h2 := HSJ.out.2.2.1.size; omega) (Ints.own rfl (by rw [hlen]; exact ho2)) (fun q hq e => by have h1 := (ho2.lt q (by rw [hlen] at hq; exact hq)).1; have h2 := (HS3.out.1.lt q e).2; omega) HSS.out.1 HSS.out.2
            rw [hlen] at h
            exact h)
          clear h4 hrd hg hs3
          go_wp2_with fail
          go_region_held3 (fun W' => W'.cell? ⟨w.heap.size, 0, none⟩ = some (.string k) ∧ W'.cell? ⟨w.heap.size, 1, none⟩ = some (.int .i64 n) ∧ W'.cell? ⟨w.heap.size, 2, none⟩ = some (.string x) ∧ W'.cell? ⟨w.heap.size, 3, none⟩ = some (.slice (some ⟨g, off, none⟩) ks.length c) ∧ W'.cell? ⟨g, off + j * 4, none⟩ = some (.string k') ∧ W'.cell? ⟨g, off + j * 4 + 1, none⟩ = some (.int .i64 n') ∧ W'.cell? ⟨g, off + j * 4 + 2, none⟩ = some (.string x') ∧ W'.cell? ⟨g, off + j * 4 + 3, none⟩ = some (.slice a' l' c'))
            (first | exact SK9 | (refine HSK.out _ ?_; (repeat (first | with_reducible exact Z2 | with_reducible exact Z1 | with_reducible exact Ext.refl _ | with_reducible refine Ext.drew ?_ | with_reducible refine Ext.more ?_ _)); done) | go_keep)
            (first
              | (refine step_append_ints _ (by rfl) _ (by rfl) (by rfl) pa p.length pc p (by rfl) (by omega) (HIR.out.later (by repeat (first | with_reducible exact Ext.refl _ | with_reducible refine Ext.drew ?_ | with_reducible refine Ext.more ?_ _))) ?_; intro a1 c1 w1 ho1 hx1; have Z1 : Ext wr w1 := Ext.trans (by repeat (first | with_reducible exact Ext.refl _ | with_reducible refine Ext.drew ?_ | with_reducible refine Ext.more ?_ _)) hx1; have ho1' := row_mono (base' := wr.heap.size) ho1 (by simp); (try have bB : w1.heap[wr.heap.size]? = some (.cells #[.int .i64 j] 3) := hx1.block (blk0 _ _)))
              | (refine step_append_snoc _ (by rfl) _ _ (by rfl) (by rfl) wr.heap.size a1 p.length c1 p _ (j : Int) (by rfl) (by rfl) rfl (by omega) (Below.size (show Ext wr _ from (by repeat (first | with_reducible exact Z1 | with_reducible refine Ext.drew ?_ | with_reducible refine Ext.more ?_ _)))) (row_ext ho1' (by repeat (first | with_reducible exact Ext.refl _ | with_reducible refine Ext.drew ?_ | with_reducible refine Ext.more ?_ _))) (by first | exact cell_of (blk0 w1 _) rfl | exact cell_of (blkOld _ bB) rfl | exact cell_of bB rfl) ?_; intro a9 c9 w2 ho2 hg2; have Z2 : Ext wr w2 := Below.grown (show Ext wr _ from (by repeat (first | with_reducible exact Z1 | with_reducible refine Ext.drew ?_ | with_reducible refine Ext.more ?_ _))) hg2 (Below.size (show Ext wr _ from (by repeat (first | with_reducible exact Z1 | with_reducible refine Ext.drew ?_ | with_reducible refine Ext.more ?_ _)))) (fun q hq => (ho1'.lt q hq).1); simp only [List.length_append, List.length_cons, List.length_nil, Nat.zero_add] at ho2)
              | (go_at_call 54; refine (HCALL.out a9 c9 _ (by repeat (first | with_reducible exact Z2 | with_reducible refine Ext.drew ?_ | with_reducible refine Ext.more ?_ _)) (row_ext ho2 (by repeat (first | with_reducible exact Ext.refl _ | with_reducible refine Ext.drew ?_ | with_reducible refine Ext.more ?_ _)))).mono ?_; rintro e w3 ⟨v3, xs4, rfl, hst3, hk3, ho3⟩; obtain ⟨a8, n8, c8, rfl⟩ := row5_any hst3.1; have KK : Kp (fun q => some q ≠ (Value.slice la3 n3 lc3).ownBlock) wr w3 := (Ext.kp (show Ext wr _ from (by repeat (first | with_reducible exact Z2 | with_reducible refine Ext.drew ?_ | with_reducible refine Ext.more ?_ _))) _).trans hk3; have SK9 := HSK9.out w3 KK; have hz2 := Z2.size))
          all_goals
            go_wp2_with fail
            go_roundw
            case rel =>
              refine ⟨j + 1, a8, n8, c8, hlt, by go_num, rfl, ⟨xs4, by rw [HTK.out]; exact hst3⟩, KK.block' HSJ.out.2.1 HNB.out, HSJ.out.2.2.1.chain KK (fun q hq hne e => ?_), ?_⟩
              · rcases HSJ.out.2.2.2 with h | ⟨q', h, hq'⟩
                · rw [h] at e; exact hne e
                · rw [h] at e; cases e; omega
              · rcases ho3 with h | ⟨q', h, hq'⟩
                · rw [h]; exact HSJ.out.2.2.2
                · exact .inr ⟨q', h, by have h2 := lt_of_block HSJ.out.2.1; first | omega | (simp at hq'; omega)⟩
            case measure => simp [intOf]; omega
        · have hje : j = ks.length := by omega
          have HR := hid (show ys ++ (p, T.node k n x ks) :: T.allL p 0 (ks.take j) = ys ++ T.all p (.node k n x ks) by rw [hje, List.take_length]; rfl)
          clear hje
          go_wp2_with fail
          go_ret
          obtain ⟨⟨xs3, hs3⟩, _, hk3, ho3⟩ := HSJ.out
          rw [HR.out] at hs3
          refine ⟨_, xs3, rfl, hs3, hk3, ?_⟩
          rcases ho3 with h | ⟨q', h, hq'⟩
          · exact .inl h
          · exact .inr ⟨q', h, by omega⟩
end Go.Proofs.Ythdmoghooaccgaa
/-
  The reference's All, by a contract.
-/
namespace Go.Proofs.Ythdmoghooaccgaa
open Go.RowKit
set_option maxRecDepth 100000 in
theorem refAll_any {K : Nat → Prop} {d : Nat} {v : Value} {t : T} (w : World) (hr : Rd K w d v t) : Calls Try.prog 23 #[v] w fun e w' => ∃ v' xs, e = .returned v' ∧ Steps w' w.heap.size v' (if t.small then T.all [] t else []) xs ∧ Ext w w' := by
  obtain ⟨u0, u1, u2, u3, rfl⟩ := hr.agg
  obtain ⟨k, n, x, a, c, rfl, rfl, rfl, rfl⟩ := hr.shape
  have C1 := hid (fun w1 (h : Ext w w1) => refSmall_any w1 (hr.later h))
  have C2 := hid (fun w1 (h : Ext w w1) (hs : t.size ≤ 4000) (hh : t.height ≤ 4000) => rall_any d _ t K w1 w.heap.size (.slice none 0 0) [] [] none 0 [] (hr.later h) (Steps.nil _ _) (fun q hq => by cases hq) h.size (Ints.nil _ _ _) (fun q hq => by cases hq) (by simpa using hs) (by simpa using hh))
  clear hr
  generalize (T.kids t).length = kt at *
  by_cases h1 : t.small
  · rw [decide_eq_true h1] at C1
    rw [if_pos h1]
    have HS := hid (show t.size ≤ 4000 ∧ t.height ≤ 4000 by have := h1.1; have := h1.2.1; omega)
    clear h1
    go_enter Try.func23, Try.ntmps23
    go_wp2_with fail
    refine (C1.out _ (Ext.alloc _ _)).mono ?_
    rintro e w1 ⟨rfl, hx1⟩
    obtain ⟨p0, p1, p2, p3⟩ := four_of (hx1.block (blk0 w _))
    have hX1 := (Ext.alloc w _).trans hx1
    clear hx1
    go_wp2_with fail
    refine (C2.out _ hX1 HS.out.1 HS.out.2).mono ?_
    rintro e w2 ⟨v', xs, rfl, hst, hk, ho⟩
    have HX2 := hid (hX1.trans (hk.ext (fun q _ e => by cases e)))
    obtain ⟨a2, n2, c2, rfl⟩ := row5_any hst.1
    have HST := hid hst
    clear hk hst p0 p1 p2 p3 ho
    go_wp2_with fail
    go_ret
    exact ⟨_, xs, rfl, by simpa using HST.out, HX2.out⟩
  · rw [decide_eq_false h1] at C1
    rw [if_neg h1]
    clear h1
    go_enter Try.func23, Try.ntmps23
    go_wp2_with fail
    refine (C1.out _ (Ext.alloc _ _)).mono ?_
    rintro e w1 ⟨rfl, hx1⟩
    have HX := hid ((Ext.alloc w _).trans hx1)
    clear hx1
    go_wp2_with fail
    go_ret
    exact ⟨_, [], rfl, Steps.nil _ _, HX.out⟩
end Go.Proofs.Ythdmoghooaccgaa
