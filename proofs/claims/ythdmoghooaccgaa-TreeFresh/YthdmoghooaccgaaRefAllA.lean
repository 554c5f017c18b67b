/-
  What the reference's list of all nodes reads as; append as one step of a region that draws its order.
-/
import Derived.Test.YthdmoghooaccgaaRefOwn
import Derived.Test.YthdmoghooaccgaaPathAid
import Derived.Test.YthdmoghooaccgaaRefKinds
import Derived.Deep.RegionHeld3
import Derived.Deep.AppendLies
import Derived.Deep.Cut
import Derived.Deep.CutRange
import Derived.Deep.CutBlock
namespace Go.Proofs.Ythdmoghooaccgaa
open Go.RowKit
theorem append_none (w : World) (c : Nat) : (Builtin.append_ #[27, 27] 27 #[.slice none 0 0, .slice none 0 c]).run Try.prog w = .ok (.slice none 0 0) w := by kernel_rfl
theorem append_ints (a : Option Addr) (n c : Nat) (xs : List Int) (w : World) (hb : xs.length * 8 ≤ 140737488355328) (h : Ints w (.slice a n c) xs) :
    ∃ a' c' w', (Builtin.append_ #[27, 27] 27 #[.slice none 0 0, .slice a n c]).run Try.prog w = .ok (.slice a' xs.length c') w' ∧ w'.ownsRow w.heap.size 3 1 (.slice a' xs.length c') xs.length (xs.map (Value.int .i64)) ∧ Ext w w' := by
  obtain ⟨i0, hi0, hz0, hz1, hz2⟩ := info_parts intInfo
  rcases h with ⟨⟨a0, c0, hv⟩, rfl⟩ | ⟨g, off, cap, hv, hc⟩
  · injection hv with h1 h2 h3
    subst h2
    cases a with
    | none =>
      obtain ⟨v', w', hr⟩ : ∃ v' w', (Builtin.append_ #[27, 27] 27 #[.slice none 0 0, .slice none 0 c]).run Try.prog w = .ok v' w' ∧ v' = .slice none 0 0 ∧ w' = w := ⟨_, _, append_none w c, rfl, rfl⟩
      obtain ⟨hr, rfl, rfl⟩ := hr
      exact ⟨_, _, _, hr, World.ownsRow_nil _ _ _ _, Ext.refl _⟩
    | some ad =>
      obtain ⟨v', w', hr, ho, hg, _, _⟩ := run_append_own_at (P := Try.prog) w w.heap.size 27 27 3 i0 (.int .i64 0) 1 8 Try.underlying27 hi0 hz0 hz1 hz2 rfl (by decide) (.slice none 0 0) 0 [] (World.ownsRow_nil _ _ _ _) ad 0 c [] rfl (fun j u hu => by simp at hu) (fun u hu => by simp at hu) (by unfold maxLen; omega) (by omega) (Nat.le_refl _)
      have ho2 : w'.ownsRow w.heap.size 3 1 v' 0 [] := ho
      obtain ⟨a', c', rfl⟩ := ownsRow_slice ho2
      exact ⟨a', c', w', hr, ho2, Below.grown (Ext.refl w) hg (Nat.le_refl _) (fun k hk => by simp [Value.ownBlock] at hk)⟩
  · injection hv with h1 h2 h3
    subst h1; subst h2; subst h3
    have hnews : ∀ (j : Nat) (u : Value), (xs.map (Value.int .i64))[j]? = some u → w.cell? (Addr.add ⟨g, off, none⟩ j) = some u := by
      intro j u hu
      rw [List.getElem?_map] at hu
      obtain ⟨x, hx, rfl⟩ := Option.map_eq_some_iff.1 hu
      rw [add_none]; exact hc j x hx
    have hone : ∀ u ∈ xs.map (Value.int .i64), u.oneCell' = true := by
      intro u hu
      obtain ⟨x, _, rfl⟩ := List.mem_map.1 hu
      rfl
    obtain ⟨v', w', hr, ho, hg, _, _⟩ := run_append_own_at (P := Try.prog) w w.heap.size 27 27 3 i0 (.int .i64 0) 1 8 Try.underlying27 hi0 hz0 hz1 hz2 rfl (by decide) (.slice none 0 0) 0 [] (World.ownsRow_nil _ _ _ _) ⟨g, off, none⟩ xs.length c (xs.map (Value.int .i64)) (by simp) hnews hone (by unfold maxLen; omega) (by simpa using hb) (Nat.le_refl _)
    have ho2 : w'.ownsRow w.heap.size 3 1 v' xs.length (xs.map (Value.int .i64)) := by simpa using ho
    obtain ⟨a', c', rfl⟩ := ownsRow_slice ho2
    exact ⟨a', c', w', hr, ho2, Below.grown (Ext.refl w) hg (Nat.le_refl _) (fun k hk => by simp [Value.ownBlock] at hk)⟩
theorem step_append_ints {ops : Array Oper} {o : Oper} {ac : Act} {K : Act → World → Prop} {Q : Exit → Act → World → Prop} {E : Prop} (w : World) (hgd : o.guard = none) (x : Operand)
    (ho : o.op = .call { callee := .builtin .append, args := #[.const (.slice none 0 0), x], argTypes := #[27, 27] }) (hty : o.type = 27)
    (a : Option Addr) (n c : Nat) (xs : List Int) (hx : ac.eval x = .slice a n c) (hb : xs.length * 8 ≤ 140737488355328) (hI : Ints w (.slice a n c) xs)
    (h : ∀ a' c' w', w'.ownsRow w.heap.size 3 1 (.slice a' xs.length c') xs.length (xs.map (Value.int .i64)) → Ext w w' → K (ac.put o.dst (.slice a' xs.length c')) w') :
    if Region.wanted o (yielded ops ac.tmps) = true then Oper.wp Try.prog o ac w K Q else E := by
  have hw : Region.wanted o (yielded ops ac.tmps) = true := by simp [Region.wanted, hgd]
  rw [if_pos hw]
  obtain ⟨a', c', w', hr, h2, h3⟩ := append_ints a n c xs w hb hI
  unfold Oper.wp execOp
  have hs : ac.eval (.const (.slice none 0 0)) = .slice none 0 0 := rfl
  simp only [ho, hty, resolve, invoke, builtin, Sem.run_bind, Sem.run_pure, Result.andThen_ok, List.map_toArray, List.map_cons, List.map_nil, hs, hx, hr]
  exact h a' c' w' h2 h3
theorem append_snoc (base : Nat) (a : Option Addr) (n c : Nat) (xs : List Int) (g : Nat) (k : Int) (w : World) (hn : n = xs.length) (hb : (xs.length + 1) * 8 ≤ 140737488355328) (hB : base ≤ w.heap.size) (h : w.ownsRow base 3 1 (.slice a n c) xs.length (xs.map (Value.int .i64))) (hk : w.cell? ⟨g, 0, none⟩ = some (.int .i64 k)) :
    ∃ a' c' w', (Builtin.append_ #[27, 27] 27 #[.slice a n c, .slice (some ⟨g, 0, none⟩) 1 1]).run Try.prog w = .ok (.slice a' (xs ++ [k]).length c') w' ∧ w'.ownsRow base 3 1 (.slice a' (xs ++ [k]).length c') (xs ++ [k]).length ((xs ++ [k]).map (Value.int .i64)) ∧ w.grownBy w' (Value.slice a n c).ownBlock := by
  subst hn
  obtain ⟨i0, hi0, hz0, hz1, hz2⟩ := info_parts intInfo
  have hnews : ∀ (j : Nat) (u : Value), [Value.int .i64 k][j]? = some u → w.cell? (Addr.add ⟨g, 0, none⟩ j) = some u := by
    intro j u hu
    match j, hu with
    | 0, hu => simp at hu; subst hu; rw [add_none]; exact hk
  have hone : ∀ u ∈ [Value.int .i64 k], u.oneCell' = true := by
    intro u hu
    simp at hu; subst hu; rfl
  obtain ⟨v', w', hr, ho, hg, _, _⟩ := run_append_own_at (P := Try.prog) w base 27 27 3 i0 (.int .i64 0) 1 8 Try.underlying27 hi0 hz0 hz1 hz2 rfl (by decide) (.slice a xs.length c) xs.length (xs.map (Value.int .i64)) h ⟨g, 0, none⟩ 1 1 [.int .i64 k] rfl hnews hone (by unfold maxLen; omega) (by omega) hB
  have ho2 : w'.ownsRow base 3 1 v' (xs ++ [k]).length ((xs ++ [k]).map (Value.int .i64)) := by simpa using ho
  obtain ⟨a', c', rfl⟩ := ownsRow_slice ho2
  exact ⟨a', c', w', hr, ho2, hg⟩
theorem step_append_snoc {ops : Array Oper} {o : Oper} {ac : Act} {K : Act → World → Prop} {Q : Exit → Act → World → Prop} {E : Prop} (w : World) (hgd : o.guard = none) (x y : Operand)
    (ho : o.op = .call { callee := .builtin .append, args := #[x, y], argTypes := #[27, 27] }) (hty : o.type = 27)
    (base : Nat) (a : Option Addr) (n c : Nat) (xs : List Int) (g : Nat) (k : Int) (hx : ac.eval x = .slice a n c) (hy : ac.eval y = .slice (some ⟨g, 0, none⟩) 1 1) (hn : n = xs.length) (hb : (xs.length + 1) * 8 ≤ 140737488355328) (hB : base ≤ w.heap.size)
    (hO : w.ownsRow base 3 1 (.slice a n c) xs.length (xs.map (Value.int .i64))) (hk : w.cell? ⟨g, 0, none⟩ = some (.int .i64 k))
    (h : ∀ a' c' w', w'.ownsRow base 3 1 (.slice a' (xs ++ [k]).length c') (xs ++ [k]).length ((xs ++ [k]).map (Value.int .i64)) → w.grownBy w' (Value.slice a n c).ownBlock → K (ac.put o.dst (.slice a' (xs ++ [k]).length c')) w') :
    if Region.wanted o (yielded ops ac.tmps) = true then Oper.wp Try.prog o ac w K Q else E := by
  have hw : Region.wanted o (yielded ops ac.tmps) = true := by simp [Region.wanted, hgd]
  rw [if_pos hw]
  obtain ⟨a', c', w', hr, h2, h3⟩ := append_snoc base a n c xs g k w hn hb hB hO hk
  unfold Oper.wp execOp
  simp only [ho, hty, resolve, invoke, builtin, Sem.run_bind, Sem.run_pure, Result.andThen_ok, List.map_toArray, List.map_cons, List.map_nil, hx, hy, hr]
  exact h a' c' w' h2 h3
theorem step_append_own {ops : Array Oper} {o : Oper} {ac : Act} {K : Act → World → Prop} {Q : Exit → Act → World → Prop} {E : Prop} (w : World) (hgd : o.guard = none) (x y : Operand) (t : TypeId)
    (ho : o.op = .call { callee := .builtin .append, args := #[x, y], argTypes := #[t, t] })
    (base : Nat) (e : TypeId) (i : TypeInfo) (z : Value) (size bytes : Nat) (ht : Try.prog.underlying t = some (.slice e)) (hi : Try.prog.info? e = some i) (hz : i.zero = some z)
    (hsize : i.size = size) (hby : i.bytes = bytes) (hzs : z.cells.size = size) (hsz : 0 < size)
    (v : Value) (n : Nat) (xs : List Value) (hx : ac.eval x = v) (hown : w.ownsRow base e size v n xs)
    (ad : Addr) (m c : Nat) (news : List Value) (hy : ac.eval y = .slice (some ad) m c) (hl : news.length = m * size) (hnews : ∀ j u, news[j]? = some u → w.cell? (ad.add j) = some u) (h1 : ∀ u ∈ news, u.oneCell' = true)
    (h63 : n + m ≤ maxLen) (hbytes : (n + m) * bytes ≤ 140737488355328) (hbase : base ≤ w.heap.size)
    (h : ∀ v' w', w'.ownsRow base e size v' (n + m) (xs ++ news) → w.grownBy w' v.ownBlock → (v'.ownBlock = v.ownBlock ∨ v'.ownBlock = some w.heap.size) → K (ac.put o.dst v') w') :
    if Region.wanted o (yielded ops ac.tmps) = true then Oper.wp Try.prog o ac w K Q else E := by
  have hw : Region.wanted o (yielded ops ac.tmps) = true := by simp [Region.wanted, hgd]
  rw [if_pos hw]
  obtain ⟨v', w', hr, h2, h3, _, h5⟩ := run_append_own_at (P := Try.prog) w base t o.type e i z size bytes ht hi hz hsize hby hzs hsz v n xs hown ad m c news hl hnews h1 h63 hbytes hbase
  unfold Oper.wp execOp
  simp only [ho, resolve, invoke, builtin, Sem.run_bind, Sem.run_pure, Result.andThen_ok, List.map_toArray, List.map_cons, List.map_nil, hx, hy, hr]
  exact h v' w' h2 h3 h5
theorem stepInfo : (Try.prog.info? 57).map (fun i => (i.zero, i.size, i.bytes)) = some (some (.agg #[.slice none 0 0, .string ⟨#[]⟩, .int .i64 0, .string ⟨#[]⟩, .slice none 0 0]), 5, 88) := by kernel_rfl
theorem news5 (w : World) (a b c d f : Value) (t : TypeId) : ∀ (e : Nat) (u : Value), [a, b, c, d, f][e]? = some u → (w.alloc (.cells #[a, b, c, d, f] t)).cell? ((⟨w.heap.size, 0, none⟩ : Addr).add e) = some u := fun e u he => by
  have hb := blk0 w (.cells #[a, b, c, d, f] t)
  rw [add_none, Nat.zero_add]
  refine cell_of hb ?_
  simpa using he
/-- A path in a block of K. -/
def IntsK (K : Nat → Prop) (w : World) (v : Value) (p : List Int) : Prop := Ints w v p ∧ ∀ q, v.ownBlock = some q → K q
theorem IntsK.keep {K : Nat → Prop} {w w' : World} {v : Value} {p : List Int} (h : IntsK K w v p) (hk : Kp K w w') : IntsK K w' v p := by
  refine ⟨?_, h.2⟩
  rcases h.1 with h1 | ⟨g, off, cap, rfl, hc⟩
  · exact .inl h1
  · exact .inr ⟨g, off, cap, rfl, fun j u hu => hk.cell (hc j u hu) (h.2 g rfl)⟩
theorem IntsK.mono {K L : Nat → Prop} {w : World} {v : Value} {p : List Int} (h : IntsK K w v p) (hl : ∀ q, K q → L q) : IntsK L w v p := ⟨h.1, fun q hq => hl q (h.2 q hq)⟩
/-- What the j-th step of a row reads as. -/
def StepAt (K : Nat → Prop) (w : World) (xs : List Value) (j : Nat) (y : List Int × T) : Prop :=
  ∃ pa pc u0 u1 u2 u3 d, xs[j * 5]? = some (.slice pa y.1.length pc) ∧ xs[j * 5 + 1]? = some u0 ∧ xs[j * 5 + 2]? = some u1 ∧ xs[j * 5 + 3]? = some u2 ∧ xs[j * 5 + 4]? = some u3 ∧ IntsK K w (.slice pa y.1.length pc) y.1 ∧ Rd K w d (.agg #[u0, u1, u2, u3]) y.2
theorem StepAt.keep {K : Nat → Prop} {w w' : World} {xs : List Value} {j : Nat} {y : List Int × T} (h : StepAt K w xs j y) (hk : Kp K w w') : StepAt K w' xs j y := by
  obtain ⟨pa, pc, u0, u1, u2, u3, d, h0, h1, h2, h3, h4, h5, h6⟩ := h
  exact ⟨pa, pc, u0, u1, u2, u3, d, h0, h1, h2, h3, h4, h5.keep hk, h6.keep hk⟩
theorem StepAt.mono {K L : Nat → Prop} {w : World} {xs : List Value} {j : Nat} {y : List Int × T} (h : StepAt K w xs j y) (hl : ∀ q, K q → L q) : StepAt L w xs j y := by
  obtain ⟨pa, pc, u0, u1, u2, u3, d, h0, h1, h2, h3, h4, h5, h6⟩ := h
  exact ⟨pa, pc, u0, u1, u2, u3, d, h0, h1, h2, h3, h4, h5.mono hl, h6.mono (fun q _ h => hl q h)⟩
theorem StepAt.app {K : Nat → Prop} {w : World} {xs : List Value} {j : Nat} {y : List Int × T} (h : StepAt K w xs j y) (zs : List Value) : StepAt K w (xs ++ zs) j y := by
  obtain ⟨pa, pc, u0, u1, u2, u3, d, h0, h1, h2, h3, h4, h5, h6⟩ := h
  have l : ∀ {i u}, xs[i]? = some u → (xs ++ zs)[i]? = some u := fun {i u} h => by rw [List.getElem?_append_left (List.getElem?_eq_some_iff.1 h).1]; exact h
  exact ⟨pa, pc, u0, u1, u2, u3, d, l h0, l h1, l h2, l h3, l h4, h5, h6⟩
/-- A row of steps of one's own, all it leads to in other blocks. -/
def Steps (w : World) (base : Nat) (v : Value) (ys : List (List Int × T)) (xs : List Value) : Prop :=
  w.ownsRow base 57 5 v ys.length xs ∧ ∀ j, (h : j < ys.length) → StepAt (fun q => base ≤ q ∧ q < w.heap.size ∧ v.ownBlock ≠ some q) w xs j ys[j]
theorem row5_slice {w : World} {base : Nat} {v : Value} {n : Nat} {xs : List Value} (h : w.ownsRow base 57 5 v n xs) : ∃ a c, v = .slice a n c := by
  rcases h.2 with ⟨rfl, rfl⟩ | ⟨g, cap, _, rfl, _⟩
  · exact ⟨_, _, rfl⟩
  · exact ⟨_, _, rfl⟩
theorem row5_any {w : World} {base : Nat} {v : Value} {n : Nat} {xs : List Value} (h : w.ownsRow base 57 5 v n xs) : ∃ a m c, v = .slice a m c := by
  obtain ⟨a, c, h⟩ := row5_slice h
  exact ⟨a, n, c, h⟩
theorem row5_keep {K : Nat → Prop} {w w' : World} {base : Nat} {v : Value} {n : Nat} {xs : List Value} (h : w.ownsRow base 57 5 v n xs) (hk : Kp K w w') (hb : ∀ b, v.ownBlock = some b → K b) : w'.ownsRow base 57 5 v n xs := by
  refine ⟨h.1, ?_⟩
  rcases h.2 with h | ⟨g, cap, cur, rfl, h1, h2, h3⟩
  · exact .inl h
  · exact .inr ⟨g, cap, cur, rfl, h1, hk.block' h2 (hb g rfl), h3⟩
theorem Steps.nil (w : World) (base : Nat) : Steps w base (.slice none 0 0) [] [] := ⟨World.ownsRow_nil _ _ _ _, fun _ h => absurd h (Nat.not_lt_zero _)⟩
theorem Steps.later {w w' : World} {base : Nat} {v : Value} {ys : List (List Int × T)} {xs : List Value} (h : Steps w base v ys xs) (hx : Ext w w') : Steps w' base v ys xs :=
  ⟨row5_keep h.1 (hx.kp (fun _ => True)) (fun _ _ => trivial), fun j hj => ((h.2 j hj).keep (hx.kp _)).mono (fun q hq => ⟨hq.1, by have := hx.size; omega, hq.2.2⟩)⟩
/-- A step more. -/
theorem Steps.snoc {w w2 w9 : World} {base : Nat} {v v9 : Value} {ys : List (List Int × T)} {xs : List Value} {p : List Int} {t : T} {pa : Option Addr} {pc d : Nat} {u0 u1 u2 u3 : Value} (h : Steps w base v ys xs) (hx : Ext w w2) (hb : base ≤ w.heap.size)
    (hp : IntsK (fun q => w.heap.size ≤ q) w2 (.slice pa p.length pc) p) (hpl : ∀ q, (Value.slice pa p.length pc).ownBlock = some q → q < w2.heap.size) (ht : Rd (fun q => w.heap.size ≤ q) w2 d (.agg #[u0, u1, u2, u3]) t)
    (hown : w9.ownsRow base 57 5 v9 (ys.length + 1) (xs ++ [.slice pa p.length pc, u0, u1, u2, u3])) (hk : Kp (fun q => some q ≠ v.ownBlock) w2 w9) (hat : v9.ownBlock = v.ownBlock ∨ ∃ q, v9.ownBlock = some q ∧ w2.heap.size ≤ q) :
    Steps w9 base v9 (ys ++ [(p, t)]) (xs ++ [.slice pa p.length pc, u0, u1, u2, u3]) := by
  have hlow : ∀ q, v.ownBlock = some q → q < w.heap.size := fun q hq => (h.1.lt q hq).2
  have hs2 := hx.size
  have hs9 := hk.size
  have hne : ∀ q, q < w2.heap.size → v.ownBlock ≠ some q → v9.ownBlock ≠ some q := fun q hq hv e => by
    rcases hat with h1 | ⟨q', h1, h2⟩
    · exact hv (h1.symm.trans e)
    · rw [h1] at e; cases e; omega
  have hxl : xs.length = ys.length * 5 := h.1.1
  refine ⟨by rw [List.length_append]; exact hown, fun j hj => ?_⟩
  by_cases hjl : j < ys.length
  · rw [List.getElem_append_left hjl]
    refine ((((h.2 j hjl).keep (hx.kp _)).mono (L := fun q => (base ≤ q ∧ q < w.heap.size) ∧ some q ≠ v.ownBlock) (fun q hq => ⟨⟨hq.1, hq.2.1⟩, fun e => hq.2.2 e.symm⟩)).keep (hk.mono (fun q _ hq => hq.2))).mono (fun q hq => ⟨hq.1.1, by omega, hne q (by omega) (fun e => hq.2 e.symm)⟩) |>.app _
  · have hje : j = ys.length := by simp at hj; omega
    subst hje
    rw [List.getElem_append_right (Nat.le_refl _)]
    simp only [Nat.sub_self, List.getElem_cons_zero]
    have a : ∀ e, e < 5 → (xs ++ [.slice pa p.length pc, u0, u1, u2, u3])[ys.length * 5 + e]? = [Value.slice pa p.length pc, u0, u1, u2, u3][e]? := fun e he => by
      rw [List.getElem?_append_right (by omega), hxl, show ys.length * 5 + e - ys.length * 5 = e by omega]
    have hK : ∀ q, w.heap.size ≤ q → some q ≠ v.ownBlock := fun q hq e => by have := hlow q e.symm; omega
    refine ⟨pa, pc, u0, u1, u2, u3, d, a 0 (by decide), a 1 (by decide), a 2 (by decide), a 3 (by decide), a 4 (by decide), ?_, ?_⟩
    · refine ⟨(hp.keep (hk.mono (fun q _ hq => hK q hq))).1, fun q hq => ?_⟩
      have h1 := hp.2 q hq
      have h2 := hpl q hq
      exact ⟨by omega, by omega, hne q h2 (fun e => hK q h1 e.symm)⟩
    · have h1 := (ht.mono (L := fun q => w.heap.size ≤ q ∧ q < w2.heap.size) (fun q hq h => ⟨h, hq⟩)).keep (hk.mono (fun q _ hq => hK q hq.1))
      exact h1.mono (fun q _ hq => ⟨by omega, by omega, hne q hq.2 (fun e => hK q hq.1 e.symm)⟩)
end Go.Proofs.Ythdmoghooaccgaa
