/-
  What Whole of the statements' Paths holds: paths that grow over their spare room; append there.
-/
import Derived.Test.YthdmoghooaccgaaTakeNil
import Derived.ArgAppend
namespace Go.Proofs.Ythdmoghooaccgaa
open Go.RowKit
theorem step_append_room {ops : Array Oper} {o : Oper} {ac : Act} {K : Act → World → Prop} {Q : Exit → Act → World → Prop} {E : Prop} (w : World) (hgd : o.guard = none) (x y : Operand)
    (ho : o.op = .call { callee := .builtin .append, args := #[x, y], argTypes := #[27, 27] })
    (g n c p : Nat) (k : Int) (hx : ac.eval x = .slice (some ⟨g, 0, none⟩) n c) (hy : ac.eval y = .slice (some ⟨p, 0, none⟩) 1 1) (hk : w.cell? ⟨p, 0, none⟩ = some (.int .i64 k)) (hroom : n + 1 ≤ c) (hc : (w.cell? ⟨g, n, none⟩).isSome = true) (hf : w.frozen? ⟨g, n, none⟩ = false)
    (h : K (ac.put o.dst (.slice (some ⟨g, 0, none⟩) (n + 1) c)) (w.setCell ⟨g, n, none⟩ (.int .i64 k))) :
    if Region.wanted o (yielded ops ac.tmps) = true then Oper.wp Try.prog o ac w K Q else E := by
  have hw : Region.wanted o (yielded ops ac.tmps) = true := by simp [Region.wanted, hgd]
  rw [if_pos hw]
  obtain ⟨i0, hi0, hz0, hz1, hz2⟩ := info_parts intInfo
  have hr := run_append_room_cells (P := Try.prog) w 27 o.type 3 i0 Try.underlying27 hi0 g 0 n c ⟨p, 0, none⟩ 1 1 [.int .i64 k] (by rw [hz1]; rfl) (fun j u hu => by
    match j, hu with
    | 0, hu => cases hu; rw [add_none]; exact hk) (fun u hu => by simp at hu; subst hu; rfl) hroom (fun j hj => by
    have hj' : j = 0 := by simpa using hj
    subst hj'
    rw [hz1]; simpa using hc) (fun j hj => by
    have hj' : j = 0 := by simpa using hj
    subst hj'
    rw [hz1]; simpa using hf)
  rw [hz1] at hr
  simp only [World.setCells, Nat.mul_one, Nat.zero_add] at hr
  unfold Oper.wp execOp
  simp only [ho, resolve, invoke, builtin, Sem.run_bind, Sem.run_pure, Result.andThen_ok, List.map_toArray, List.map_cons, List.map_nil, hx, hy, hr]
  exact h
theorem row_setAt {w : World} {base g n c i : Nat} {e : TypeId} {xs : List Value} (h : w.ownsRow base e 1 (.slice (some ⟨g, 0, none⟩) n c) n xs) (v : Value) : (w.setCell ⟨g, i, none⟩ v).ownsRow base e 1 (.slice (some ⟨g, 0, none⟩) n c) n (xs.set i v) := by
  refine ⟨by rw [List.length_set]; exact h.1, ?_⟩
  rcases h.2 with ⟨h0, _⟩ | ⟨g', cap, cur, h0, h1, h2, h3, h4, h5, h6⟩
  · cases h0
  · simp only [Value.slice.injEq, Option.some.injEq, Addr.mk.injEq, and_true] at h0
    obtain ⟨rfl, _, rfl⟩ := h0
    refine .inr ⟨g, c, cur.setIfInBounds i v, rfl, h1, set_at h2 i v, h3, h4, by simpa using h5, ?_⟩
    rw [← h6]
    simp [List.take_set]
/-- How far a path is grown. -/
def goal (r : PR) : Nat := (roomI r.2.1 r.2.2).toNat
theorem goal_le {r : PR} (h : r.2.1 ≤ r.2.2) : r.2.1 ≤ goal r ∧ goal r ≤ r.2.2 ∧ roomI r.2.1 r.2.2 = (goal r : Int) := by
  unfold goal roomI
  split <;> omega
/-- A path that is grown so far: its mark, then the other one. -/
def Grown (w : World) (base : Nat) (r : PR) (n : Nat) (m m' : Int) : Prop :=
  base ≤ r.1 ∧ r.2.1 ≤ n ∧ n ≤ r.2.2 ∧ r.2.2 ≤ maxLen ∧ ∃ cur, w.heap[r.1]? = some (.cells cur 3) ∧ cur.size = r.2.2 ∧ (∀ k, k < r.2.2 → ∃ v : Value, cur[k]? = some v) ∧ (∀ k, k < r.2.1 → cur[k]? = some (.int .i64 m)) ∧ ∀ k, r.2.1 ≤ k → k < n → cur[k]? = some (.int .i64 m')
theorem Grown.keep {K : Nat → Prop} {w w' : World} {base n : Nat} {r : PR} {m m' : Int} (h : Grown w base r n m m') (hk : Kp K w w') (hr : K r.1) : Grown w' base r n m m' := by
  obtain ⟨h1, h3, h4, h5, cur, h6, h7⟩ := h
  exact ⟨h1, h3, h4, h5, cur, hk.block' h6 hr, h7⟩
theorem Full.grown {w : World} {base : Nat} {r : PR} {m : Int} (h : Full w base r m) (m' : Int) : Grown w base r r.2.1 m m' := by
  obtain ⟨h1, _, h3, h4, cur, h5, h6, h7, h8⟩ := h
  exact ⟨h1, Nat.le_refl _, h3, h4, cur, h5, h6, h7, h8, fun k h h' => by omega⟩
/-- The book while it grows: n tells how far each path is grown. -/
structure GBook (w : World) (b base lb lc : Nat) (nv : Value) (rs : List PR) (sz : Int) (n : Nat → Nat) : Prop where
  box : w.heap[b]? = some (.cells #[.slice (some ⟨lb, 0, none⟩) rs.length lc, nv, .int .i64 sz, .slice none 0 0] 55)
  rowL : ∃ L, w.ownsRow base 27 1 (.slice (some ⟨lb, 0, none⟩) rs.length lc) rs.length L ∧ ∀ i, (h : i < rs.length) → L[i]? = some (.slice (some ⟨rs[i].1, 0, none⟩) (n i) rs[i].2.2)
  rowN : w.ownsRow base 3 1 nv rs.length (rs.map (fun r => Value.int .i64 (r.2.1 : Int)))
  grown : ∀ i, (h : i < rs.length) → Grown w base rs[i] (n i) (-2 * ((i : Int) + 1)) (-2 * (i : Int) - 3)
  nodup : (rs.map (·.1)).Nodup
  apart : ∀ r ∈ rs, nv.ownBlock ≠ some r.1
  apartL : ∀ r ∈ rs, lb ≠ r.1
  ne : lb ≠ b ∧ nv.ownBlock ≠ some lb ∧ nv.ownBlock ≠ some b ∧ ∀ r ∈ rs, r.1 ≠ b
theorem PBook.grow {w : World} {b base lb lc : Nat} {nv : Value} {rs : List PR} {sz : Int} (h : PBook w b base (.slice (some ⟨lb, 0, none⟩) rs.length lc) nv rs sz) : GBook w b base lb lc nv rs sz (fun i => (rs[i]?.map (·.2.1)).getD 0) where
  box := h.box
  rowL := ⟨_, h.rowL, fun i hi => by simp [hi, prV]⟩
  rowN := h.rowN
  grown := fun i hi => by simpa [hi] using (h.full i hi).grown (-2 * (i : Int) - 3)
  nodup := h.nodup
  apart := h.apart
  apartL := fun r hr e => h.ne.2.2.2.2 r.1 (List.mem_map.2 ⟨r, hr, rfl⟩) (by rw [← e]; rfl)
  ne := ⟨h.ne.1 lb rfl, h.ne.2.2.2.1 lb rfl, fun e => h.ne.2.1 b e rfl, fun r hr => h.ne.2.2.1 r.1 (List.mem_map.2 ⟨r, hr, rfl⟩)⟩
end Go.Proofs.Ythdmoghooaccgaa
