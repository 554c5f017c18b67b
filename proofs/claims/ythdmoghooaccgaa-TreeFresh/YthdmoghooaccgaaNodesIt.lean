/-
  The iterator of nodes keeps the promise that the law of loops asks; slices.Clone by a contract.
-/
import Derived.Test.YthdmoghooaccgaaRangeM
import Derived.Test.YthdmoghooaccgaaShelf
namespace Go.Proofs.Ythdmoghooaccgaa
open Go.RowKit Go.Shelf
/-- What nodes hands out: a path that it lends, a tree that is there. -/
def nodesX (t : T) (n0 : Nat) (M : Nat → Prop) (i : Nat) (W : World) (args : Array Value) (E : Nat → Prop) : Prop :=
  ∃ pv tv p u d, args = #[pv, tv] ∧ (T.all [] t)[i]? = some (p, u) ∧ Ints W pv p ∧ (∀ b, pv.ownBlock = some b → ¬ M b) ∧ Rd (fun k => k < n0 ∧ ¬ M k) W d tv u ∧ E = fun _ => False
theorem nodesX_size {t : T} {n0 : Nat} {M : Nat → Prop} {i : Nat} {W : World} {args : Array Value} {E : Nat → Prop} (h : nodesX t n0 M i W args E) : args.size = 2 := by
  obtain ⟨pv, tv, p, u, d, rfl, _⟩ := h; rfl
theorem nodesX_mono {t : T} {n0 : Nat} {M M' : Nat → Prop} {i : Nat} {W : World} {args : Array Value} {E : Nat → Prop} (h : nodesX t n0 M i W args E) (hm : ∀ k, M' k → M k) : nodesX t n0 M' i W args E := by
  obtain ⟨pv, tv, p, u, d, h1, h2, h3, h4, h5, h6⟩ := h
  exact ⟨pv, tv, p, u, d, h1, h2, h3, fun b hb h => h4 b hb (hm b h), h5.mono (fun k _ hk => ⟨hk.1, fun h => hk.2 (hm k h)⟩), h6⟩
theorem nodesX_new {t : T} {n0 : Nat} {M : Nat → Prop} {i : Nat} {W : World} {args : Array Value} {E : Nat → Prop} {n : Nat} (h : nodesX t n0 M i W args E) : ∀ k, E k → ¬ M k ∧ k < W.heap.size ∧ n ≤ k := by
  obtain ⟨pv, tv, p, u, d, _, _, _, _, _, rfl⟩ := h
  exact fun k hk => hk.elim
theorem nodes_iter {t : T} {d tb : Nat} {w : World} {M0 : Nat → Prop} {k : ByteArray} {n : Int} {x : ByteArray} {a : Option Addr} {len c : Nat} (hb : w.heap[tb]? = some (.cells #[.string k, .int .i64 n, .string x, .slice a len c] 26))
    (hr : Rd (fun k => ¬ M0 k) w d (.agg #[.string k, .int .i64 n, .string x, .slice a len c]) t) (hh : t.height ≤ 64) : IterOk 63 #[.pointer (some ⟨tb, 0, none⟩)] t.size M0 w (nodesX t w.heap.size) := by
  intro l J Jx W M hlt hst _ _ hY hx hM hJ
  refine nodes1 l w.heap.size tb J Jx hlt hst t ?_ d M W k n x a len c (hx.block hb) ?_ hh hJ hx.size
  · intro M i W pv tv p u d hJ hL hI hpm hrd
    have hi : i < t.size := by
      have := (List.getElem?_eq_some_iff.1 hL).1
      rwa [T.all_length] at this
    have h := hY M i W #[pv, tv] (fun _ => False) hJ hi ⟨pv, tv, p, u, d, rfl, hL, hI, hpm, hrd, rfl⟩
    have e : (fun k => M k ∨ False) = M := by funext k; simp
    rw [e] at h
    exact h
  · exact (hr.mono (fun q hq h => (⟨hq, fun hm => (hM q hm).elim h (fun h' => by omega)⟩ : q < w.heap.size ∧ ¬ M q))).later hx
theorem clone_any (pv : Value) (p : List Int) (w : World) (h : Ints w pv p) (hb : p.length * 8 ≤ 140737488355328) :
    Calls Try.prog 47 #[pv] w fun e w' => ∃ a c, e = .returned (.slice a p.length c) ∧ PathW w' w.heap.size (.slice a p.length c) p ∧ Ext w w' := by
  rcases h with ⟨⟨a, c, rfl⟩, rfl⟩ | ⟨g, off, cap, rfl, hc⟩
  · cases a with
    | none => exact (Try.slices_Clone_int_nil 0 c w).mono (fun e w' h => by obtain ⟨rfl, rfl⟩ := h; exact ⟨none, 0, rfl, World.ownsRow_nil _ _ _ _, Ext.refl _⟩)
    | some ad => exact (Try.slices_Clone_int_zero ad c w).mono (fun e w' h => by
        obtain ⟨v', rfl, ho, _, hx⟩ := h
        obtain ⟨a', c', rfl⟩ := ownsRow_slice ho
        exact ⟨a', c', rfl, ho, hx⟩)
  · exact (Try.slices_Clone_int g off p.length cap p w (Nat.le_refl _) hb (fun j hj => by rw [hc j p[j] (List.getElem?_eq_getElem hj)]; simp [List.getD, hj])).mono (fun e w' h => by
      obtain ⟨v', rfl, ho, _, hx⟩ := h
      rw [List.take_length] at ho
      obtain ⟨a', c', rfl⟩ := ownsRow_slice ho
      exact ⟨a', c', rfl, ho, hx⟩)
end Go.Proofs.Ythdmoghooaccgaa
