/-
  nodes and the iterator that it makes, each by a contract.
-/
import Derived.Test.YthdmoghooaccgaaVisit
import Derived.Laws.EntriesVeiled
namespace Go.Proofs.Ythdmoghooaccgaa
open Go.RowKit
theorem nodes_any (k : ByteArray) (n : Int) (x : ByteArray) (a : Option Addr) (l c : Nat) (w : World) :
    Calls Try.prog 46 #[.agg #[.string k, .int .i64 n, .string x, .slice a l c]] w fun e w' => e = .returned (.func (.func 63) #[] #[.pointer (some ⟨w.heap.size, 0, none⟩)]) ∧ w' = w.alloc (.cells #[.string k, .int .i64 n, .string x, .slice a l c] 26) := by
  have hmf : ∀ (fn : Fn) (first cap : Array Value) (w : World), (Instr.makeFunc fn first cap).run Try.prog w = .ok (.func fn first cap) w := fun _ _ _ _ => rfl
  go_enter Try.func46, Try.ntmps46
  go_wp2_with fail
  go_ret
  exact ⟨rfl, rfl⟩
/-- What an iterator leaves when all has come, or a round has left. -/
def IterR (J : (Nat → Prop) → Nat → World → Prop) (Jx : (Nat → Prop) → World → Prop) (M : Nat → Prop) (n : Nat) (W : World) (e : Ending) (W' : World) : Prop :=
  (∃ v, e = .returned v) ∧ Kp (fun k => ¬ M k) W W' ∧ ((∃ M', J M' n W' ∧ (∀ k, M' k → M k ∨ W.heap.size ≤ k)) ∨ (∃ M', Jx M' W' ∧ (∀ k, M' k → M k ∨ W.heap.size ≤ k)))
set_option maxRecDepth 100000 in
set_option maxHeartbeats 2000000 in
theorem nodes1 (l n0 tb : Nat) (J : (Nat → Prop) → Nat → World → Prop) (Jx : (Nat → Prop) → World → Prop)
    (hlt : ∀ M i W, J M i W → ∀ k, M k → k < W.heap.size) (hst : ∀ M i W W', J M i W → Kp (fun k => k < n0 ∨ M k) W W' → J M i W') (t : T) (hY : YieldOk l (T.all [] t) J Jx n0)
    (d : Nat) (M : Nat → Prop) (W : World) (k : ByteArray) (n : Int) (x : ByteArray) (a : Option Addr) (len c : Nat) (hb : W.heap[tb]? = some (.cells #[.string k, .int .i64 n, .string x, .slice a len c] 26))
    (hr : Rd (fun k => k < n0 ∧ ¬ M k) W d (.agg #[.string k, .int .i64 n, .string x, .slice a len c]) t) (hh : t.height ≤ 64) (hJ : J M 0 W) (hn0 : n0 ≤ W.heap.size) :
    CallsIn Fence.wide 0 Try.prog 63 #[.func (.yield l) #[] #[], .pointer (some ⟨tb, 0, none⟩)] W (IterR J Jx M t.size W) := by
  have hmf : ∀ (fn : Fn) (first cap : Array Value) (w : World), (Instr.makeFunc fn first cap).run Try.prog w = .ok (.func fn first cap) w := fun _ _ _ _ => rfl
  have hmm : ∀ q, W.heap.size ≤ q → ¬ M q := fun q hq h => by have := hlt _ _ _ hJ q h; omega
  have HC := hid (fun W2 (hx : Ext W W2) (h1 : W2.heap[W.heap.size]? = some (.cells #[.func (.yield l) #[] #[]] 75)) (h2 : W2.heap[W.heap.size + 1]? = some (.cells #[visitF W.heap.size (W.heap.size + 1)] 75)) =>
    visit l n0 W.heap.size (W.heap.size + 1) (T.all [] t) J Jx hlt hst hY d _ t M W2 0 (.slice none 0 0) [] (hr.later hx) (World.ownsRow_nil _ _ _ _) (fun b hb => by cases hb) (by simp; omega) (hst _ _ _ _ hJ (hx.kp _)) (fun j y hy => by rw [Nat.zero_add]; exact hy) h1 h2 hn0 (by omega) (hmm _ (Nat.le_refl _)) (hmm _ (by omega)) (Nat.le_trans hn0 hx.size))
  have e0 := cell_of (i := 0) hb rfl
  have e1 := cell_of (i := 1) hb rfl
  have e2 := cell_of (i := 2) hb rfl
  have e3 := cell_of (i := 3) hb rfl
  simp only [List.getElem_toArray, List.getElem_cons_zero, List.getElem_cons_succ] at e0 e1 e2 e3
  have hbl := lt_of_block hb
  clear hb hr hJ hlt hst hY
  refine callsIn_of_wp Try.func63 rfl trivial ?_ rfl
  simp only [Try.ntmps63, List.size_toArray, List.length_cons, List.length_nil, Nat.reduceAdd, Nat.reduceSub, Array.replicate_succ, Array.replicate_zero, List.push_toArray, List.append_toArray, List.nil_append, List.cons_append]
  gi_wp2_with fail
  refine ⟨trivial, rfl, ?_⟩
  refine (HC.out _ (Ext.alloc2 _ _ _) (blkOld _ (blk0 _ _)) (blk1 _ _ _)).mono ?_
  rintro e W2 ⟨o, rfl, hk, hv⟩
  have hkk : Kp (fun q => ¬ M q) W W2 := ((Ext.alloc2 W _ _).kp _).trans (hk.mono (fun q _ hq => ⟨hq, by simp [Value.ownBlock]⟩))
  gi_wp2_with fail
  go_end0
  refine ⟨⟨_, rfl⟩, hkk, ?_⟩
  rw [Nat.zero_add] at hv
  rcases hv with ⟨rfl, M', h1, h2, _⟩ | ⟨rfl, M', h1, h2⟩
  · exact .inl ⟨M', h1, fun q hq => (h2 q hq).imp id (fun h => by simp at h; omega)⟩
  · exact .inr ⟨M', h1, fun q hq => (h2 q hq).imp id (fun h => by simp at h; omega)⟩
end Go.Proofs.Ythdmoghooaccgaa
