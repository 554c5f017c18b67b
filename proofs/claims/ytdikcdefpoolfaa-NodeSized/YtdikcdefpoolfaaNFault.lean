/-
  The makers of errors (New, At, Raise, Lack), each by a contract: the new block holds what was handed in, the path in memory of its own.
-/
import Derived.Test.YtdikcdefpoolfaaNAbil
import Derived.OwnWalk
import Derived.Deep.RegionWith
import Derived.WalkSmall
import Derived.Lib.SliceRun
namespace Go.Proofs.Ytdikcdefpoolfaa.Fa
open Go.RowKit

/-- The slice v of ints reads as xs. -/
def Ints (w : World) (v : Value) (xs : List Int) : Prop :=
  (v = .slice none 0 0 ∧ xs = []) ∨ ∃ g off cap, v = .slice (some ⟨g, off, none⟩) xs.length cap ∧ ∀ (j : Nat) (u : Int), xs[j]? = some u → w.cell? ⟨g, off + j, none⟩ = some (.int .i64 u)
theorem lt_of_cell {w : World} {a : Addr} {v : Value} (h : w.cell? a = some v) : a.block < w.heap.size := by
  rcases Nat.lt_or_ge a.block w.heap.size with h' | h'
  · exact h'
  · simp [World.cell?, Array.getElem?_eq_none h'] at h
theorem Ints.later {w w' : World} {v : Value} {xs : List Int} (h : Ints w v xs) (hx : Ext w w') : Ints w' v xs := by
  rcases h with h | ⟨g, off, cap, rfl, hc⟩
  · exact .inl h
  · exact .inr ⟨g, off, cap, rfl, fun j u hu => (Below.cell hx (lt_of_cell (hc j u hu))).trans (hc j u hu)⟩
theorem Ints.own {w : World} {base : Nat} {v : Value} {xs : List Int} (h : w.ownsRow base 3 1 v xs.length (xs.map (Value.int .i64))) : Ints w v xs := by
  obtain ⟨hl, hr⟩ := h
  rcases hr with ⟨rfl, h0⟩ | ⟨g, cap, cur, rfl, _, hb, h1, h2, h3, h4⟩
  · exact .inl ⟨rfl, List.eq_nil_of_length_eq_zero h0⟩
  · refine .inr ⟨g, 0, cap, rfl, fun j u hu => ?_⟩
    have hj : j < xs.length := (List.getElem?_eq_some_iff.1 hu).1
    have e : cur[j]? = some (.int .i64 u) := by
      have : (cur.toList.take (xs.length * 1))[j]? = some (.int .i64 u) := by rw [h4]; simp [hu]
      rw [List.getElem?_take_of_lt (by omega)] at this
      simpa using this
    rw [Nat.zero_add]
    exact cell_of hb e
theorem intInfo : (Try.prog.info? 3).map (fun i => (i.zero, i.size, i.bytes)) = some (some (.int .i64 0), 1, 8) := by kernel_rfl
/-- The slice lies in blocks from base on, or is none. -/
def FreshFrom (base : Nat) (v : Value) : Prop := ∀ g, v.ownBlock = some g → base ≤ g

theorem clone_nil (w : World) : Calls Try.prog 37 #[.slice none 0 0] w fun r w' => r = .returned (.slice none 0 0) ∧ w' = w := by
  have hq : ∀ w : World, (binOp .eql 52 (.slice none 0 0) (.slice none 0 0)).run Try.prog w = .ok (.bool true) w := fun _ => by kernel_rfl
  go_enter Try.func37, Try.ntmps37
  go_wp2
  go_ret
  exact ⟨rfl, rfl⟩
set_option maxRecDepth 100000 in
set_option maxHeartbeats 1000000 in
theorem clone_some (g off cap : Nat) (xs : List Int) (w : World) (hb : xs.length * 8 ≤ 140737488355328) (hc : ∀ (j : Nat) (u : Int), xs[j]? = some u → w.cell? ⟨g, off + j, none⟩ = some (.int .i64 u)) :
    Calls Try.prog 37 #[.slice (some ⟨g, off, none⟩) xs.length cap] w fun r w' => ∃ v, r = .returned v ∧ w'.ownsRow w.heap.size 3 1 v xs.length (xs.map (Value.int .i64)) ∧ Ext w w' := by
  obtain ⟨i0, hi0, hz0, hz1, hz2⟩ := info_parts intInfo
  have hq : ∀ w : World, (binOp .eql 52 (.slice (some ⟨g, off, none⟩) xs.length cap) (.slice none 0 0)).run Try.prog w = .ok (.bool false) w := fun w => by
    exact Lib.run_eql_slice_nil w 52 3 (some ⟨g, off, none⟩) xs.length cap 0 0 Try.underlying52
  have hown : (w.alloc (.cells #[] 3)).ownsRow w.heap.size 3 1 (.slice (some ⟨w.heap.size, 0, none⟩) 0 0) 0 [] :=
    ⟨rfl, .inr ⟨w.heap.size, 0, #[], rfl, Nat.le_refl _, blk0 _ _, Nat.le_refl _, Nat.zero_le _, rfl, rfl⟩⟩
  go_enter Try.func37, Try.ntmps37
  go_wp2_with (at_builtin; refine wpList_append_own _ rfl _ _ 52 rfl w.heap.size 3 i0 (.int .i64 0) 1 8 Try.underlying52 hi0 hz0 hz1 hz2 rfl (by decide) _ _ _ rfl hown ⟨g, off, none⟩ xs.length cap (xs.map (Value.int .i64)) rfl (by simp) ?hnews ?hone ?b1 ?b2 ?b3 ?_)
  case hnews =>
    intro j u hu
    rw [List.getElem?_map] at hu
    obtain ⟨x, hx, rfl⟩ := Option.map_eq_some_iff.1 hu
    have h2 := (Below.cell (Ext.alloc w (.cells #[] 3)) (p := ⟨g, off + j, none⟩) (lt_of_cell (hc j x hx))).trans (hc j x hx)
    have ea : Addr.add ⟨g, off, none⟩ j = ⟨g, off + j, none⟩ := by
      by_cases hj : j = 0
      · subst hj; simp [Addr.add]
      · simp [Addr.add, hj]
    rw [ea]; exact h2
  case hone =>
    intro u hu
    obtain ⟨x, _, rfl⟩ := List.mem_map.1 hu
    rfl
  case b1 => unfold maxLen; omega
  case b2 => simpa using hb
  case b3 => simp
  intro v' w' hown' hgrow _
  go_wp2
  go_ret
  refine ⟨_, rfl, by simpa using hown', ?_⟩
  exact Below.grown (Ext.alloc w _) hgrow (by simp) (fun k hk => by simp [Value.ownBlock] at hk; omega)
theorem clone_any (v : Value) (xs : List Int) (w : World) (hb : xs.length * 8 ≤ 140737488355328) (h : Ints w v xs) :
    Calls Try.prog 37 #[v] w fun r w' => ∃ v', r = .returned v' ∧ w'.ownsRow w.heap.size 3 1 v' xs.length (xs.map (Value.int .i64)) ∧ Ext w w' := by
  rcases h with ⟨rfl, rfl⟩ | ⟨g, off, cap, rfl, hc⟩
  · refine (clone_nil w).mono ?_
    rintro r w' ⟨rfl, rfl⟩
    exact ⟨_, rfl, World.ownsRow_nil _ _ _ _, Ext.refl _⟩
  · exact clone_some g off cap xs w hb hc
theorem row_mono {w : World} {base base' : Nat} {e : TypeId} {v : Value} {n : Nat} {xs : List Value} (h : w.ownsRow base e 1 v n xs) (hb : base' ≤ base) : w.ownsRow base' e 1 v n xs := by
  refine ⟨h.1, ?_⟩
  rcases h.2 with h | ⟨g, cap, cur, h1, h2, h3⟩
  · exact .inl h
  · exact .inr ⟨g, cap, cur, h1, Nat.le_trans hb h2, h3⟩
theorem row_set {w : World} {base T i : Nat} {e : TypeId} {v x : Value} {n : Nat} {xs : List Value} (h : w.ownsRow base e 1 v n xs) (hT : T < base) : (w.setCell ⟨T, i, none⟩ x).ownsRow base e 1 v n xs := by
  refine ⟨h.1, ?_⟩
  rcases h.2 with h | ⟨g, cap, cur, h1, h2, h3, h4⟩
  · exact .inl h
  · exact .inr ⟨g, cap, cur, h1, h2, (Below.heap_setCell w ⟨T, i, none⟩ x g (fun e => by have e' : g = T := e; omega)).trans h3, h4⟩
theorem row_ext {w w' : World} {base : Nat} {e : TypeId} {v : Value} {n : Nat} {xs : List Value} (h : w.ownsRow base e 1 v n xs) (hx : Below w.heap.size w w') : w'.ownsRow base e 1 v n xs := by
  refine ⟨h.1, ?_⟩
  rcases h.2 with h | ⟨g, cap, cur, h1, h2, h3, h4⟩
  · exact .inl h
  · exact .inr ⟨g, cap, cur, h1, h2, (hx.block g (lt_of_block h3)).trans h3, h4⟩
theorem ownsRow_slice {w : World} {base : Nat} {e : TypeId} {v : Value} {n : Nat} {xs : List Value} (h : w.ownsRow base e 1 v n xs) : ∃ a n' c, v = .slice a n' c := by
  rcases h.2 with ⟨rfl, _⟩ | ⟨g, cap, cur, rfl, _⟩
  · exact ⟨_, _, _, rfl⟩
  · exact ⟨_, _, _, rfl⟩

set_option maxRecDepth 100000 in
set_option maxHeartbeats 1000000 in
theorem copied_any (fu : ByteArray) (a : Option Addr) (n c : Nat) (xs : List Int) (w : World) (hb : xs.length * 8 ≤ 140737488355328) (h : Ints w (.slice a n c) xs) :
    Calls Try.prog 67 #[.agg #[.string fu, .slice a n c]] w fun r w' => ∃ v', r = .returned (.agg #[.string fu, v']) ∧ w'.ownsRow w.heap.size 3 1 v' xs.length (xs.map (Value.int .i64)) ∧ Ext w w' := by
  have HI : Hid (Ints w (.slice a n c) xs) := h
  clear h
  go_enter Try.func67, Try.ntmps67
  go_wp2
  go_region_with (go_at_call 37; refine (clone_any _ xs _ hb ((HI.out.later (Ext.alloc2 _ _ _)).later (Ext.refl _).drew)).mono ?_; rintro r w1 ⟨v', rfl, ho, hx⟩; obtain ⟨a', n', c', rfl⟩ := ownsRow_slice ho; have b0 := hx.block (show (((w.alloc (.cells #[.string fu, .slice a n c] 54)).alloc (.cells #[.string ByteArray.empty, .slice none 0 0] 54)).drew).heap[w.heap.size]? = _ from blkOld _ (blk0 _ _)); have b1 := hx.block (show (((w.alloc (.cells #[.string fu, .slice a n c] 54)).alloc (.cells #[.string ByteArray.empty, .slice none 0 0] 54)).drew).heap[w.heap.size + 1]? = _ from blk1 _ _ _); have c0 := cell_of (i := 0) b0 rfl; have c1 := cell_of (i := 1) b0 rfl; have d0 := cell_of (i := 0) b1 rfl; have d1 := cell_of (i := 1) b1 rfl; have g0 := frozen_of (i := 0) b1; have g1 := frozen_of (i := 1) b1)
  all_goals
    have ho' : w1.ownsRow (w.heap.size + 1 + 1) 3 1 (.slice a' n' c') xs.length (xs.map (Value.int .i64)) := by simpa using ho
    clear ho
    go_wp2
    refine bodyPost_ret (v := .agg #[.string fu, .slice a' n' c']) (by simp [results, Try.results67, go_sem, d0, d1]) rfl ⟨_, rfl, ?_, ?_⟩
    · exact row_mono (row_set (row_set ho' (by omega)) (by omega)) (by omega)
    · exact ((((Ext.alloc2 _ _ _).drew).trans hx).set1 _ _).set1 _ _

set_option maxRecDepth 100000 in
set_option maxHeartbeats 1000000 in
theorem locate_any (co : Int) (fu : ByteArray) (a : Option Addr) (n c : Nat) (xs : List Int) (w : World) (hb : xs.length * 8 ≤ 140737488355328) (h : Ints w (.slice a n c) xs) :
    Calls Try.prog 39 #[.int .i64 co, .agg #[.string fu, .slice a n c]] w fun r w' => ∃ v', r = .returned (.agg #[.int .i64 co, .string fu, v']) ∧ w'.ownsRow w.heap.size 3 1 v' xs.length (xs.map (Value.int .i64)) ∧ Ext w w' := by
  have HI : Hid (Ints w (.slice a n c) xs) := h
  clear h
  go_enter Try.func39, Try.ntmps39
  go_wp2_with (go_at_call 67; refine (copied_any fu a n c xs _ hb (HI.out.later (Ext.alloc2 _ _ _))).mono ?_; rintro r w1 ⟨v', rfl, ho, hx⟩; obtain ⟨a', n', c', rfl⟩ := ownsRow_slice ho; have b1 := hx.block (blk1 w (.cells #[.string fu, .slice a n c] 54) (.cells #[.int .i64 0, .string ByteArray.empty, .slice none 0 0] 139)); have d0 := cell_of (i := 0) b1 rfl; have d1 := cell_of (i := 1) b1 rfl; have d2 := cell_of (i := 2) b1 rfl; have g0 := frozen_of (i := 0) b1; have g1 := frozen_of (i := 1) b1; have g2 := frozen_of (i := 2) b1)
  have ho' : w1.ownsRow (w.heap.size + 1 + 1) 3 1 (.slice a' n' c') xs.length (xs.map (Value.int .i64)) := by simpa using ho
  clear ho
  refine bodyPost_ret (v := .agg #[.int .i64 co, .string fu, .slice a' n' c']) (by simp [results, Try.results39, go_sem, d0, d1, d2]) rfl ⟨_, rfl, ?_, ?_⟩
  · exact row_mono (row_set (row_set (row_set ho' (by omega)) (by omega)) (by omega)) (by omega)
  · exact ((((Ext.alloc2 _ _ _).trans hx).set1 _ _).set1 _ _).set1 _ _

/-- An error of each kind at its block. -/
def CodedAt (w : World) (b : Nat) (co : Int) : Prop := w.heap[b]? = some (.cells #[.int .i64 co] 118)
def LocatedAt (w : World) (b : Nat) (co : Int) (fu : ByteArray) (pv : Value) : Prop := w.heap[b]? = some (.cells #[.int .i64 co, .string fu, pv] 139)
def LackingAt (w : World) (b : Nat) (co : Int) (fu : ByteArray) (pv : Value) (ki ab : ByteArray) : Prop := w.heap[b]? = some (.cells #[.int .i64 co, .string fu, pv, .string ki, .string ab] 142)

theorem new_ok (w : World) : Calls Try.prog 14 #[.int .i64 0] w fun r w' => r = .returned .nilIface ∧ w' = w := by
  go_enter Try.func14, Try.ntmps14
  go_wp2
  go_ret
  exact ⟨rfl, rfl⟩
theorem new_any (co : Int) (w : World) (h : (co == 0) = false) : Calls Try.prog 14 #[.int .i64 co] w fun r w' => r = .returned (.iface 116 (.pointer (some ⟨w.heap.size, 0, none⟩))) ∧ CodedAt w' w.heap.size co ∧ Ext w w' := by
  go_enter Try.func14, Try.ntmps14
  go_wp2
  go_ret
  exact ⟨rfl, blk0 _ _, Ext.alloc _ _⟩
set_option maxRecDepth 100000 in
set_option maxHeartbeats 1000000 in
theorem lack_any (ki ab fu : ByteArray) (a : Option Addr) (n c : Nat) (xs : List Int) (w : World) (hb : xs.length * 8 ≤ 140737488355328) (h : Ints w (.slice a n c) xs) :
    Calls Try.prog 27 #[.agg #[.string fu, .slice a n c], .string ki, .string ab] w fun r w' => ∃ b v', r = .returned (.iface 137 (.pointer (some ⟨b, 0, none⟩))) ∧ w.heap.size ≤ b ∧ LackingAt w' b 13 fu v' ki ab ∧ w'.ownsRow w.heap.size 3 1 v' xs.length (xs.map (Value.int .i64)) ∧ Ext w w' := by
  have HI : Hid (Ints w (.slice a n c) xs) := h
  clear h
  go_enter Try.func27, Try.ntmps27
  go_wp2_with (go_at_call 39; refine (locate_any 13 fu a n c xs _ hb (HI.out.later (Ext.alloc _ _))).mono ?_; rintro r w1 ⟨v', rfl, ho, hx⟩; obtain ⟨a', n', c', rfl⟩ := ownsRow_slice ho)
  go_ret
  exact ⟨_, _, rfl, ((Ext.alloc _ _).trans hx).size, blk0 _ _, row_ext (row_mono ho (by simp)) (Ext.alloc _ _), ((Ext.alloc _ _).trans hx).more _⟩


end Go.Proofs.Ytdikcdefpoolfaa.Fa
