/-
  node.Rows: seven rows, each with its abilities in a block of its own; by a contract.
-/
import Derived.Test.YthablchefckclaaDoorNRowA
import Derived.Maps.AppendAt
namespace Go.Proofs.YthablchefckclaaDoor
open Go.RowKit
theorem rowInfo : (Tryd.prog.info? 27).map (fun i => (i.zero, i.size, i.bytes)) = some (some (.agg #[.string ⟨#[]⟩, .int .i64 0, .int .i64 0, .bool false, .int .i64 0, .slice none 0 0]), 6, 72) := by kernel_rfl
/-- Rows lo and on, in a block; their abilities in blocks of their own. -/
def RowsAt (w : World) (b lo : Nat) (gs : Nat → Nat) : Prop := ∃ cur, w.heap[b]? = some (.cells cur 27) ∧ 42 ≤ cur.size ∧ (∀ i, lo ≤ i → i < 7 → ∀ k, k < 6 → cur[i * 6 + k]? = (rowC i (gs i))[k]?) ∧ (∀ i, lo ≤ i → i < 7 → AbAt w (gs i) i)
theorem rowN_ext {w w' : World} {base size : Nat} {e : TypeId} {v : Value} {n : Nat} {xs : List Value} (h : w.ownsRow base e size v n xs) (hx : Ext w w') : w'.ownsRow base e size v n xs := ⟨h.1, h.2.imp id fun ⟨g, cap, cur, h1, h2, h3, h4⟩ => ⟨g, cap, cur, h1, h2, hx.block h3, h4⟩⟩
theorem rowN_slice {w : World} {base size : Nat} {e : TypeId} {v : Value} {n : Nat} {xs : List Value} (h : w.ownsRow base e size v n xs) : ∃ a c, v = .slice a n c := by
  rcases h.2 with ⟨rfl, rfl⟩ | ⟨g, cap, cur, rfl, _⟩
  · exact ⟨_, _, rfl⟩
  · exact ⟨_, _, rfl⟩
theorem own_ne {w : World} {base n g : Nat} {v : Value} {xs : List Value} {c : Array Value} (h : w.ownsRow base 27 6 v n xs) (hg : w.heap[g]? = some (.cells c 9)) : some g ≠ v.ownBlock := by
  rcases h.2 with ⟨rfl, _⟩ | ⟨g', cap, cur, rfl, _, h3, _⟩
  · intro h; cases h
  · intro e
    simp only [Value.ownBlock, Option.some.injEq] at e
    subst e
    rw [hg] at h3
    cases h3
theorem news6 (w : World) (v0 v1 v2 v3 v4 v5 : Value) (t : TypeId) : ∀ (j : Nat) (u : Value), [v0, v1, v2, v3, v4, v5][j]? = some u → (w.alloc (.cells #[v0, v1, v2, v3, v4, v5] t)).cell? (Addr.add ⟨w.heap.size, 0, none⟩ j) = some u := by
  intro j u hu
  have : Addr.add ⟨w.heap.size, 0, none⟩ j = ⟨w.heap.size, j, none⟩ := by unfold Addr.add; cases j <;> simp
  rw [this]
  exact cell_of (blk0 _ _) (by simpa using hu)
/-- What Rows answers. -/
def RowsR (w : World) (e : Ending) (w' : World) : Prop := ∃ b cap gs, e = .returned (.slice (some ⟨b, 0, none⟩) 7 cap) ∧ RowsAt w' b 0 gs ∧ w.heap.size ≤ b ∧ (∀ i, i < 7 → w.heap.size ≤ gs i) ∧ (∀ i i', i < i' → i' < 7 → gs i ≠ gs i') ∧ Ext w w'
/-- As far as Rows has come. -/
def Upto (w w1 : World) (j : Nat) (q : Value) (wr : World) : Prop := ∃ (xs : List Value) (gs : Nat → Nat), wr.ownsRow w1.heap.size 27 6 q j xs ∧ (∀ i, i < j → ∀ k, k < 6 → xs[i * 6 + k]? = (rowC i (gs i))[k]?) ∧ (∀ i, i < j → AbAt wr (gs i) i ∧ w.heap.size ≤ gs i) ∧ (∀ i i', i < i' → i' < j → gs i ≠ gs i')
theorem Upto.step {w w1 wr w2 w3 : World} {j : Nat} {q q' : Value} {xs : List Value} {gs : Nat → Nat} {g : Nat} (hown : wr.ownsRow w1.heap.size 27 6 q j xs) (h1 : ∀ i, i < j → ∀ k, k < 6 → xs[i * 6 + k]? = (rowC i (gs i))[k]?) (h2 : ∀ i, i < j → AbAt wr (gs i) i ∧ w.heap.size ≤ gs i) (h3 : ∀ i i', i < i' → i' < j → gs i ≠ gs i')
    (hx : Ext wr w2) (hg : AbAt w2 g j) (hge : wr.heap.size ≤ g) (hw : w.heap.size ≤ g) (hgr : w2.grownBy w3 q.ownBlock) (hown' : w3.ownsRow w1.heap.size 27 6 q' (j + 1) (xs ++ rowC j g)) : Upto w w1 (j + 1) q' w3 := by
  have hown2 := rowN_ext hown hx
  have hl := hown.1
  refine ⟨_, fun i => if i = j then g else gs i, hown', ?_, ?_, ?_⟩
  · intro i hi k hk
    dsimp only
    by_cases e : i = j
    · subst e
      rw [if_pos rfl, List.getElem?_append_right (by omega)]
      congr 1
      omega
    · rw [if_neg e, List.getElem?_append_left (by omega)]
      exact h1 i (by omega) k hk
  · intro i hi
    dsimp only
    have key : ∀ g' i', AbAt w2 g' i' → AbAt w3 g' i' := fun g' i' h => (hgr.block g' (lt_of_block h) (own_ne hown2 h)).trans h
    by_cases e : i = j
    · subst e
      rw [if_pos rfl]
      exact ⟨key _ _ hg, hw⟩
    · rw [if_neg e]
      obtain ⟨p1, p2⟩ := h2 i (by omega)
      exact ⟨key _ _ (hx.block p1), p2⟩
  · intro i i' hi hi'
    dsimp only
    rw [if_neg (show i ≠ j by omega)]
    by_cases e : i' = j
    · rw [if_pos e]
      have := lt_of_block (h2 i (by omega)).1
      omega
    · rw [if_neg e]
      exact h3 i i' hi (by omega)
theorem Upto.done {w w1 wr : World} {q : Value} (h : Upto w w1 7 q wr) (hw : w.heap.size ≤ w1.heap.size) (hx : Ext w wr) : RowsR w (.returned q) wr := by
  obtain ⟨xs, gs, hown, h1, h2, h3⟩ := h
  rcases hown.2 with ⟨_, h0⟩ | ⟨b, cap, cur, rfl, hb, hh, hc, _, hs, ht⟩
  · omega
  refine ⟨b, cap, gs, rfl, ⟨cur, hh, by omega, ?_, fun i _ hi => (h2 i hi).1⟩, by omega, fun i hi => (h2 i hi).2, h3, hx⟩
  intro i _ hi k hk
  rw [← h1 i hi k hk, ← ht, List.getElem?_take_of_lt (by omega)]
  simp
set_option maxRecDepth 100000 in
set_option maxHeartbeats 2000000 in
theorem rows_any (w : World) (hL : Laid w) : Calls Tryd.prog 4 #[] w (RowsR w) := by
  obtain ⟨i0, hi0, hz0, hz1, hz2⟩ := info_parts rowInfo
  have HL := hid hL
  clear hL
  go_enter Tryd.func4, Tryd.ntmps4
  go_wp2_with fail
  go_at_call 8
  refine (kinds_any w).mono ?_
  rintro e w1 ⟨rfl, hw1⟩
  have X1 := hid (show Ext w w1 from hw1 ▸ Ext.alloc2 _ _ _)
  have HA := hid (show w1.heap[w.heap.size + 1]? = some (.cells (kdC w.heap.size) 33) from hw1 ▸ blk1 _ _ _)
  clear hw1
  go_wp2_with fail
  go_loopw [1, 6] (fun q1 q6 wr => ∃ j : Nat, j ≤ 7 ∧ q6 = .int .i64 j ∧ Upto w w1 j q1 wr ∧ Ext w1 wr) (fun _ q6 _ => 7 - (intOf q6).toNat)
  case atStart => exact ⟨0, Nat.zero_le _, rfl, ⟨[], fun _ => 0, World.ownsRow_nil _ _ _ _, fun i h => absurd h (Nat.not_lt_zero _), fun i h => absurd h (Nat.not_lt_zero _), fun i i' _ h => absurd h (Nat.not_lt_zero _)⟩, Ext.refl _⟩
  case round =>
    obtain ⟨j, hj, rfl, hup, hx⟩ := hrel
    have HUP := hid hup
    have XR := hid hx
    have XW := hid (X1.out.trans hx)
    obtain ⟨xs, gs, hown, hr1, hr2, hr3⟩ := hup
    obtain ⟨a1, c1, rfl⟩ := rowN_slice hown
    have HOWN := hid hown
    have HR1 := hid hr1
    have HR2 := hid hr2
    have HR3 := hid hr3
    clear hx hown hr1 hr2 hr3
    by_cases hlt : j < 7
    · have hlt' : (j : Int) < 7 := by omega
      obtain ⟨a0, a1', a2, a3, a4, a5, a6⟩ := kd_at w.heap.size j hlt
      have HAB := XR.out.block HA.out
      have p0 : wr.cell? ⟨w.heap.size + 1, j * 7, none⟩ = some (.string (nmK j)) := cell_of HAB a0
      have p1 : wr.cell? ⟨w.heap.size + 1, j * 7 + 1, none⟩ = some (.int .i64 (minK j)) := cell_of HAB a1'
      have p2 : wr.cell? ⟨w.heap.size + 1, j * 7 + 2, none⟩ = some (.int .i64 (maxK j)) := cell_of HAB a2
      have p3 : wr.cell? ⟨w.heap.size + 1, j * 7 + 3, none⟩ = some (.bool (numK j)) := cell_of HAB a3
      have p4 : wr.cell? ⟨w.heap.size + 1, j * 7 + 4, none⟩ = some (.int .i64 (textK j)) := cell_of HAB a4
      have p5 : wr.cell? ⟨w.heap.size + 1, j * 7 + 5, none⟩ = some (.string (hasK j)) := cell_of HAB a5
      have p6 : wr.cell? ⟨w.heap.size + 1, j * 7 + 6, none⟩ = some (mkK w.heap.size j) := cell_of HAB a6
      have HROW := hid (fun (u : World) (h : Laid u) => row_any w.heap.size j hlt u h)
      unfold kdV at HROW
      unfold mkK at p6 HROW
      unfold RowR at HROW
      have HRC := hid (fun g => show rowC j g = [.string (nmK j), .int .i64 (minK j), .int .i64 (maxK j), .bool (numK j), .int .i64 (textK j), .slice (some ⟨g, 0, none⟩) (lenK j) (lenK j)] from rfl)
      generalize nmK j = nj at *
      generalize minK j = mj at *
      generalize maxK j = xj at *
      generalize numK j = bj at *
      generalize textK j = tj at *
      generalize hasK j = hj' at *
      generalize fnK j = fj at *
      generalize lenK j = lj at *
      generalize (if capK j = true then #[Value.pointer (some ⟨w.heap.size, 0, none⟩)] else #[]) = cj at *
      clear a0 a1' a2 a3 a4 a5 a6 HAB
      go_wp2_with fail
      go_at_call 9
      refine (HROW.out _ (HL.out.later (XW.out.trans (Ext.alloc _ _)))).mono ?_
      rintro e w2 ⟨g, rfl, hab, hge, hx2⟩
      have XV := hid ((Ext.alloc wr _).trans hx2)
      have HGE := hid (show wr.heap.size ≤ g by have := hge; simp at this; omega)
      have HAB := hid hab
      have HO2 := hid (rowN_ext HOWN.out (XV.out.trans (Ext.alloc w2 (.cells #[.string nj, .int .i64 mj, .int .i64 xj, .bool bj, .int .i64 tj, .slice (some ⟨g, 0, none⟩) lj lj] 27))))
      have HUS := hid (show w1.heap.size ≤ w2.heap.size from Nat.le_trans XR.out.size XV.out.size)
      have HN6 := hid (news6 w2 (.string nj) (.int .i64 mj) (.int .i64 xj) (.bool bj) (.int .i64 tj) (.slice (some ⟨g, 0, none⟩) lj lj) 27)
      clear hab hge hx2
      go_wp2_with (at_builtin; refine wpList_append_own_at _ rfl _ _ 22 rfl w1.heap.size 27 i0 (.agg #[.string ⟨#[]⟩, .int .i64 0, .int .i64 0, .bool false, .int .i64 0, .slice none 0 0]) 6 72 Tryd.underlying22 hi0 hz0 hz1 hz2 rfl (by decide) _ _ _ rfl HO2.out ⟨w2.heap.size, 0, none⟩ 1 1 [.string nj, .int .i64 mj, .int .i64 xj, .bool bj, .int .i64 tj, .slice (some ⟨g, 0, none⟩) lj lj] rfl rfl HN6.out (by simp [Value.oneCell']) (by unfold maxLen; omega) (by omega) (by have := HUS.out; simp; omega) ?_; intro v9 w9 hown9 hgrow9 _ _; obtain ⟨a9, c9, rfl⟩ := rowN_slice hown9; have HO9 := hid hown9; have HG9 := hid hgrow9; clear hown9 hgrow9)
      go_roundw
      case rel =>
        refine ⟨j + 1, by omega, by go_num, Upto.step HOWN.out HR1.out HR2.out HR3.out (XV.out.trans (Ext.alloc _ _)) (blkOld _ HAB.out) HGE.out (Nat.le_trans XW.out.size HGE.out) HG9.out (by rw [HRC.out]; exact HO9.out), ?_⟩
        exact ((XR.out.trans XV.out).more _).grown HG9.out (by have := (XR.out.trans XV.out).size; simp; omega) (fun k hk => (HO2.out.lt k hk).1)
      case measure => simp [intOf]; omega
    · have hje : j = 7 := by omega
      subst hje
      go_wp2_with fail
      go_ret
      exact HUP.out.done X1.out.size XW.out
end Go.Proofs.YthablchefckclaaDoor
