/-
  kind.row: a kind's row, its abilities cut at the blanks in a block of their own; by a contract.
-/
import Derived.Test.YthablchefckclaaDoorNKind
import Derived.Test.YthablchefckclaaDoorNBegun
import Derived.Test.YthablchefckclaaDoorShelf
namespace Go.Proofs.YthablchefckclaaDoor
open Go.RowKit
/-- The library's table of blanks, as laid. -/
def Laid (w : World) : Prop := Lib.TabIs Tryd.prog w "strings.asciiSpace" .u8 Lib.asciiSpaceTab
theorem Laid.keep {w w' : World} {K : Nat → Prop} (h : Laid w) (hk : Kp K w w') (h1 : K 0) : Laid w' := by
  have hgn : Tryd.prog.globalNamed "strings.asciiSpace" = some 0 := by kernel_rfl
  unfold Laid Lib.TabIs World.var? at h ⊢
  rw [hgn] at h ⊢
  simp only [Option.bind_some] at h ⊢
  have hlt : 0 < w.heap.size := by
    rcases Nat.lt_or_ge 0 w.heap.size with h' | h'
    · exact h'
    · rw [Array.getElem?_eq_none h'] at h; cases h
  rw [hk.block 0 hlt h1]
  exact h
theorem Laid.later {w w' : World} (h : Laid w) (hx : Ext w w') : Laid w' := h.keep (hx.kp (fun _ => True)) trivial
/-- What a kind can do, word by word. -/
def absK : Nat → Array Value
  | 0 => #[.string ⟨#[76, 105, 116, 101, 114, 97, 108]⟩, .string ⟨#[80, 117, 114, 101]⟩, .string ⟨#[84, 111, 116, 97, 108]⟩, .string ⟨#[83, 111, 114, 116, 101, 100]⟩]
  | 1 => #[.string ⟨#[76, 105, 116, 101, 114, 97, 108]⟩, .string ⟨#[80, 117, 114, 101]⟩, .string ⟨#[84, 111, 116, 97, 108]⟩, .string ⟨#[83, 111, 114, 116, 101, 100]⟩]
  | 2 => #[.string ⟨#[76, 105, 116, 101, 114, 97, 108]⟩, .string ⟨#[80, 117, 114, 101]⟩, .string ⟨#[84, 111, 116, 97, 108]⟩, .string ⟨#[83, 111, 114, 116, 101, 100]⟩]
  | 3 => #[.string ⟨#[76, 105, 116, 101, 114, 97, 108]⟩, .string ⟨#[80, 117, 114, 101]⟩, .string ⟨#[84, 111, 116, 97, 108]⟩, .string ⟨#[83, 111, 114, 116, 101, 100]⟩]
  | 4 => #[.string ⟨#[76, 105, 116, 101, 114, 97, 108]⟩, .string ⟨#[80, 117, 114, 101]⟩, .string ⟨#[84, 111, 116, 97, 108]⟩, .string ⟨#[83, 111, 114, 116, 101, 100]⟩]
  | 5 => #[.string ⟨#[85, 115, 101, 114]⟩, .string ⟨#[80, 117, 114, 101]⟩]
  | 6 => #[.string ⟨#[80, 117, 114, 101]⟩, .string ⟨#[84, 111, 116, 97, 108]⟩, .string ⟨#[70, 114, 97, 109, 101, 100]⟩]
  | _ => #[]
def lenK : Nat → Nat
  | 0 => 4
  | 1 => 4
  | 2 => 4
  | 3 => 4
  | 4 => 4
  | 5 => 2
  | 6 => 3
  | _ => 0
theorem abs_fields : ∀ j, j < 7 → ((Lib.fields (hasK j).data.toList).map fun l => Value.string ⟨l.toArray⟩).toArray = absK j ∧ (Lib.fields (hasK j).data.toList).length = lenK j
  | 0, _ => ⟨by kernel_rfl, by kernel_rfl⟩
  | 1, _ => ⟨by kernel_rfl, by kernel_rfl⟩
  | 2, _ => ⟨by kernel_rfl, by kernel_rfl⟩
  | 3, _ => ⟨by kernel_rfl, by kernel_rfl⟩
  | 4, _ => ⟨by kernel_rfl, by kernel_rfl⟩
  | 5, _ => ⟨by kernel_rfl, by kernel_rfl⟩
  | 6, _ => ⟨by kernel_rfl, by kernel_rfl⟩
  | n + 7, h => absurd h (by omega)
theorem abs_ascii : ∀ j, j < 7 → (hasK j).size < 4294967281 ∧ ∀ (k : Nat) b, (hasK j).data.toList[k]? = some b → b.toNat < 128 := by
  intro j hj
  have hall : ∀ j, j < 7 → (hasK j).data.toList.all (fun b => decide (b.toNat < 128)) = true ∧ (hasK j).size < 4294967281
    | 0, _ => ⟨by decide, by decide⟩
    | 1, _ => ⟨by decide, by decide⟩
    | 2, _ => ⟨by decide, by decide⟩
    | 3, _ => ⟨by decide, by decide⟩
    | 4, _ => ⟨by decide, by decide⟩
    | 5, _ => ⟨by decide, by decide⟩
    | 6, _ => ⟨by decide, by decide⟩
    | n + 7, h => absurd h (by omega)
  refine ⟨(hall j hj).2, fun k b h => ?_⟩
  have := List.all_eq_true.1 (hall j hj).1 b (List.mem_of_getElem? h)
  simpa using this
theorem abs_str : ∀ j, j < 7 → (absK j).size = lenK j ∧ ∀ k, k < lenK j → ∃ s, (absK j)[k]? = some (.string s)
  | 0, _ => ⟨rfl, fun k hk => by match k, hk with | 0, _ => exact ⟨_, rfl⟩ | 1, _ => exact ⟨_, rfl⟩ | 2, _ => exact ⟨_, rfl⟩ | 3, _ => exact ⟨_, rfl⟩ | n + 4, h => exact absurd h (by show ¬ n + 4 < 4; omega)⟩
  | 1, _ => ⟨rfl, fun k hk => by match k, hk with | 0, _ => exact ⟨_, rfl⟩ | 1, _ => exact ⟨_, rfl⟩ | 2, _ => exact ⟨_, rfl⟩ | 3, _ => exact ⟨_, rfl⟩ | n + 4, h => exact absurd h (by show ¬ n + 4 < 4; omega)⟩
  | 2, _ => ⟨rfl, fun k hk => by match k, hk with | 0, _ => exact ⟨_, rfl⟩ | 1, _ => exact ⟨_, rfl⟩ | 2, _ => exact ⟨_, rfl⟩ | 3, _ => exact ⟨_, rfl⟩ | n + 4, h => exact absurd h (by show ¬ n + 4 < 4; omega)⟩
  | 3, _ => ⟨rfl, fun k hk => by match k, hk with | 0, _ => exact ⟨_, rfl⟩ | 1, _ => exact ⟨_, rfl⟩ | 2, _ => exact ⟨_, rfl⟩ | 3, _ => exact ⟨_, rfl⟩ | n + 4, h => exact absurd h (by show ¬ n + 4 < 4; omega)⟩
  | 4, _ => ⟨rfl, fun k hk => by match k, hk with | 0, _ => exact ⟨_, rfl⟩ | 1, _ => exact ⟨_, rfl⟩ | 2, _ => exact ⟨_, rfl⟩ | 3, _ => exact ⟨_, rfl⟩ | n + 4, h => exact absurd h (by show ¬ n + 4 < 4; omega)⟩
  | 5, _ => ⟨rfl, fun k hk => by match k, hk with | 0, _ => exact ⟨_, rfl⟩ | 1, _ => exact ⟨_, rfl⟩ | n + 2, h => exact absurd h (by show ¬ n + 2 < 2; omega)⟩
  | 6, _ => ⟨rfl, fun k hk => by match k, hk with | 0, _ => exact ⟨_, rfl⟩ | 1, _ => exact ⟨_, rfl⟩ | 2, _ => exact ⟨_, rfl⟩ | n + 3, h => exact absurd h (by show ¬ n + 3 < 3; omega)⟩
  | n + 7, h => absurd h (by omega)

/-- A row's six cells. -/
def rowC (j g : Nat) : List Value := [.string (nmK j), .int .i64 (minK j), .int .i64 (maxK j), .bool (numK j), .int .i64 (textK j), .slice (some ⟨g, 0, none⟩) (lenK j) (lenK j)]
/-- The block of a kind's abilities. -/
abbrev AbAt (w : World) (g j : Nat) : Prop := w.heap[g]? = some (.cells (absK j) 9)
theorem six_set {w : World} {b : Nat} {v0 v1 v2 v3 v4 v5 u0 u1 u2 u3 u4 u5 : Value} {t : TypeId} (h : w.heap[b]? = some (.cells #[v0, v1, v2, v3, v4, v5] t)) : ((((((w.setCell ⟨b, 0, none⟩ u0).setCell ⟨b, 1, none⟩ u1).setCell ⟨b, 2, none⟩ u2).setCell ⟨b, 3, none⟩ u3).setCell ⟨b, 4, none⟩ u4).setCell ⟨b, 5, none⟩ u5).heap[b]? = some (.cells #[u0, u1, u2, u3, u4, u5] t) := (set_at (set_at (set_at (set_at (set_at (set_at h 0 u0) 1 u1) 2 u2) 3 u3) 4 u4) 5 u5).trans (by simp)
theorem Kp.set6 (w : World) (g i : Nat) (v0 v1 v2 v3 v4 v5 : Value) : Kp (· ≠ g) w ((((((w.setCell ⟨g, i, none⟩ v0).setCell ⟨g, i + 1, none⟩ v1).setCell ⟨g, i + 2, none⟩ v2).setCell ⟨g, i + 3, none⟩ v3).setCell ⟨g, i + 4, none⟩ v4).setCell ⟨g, i + 5, none⟩ v5) :=
  (((((Kp.set w g i v0 (fun h => h rfl)).trans (Kp.set _ g (i + 1) v1 (fun h => h rfl))).trans (Kp.set _ g (i + 2) v2 (fun h => h rfl))).trans (Kp.set _ g (i + 3) v3 (fun h => h rfl))).trans (Kp.set _ g (i + 4) v4 (fun h => h rfl))).trans (Kp.set _ g (i + 5) v5 (fun h => h rfl))
theorem six_of {w : World} {b : Nat} {v0 v1 v2 v3 v4 v5 : Value} {t : TypeId} (h : w.heap[b]? = some (.cells #[v0, v1, v2, v3, v4, v5] t)) : w.cell? ⟨b, 0, none⟩ = some v0 ∧ w.cell? ⟨b, 1, none⟩ = some v1 ∧ w.cell? ⟨b, 2, none⟩ = some v2 ∧ w.cell? ⟨b, 3, none⟩ = some v3 ∧ w.cell? ⟨b, 4, none⟩ = some v4 ∧ w.cell? ⟨b, 5, none⟩ = some v5 := ⟨cell_of h rfl, cell_of h rfl, cell_of h rfl, cell_of h rfl, cell_of h rfl, cell_of h rfl⟩
theorem six_steps {w : World} {b : Nat} {v0 v1 v2 v3 v4 v5 : Value} {t : TypeId} (h : w.heap[b]? = some (.cells #[v0, v1, v2, v3, v4, v5] t)) (u0 u1 u2 u3 u4 : Value) : w.cell? ⟨b, 0, none⟩ = some v0 ∧ w.frozen? ⟨b, 0, none⟩ = false ∧ (w.setCell ⟨b, 0, none⟩ u0).cell? ⟨b, 1, none⟩ = some v1 ∧ (w.setCell ⟨b, 0, none⟩ u0).frozen? ⟨b, 1, none⟩ = false ∧ ((w.setCell ⟨b, 0, none⟩ u0).setCell ⟨b, 1, none⟩ u1).cell? ⟨b, 2, none⟩ = some v2 ∧ ((w.setCell ⟨b, 0, none⟩ u0).setCell ⟨b, 1, none⟩ u1).frozen? ⟨b, 2, none⟩ = false ∧ (((w.setCell ⟨b, 0, none⟩ u0).setCell ⟨b, 1, none⟩ u1).setCell ⟨b, 2, none⟩ u2).cell? ⟨b, 3, none⟩ = some v3 ∧ (((w.setCell ⟨b, 0, none⟩ u0).setCell ⟨b, 1, none⟩ u1).setCell ⟨b, 2, none⟩ u2).frozen? ⟨b, 3, none⟩ = false ∧ ((((w.setCell ⟨b, 0, none⟩ u0).setCell ⟨b, 1, none⟩ u1).setCell ⟨b, 2, none⟩ u2).setCell ⟨b, 3, none⟩ u3).cell? ⟨b, 4, none⟩ = some v4 ∧ ((((w.setCell ⟨b, 0, none⟩ u0).setCell ⟨b, 1, none⟩ u1).setCell ⟨b, 2, none⟩ u2).setCell ⟨b, 3, none⟩ u3).frozen? ⟨b, 4, none⟩ = false ∧ (((((w.setCell ⟨b, 0, none⟩ u0).setCell ⟨b, 1, none⟩ u1).setCell ⟨b, 2, none⟩ u2).setCell ⟨b, 3, none⟩ u3).setCell ⟨b, 4, none⟩ u4).cell? ⟨b, 5, none⟩ = some v5 ∧ (((((w.setCell ⟨b, 0, none⟩ u0).setCell ⟨b, 1, none⟩ u1).setCell ⟨b, 2, none⟩ u2).setCell ⟨b, 3, none⟩ u3).setCell ⟨b, 4, none⟩ u4).frozen? ⟨b, 5, none⟩ = false := by
  have h0 := h
  have h1 := set_at h0 0 u0
  simp at h1
  have h2 := set_at h1 1 u1
  simp at h2
  have h3 := set_at h2 2 u2
  simp at h3
  have h4 := set_at h3 3 u3
  simp at h4
  have h5 := set_at h4 4 u4
  simp at h5
  exact ⟨cell_of h0 rfl, frozen_of h0, cell_of h1 rfl, frozen_of h1, cell_of h2 rfl, frozen_of h2, cell_of h3 rfl, frozen_of h3, cell_of h4 rfl, frozen_of h4, cell_of h5 rfl, frozen_of h5⟩
/-- What row answers. -/
def RowR (j : Nat) (w : World) (e : Ending) (w' : World) : Prop := ∃ g, e = .returned (.agg #[.string (nmK j), .int .i64 (minK j), .int .i64 (maxK j), .bool (numK j), .int .i64 (textK j), .slice (some ⟨g, 0, none⟩) (lenK j) (lenK j)]) ∧ AbAt w' g j ∧ w.heap.size ≤ g ∧ Ext w w'
set_option maxRecDepth 100000 in
set_option maxHeartbeats 200000 in
theorem row_any (q j : Nat) (hj : j < 7) (w : World) (hL : Laid w) : Calls Tryd.prog 9 #[kdV q j] w (RowR j w) := by
  obtain ⟨hf1, hf2⟩ := abs_fields j hj
  obtain ⟨ha1, ha2⟩ := abs_ascii j hj
  have HL := hid hL
  unfold RowR AbAt kdV mkK
  have HF := hid (fun (u : World) (hx : Ext w u) => Tryd.strings_Fields (hasK j) u ha1 ha2 (HL.out.later hx))
  rw [hf1, hf2] at HF
  have HF := hid (show ∀ (u : World), Ext w u → Calls Tryd.prog 27 #[.string (hasK j)] u fun e w' => ∃ g, e = .returned (.slice (some ⟨g, 0, none⟩) (lenK j) (lenK j)) ∧ w'.heap[g]? = some (.cells (absK j) 9) ∧ u.heap.size ≤ g ∧ Ext u w' from fun u hx => (HF.out u hx).mono (fun e w' h => ⟨u.heap.size, h.1, h.2 ▸ blk0 _ _, Nat.le_refl _, h.2 ▸ Ext.alloc _ _⟩))
  clear hf1 hf2 ha1 ha2 hL
  generalize nmK j = nj at *
  generalize minK j = mj at *
  generalize maxK j = xj at *
  generalize numK j = bj at *
  generalize textK j = tj at *
  generalize hasK j = hj' at *
  generalize fnK j = fj at *
  generalize absK j = aj at *
  generalize lenK j = lj at *
  generalize (if capK j = true then #[Value.pointer (some ⟨q, 0, none⟩)] else #[]) = cj at *
  obtain ⟨V, hV⟩ : ∃ V, (w.alloc (.cells #[.string nj, .int .i64 mj, .int .i64 xj, .bool bj, .int .i64 tj, .string hj', .func (.func fj) #[] cj] 33)).alloc (.cells #[.string ⟨#[]⟩, .int .i64 0, .int .i64 0, .bool false, .int .i64 0, .slice none 0 0] 27) = V := ⟨_, rfl⟩
  have XV := hid (show Ext w V from hV ▸ Ext.alloc2 _ _ _)
  have HK := hid (show V.heap[w.heap.size]? = some (.cells #[.string nj, .int .i64 mj, .int .i64 xj, .bool bj, .int .i64 tj, .string hj', .func (.func fj) #[] cj] 33) from hV ▸ blkOld _ (blk0 _ _))
  have HR := hid (show V.heap[w.heap.size + 1]? = some (.cells #[.string ⟨#[]⟩, .int .i64 0, .int .i64 0, .bool false, .int .i64 0, .slice none 0 0] 27) from hV ▸ blk1 _ _ _)
  have HVS := hid (show V.heap.size = w.heap.size + 2 from hV ▸ (by simp))
  have HSK := hid (show ∀ W', Ext V W' → (W'.cell? ⟨w.heap.size, 0, none⟩ = some (.string nj) ∧ W'.cell? ⟨w.heap.size, 1, none⟩ = some (.int .i64 mj) ∧ W'.cell? ⟨w.heap.size, 2, none⟩ = some (.int .i64 xj) ∧ W'.cell? ⟨w.heap.size, 3, none⟩ = some (.bool bj) ∧ W'.cell? ⟨w.heap.size, 4, none⟩ = some (.int .i64 tj) ∧ W'.cell? ⟨w.heap.size, 5, none⟩ = some (.string hj')) from fun W' X => by
    obtain ⟨s0, s1, s2, s3, s4, s5, _⟩ := seven_of (X.block HK.out)
    exact ⟨s0, s1, s2, s3, s4, s5⟩)
  have HST := hid (show ∀ (W' : World) (v0 v1 v2 v3 v4 v5 : Value), Ext V W' → ((fun W' => W'.cell? ⟨w.heap.size, 0, none⟩ = some (.string nj) ∧ W'.cell? ⟨w.heap.size, 1, none⟩ = some (.int .i64 mj) ∧ W'.cell? ⟨w.heap.size, 2, none⟩ = some (.int .i64 xj) ∧ W'.cell? ⟨w.heap.size, 3, none⟩ = some (.bool bj) ∧ W'.cell? ⟨w.heap.size, 4, none⟩ = some (.int .i64 tj) ∧ W'.cell? ⟨w.heap.size, 5, none⟩ = some (.string hj')) : World → Prop) ((((((W'.setCell ⟨w.heap.size + 1, 0, none⟩ v0).setCell ⟨w.heap.size + 1, 0 + 1, none⟩ v1).setCell ⟨w.heap.size + 1, 0 + 2, none⟩ v2).setCell ⟨w.heap.size + 1, 0 + 3, none⟩ v3).setCell ⟨w.heap.size + 1, 0 + 4, none⟩ v4).setCell ⟨w.heap.size + 1, 0 + 5, none⟩ v5) from fun W' v0 v1 v2 v3 v4 v5 X => by
    obtain ⟨s0, s1, s2, s3, s4, s5, _⟩ := seven_of ((Kp.set6 W' (w.heap.size + 1) 0 v0 v1 v2 v3 v4 v5).block' (X.block HK.out) (by omega))
    exact ⟨s0, s1, s2, s3, s4, s5⟩)
  simp only [Nat.zero_add] at HST
  go_enter Tryd.func9, Tryd.ntmps9
  go_upto_region 1 with fail
  first | rw [hV] | skip
  clear hV
  obtain ⟨kb, rb, hkb, hrb⟩ : ∃ kb rb, w.heap.size = kb ∧ w.heap.size + 1 = rb := ⟨_, _, rfl, rfl⟩
  rw [hrb, hkb]
  rw [hrb] at HR HST
  rw [hkb] at HK HST HSK
  have HKB := hid hkb
  have HRB := hid hrb
  clear hkb hrb
  go_region_held3 (fun W' => W'.cell? ⟨kb, 0, none⟩ = some (.string nj) ∧ W'.cell? ⟨kb, 1, none⟩ = some (.int .i64 mj) ∧ W'.cell? ⟨kb, 2, none⟩ = some (.int .i64 xj) ∧ W'.cell? ⟨kb, 3, none⟩ = some (.bool bj) ∧ W'.cell? ⟨kb, 4, none⟩ = some (.int .i64 tj) ∧ W'.cell? ⟨kb, 5, none⟩ = some (.string hj'))
    (first | with_reducible exact HST.out _ _ _ _ _ _ _ Z1.out | with_reducible exact HSK.out _ (Ext.refl _).drew | with_reducible exact HSK.out _ Z1.out | with_reducible exact HSK.out _ Z1.out.drew)
    (first
      | (go_at_call 27; refine (HF.out _ (XV.out.trans (by repeat (first | with_reducible exact Ext.refl _ | with_reducible refine Ext.drew ?_)))).mono ?_; rintro r u1 ⟨gn, rfl, hgn, hge, hy⟩; have Z1 := hid (show Ext V u1 from Ext.trans (by repeat (first | with_reducible exact Ext.refl _ | with_reducible refine Ext.drew ?_)) hy); have HG := hid hgn; have HGE := hid hge; have HZ := hid (Z1.out.block HR.out); clear hgn hge hy; skip)
      | (obtain ⟨c0, f0, c1, f1, c2, f2, c3, f3, c4, f4, c5, f5⟩ := six_steps HZ.out (.string nj) (.int .i64 mj) (.int .i64 xj) (.bool bj) (.int .i64 tj); simp only [c0, f0, c1, f1, c2, f2, c3, f3, c4, f4, c5, f5, Bool.false_eq_true, if_false, Result.andThen_ok]; clear c0 f0 c1 f1 c2 f2 c3 f3 c4 f4 c5 f5; go_simp))
  all_goals
    obtain ⟨z0, z1, z2, z3, z4, z5⟩ := six_of (six_set (u0 := .string nj) (u1 := .int .i64 mj) (u2 := .int .i64 xj) (u3 := .bool bj) (u4 := .int .i64 tj) (u5 := .slice (some ⟨gn, 0, none⟩) lj lj) HZ.out)
    have HKN := Kp.set6 u1 rb 0 (.string nj) (.int .i64 mj) (.int .i64 xj) (.bool bj) (.int .i64 tj) (.slice (some ⟨gn, 0, none⟩) lj lj)
    simp only [Nat.zero_add] at HKN
    generalize ((((((u1.setCell ⟨rb, 0, none⟩ (.string nj)).setCell ⟨rb, 1, none⟩ (.int .i64 mj)).setCell ⟨rb, 2, none⟩ (.int .i64 xj)).setCell ⟨rb, 3, none⟩ (.bool bj)).setCell ⟨rb, 4, none⟩ (.int .i64 tj)).setCell ⟨rb, 5, none⟩ (.slice (some ⟨gn, 0, none⟩) lj lj)) = U at *
    have HKU := hid HKN
    clear HKN
    go_wp2_with fail
    refine bodyPost_ret (v := .agg #[.string nj, .int .i64 mj, .int .i64 xj, .bool bj, .int .i64 tj, .slice (some ⟨gn, 0, none⟩) lj lj]) (by simp [results, Tryd.results9, go_sem, z0, z1, z2, z3, z4, z5]) rfl ?_
    have hvs : V.heap.size ≤ gn := by simpa using HGE.out
    have := HVS.out
    have := HRB.out
    exact ⟨gn, rfl, HKU.out.block' HG.out (by omega), by omega, Kp.extOf (XV.out.trans Z1.out) HKU.out (by omega)⟩
end Go.Proofs.YthablchefckclaaDoor
