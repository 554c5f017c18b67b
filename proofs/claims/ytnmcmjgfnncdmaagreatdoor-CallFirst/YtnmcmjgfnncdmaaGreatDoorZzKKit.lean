/-
  craft.Kit by a contract: the kit of a table of kinds whose rows may be.
-/
import Derived.Test.YtnmcmjgfnncdmaaGreatDoorZzKNew
import Derived.Test.YtnmcmjgfnncdmaaGreatDoorShelf
import Derived.Deep.RegionHeld3
namespace Go.Proofs.YtnmcmjgfnncdmaaGreatDoor
open Go.RowKit
/-- The library's table of blanks, as laid. -/
def Laid (w : World) : Prop := Lib.TabIs Tryz.prog w "strings.asciiSpace" .u8 Lib.asciiSpaceTab
theorem Laid.keep {w w' : World} {K : Nat → Prop} (h : Laid w) (hk : Kp K w w') (h1 : K 1) : Laid w' := by
  have hgn : Tryz.prog.globalNamed "strings.asciiSpace" = some 1 := by kernel_rfl
  unfold Laid Lib.TabIs World.var? at h ⊢
  rw [hgn] at h ⊢
  simp only [Option.bind_some] at h ⊢
  have hlt : 1 < w.heap.size := by
    rcases Nat.lt_or_ge 1 w.heap.size with h' | h'
    · exact h'
    · rw [Array.getElem?_eq_none h'] at h; cases h
  rw [hk.block 1 hlt h1]
  exact h
theorem Laid.later {w w' : World} (h : Laid w) (hx : Ext w w') : Laid w' := h.keep (hx.kp (fun _ => True)) trivial
theorem kindInfo : (Tryz.prog.info? 100).map (fun i => (i.zero, i.size, i.bytes)) = some (some (.agg #[.string ⟨#[]⟩, .int .i64 0, .int .i64 0, .int .i64 0, .string ⟨#[]⟩, .string ⟨#[]⟩, .nilFunc, .nilFunc, .bool false]), 9, 96) := by kernel_rfl
theorem fnV_one : ∀ o, (fnV o).oneCell' = true
  | none => rfl
  | some _ => rfl
theorem tabL_one : ∀ (ks : List Kd), ∀ u ∈ tabL ks, u.oneCell' = true
  | [], u, h => by cases h
  | k :: r, u, h => by
    simp only [tabL, List.mem_cons] at h
    rcases h with rfl | rfl | rfl | rfl | rfl | rfl | rfl | rfl | rfl | h
    · rfl
    · rfl
    · rfl
    · rfl
    · rfl
    · rfl
    · exact fnV_one _
    · exact fnV_one _
    · rfl
    · exact tabL_one r u h
/-- Kinds in a row. -/
def KRow (w : World) (g : Nat) (ks : List Kd) : Prop := ∀ j, (h : j < ks.length) → Nine w g (j * 9) ks[j]
theorem KRow.later {w w' : World} {g : Nat} {ks : List Kd} (h : KRow w g ks) (hx : Ext w w') : KRow w' g ks := fun j hj => by
  obtain ⟨h0, h1, h2, h3, h4, h5, h6, h7, h8⟩ := h j hj
  exact ⟨(Below.cell hx (lt_of_cell h0)).trans h0, (Below.cell hx (lt_of_cell h1)).trans h1, (Below.cell hx (lt_of_cell h2)).trans h2, (Below.cell hx (lt_of_cell h3)).trans h3, (Below.cell hx (lt_of_cell h4)).trans h4, (Below.cell hx (lt_of_cell h5)).trans h5, (Below.cell hx (lt_of_cell h6)).trans h6, (Below.cell hx (lt_of_cell h7)).trans h7, (Below.cell hx (lt_of_cell h8)).trans h8⟩
set_option maxRecDepth 100000 in
set_option maxHeartbeats 1000000 in
theorem cloneK (tb : Nat) (ks : List Kd) (w : World) (hl : ks.length ≤ 1000) (h0 : 0 < ks.length) (h : TabAt w tb ks) :
    Calls Tryz.prog 121 #[.slice (some ⟨tb, 0, none⟩) ks.length ks.length] w fun e w' => ∃ g cap, e = .returned (.slice (some ⟨g, 0, none⟩) ks.length cap) ∧ w.heap.size ≤ g ∧ KRow w' g ks ∧ Ext w w' := by
  obtain ⟨i0, hi0, hz0, hz1, hz2⟩ := info_parts kindInfo
  have hq : ∀ w : World, (binOp .eql 104 (.slice (some ⟨tb, 0, none⟩) ks.length ks.length) (.slice none 0 0)).run Tryz.prog w = .ok (.bool false) w := fun w => by
    exact Lib.run_eql_slice_nil w 104 100 (some ⟨tb, 0, none⟩) ks.length ks.length 0 0 Tryz.underlying104
  have hown : (w.alloc (.cells #[] 100)).ownsRow w.heap.size 100 9 (.slice (some ⟨w.heap.size, 0, none⟩) 0 0) 0 [] :=
    ⟨rfl, .inr ⟨w.heap.size, 0, #[], rfl, Nat.le_refl _, blk0 _ _, Nat.le_refl _, Nat.zero_le _, rfl, rfl⟩⟩
  have HT := hid h
  have HLN := hid (tab_len ks)
  clear h
  go_enter Tryz.func121, Tryz.ntmps121
  go_wp2_with (at_builtin; refine wpList_append_own _ rfl _ _ 104 rfl w.heap.size 100 i0 _ 9 96 Tryz.underlying104 hi0 hz0 hz1 hz2 rfl (by decide) _ _ _ rfl hown ⟨tb, 0, none⟩ ks.length ks.length (tabL ks) rfl (by rw [HLN.out]) ?hnews ?hone ?b1 ?b2 ?b3 ?_)
  case hnews =>
    intro j u hu
    obtain ⟨t, ht⟩ := HT.out
    have h2 := cell_of ((Ext.alloc w (.cells #[] 100)).block ht) (show (tabL ks).toArray[j]? = some u by simpa using hu)
    have ea : Addr.add ⟨tb, 0, none⟩ j = ⟨tb, j, none⟩ := by
      by_cases hj : j = 0
      · subst hj; simp [Addr.add]
      · simp [Addr.add, hj]
    rw [ea]; exact h2
  case hone => exact tabL_one ks
  case b1 => unfold maxLen; omega
  case b2 => simp; omega
  case b3 => simp
  intro v' w' hown' hgrow _
  have hx : Ext w w' := Below.grown (Ext.alloc w _) hgrow (by simp) (fun k hk => by simp [Value.ownBlock] at hk; omega)
  have ho2 : w'.ownsRow w.heap.size 100 9 v' ks.length (tabL ks) := by simpa using hown'
  obtain ⟨g, cap, rfl, hge, hkr⟩ : ∃ g cap, v' = .slice (some ⟨g, 0, none⟩) ks.length cap ∧ w.heap.size ≤ g ∧ KRow w' g ks := by
    rcases ho2.2 with ⟨hv, h1⟩ | ⟨g, cap, cur, hv, hbg, hbk, h3, h4, h5, h6⟩
    · omega
    · refine ⟨g, cap, hv, hbg, fun j hj => ?_⟩
      have key : ∀ i u, i < ks.length * 9 → (tabL ks)[i]? = some u → w'.cell? ⟨g, i, none⟩ = some u := fun i u hi hu => by
        rw [← h6, List.getElem?_take_of_lt hi] at hu
        exact cell_of hbk (by simpa using hu)
      obtain ⟨a0, a1, a2, a3, a4, a5, a6, a7, a8⟩ := tab_at ks j hj
      exact ⟨key _ _ (by omega) a0, key _ _ (by omega) a1, key _ _ (by omega) a2, key _ _ (by omega) a3, key _ _ (by omega) a4, key _ _ (by omega) a5, key _ _ (by omega) a6, key _ _ (by omega) a7, key _ _ (by omega) a8⟩
  have HX := hid hx
  have HKR := hid hkr
  clear hx hkr ho2 hown' hgrow hown
  go_wp2
  go_ret
  exact ⟨g, cap, rfl, hge, HKR.out, HX.out⟩
/-- A kind's row. -/
def kdRow (k : Kd) : Rw := ⟨k.name, k.min, k.max, false, k.text, (Lib.fields k.has.data.toList).map fun l => ⟨l.toArray⟩⟩
theorem fields_any (s : ByteArray) (abs : List ByteArray) (ha : (Lib.fields s.data.toList).map (fun l => (⟨l.toArray⟩ : ByteArray)) = abs) (w : World) (hs : s.size ≤ 4000) (hascii : s.data.toList.all (fun b => decide (b.toNat < 128)) = true) (hl : Laid w) : Calls Tryz.prog 122 #[.string s] w fun e w' => e = .returned (.slice (some ⟨w.heap.size, 0, none⟩) abs.length abs.length) ∧ TB w' (some ⟨w.heap.size, 0, none⟩) abs ∧ Ext w w' := by
  subst ha
  refine (Tryz.strings_Fields s w (by omega) (fun j b hb => ?_) hl).mono ?_
  · have := List.all_eq_true.1 hascii b (List.mem_of_getElem? hb)
    simpa using this
  · rintro e w' ⟨rfl, rfl⟩
    refine ⟨by rw [List.length_map], .inr ⟨_, _, rfl, blk0 _ _, fun j hj => ?_⟩, Ext.alloc _ _⟩
    have hj' : j < (Lib.fields s.data.toList).length := by simpa using hj
    simp [hj']
end Go.Proofs.YtnmcmjgfnncdmaaGreatDoor
