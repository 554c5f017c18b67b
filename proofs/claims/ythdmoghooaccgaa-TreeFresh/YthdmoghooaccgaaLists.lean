/-
  lists of the statements' Book, by a contract: the lists of a tree of its own memory, in the order of its blocks.
-/
import Derived.Test.YthdmoghooaccgaaRefKinds
import Derived.Test.YthdmoghooaccgaaTake
namespace Go.Proofs.Ythdmoghooaccgaa
open Go.RowKit
theorem listInfo : (Try.prog.info? 24).map (fun i => (i.zero, i.size, i.bytes)) = some (some (.slice none 0 0), 1, 24) := by kernel_rfl
/-- A list: its block, its length (it has no spare room). -/
abbrev lV (r : Nat × Nat) : Value := .slice (some ⟨r.1, 0, none⟩) r.2 r.2
/-- Lists that lie there. -/
def LsOk (w : World) (rs : List (Nat × Nat)) : Prop := ∀ r ∈ rs, 0 < r.2 ∧ ∃ cs, w.heap[r.1]? = some (.cells cs 26) ∧ cs.size = r.2 * 4
/-- What lists answers. -/
def ListsR (w : World) (base : Nat) (lv : Value) (rs0 : List (Nat × Nat)) (m : Nat) (bs : List Nat) (e : Ending) (w' : World) : Prop :=
  ∃ v' rs, e = .returned v' ∧ w'.ownsRow base 24 1 v' (rs0 ++ rs).length ((rs0 ++ rs).map lV) ∧ rs.map (·.1) = bs ∧ LsOk w rs ∧ rs.length ≤ m ∧ Kp (fun q => some q ≠ lv.ownBlock) w w' ∧ (v'.ownBlock = lv.ownBlock ∨ ∃ q, v'.ownBlock = some q ∧ w.heap.size ≤ q)
/-- What the loop of lists holds. -/
def LsSt (w : World) (base : Nat) (lv : Value) (rs0 : List (Nat × Nat)) (bx : Obj) (g : Nat) (bss : List (List Nat)) (ks : List T) (j : Nat) (l : Value) (rs : List (Nat × Nat)) (wr : World) : Prop :=
  wr.ownsRow base 24 1 l (rs0 ++ rs).length ((rs0 ++ rs).map lV) ∧ rs.map (·.1) = g :: (bss.take j).flatten ∧ LsOk w rs ∧ rs.length ≤ 1 + T.sizeL (ks.take j) ∧ wr.heap[w.heap.size]? = some bx ∧ Kp (fun q => some q ≠ lv.ownBlock) w wr ∧ (l.ownBlock = lv.ownBlock ∨ ∃ q, l.ownBlock = some q ∧ w.heap.size + 1 ≤ q)
set_option maxRecDepth 100000 in
set_option maxHeartbeats 4000000 in
theorem lists_any : ∀ (d : Nat) (v : Value) (t : T) (bs : List Nat) (w : World) (base : Nat) (lv : Value) (rs0 : List (Nat × Nat)), Own w d v t bs → w.ownsRow base 24 1 lv rs0.length (rs0.map lV) → (∀ q, lv.ownBlock = some q → q ∉ bs) → base ≤ w.heap.size → rs0.length + t.size ≤ 1000000 →
    Calls Try.prog 56 #[v, lv] w (ListsR w base lv rs0 t.size bs) := by
  intro d
  induction d with
  | zero => intro v t bs w base lv rs0 h; exact h.elim
  | succ d ih =>
    intro v t bs w base lv rs0 ho hrow hlk hbs hsz
    obtain ⟨k, n, x, ks⟩ := t
    obtain ⟨a, rfl, _, _, hkl, ho⟩ := ho
    obtain ⟨la, lc, rfl⟩ := ownsRow_slice hrow
    rcases ho with ⟨rfl, rfl, rfl⟩ | ⟨g, cs, bss, rfl, hp, hg, hcs, rfl, hbl, hc⟩
    · have HROW := hid hrow
      clear hrow hlk hsz ih
      go_enter Try.func56, Try.ntmps56
      go_wp2_with fail
      go_loopw [1, 5] (fun l i wr => i = .int .i64 0 ∧ l = .slice la rs0.length lc ∧ wr = w.alloc (.cells #[.string k, .int .i64 n, .string x, .slice none 0 0] 26)) (fun _ _ _ => 0)
      case atStart => exact ⟨rfl, rfl, rfl⟩
      case round =>
        obtain ⟨rfl, rfl, rfl⟩ := hrel
        go_wp2_with fail
        go_ret
        exact ⟨_, [], rfl, by simpa using ownsRow_keep HROW.out ((Ext.alloc w (.cells #[.string k, .int .i64 n, .string x, .slice none 0 0] 26)).kp (fun _ => True)) (fun _ _ => trivial), rfl, fun r hr => absurd hr (by simp), Nat.zero_le _, (Ext.alloc _ _).kp _, .inl rfl⟩
    · have HROW := hid hrow
      have HG := hid hg
      have HC := hid hc
      have HLK := hid hlk
      have HIH := hid ih
      have HLT := hid (show ∀ q, (Value.slice la rs0.length lc).ownBlock = some q → q < w.heap.size from fun q hq => by obtain ⟨_, cur, hc⟩ := ownsRow_block hrow hq; exact lt_of_block hc)
      clear hg hc hlk ih
      obtain ⟨i0, hi0, hz0, hz1, hz2⟩ := info_parts listInfo
      have hkp : decide ((0 : Int) < ks.length) = true := decide_eq_true (by omega)
      have hkl' : (ks.length : Int) ≤ 140737488355328 := by omega
      have hrl : (rs0.length : Int) ≤ 1000000 := by omega
      have xr2 := ownsRow_keep HROW.out ((Ext.alloc2 w (.cells #[.string k, .int .i64 n, .string x, .slice (some ⟨g, 0, none⟩) ks.length ks.length] 26) (.cells #[.slice (some ⟨g, 0, none⟩) ks.length ks.length] 24)).kp (fun _ => True)) (fun _ _ => trivial)
      have hnew : ∀ j u, [Value.slice (some ⟨g, 0, none⟩) ks.length ks.length][j]? = some u → ((w.alloc (.cells #[.string k, .int .i64 n, .string x, .slice (some ⟨g, 0, none⟩) ks.length ks.length] 26)).alloc (.cells #[.slice (some ⟨g, 0, none⟩) ks.length ks.length] 24)).cell? ((⟨w.heap.size + 1, 0, none⟩ : Addr).add j) = some u := by
        have h := cell_one_new (w.alloc (.cells #[.string k, .int .i64 n, .string x, .slice (some ⟨g, 0, none⟩) ks.length ks.length] 26)) (.slice (some ⟨g, 0, none⟩) ks.length ks.length) 24
        rwa [show (w.alloc (.cells #[.string k, .int .i64 n, .string x, .slice (some ⟨g, 0, none⟩) ks.length ks.length] 26)).heap.size = w.heap.size + 1 from Array.size_push _] at h
      clear hrow
      go_enter Try.func56, Try.ntmps56
      go_wp2_with (at_builtin; refine wpList_append_own_at _ rfl _ _ 61 rfl base 24 i0 (.slice none 0 0) 1 24 Try.underlying61 hi0 hz0 hz1 hz2 rfl (by decide) _ _ _ rfl xr2 ⟨w.heap.size + 1, 0, none⟩ 1 1 [.slice (some ⟨g, 0, none⟩) ks.length ks.length] rfl rfl hnew (by simp [Value.oneCell']) (by unfold maxLen; omega) (by omega) (by have := (Ext.alloc2 w (.cells #[.string k, .int .i64 n, .string x, .slice (some ⟨g, 0, none⟩) ks.length ks.length] 26) (.cells #[.slice (some ⟨g, 0, none⟩) ks.length ks.length] 24)).size; omega) ?_; intro v9 w9 hown9 hgrow9 _ hat9; obtain ⟨a9, c9, rfl⟩ := ownsRow_slice hown9)
      have HGL := hid (lt_of_block HG.out)
      have HNG := hid (show ∀ q, q ∈ g :: bss.flatten → some q ≠ (Value.slice la rs0.length lc).ownBlock from fun q hq e => HLK.out q e.symm hq)
      have HST := hid (show LsSt w base (.slice la rs0.length lc) rs0 (.cells #[.string k, .int .i64 n, .string x, .slice (some ⟨g, 0, none⟩) ks.length ks.length] 26) g bss ks 0 (.slice a9 (rs0.length + 1) c9) [(g, ks.length)] w9 by
        have K9 : Kp (fun q => some q ≠ (Value.slice la rs0.length lc).ownBlock) w w9 := ((Ext.alloc2 w (.cells #[.string k, .int .i64 n, .string x, .slice (some ⟨g, 0, none⟩) ks.length ks.length] 26) (.cells #[.slice (some ⟨g, 0, none⟩) ks.length ks.length] 24)).kp _).trans ⟨hgrow9.os, hgrow9.tape, hgrow9.output, hgrow9.size, fun q hq hne => hgrow9.block q hq hne⟩
        refine ⟨by simpa using hown9, by simp, fun r hr => ?_, by simp, ?_, K9, ?_⟩
        · rw [List.mem_singleton.1 hr]; exact ⟨hp, cs, HG.out, hcs⟩
        · have h0 := blkOld (.cells #[.slice (some ⟨g, 0, none⟩) ks.length ks.length] 24) (blk0 w (.cells #[.string k, .int .i64 n, .string x, .slice (some ⟨g, 0, none⟩) ks.length ks.length] 26))
          exact (hgrow9.block _ (lt_of_block h0) (fun e => by have := HLT.out _ e.symm; omega)).trans h0
        · rcases hat9 with h | h
          · exact .inl h
          · exact .inr ⟨_, h, by have := lt_of_block (blk1 w (.cells #[.string k, .int .i64 n, .string x, .slice (some ⟨g, 0, none⟩) ks.length ks.length] 26) (.cells #[.slice (some ⟨g, 0, none⟩) ks.length ks.length] 24)); omega⟩)
      have HSZ := hid (show rs0.length + 1 + T.sizeL ks ≤ 1000000 by simp only [T.size] at hsz; omega)
      clear hown9 hgrow9 hat9 xr2 hnew hsz
      go_loopw [1, 5] (fun l i wr => ∃ (j : Nat) (rs : List (Nat × Nat)), j ≤ ks.length ∧ i = .int .i64 j ∧ LsSt w base (.slice la rs0.length lc) rs0 (.cells #[.string k, .int .i64 n, .string x, .slice (some ⟨g, 0, none⟩) ks.length ks.length] 26) g bss ks j l rs wr) (fun _ i _ => ks.length - (intOf i).toNat)
      case atStart => exact ⟨0, _, Nat.zero_le _, rfl, HST.out⟩
      case round =>
        obtain ⟨j, rs, hj, rfl, hst⟩ := hrel
        have HSJ := hid hst
        obtain ⟨t0, t1, t2, t3⟩ := four_of hst.2.2.2.2.1
        obtain ⟨a2, c2, rfl⟩ := ownsRow_slice hst.1
        clear hst HST
        generalize hL : (rs0 ++ rs).length = L at HSJ ⊢
        clear hL
        by_cases hlt : j < ks.length
        · have hlt' : (j : Int) < ks.length := by omega
          obtain ⟨u0, u1, u2, u3, b, e0, e1, e2, e3, hbj, hown⟩ := HC.out j hlt
          have hgw := HSJ.out.2.2.2.2.2.1.block' HG.out (HNG.out g (by simp))
          have m0 := cell_of hgw e0
          have m1 := cell_of hgw e1
          have m2 := cell_of hgw e2
          have m3 := cell_of hgw e3
          have hbm : ∀ q ∈ b, q ∈ g :: bss.flatten := fun q hq => List.mem_cons_of_mem _ (List.mem_flatten.2 ⟨b, List.mem_of_getElem? hbj, hq⟩)
          have HKB := hid (show Kp (· ∈ b) w wr from HSJ.out.2.2.2.2.2.1.mono (fun q _ hq => HNG.out q (hbm q hq)))
          have hgl := HGL.out
          have hb2 := HSJ.out.2.2.2.2.2.1.size
          have HCH := hid (HIH.out _ ks[j] b _ base _ (rs0 ++ rs) (hown.keep HKB.out) HSJ.out.1 (fun q hq hqb => by
            rcases HSJ.out.2.2.2.2.2.2 with h | ⟨q', h, hq'⟩
            · rw [h] at hq; exact HLK.out q hq (hbm q hqb)
            · rw [h] at hq; cases hq; have := hown.lt _ hqb; omega) (by omega) (by
            have h1 := HSJ.out.2.2.2.1
            have h2 := T.sizeL_take ks j hlt
            have h3 := T.sizeL_split ks (j + 1)
            have := HSZ.out
            rw [List.length_append]
            omega))
          have HBJ := hid hbj
          have HOW := hid hown
          clear e0 e1 e2 e3 hbj hown hgw hbm
          go_wp2_with fail
          refine HCH.out.mono ?_
          rintro e w2 ⟨v', rs', rfl, hrow2, hm2, hok2, hl2, hkp2, hown2⟩
          have HR2 := hid (And.intro hrow2 (And.intro hm2 (And.intro hok2 (And.intro hl2 (And.intro hkp2 hown2)))))
          obtain ⟨a3, c3, rfl⟩ := ownsRow_slice hrow2
          generalize hL2 : (rs0 ++ rs ++ rs').length = L2 at HR2 ⊢
          have HL2 := hid hL2
          clear hL2 hrow2 hm2 hok2 hl2 hkp2 hown2 HCH m0 m1 m2 m3 t0 t1 t2 t3
          go_wp2_with fail
          go_roundw
          case rel =>
            obtain ⟨hrow2, hm2, hok2, hl2, hkp2, hown2⟩ := HR2.out
            have hso := HSJ.out.2.2.2.2.2.2
            refine ⟨j + 1, rs ++ rs', hlt, by go_num, ?_, ?_, ?_, ?_, ?_, ?_, ?_⟩
            · rw [← List.append_assoc, HL2.out]; exact hrow2
            · rw [List.map_append, HSJ.out.2.1, hm2, List.take_add_one, HBJ.out]; simp
            · intro r hr
              rcases List.mem_append.1 hr with hr | hr
              · exact HSJ.out.2.2.1 r hr
              · obtain ⟨h1, cs', h2, h3⟩ := hok2 r hr
                have hrb : r.1 ∈ b := by rw [← hm2]; exact List.mem_map.2 ⟨r, hr, rfl⟩
                exact ⟨h1, cs', by rw [← h2]; exact (HKB.out.block r.1 (HOW.out.lt _ hrb) hrb).symm, h3⟩
            · have h1 := HSJ.out.2.2.2.1
              have h2 := T.sizeL_take ks j hlt
              rw [List.length_append]
              omega
            · refine hkp2.block' HSJ.out.2.2.2.2.1 (fun e => ?_)
              rcases hso with h | ⟨q', h, hq'⟩
              · rw [h] at e; have := HLT.out _ e.symm; omega
              · rw [h] at e; cases e; omega
            · refine HSJ.out.2.2.2.2.2.1.chain hkp2 (fun q hq hne e => ?_)
              rcases hso with h | ⟨q', h, hq'⟩
              · rw [h] at e; exact hne e
              · rw [h] at e; cases e; omega
            · rcases hown2 with h | ⟨q', h, hq'⟩
              · rw [h]; exact hso
              · exact .inr ⟨q', h, by have := lt_of_block HSJ.out.2.2.2.2.1; omega⟩
          case measure => simp [intOf]; omega
        · have hje : j = ks.length := by omega
          have HR := hid hje
          clear hje
          go_wp2_with fail
          go_ret
          obtain ⟨g1, g2, g3, g4, g5, g6, g7⟩ := HSJ.out
          refine ⟨_, rs, rfl, g1, ?_, g3, ?_, g6, ?_⟩
          · rw [g2, HR.out, ← hbl, List.take_length]
          · rw [HR.out, List.take_length] at g4; simp only [T.size]; omega
          · rcases g7 with h | ⟨q', h, hq'⟩
            · exact .inl h
            · exact .inr ⟨q', h, by omega⟩
end Go.Proofs.Ythdmoghooaccgaa
