/-
  Kinds by a contract.
-/
import Derived.Test.YthdmoghooaccgaaMay
import Derived.Maps.OwnIn
import Derived.Maps.AppendAt
import Derived.StringKeys
namespace Go.Proofs.Ythdmoghooaccgaa
open Go.RowKit Go.Shelf
attribute [local go_sem] Oper.semAt_some
/-- A name more, if it is not there. -/
def addK (ks : List (List UInt8)) (k : List UInt8) : List (List UInt8) := if k ∈ ks then ks else ks ++ [k]
/-- The kinds of some nodes, each once. -/
def kindsOf (l : List (List Int × T)) : List (List UInt8) := l.foldl (fun ks y => addK ks y.2.kind.data.toList) []
theorem kindsOf_snoc (l : List (List Int × T)) (y : List Int × T) : kindsOf (l ++ [y]) = addK (kindsOf l) y.2.kind.data.toList := by simp [kindsOf]
theorem kindsOf_le (l : List (List Int × T)) (acc : List (List UInt8)) : (l.foldl (fun ks y => addK ks y.2.kind.data.toList) acc).length ≤ acc.length + l.length := by
  induction l generalizing acc with
  | nil => simp
  | cons y l ih =>
    have h := ih (addK acc y.2.kind.data.toList)
    have h2 : (addK acc y.2.kind.data.toList).length ≤ acc.length + 1 := by
      unfold addK
      split
      · omega
      · simp
    simp only [List.foldl_cons, List.length_cons]
    omega
theorem kindsOf_len (l : List (List Int × T)) : (kindsOf l).length ≤ l.length := by
  have := kindsOf_le l []
  simpa [kindsOf] using this
/-- The set that holds some names. -/
def Names (D : DataW Unit) (ns : List (List UInt8)) : Prop := Maps.IsMap D ∧ ∀ k : List UInt8, Maps.has D (.string k) = decide (k ∈ ns)
theorem Names.nil : Names (.map []) [] := ⟨⟨_, rfl⟩, fun k => by simp [Maps.has_eq]⟩
theorem Names.put {D : DataW Unit} {ns : List (List UInt8)} (h : Names D ns) (k : List UInt8) (d : DataW Unit) : Names (D.put (.string k) d) (ns ++ [k]) := by
  refine ⟨h.1.put _ _, fun k' => ?_⟩
  by_cases e : k' = k
  · subst e
    rw [Maps.has_put_same h.1 (show WideAt.IsKeyLit (.string k') from trivial)]
    simp
  · rw [Maps.has_put_other (fun e' => e (by cases e'; rfl)), h.2 k']
    simp [e]
abbrev strs (ns : List (List UInt8)) : List Value := ns.map (fun l => Value.string ⟨l.toArray⟩)
/-- What the loop of Kinds holds between two rounds. -/
def kinI (t : T) (n0 b3 mb : Nat) (M' : Nat → Prop) (i : Nat) (Z : World) : Prop :=
  ∃ v D, (M' = fun q => q = b3 ∨ q = mb ∨ v.ownBlock = some q) ∧ Z.heap[b3]? = some (.cells #[v] 49) ∧ Z.ownsMap Try.prog 9 unitElem mb i D ∧ Names D (kindsOf ((T.all [] t).take i)) ∧
    Z.ownsRow n0 9 1 v (kindsOf ((T.all [] t).take i)).length (strs (kindsOf ((T.all [] t).take i)))
theorem ownsMap_keep {K : Nat → Prop} {w w' : World} {b n : Nat} {D : DataW Unit} (h : w.ownsMap Try.prog 9 unitElem b n D) (hk : Kp K w w') (hb : K b) : w'.ownsMap Try.prog 9 unitElem b n D := by
  obtain ⟨es, clock, h1, h2⟩ := h
  exact ⟨es, clock, hk.block' h1 hb, h2⟩
theorem ownsRow_keep {K : Nat → Prop} {w w' : World} {n0 n : Nat} {e : TypeId} {v : Value} {xs : List Value} (h : w.ownsRow n0 e 1 v n xs) (hk : Kp K w w') (hb : ∀ b, v.ownBlock = some b → K b) : w'.ownsRow n0 e 1 v n xs := by
  refine ⟨h.1, ?_⟩
  rcases h.2 with h | ⟨g, cap, cur, rfl, h2, h3, h4⟩
  · exact .inl h
  · exact .inr ⟨g, cap, cur, rfl, h2, hk.block' h3 (hb g rfl), h4⟩
theorem ownsRow_block {w : World} {n0 n : Nat} {e : TypeId} {v : Value} {xs : List Value} (h : w.ownsRow n0 e 1 v n xs) {b : Nat} (hb : v.ownBlock = some b) : n0 ≤ b ∧ ∃ cur, w.heap[b]? = some (.cells cur e) := by
  rcases h.2 with ⟨rfl, _⟩ | ⟨g, cap, cur, rfl, h2, h3, h4⟩
  · cases hb
  · cases hb; exact ⟨h2, cur, h3⟩
theorem strInfo2 : (Try.prog.info? 9).map (fun i => (i.zero, i.size, i.bytes)) = some (some (.string ⟨#[]⟩), 1, 16) := by kernel_rfl
set_option maxRecDepth 100000 in
set_option maxHeartbeats 4000000 in
theorem kinds_face {K : Nat → Prop} {d : Nat} {v : Value} {t : T} (w : World) (hr : Rd K w d v t) : Calls Try.prog 22 #[v] w fun e w' => ∃ a c ns, e = .returned (.slice a ns.length c) ∧ ns = (if t.small then kindsOf (T.all [] t) else []) ∧ w'.ownsRow w.heap.size 9 1 (.slice a ns.length c) ns.length (strs ns) ∧ Ext w w' := by
  obtain ⟨u0, u1, u2, u3, rfl⟩ := hr.agg
  obtain ⟨k, n, x, a, c, rfl, rfl, rfl, rfl⟩ := hr.shape
  have C1 := hid (fun w1 (h : Ext w w1) => great_any w1 (hr.later h))
  have HR := hid hr.low
  clear hr
  generalize (T.kids t).length = kt at *
  by_cases h1 : t.small
  · rw [decide_eq_true h1] at C1
    rw [if_pos h1]
    have HS := hid h1
    clear h1
    have hmm := @run_makeMap Try.prog
    refine (callsIn_wide (n := 0)).1 ?_
    refine callsIn_of_wp_marks Try.func22 rfl trivial ?_ rfl
    show Code.wpIn _ _ _ _ _ _ _
    simp only [Try.ntmps22, List.size_toArray, List.length_cons, List.length_nil, Nat.reduceAdd, Nat.reduceSub, Array.replicate_succ, Array.replicate_zero, List.push_toArray, List.append_toArray, List.nil_append, List.cons_append]
    gi_wp2_with fail
    refine ⟨trivial, rfl, (callsIn_wide.2 (C1.out _ (Ext.alloc _ _))).mono ?_⟩
    rintro e w1 ⟨rfl, hx1⟩
    obtain ⟨p0, p1, p2, p3⟩ := four_of (hx1.block (blk0 w _))
    have hlw := lt_of_cell p0
    obtain ⟨o0, o1, o2, o3⟩ := four_of ((Ext.alloc3 w1 (.cells #[.slice none 0 0] 49) (.map #[] 0) (.cells #[.map (some (w1.heap.size + 1))] 81)).block (hx1.block (blk0 w _)))
    gi_wp2_with fail
    refine ⟨trivial, rfl, (callsIn_wide.2 (nodes_any k n x a kt c _)).mono ?_⟩
    rintro e w' ⟨rfl, rfl⟩
    gi_wp2_with fail
    obtain ⟨V, hV⟩ : ∃ V, (((w1.alloc (.cells #[.slice none 0 0] 49)).alloc (.map #[] 0)).alloc (.cells #[.map (some (w1.heap.size + 1))] 81)).alloc (.cells #[.string k, .int .i64 n, .string x, .slice a kt c] 26) = V := ⟨_, rfl⟩
    have htb : V.heap[w1.heap.size + 1 + 1 + 1]? = some (.cells #[.string k, .int .i64 n, .string x, .slice a kt c] 26) := hV ▸ blk3 _ _ _ _ _
    have hb4 : V.heap[w1.heap.size + 1 + 1]? = some (.cells #[.map (some (w1.heap.size + 1))] 81) := hV ▸ blkOld _ (blk2 _ _ _ _)
    have hb3 : V.heap[w1.heap.size]? = some (.cells #[.slice none 0 0] 49) := hV ▸ blkOld _ (blkOld _ (blkOld _ (blk0 _ _)))
    have hmp : V.ownsMap Try.prog 9 (unitElem (H := Unit)) (w1.heap.size + 1) 0 (.map []) := hV ▸ ownsMap_keep (by have h := World.ownsMap_made (w1.alloc (.cells #[.slice none 0 0] 49)) Try.prog 9 (unitElem (H := Unit)); rw [World.size_alloc] at h; exact h) ((Ext.alloc2 _ _ _).kp (fun _ => True)) trivial
    have hX1 : Ext w w1 := (Ext.alloc w _).trans hx1
    have hXV : Ext w V := hV ▸ (hX1.trans (Ext.alloc3 _ _ _ _)).trans (Ext.alloc _ _)
    have hsV : V.heap.size = w1.heap.size + 4 := by rw [← hV]; simp
    rw [hV]
    have hs1 := hX1.size
    clear p0 p1 p2 p3 o0 o1 o2 o3 hV hx1
    refine rangeM rfl (enters_of Try.func63 (by kernel_rfl) rfl) t.size (fun q => q = w1.heap.size ∨ q = w1.heap.size + 1 ∨ (Value.slice none 0 0).ownBlock = some q) (nodesX t V.heap.size) (nodes_iter (d := d) htb ((HR.out.later hXV).mono (fun q _ hq e => by have hq' : q < _ := hq; rcases e with e | e | e; omega; omega; cases e)) HS.out.2.1) nodesX_size nodesX_mono nodesX_new
      (kinI t w.heap.size w1.heap.size (w1.heap.size + 1)) (fun _ _ _ => False)
      (fun M' i Z h q hq => by
        obtain ⟨v, D, rfl, h1, h2, h3, h4⟩ := h
        rcases hq with rfl | rfl | hq
        · exact lt_of_block h1
        · exact h2.lt
        · obtain ⟨_, cur, hc⟩ := ownsRow_block h4 hq; exact lt_of_block hc)
      (fun M' i Z Z' h hk => by
        obtain ⟨v, D, rfl, h1, h2, h3, h4⟩ := h
        exact ⟨v, D, rfl, hk.block' h1 (.inr (.inl rfl)), ownsMap_keep h2 hk (.inr (.inr (.inl rfl))), h3, ownsRow_keep h4 hk (fun b hb => .inr (.inr (.inr hb)))⟩)
      (fun c M' Z h => h.elim) (fun c M' Z Z' h => h.elim)
      ⟨.slice none 0 0, .map [], rfl, hb3, hmp, by simpa [kindsOf] using Names.nil, by simpa [kindsOf] using World.ownsRow_nil V w.heap.size 9 1⟩ ?round ?done ?stop
    case round =>
      rintro l2 M' i Z args E hl2 ⟨r2, hr2⟩ hml hel hi ⟨v, D, rfl, hcb, hmap, hnm, hrow⟩ ⟨pv, tv, p, u, d', rfl, hL, hI, hpm, hrd, rfl⟩ hk5 h4
      obtain ⟨u0, u1, u2, u3, rfl⟩ := hrd.agg
      obtain ⟨k', n', x', a', c', rfl, rfl, rfl, rfl⟩ := hrd.shape
      obtain ⟨rfl, hks⟩ := hrd.kindOf
      generalize hkl : (T.kids u).length = kl at hrd
      gi_wp2_with fail
      refine ⟨Ext.alloc _ _, fun W₂ hk2 r3 hr3 => ?_⟩
      have hzl : Z.heap.size ≠ l2 := by have := lt_of_block hr2; omega
      have hbx := hk2.block' (blk0 Z _) hzl
      have hkz : Kp (· ≠ l2) Z W₂ := ((Ext.alloc Z _).kp _).trans hk2
      have hb4Z := hk5.block' hb4 (fun e => by rcases e with e | e | e; omega; omega; cases e)
      have hb42 := hkz.block' hb4Z (show w1.heap.size + 1 + 1 ≠ l2 by omega)
      have hcb2 := hkz.block' hcb (show w1.heap.size ≠ l2 by omega)
      have hmap2 := ownsMap_keep hmap hkz (show w1.heap.size + 1 ≠ l2 by omega)
      have hrow2 := ownsRow_keep hrow hkz (fun b hb e => by
        obtain ⟨_, cur, hc⟩ := ownsRow_block hrow hb
        have e' : b = l2 := e
        subst e'
        rw [hr2] at hc
        cases hc)
      obtain ⟨av, cv, rfl⟩ := ownsRow_slice hrow2
      have hsz : Z.heap.size < W₂.heap.size := lt_of_block hbx
      have hvb : ∀ q, (Value.slice av (kindsOf ((T.all [] t).take i)).length cv).ownBlock = some q → w.heap.size ≤ q ∧ q < Z.heap.size ∧ q ≠ w1.heap.size ∧ q ≠ w1.heap.size + 1 ∧ q ≠ w1.heap.size + 1 + 1 := fun q hq => by
        obtain ⟨h1, cur, hc⟩ := ownsRow_block hrow hq
        refine ⟨h1, lt_of_block hc, fun e => ?_, fun e => ?_, fun e => ?_⟩
        · subst e; rw [hcb] at hc; injection hc with hc; injection hc with _ h2; revert h2; decide
        · subst e
          obtain ⟨es, cl, hm, _⟩ := hmap
          rw [hm] at hc
          cases hc
        · subst e; rw [hb4Z] at hc; injection hc with hc; injection hc with _ h2; revert h2; decide
      have HVB := hid hvb
      have hkey := WideMaps.keyOf_string_mk (P := Try.prog) (k := 9) Try.underlying9 (s := u.kind) (by unfold maxLen; omega)
      have hzero : ∀ w, (zeroValue 82).run Try.prog w = .ok (.agg #[]) w := fun w => by kernel_rfl
      have q0 := cell_of (i := 0) hbx rfl
      have q4 := cell_of (i := 0) hb42 rfl
      have q3 := cell_of (i := 0) hcb2 rfl
      have f3 := frozen_of (i := 0) hcb2
      simp only [List.getElem_toArray, List.getElem_cons_zero] at q0 q4 q3
      have HI := hid (show (T.all [] t).take (i + 1) = (T.all [] t).take i ++ [(p, u)] by
        have hl := (List.getElem?_eq_some_iff.1 hL).1
        rw [T.take_succ' _ i hl]
        congr 2
        exact (List.getElem?_eq_some_iff.1 hL).2)
      have HB := hid (And.intro hcb2 (And.intro hb42 hbx))
      have HNM := hid hnm
      have HROW := hid hrow2
      have HMAP := hid hmap2
      have hlen : (kindsOf ((T.all [] t).take i)).length ≤ 1024 := by
        have h1 := kindsOf_len ((T.all [] t).take i)
        have h2 := HS.out.1
        rw [List.length_take, T.all_length] at h1
        omega
      have wf : ∀ f, Fence.wide.fn f := fun _ => trivial
      have wd : Fence.wide.depth = none := rfl
      clear hbx hb42 hcb2 hk2 hr3 hI hrd hcb hmap hrow hvb hb4Z hL hkz
      by_cases hin : u.kind.data.toList ∈ kindsOf ((T.all [] t).take i)
      · have hhas : Maps.has D (.string u.kind.data.toList) = true := by rw [HNM.out.2]; exact decide_eq_true hin
        have HK := hid (show kindsOf ((T.all [] t).take (i + 1)) = kindsOf ((T.all [] t).take i) by rw [HI.out, kindsOf_snoc]; exact if_pos hin)
        clear hin
        gi_wp2_with (gi_at_lookup; refine wpListIn_lookup_own_unit _ rfl _ _ 81 rfl 9 82 (Maps.string_keyed Try.underlying9) Try.underlying81 (hzero _) (w1.heap.size + 1) i D rfl hmap2 _ _ rfl hkey ?_)
        refine ⟨(Ext.alloc W₂ _).kp _, _, ⟨_, D, rfl, blkOld _ HB.out.1, ((ownsMap_keep HMAP.out ((Ext.alloc W₂ _).kp (fun _ => True)) trivial)).mono (Nat.le_succ i), by rw [HK.out]; exact HNM.out, by rw [HK.out]; exact ownsRow_keep HROW.out ((Ext.alloc W₂ _).kp (fun _ => True)) (fun _ _ => trivial)⟩, fun q hq => .inl hq⟩
      · have hhas : Maps.has D (.string u.kind.data.toList) = false := by rw [HNM.out.2]; exact decide_eq_false hin
        have HK := hid (show kindsOf ((T.all [] t).take (i + 1)) = (kindsOf ((T.all [] t).take i)) ++ [u.kind.data.toList] by rw [HI.out, kindsOf_snoc]; exact if_neg hin)
        clear hin
        obtain ⟨i0, hi0, hz0, hz1, hz2⟩ := info_parts strInfo2
        have hmap3 := ownsMap_keep HMAP.out ((Ext.alloc W₂ (.cells #[] 82)).kp (fun _ => True)) trivial
        have y4 := cell_of (i := 0) (blkOld (.cells #[] 82) HB.out.2.1) rfl
        have y0 := cell_of (i := 0) (blkOld (.cells #[] 82) HB.out.2.2) rfl
        simp only [List.getElem_toArray, List.getElem_cons_zero] at y4 y0
        have hiM : i < maxLen := by have := HS.out.1; unfold maxLen; omega
        have HGR := hid (show ∀ w2 : World, (W₂.alloc (.cells #[] 82)).grownBy w2 (some (w1.heap.size + 1)) → Kp (· ≠ w1.heap.size + 1) W₂ w2 from fun w2 hg => ((Ext.alloc W₂ (.cells #[] 82)).kp _).trans ⟨hg.os, hg.tape, hg.output, hg.size, fun q hq hne => hg.block q hq (fun e => hne (by cases e; rfl))⟩)
        have HW2 := hid (show ∀ w2 : World, Kp (· ≠ w1.heap.size + 1) W₂ w2 → w2.heap[w1.heap.size]? = some (.cells #[.slice av (kindsOf ((T.all [] t).take i)).length cv] 49) ∧ w2.heap[Z.heap.size]? = some (.cells #[.string u.kind, .int .i64 n', .string x', .slice a' kl c'] 26) ∧ w2.ownsRow w.heap.size 9 1 (.slice av (kindsOf ((T.all [] t).take i)).length cv) (kindsOf ((T.all [] t).take i)).length (strs (kindsOf ((T.all [] t).take i))) from fun w2 hk => by
          have hz := hk5.size
          exact ⟨hk.block' HB.out.1 (show w1.heap.size ≠ _ by omega), hk.block' HB.out.2.2 (show Z.heap.size ≠ _ by omega), ownsRow_keep HROW.out hk (fun b hb => (HVB.out b hb).2.2.2.1)⟩)
        gi_wp2_with (first
          | (gi_at_lookup; refine wpListIn_lookup_own_unit _ rfl _ _ 81 rfl 9 82 (Maps.string_keyed Try.underlying9) Try.underlying81 (hzero _) (w1.heap.size + 1) i D rfl hmap2 _ _ rfl hkey ?_)
          | (gi_at_mapUpdate; refine wpListIn_mapUpdate_own _ rfl _ _ _ 81 rfl 9 82 (Maps.string_keyed Try.underlying9) Try.underlying81 unitElem (w1.heap.size + 1) i D rfl hmap3 hiM _ _ _ rfl rfl hkey (.agg []) [] unitElem_mk ?_; intro w2 hown2 hgrow2; obtain ⟨x3, x0, xr⟩ := HW2.out w2 (HGR.out w2 hgrow2); have xr2 := ownsRow_keep xr ((Ext.alloc w2 (.cells #[.string u.kind] 9)).kp (fun _ => True)) (fun _ _ => trivial); have z3 := cell_of (i := 0) x3 rfl; have z0 := cell_of (i := 0) x0 rfl; simp only [List.getElem_toArray, List.getElem_cons_zero] at z3 z0)
          | (gi_at_builtin; refine wpListIn_append_own_at _ rfl _ _ 49 rfl w.heap.size 9 i0 (.string ⟨#[]⟩) 1 16 Try.underlying49 hi0 hz0 hz1 hz2 rfl (by decide) _ _ _ rfl xr2 ⟨w2.heap.size, 0, none⟩ 1 1 [.string u.kind] rfl rfl (cell_one_new _ _ _) (by simp [Value.oneCell']) (by unfold maxLen; omega) (by omega) (by have h1 := (HGR.out w2 hgrow2).size; have h2 := hXV.size; have h3 := hk5.size; simp; omega) ?_; intro v' w3 hown3 hgrow3 _ hat3; obtain ⟨a9, c9, rfl⟩ := ownsRow_slice hown3; have hb33 : w3.heap[w1.heap.size]? = some (.cells #[.slice av (kindsOf ((T.all [] t).take i)).length cv] 49) := (hgrow3.block _ (lt_of_block (blkOld (.cells #[.string u.kind] 9) x3)) (fun e => (HVB.out _ e.symm).2.2.1 rfl)).trans (blkOld (.cells #[.string u.kind] 9) x3); have g3 := cell_of (i := 0) hb33 rfl; have g4 := frozen_of (i := 0) hb33; simp only [List.getElem_toArray, List.getElem_cons_zero] at g3))
        have K2 := HGR.out w2 hgrow2
        have K3 : Kp (fun q => some q ≠ (Value.slice av (kindsOf ((T.all [] t).take i)).length cv).ownBlock) w2 w3 := ((Ext.alloc w2 (.cells #[.string u.kind] 9)).kp _).trans ⟨hgrow3.os, hgrow3.tape, hgrow3.output, hgrow3.size, fun q hq hne => hgrow3.block q hq hne⟩
        have K4 := Kp.set (K := (· ≠ w1.heap.size)) w3 w1.heap.size 0 (.slice a9 ((kindsOf ((T.all [] t).take i)).length + 1) c9) (fun h => h rfl)
        have hsa : w2.heap.size ≤ (w2.alloc (.cells #[.string u.kind] 9)).heap.size := by simp
        have hz2 := K2.size
        have hz5 := hk5.size
        have hvn : ∀ q, (Value.slice a9 ((kindsOf ((T.all [] t).take i)).length + 1) c9).ownBlock = some q → (Value.slice av (kindsOf ((T.all [] t).take i)).length cv).ownBlock = some q ∨ W₂.heap.size ≤ q := fun q hq => by
          rcases hat3 with h | h
          · rw [h] at hq; exact .inl hq
          · rw [h] at hq; cases hq; exact .inr (by omega)
        have hvne : ∀ q, (Value.slice a9 ((kindsOf ((T.all [] t).take i)).length + 1) c9).ownBlock = some q → q ≠ w1.heap.size := fun q hq e => by
          rcases hvn q hq with h | h
          · exact (HVB.out q h).2.2.1 e
          · omega
        refine ⟨?_, fun q => q = w1.heap.size ∨ q = w1.heap.size + 1 ∨ (Value.slice a9 ((kindsOf ((T.all [] t).take i)).length + 1) c9).ownBlock = some q, ⟨.slice a9 ((kindsOf ((T.all [] t).take i)).length + 1) c9, _, rfl, set_one hb33, ownsMap_keep (ownsMap_keep hown2 K3 (fun e => (HVB.out _ e.symm).2.2.2.1 rfl)) K4 (by show w1.heap.size + 1 ≠ _; omega), ?_, ?_⟩, fun q hq => ?_⟩
        · refine (K2.mono (fun q _ hq e => hq (.inl (.inr (.inl e))))).trans ((K3.mono (fun q _ hq e => hq (.inl (.inr (.inr e.symm))))).trans (K4.mono (fun q _ hq e => hq (.inl (.inl e)))))
        · rw [HK.out]; exact HNM.out.put _ _
        · rw [HK.out]
          have h6 := ownsRow_keep hown3 K4 hvne
          have e1 : strs ((kindsOf ((T.all [] t).take i)) ++ [u.kind.data.toList]) = strs (kindsOf ((T.all [] t).take i)) ++ [.string u.kind] := by simp [strs]
          have e2 : ((kindsOf ((T.all [] t).take i)) ++ [u.kind.data.toList]).length = (kindsOf ((T.all [] t).take i)).length + 1 := by simp
          rw [e1, e2]
          exact h6
        · rcases hq with h | h | h
          · exact .inl (.inl h)
          · exact .inl (.inr (.inl h))
          · rcases hvn q h with h | h
            · exact .inl (.inr (.inr h))
            · exact .inr (.inr (by omega))
    case done =>
      rintro D Z M' hD ⟨v, D', rfl, hcb, hmap, hnm, hrow⟩ hd hmd hsub hk
      have htk : (T.all [] t).take t.size = T.all [] t := List.take_of_length_le (by rw [T.all_length]; exact Nat.le_refl _)
      rw [htk] at hrow
      obtain ⟨av, cv, rfl⟩ := ownsRow_slice hrow
      have c0 := cell_of (i := 0) hcb rfl
      simp only [List.getElem_toArray, List.getElem_cons_zero] at c0
      have hk6 := Kp.putObj Z D (.deferred none)
      have HF := hid (show (Z.putObj D (.deferred none)).ownsRow w.heap.size 9 1 (.slice av (kindsOf (T.all [] t)).length cv) (kindsOf (T.all [] t)).length (strs (kindsOf (T.all [] t))) from ownsRow_keep hrow hk6 (fun b hb e => hmd (by have e' : b = D := e; rw [← e']; exact .inr (.inr hb))))
      have HE := hid (show Ext w (Z.putObj D (.deferred none)) from
        Kp.extOf (Kp.ext ((hXV.kp _).trans (hk.mono (fun q _ hq => hq))) (fun q hq e => by rcases e with e | e | e; omega; omega; cases e)) hk6 (by have := hXV.size; omega))
      clear hcb hmap hrow hk6 htk
      gi_wp2_with fail
      refine ⟨by simp, .inl ⟨_, _, rfl, run_takeDeferred hd, ?_⟩⟩
      exact ⟨_, results_tmp rfl _ _ _, av, cv, _, rfl, rfl, HF.out, HE.out⟩
    case stop => rintro D Z c' M' hD h; exact h.elim
  · rw [decide_eq_false h1] at C1
    rw [if_neg h1]
    clear h1
    refine (callsIn_wide (n := 0)).1 ?_
    refine callsIn_of_wp_marks Try.func22 rfl trivial ?_ rfl
    show Code.wpIn _ _ _ _ _ _ _
    simp only [Try.ntmps22, List.size_toArray, List.length_cons, List.length_nil, Nat.reduceAdd, Nat.reduceSub, Array.replicate_succ, Array.replicate_zero, List.push_toArray, List.append_toArray, List.nil_append, List.cons_append]
    gi_wp2_with fail
    refine ⟨trivial, rfl, (callsIn_wide.2 (C1.out _ (Ext.alloc _ _))).mono ?_⟩
    rintro e w1 ⟨rfl, hx1⟩
    gi_wp2_with fail
    exact ⟨_, results_tmp rfl _ _ _, none, 0, [], rfl, rfl, World.ownsRow_nil _ _ _ _, (Ext.alloc _ _).trans hx1⟩
end Go.Proofs.Ythdmoghooaccgaa
