/-
  The statements' Book: lists of kids that were taken, each written full with its own mark, in blocks that are all unlike.
-/
import Derived.Test.YthdmoghooaccgaaLists
import Derived.Deep.RegionHeld3
import Derived.WalkMore
namespace Go.Proofs.Ythdmoghooaccgaa
open Go.RowKit
theorem T.length_le_sizeL : ∀ ks : List T, ks.length ≤ T.sizeL ks
  | [] => Nat.zero_le _
  | t :: r => by
    have h := T.length_le_sizeL r
    have h1 : 1 ≤ t.size := by cases t; simp [T.size]
    simp only [List.length_cons, T.sizeL]; omega
theorem T.size_le_sizeL : ∀ (ks : List T) (j : Nat) (h : j < ks.length), ks[j].size ≤ T.sizeL ks
  | [], _, h => absurd h (by simp)
  | t :: r, 0, _ => by simp only [List.getElem_cons_zero, T.sizeL]; omega
  | t :: r, j + 1, h => by
    have := T.size_le_sizeL r j (by simpa using h)
    simp only [List.getElem_cons_succ, T.sizeL]; omega
/-- No list of a tree is longer than the tree has nodes. -/
theorem Own.wide {w : World} : ∀ {d : Nat} {v : Value} {t : T} {bs : List Nat}, Own w d v t bs → ∀ q ∈ bs, ∀ cs, w.heap[q]? = some (.cells cs 26) → cs.size ≤ t.size * 4
  | 0, _, _, _, h => h.elim
  | d + 1, v, .node k n x ks, bs, ⟨a, h1, h2, h3, h4, h5⟩ => by
      rcases h5 with ⟨_, _, rfl⟩ | ⟨g, cs, bss, rfl, hp, hg, hs, rfl, hbl, hc⟩
      · intro b hb; cases hb
      · intro b hb cs' hcs'
        rcases List.mem_cons.1 hb with rfl | hb
        · rw [hg] at hcs'; injection hcs' with e; injection e with e; subst e
          have := T.length_le_sizeL ks
          simp only [T.size]; omega
        · obtain ⟨l, hl, hbl2⟩ := List.mem_flatten.1 hb
          obtain ⟨j, hj, rfl⟩ := List.getElem_of_mem hl
          obtain ⟨u0, u1, u2, u3, b', _, _, _, _, hb', ho⟩ := hc j (by omega)
          rw [List.getElem?_eq_getElem hj] at hb'
          cases hb'
          have h6 := Own.wide ho b hbl2 cs' hcs'
          have h7 := T.size_le_sizeL ks j (by omega)
          simp only [T.size]; omega
/-- A list that is written full with a mark. -/
def FullT (w : World) (base : Nat) (r : Nat × Nat) (m : Int) : Prop :=
  base ≤ r.1 ∧ 0 < r.2 ∧ r.2 ≤ 1000000 ∧ ∃ cs, w.heap[r.1]? = some (.cells cs 26) ∧ cs.size = r.2 * 4 ∧ ∀ k, k < r.2 → cs[k * 4]? = some (.string ⟨#[]⟩) ∧ cs[k * 4 + 1]? = some (.int .i64 m) ∧ cs[k * 4 + 2]? = some (.string ⟨#[]⟩) ∧ cs[k * 4 + 3]? = some (.slice none 0 0)
/-- The book, but for the trees that are kept. -/
structure TB (w : World) (b base : Nat) (lv nv kv : Value) (rs : List (Nat × Nat)) (sz : Int) : Prop where
  box : w.heap[b]? = some (.cells #[lv, nv, .int .i64 sz, kv] 63)
  rowL : w.ownsRow base 24 1 lv rs.length (rs.map lV)
  rowN : w.ownsRow base 3 1 nv rs.length (rs.map (fun r => Value.int .i64 (r.2 : Int)))
  full : ∀ i, (h : i < rs.length) → FullT w base rs[i] (-1 - (i : Int))
  nodup : (rs.map (·.1)).Nodup
  few : 1000 * rs.length ≤ 33554432
  fit : (1000 * rs.length : Int) ≤ sz
/-- The book's blocks. -/
def TBk (b : Nat) (lv nv : Value) (rs : List (Nat × Nat)) (q : Nat) : Prop := q = b ∨ lv.ownBlock = some q ∨ nv.ownBlock = some q ∨ q ∈ rs.map (·.1)
theorem FullT.keep {K : Nat → Prop} {w w' : World} {base : Nat} {r : Nat × Nat} {m : Int} (h : FullT w base r m) (hk : Kp K w w') (hr : K r.1) : FullT w' base r m := by
  obtain ⟨h1, h2, h3, cs, h5, h6⟩ := h
  exact ⟨h1, h2, h3, cs, hk.block' h5 hr, h6⟩
theorem TB.keep {K : Nat → Prop} {w w' : World} {b base : Nat} {lv nv kv : Value} {rs : List (Nat × Nat)} {sz : Int} (h : TB w b base lv nv kv rs sz) (hk : Kp K w w') (hK : ∀ q, TBk b lv nv rs q → K q) : TB w' b base lv nv kv rs sz where
  box := hk.block' h.box (hK b (.inl rfl))
  rowL := ownsRow_keep h.rowL hk (fun q hq => hK q (.inr (.inl hq)))
  rowN := ownsRow_keep h.rowN hk (fun q hq => hK q (.inr (.inr (.inl hq))))
  full := fun i hi => (h.full i hi).keep hk (hK _ (.inr (.inr (.inr (List.mem_map.2 ⟨_, List.getElem_mem hi, rfl⟩)))))
  nodup := h.nodup
  few := h.few
  fit := h.fit
theorem TB.lt {w : World} {b base : Nat} {lv nv kv : Value} {rs : List (Nat × Nat)} {sz : Int} (h : TB w b base lv nv kv rs sz) : ∀ q, TBk b lv nv rs q → q < w.heap.size := by
  intro q hq
  rcases hq with rfl | hq | hq | hq
  · exact lt_of_block h.box
  · obtain ⟨_, cur, hc⟩ := ownsRow_block h.rowL hq; exact lt_of_block hc
  · obtain ⟨_, cur, hc⟩ := ownsRow_block h.rowN hq; exact lt_of_block hc
  · obtain ⟨r, hr, rfl⟩ := List.mem_map.1 hq
    obtain ⟨i, hi, rfl⟩ := List.getElem_of_mem hr
    obtain ⟨_, _, _, cur, hc, _⟩ := h.full i hi
    exact lt_of_block hc
theorem TB.ne {w : World} {b base : Nat} {lv nv kv : Value} {rs : List (Nat × Nat)} {sz : Int} (h : TB w b base lv nv kv rs sz) : (∀ q, lv.ownBlock = some q → q ≠ b) ∧ (∀ q, nv.ownBlock = some q → q ≠ b) ∧ (∀ q ∈ rs.map (·.1), q ≠ b) ∧ (∀ q, lv.ownBlock = some q → nv.ownBlock ≠ some q) ∧ (∀ q ∈ rs.map (·.1), lv.ownBlock ≠ some q) ∧ (∀ q ∈ rs.map (·.1), nv.ownBlock ≠ some q) := by
  have ty : ∀ {q : Nat} {c c' : Array Value} {t t' : TypeId}, w.heap[q]? = some (.cells c t) → w.heap[q]? = some (.cells c' t') → t = t' := fun h1 h2 => by
    rw [h1] at h2; injection h2 with h2; injection h2
  have hb := h.box
  have full : ∀ q ∈ rs.map (·.1), ∃ cur, w.heap[q]? = some (.cells cur 26) := fun q hq => by
    obtain ⟨r, hr, rfl⟩ := List.mem_map.1 hq
    obtain ⟨i, hi, rfl⟩ := List.getElem_of_mem hr
    obtain ⟨_, _, _, cur, hc, _⟩ := h.full i hi
    exact ⟨cur, hc⟩
  refine ⟨fun q hq e => ?_, fun q hq e => ?_, fun q hq e => ?_, fun q hq e => ?_, fun q hq e => ?_, fun q hq e => ?_⟩
  · subst e; obtain ⟨_, cur, hc⟩ := ownsRow_block h.rowL hq; have := ty hb hc; revert this; decide
  · subst e; obtain ⟨_, cur, hc⟩ := ownsRow_block h.rowN hq; have := ty hb hc; revert this; decide
  · subst e; obtain ⟨cur, hc⟩ := full q hq; have := ty hb hc; revert this; decide
  · obtain ⟨_, cur, hc⟩ := ownsRow_block h.rowL hq
    obtain ⟨_, cur', hc'⟩ := ownsRow_block h.rowN e
    have := ty hc hc'; revert this; decide
  · obtain ⟨cur, hc⟩ := full q hq
    obtain ⟨_, cur', hc'⟩ := ownsRow_block h.rowL e
    have := ty hc hc'; revert this; decide
  · obtain ⟨cur, hc⟩ := full q hq
    obtain ⟨_, cur', hc'⟩ := ownsRow_block h.rowN e
    have := ty hc hc'; revert this; decide
/-- Trees of their own memory, in a list: theirs are the blocks bss. -/
def Trees (w : World) (d : Nat) (a : Option Addr) (ts : List T) (bss : List (List Nat)) : Prop :=
  bss.length = ts.length ∧ (ts = [] ∨ ∃ pb cs, a = some ⟨pb, 0, none⟩ ∧ w.heap[pb]? = some (.cells cs 26) ∧ pb ∉ bss.flatten ∧ ∀ j, (h : j < ts.length) → ∃ u0 u1 u2 u3 l, cs[j * 4]? = some u0 ∧ cs[j * 4 + 1]? = some u1 ∧ cs[j * 4 + 2]? = some u2 ∧ cs[j * 4 + 3]? = some u3 ∧ bss[j]? = some l ∧ Own w d (.agg #[u0, u1, u2, u3]) ts[j] l)
/-- What Take leaves: what is there besides is as it was. -/
def TakeT (w : World) (b base : Nat) (lv nv kv : Value) (rs : List (Nat × Nat)) (sz : Int) (ns : List Nat) (w' : World) : Prop :=
  ∃ lv' nv' rs' sz', TB w' b base lv' nv' kv rs' sz' ∧ sz ≤ sz' ∧ sz' ≤ sz + 1000000000000000 ∧ Kp (fun q => ¬ TBk b lv nv rs q ∧ q ∉ ns) w w' ∧ ∀ q, TBk b lv' nv' rs' q → TBk b lv nv rs q ∨ q ∈ ns ∨ w.heap.size ≤ q
end Go.Proofs.Ythdmoghooaccgaa
/-
  Take of the statements' Book, by a contract: the lists of some trees more in the book, written over.
-/
namespace Go.Proofs.Ythdmoghooaccgaa
open Go.RowKit
/-- What the first loop of Take holds: the lists of the trees so far. -/
def BtSt (w : World) (bss : List (List Nat)) (ts : List T) (j : Nat) (l : Value) (ns : List (Nat × Nat)) (wr : World) : Prop :=
  wr.ownsRow w.heap.size 24 1 l ns.length (ns.map lV) ∧ ns.map (·.1) = (bss.take j).flatten ∧ LsOk w ns ∧ (∀ r ∈ ns, r.2 ≤ 1000000) ∧ ns.length ≤ T.sizeL (ts.take j) ∧ Ext w wr
/-- What the second one holds. -/
def BkSt (W1 : World) (b base : Nat) (lv nv kv : Value) (rs : List (Nat × Nat)) (sz : Int) (ns : List (Nat × Nat)) (j : Nat) (lv' nv' : Value) (rs' : List (Nat × Nat)) (sz' : Int) (wr : World) : Prop :=
  TB wr b base lv' nv' kv rs' sz' ∧ sz ≤ sz' ∧ sz' ≤ sz + 100001000 * j ∧ Kp (fun q => ¬ TBk b lv nv rs q ∧ q ∉ (ns.take j).map (·.1)) W1 wr ∧ ∀ q, TBk b lv' nv' rs' q → TBk b lv nv rs q ∨ q ∈ (ns.take j).map (·.1) ∨ W1.heap.size ≤ q
theorem rowL_at {w : World} {base : Nat} {a : Option Addr} {c : Nat} {ns : List (Nat × Nat)} (h : w.ownsRow base 24 1 (.slice a ns.length c) ns.length (ns.map lV)) {j : Nat} (hj : j < ns.length) : ∃ g, a = some ⟨g, 0, none⟩ ∧ base ≤ g ∧ w.cell? ⟨g, j, none⟩ = some (lV ns[j]) ∧ ∃ cur, w.heap[g]? = some (.cells cur 24) := by
  rcases h.2 with ⟨_, h0⟩ | ⟨g, cap, cur, e0, hb, hc, h1, h2, h3, h4⟩
  · omega
  · cases e0
    refine ⟨g, rfl, hb, ?_, cur, hc⟩
    have e : (cur.toList.take (ns.length * 1))[j]? = some (lV ns[j]) := by rw [h4]; simp [hj]
    rw [List.getElem?_take_of_lt (by omega)] at e
    exact cell_of hc (by simpa using e)
set_option maxRecDepth 100000 in
set_option maxHeartbeats 4000000 in
theorem btake_any (w : World) (b base : Nat) (lv nv kv : Value) (rs : List (Nat × Nat)) (sz : Int) (d : Nat) (a : Option Addr) (c : Nat) (ts : List T) (bss : List (List Nat)) (h : TB w b base lv nv kv rs sz) (hbs : base ≤ w.heap.size) (ht : Trees w d a ts bss) (hnd : bss.flatten.Nodup) (hba : ∀ q ∈ bss.flatten, base ≤ q ∧ ¬ TBk b lv nv rs q) (hts : T.sizeL ts ≤ 1000000) (hsz : 0 ≤ sz) (hsz' : sz ≤ 8000000000000000000) :
    Calls Try.prog 29 #[.pointer (some ⟨b, 0, none⟩), .slice a ts.length c] w fun e w' => (∃ v, e = .returned v) ∧ TakeT w b base lv nv kv rs sz bss.flatten w' := by
  have H := hid h
  have HT := hid ht
  have HND := hid hnd
  have HBA := hid hba
  have HTS := hid hts
  have htl : (ts.length : Int) ≤ 1000000 := by have := T.length_le_sizeL ts; omega
  clear h ht hnd hba hts
  go_enter Try.func29, Try.ntmps29
  go_wp2_with fail
  go_loopw [4, 5] (fun l i wr => ∃ (j : Nat) (ns : List (Nat × Nat)), j ≤ ts.length ∧ i = .int .i64 j ∧ BtSt w bss ts j l ns wr) (fun _ i _ => ts.length - (intOf i).toNat)
  case atStart => exact ⟨0, [], Nat.zero_le _, rfl, World.ownsRow_nil _ _ _ _, by simp, fun r hr => absurd hr (by simp), fun r hr => absurd hr (by simp), by simp, Ext.refl _⟩
  case round =>
    obtain ⟨j, ns, hj, rfl, hst⟩ := hrel
    have HSJ := hid hst
    obtain ⟨la, lc, rfl⟩ := ownsRow_slice hst.1
    clear hst
    by_cases hlt : j < ts.length
    · have hlt' : (j : Int) < ts.length := by omega
      obtain ⟨hbl, h0 | ⟨pb, cs, rfl, hpb, hpn, hc⟩⟩ := HT.out
      · rw [h0] at hlt; exact absurd hlt (by simp)
      obtain ⟨u0, u1, u2, u3, bs, e0, e1, e2, e3, hbj, hown⟩ := hc j hlt
      have hpw := HSJ.out.2.2.2.2.2.block hpb
      have m0 := cell_of hpw e0
      have m1 := cell_of hpw e1
      have m2 := cell_of hpw e2
      have m3 := cell_of hpw e3
      have hpl := lt_of_block hpb
      have HLT := hid (show ∀ q, (Value.slice la ns.length lc).ownBlock = some q → w.heap.size ≤ q from fun q hq => (ownsRow_block HSJ.out.1 hq).1)
      have HOW := hid hown
      have HBJ := hid hbj
      have HCH := hid (lists_any d _ ts[j] bs wr w.heap.size _ ns (hown.keep (HSJ.out.2.2.2.2.2.kp _)) HSJ.out.1 (fun q hq hqb => by have h1 := HLT.out q hq; have h2 := hown.lt q hqb; omega) HSJ.out.2.2.2.2.2.size (by
        have h1 := HSJ.out.2.2.2.2.1
        have h2 := T.sizeL_take ts j hlt
        have h3 := T.sizeL_split ts (j + 1)
        have := HTS.out
        omega))
      clear hown hbj hc hpb hpn e0 e1 e2 e3 hpw
      go_wp2_with fail
      refine HCH.out.mono ?_
      rintro e w2 ⟨v', rs', rfl, hrow2, hm2, hok2, hl2, hkp2, hown2⟩
      have HR2 := hid (And.intro hrow2 (And.intro hm2 (And.intro hok2 (And.intro hl2 (And.intro hkp2 hown2)))))
      obtain ⟨a3, c3, rfl⟩ := ownsRow_slice hrow2
      generalize hL2 : (ns ++ rs').length = L2 at HR2 ⊢
      have HL2 := hid hL2
      clear hL2 hrow2 hm2 hok2 hl2 hkp2 hown2 HCH m0 m1 m2 m3
      go_wp2_with fail
      go_roundw
      case rel =>
        obtain ⟨hrow2, hm2, hok2, hl2, hkp2, hown2⟩ := HR2.out
        have hx := HSJ.out.2.2.2.2.2
        refine ⟨j + 1, ns ++ rs', hlt, by go_num, ?_, ?_, fun r hr => ?_, fun r hr => ?_, ?_, ?_⟩
        · rw [HL2.out]; exact hrow2
        · rw [List.map_append, HSJ.out.2.1, hm2, List.take_add_one, HBJ.out]; simp
        · rcases List.mem_append.1 hr with hr | hr
          · exact HSJ.out.2.2.1 r hr
          · obtain ⟨h1, cs', h2, h3⟩ := hok2 r hr
            have hrb : r.1 ∈ bs := by rw [← hm2]; exact List.mem_map.2 ⟨r, hr, rfl⟩
            exact ⟨h1, cs', by rw [← h2]; exact ((hx.kp (fun _ => True)).block r.1 (HOW.out.lt _ hrb) trivial).symm, h3⟩
        · rcases List.mem_append.1 hr with hr | hr
          · exact HSJ.out.2.2.2.1 r hr
          · obtain ⟨h1, cs', h2, h3⟩ := hok2 r hr
            have hrb : r.1 ∈ bs := by rw [← hm2]; exact List.mem_map.2 ⟨r, hr, rfl⟩
            have h4 := (HOW.out.keep (hx.kp _)).wide r.1 hrb cs' h2
            have h5 := T.size_le_sizeL ts j hlt
            have := HTS.out
            omega
        · have h1 := HSJ.out.2.2.2.2.1
          have h2 := T.sizeL_take ts j hlt
          rw [List.length_append]
          omega
        · exact Kp.ext (K := fun q => q < w.heap.size) ((hx.kp (fun q => q < w.heap.size)).chain hkp2 (fun q hq _ e => by have := HLT.out q e.symm; omega)) (fun k hk => hk)
      case measure => simp [intOf]; omega
    · have hje : j = ts.length := by omega
      subst hje
      have hbe : (bss.take ts.length).flatten = bss.flatten := by rw [← HT.out.1, List.take_length]
      have HM := hid (HSJ.out.2.1.trans hbe)
      have HOK := hid HSJ.out.2.2.1
      have HLE := hid HSJ.out.2.2.2.1
      have hnl : (ns.length : Int) ≤ 1000000 := by
        have h1 := HSJ.out.2.2.2.2.1
        rw [List.take_length] at h1
        have := HTS.out
        omega
      have HX := hid HSJ.out.2.2.2.2.2
      have HROW := hid HSJ.out.1
      have HN := hid (show ∀ r ∈ ns, r.1 < w.heap.size ∧ base ≤ r.1 ∧ ¬ TBk b lv nv rs r.1 from fun r hr => by
        have hm : r.1 ∈ bss.flatten := by rw [← HM.out]; exact List.mem_map.2 ⟨r, hr, rfl⟩
        obtain ⟨_, cs, hcs, _⟩ := HOK.out r hr
        exact ⟨lt_of_block hcs, (HBA.out _ hm).1, (HBA.out _ hm).2⟩)
      have HNS := hid (show (ns.map (·.1)).Nodup by rw [HM.out]; exact HND.out)
      obtain ⟨W1, hW1⟩ : ∃ W1, W1 = wr := ⟨wr, rfl⟩
      rw [← hW1] at HX HROW
      clear HSJ hbe HT
      go_wp2_with fail
      go_loopw [6] (fun i wq => ∃ (j : Nat) (lv' nv' : Value) (rs' : List (Nat × Nat)) (sz' : Int), j ≤ ns.length ∧ i = .int .i64 j ∧ BkSt W1 b base lv nv kv rs sz ns j lv' nv' rs' sz' wq) (fun i _ => ns.length - (intOf i).toNat)
      case atStart =>
        subst hW1
        exact ⟨0, lv, nv, rs, sz, Nat.zero_le _, rfl, H.out.keep (HX.out.kp (fun _ => True)) (fun _ _ => trivial), Int.le_refl _, by omega, Kp.refl _ _, fun q hq => .inl hq⟩
      case round =>
        clear hW1
        obtain ⟨j, lv2, nv2, rs2, sz2, hj, rfl, hst⟩ := hrel
        have HSJ := hid hst
        clear hst
        by_cases hlt : j < ns.length
        · have hlt' : (j : Int) < ns.length := by omega
          obtain ⟨L, rfl, hLb, hLc, lcur, hLh⟩ := rowL_at HROW.out hlt
          obtain ⟨⟨g, len⟩, hgl⟩ : ∃ r, ns[j] = r := ⟨_, rfl⟩
          have hgm : (g, len) ∈ ns := hgl ▸ List.getElem_mem hlt
          rw [hgl] at hLc
          obtain ⟨hg1, hg2, hg3⟩ := HN.out _ hgm
          have hle := HLE.out _ hgm
          obtain ⟨hlp, cs0, hcs0, hcz⟩ := HOK.out _ hgm
          simp only at hg1 hg2 hg3 hle hlp hcs0 hcz
          obtain ⟨hTB, hsa, hsb, hkp, hbk⟩ := HSJ.out
          have HBK := hid hbk
          have hgt : g ∉ (ns.take j).map (·.1) := fun hm => by
            have h1 := HNS.out
            rw [← List.take_append_drop j ns, List.map_append, List.nodup_append] at h1
            refine h1.2.2 g hm g (List.mem_map.2 ⟨(g, len), ?_, rfl⟩) rfl
            rw [List.drop_eq_getElem_cons hlt, hgl]
            exact List.mem_cons_self
          have hW1s := HX.out.size
          have hGN : ¬ TBk b lv2 nv2 rs2 g := fun e => by
            rcases hbk g e with h | h | h
            · exact hg3 h
            · exact hgt h
            · omega
          have hLold : ¬ TBk b lv nv rs L := fun e => by have := H.out.lt L e; omega
          have hLnt : L ∉ (ns.take j).map (·.1) := fun hm => by
            obtain ⟨r, hr, e⟩ := List.mem_map.1 hm
            have := (HN.out r (List.mem_of_mem_take hr)).1
            omega
          have hLl := lt_of_block hLh
          have hPN : ¬ TBk b lv2 nv2 rs2 L := fun e => by
            rcases hbk L e with h | h | h
            · exact hLold h
            · exact hLnt h
            · omega
          have p0 := hkp.cell hLc ⟨hLold, hLnt⟩
          have HLH := hid (hkp.block' hLh ⟨hLold, hLnt⟩)
          have HKP := hid hkp
          have HGN := hid hGN
          have HPN := hid hPN
          have HTB := hid hTB
          have hszr : wr.heap.size ≥ W1.heap.size := hkp.size
          have HG := hid (hkp.block' ((HX.out.block hcs0)) ⟨hg3, hgt⟩)
          obtain ⟨lb, lc2, rfl⟩ := ownsRow_slice hTB.rowL
          obtain ⟨nb, nc, rfl⟩ := ownsRow_slice hTB.rowN
          obtain ⟨b0, b1, b2, b3⟩ := four_of hTB.box
          have hrl : (rs2.length : Int) ≤ 33554 := by have := hTB.few; omega
          have hsj : (100001000 : Int) * j ≤ 100001000 * 1000000 := by omega
          have hrm : roomI len len = len := by unfold roomI; rw [if_neg (by omega)]
          have CR := hid (fun W => room_any len len W (by omega) (by omega))
          rw [hrm] at CR
          have f2 := frozen_of (i := 2) hTB.box
          have hpbb : L ≠ b := fun e => HPN.out (.inl e)
          have hw0 : IntKind.i64.wrap (10 + (len : Int)) = 10 + len := by rw [IntKind.wrap_i64]; omega
          have hw1 : IntKind.i64.wrap (100 * (10 + (len : Int))) = 100 * (10 + len) := by rw [IntKind.wrap_i64]; omega
          have hw2 : IntKind.i64.wrap (sz2 + 100 * (10 + (len : Int))) = sz2 + 100 * (10 + len) := by rw [IntKind.wrap_i64]; omega
          have SETS := hid (show Kp (· ≠ b) wr (wr.setCell ⟨b, 2, none⟩ (.int .i64 (sz2 + 100 * (10 + len)))).drew ∧ (wr.setCell ⟨b, 2, none⟩ (.int .i64 (sz2 + 100 * (10 + len)))).drew.heap[b]? = some (.cells #[.slice lb rs2.length lc2, .slice nb rs2.length nc, .int .i64 (sz2 + 100 * (10 + len)), kv] 63) from ⟨(Kp.set _ _ _ _ (fun h => h rfl)).drew, set_at hTB.box 2 _⟩)
          have PKS := hid (show (wr.setCell ⟨b, 2, none⟩ (.int .i64 (sz2 + 100 * (10 + len)))).drew.cell? ⟨L, j, none⟩ = some (.slice (some ⟨g, 0, none⟩) len len) from SETS.out.1.cell p0 hpbb)
          clear hTB hbk hkp hLc hLh hGN hPN hgm hgt hLnt hLold hcs0 hrm
          go_wp2_with fail
          go_cut [] from 20 to 100 (fun wx => Kp (· ≠ b) wr wx ∧ wx.heap[b]? = some (.cells #[.slice lb rs2.length lc2, .slice nb rs2.length nc, .int .i64 (sz2 + 100 * (10 + len)), kv] 63))
          case first =>
            have hset := SETS.out
            have hpk := PKS.out
            refine wp_region_held_drew (S := fun W' => W'.cell? ⟨L, j, none⟩ = some (.slice (some ⟨g, 0, none⟩) len len)) (by kernel_rfl) (p0) (fun hHeld => ?_)
            refine wpAnyH_take (i := 0) (v := ?vax1) rfl (by kernel_rfl) (by kernel_rfl) (by kernel_rfl) (fun _ _ _ h => h) (Or.inl ⟨by kernel_rfl, ?hax1⟩) (by assumption) ?rax1
            case hax1 => (intro w hSw; (try dsimp only at hSw); go_simp; try with_reducible rfl)
            try simp only [Act.put, List.getElem_toArray, List.getElem_cons_zero, List.setIfInBounds_toArray, List.set_cons_zero, List.set_cons_succ]
            refine wpAnyH_take (i := 1) (v := ?vax2) rfl (by kernel_rfl) (by kernel_rfl) (by kernel_rfl) (fun _ _ _ h => h) (Or.inl ⟨by kernel_rfl, ?hax2⟩) (by assumption) ?rax2
            case hax2 => (intro w hSw; (try dsimp only at hSw); go_simp; try with_reducible rfl)
            try simp only [Act.put, List.getElem_toArray, List.getElem_cons_zero, List.getElem_cons_succ, List.setIfInBounds_toArray, List.set_cons_zero, List.set_cons_succ]
            refine wpAnyH_take (i := 2) (v := ?vax3) rfl (by kernel_rfl) (by kernel_rfl) (by kernel_rfl) (fun _ _ _ h => h) (Or.inl ⟨by kernel_rfl, ?hax3⟩) (by assumption) ?rax3
            case hax3 => (intro w hSw; (try dsimp only at hSw); go_simp; try with_reducible rfl)
            try simp only [Act.put, List.getElem_toArray, List.getElem_cons_zero, List.getElem_cons_succ, List.setIfInBounds_toArray, List.set_cons_zero, List.set_cons_succ]
            refine wpAnyH_take (i := 3) (v := ?vax4) rfl (by kernel_rfl) (by kernel_rfl) (by kernel_rfl) (fun _ _ _ h => h) (Or.inl ⟨by kernel_rfl, ?hax4⟩) (by assumption) ?rax4
            case hax4 => (intro w hSw; (try dsimp only at hSw); go_simp; try with_reducible rfl)
            try simp only [Act.put, List.getElem_toArray, List.getElem_cons_zero, List.getElem_cons_succ, List.setIfInBounds_toArray, List.set_cons_zero, List.set_cons_succ]
            refine wpAnyH_take (i := 5) (v := ?vax5) rfl (by kernel_rfl) (by kernel_rfl) (by kernel_rfl) (fun _ _ _ h => h) (Or.inl ⟨by kernel_rfl, ?hax5⟩) (by assumption) ?rax5
            case hax5 => (intro w hSw; (try dsimp only at hSw); go_simp; try with_reducible rfl)
            try simp only [Act.put, List.getElem_toArray, List.getElem_cons_zero, List.getElem_cons_succ, List.setIfInBounds_toArray, List.set_cons_zero, List.set_cons_succ]
            refine wpAnyH_take (i := 6) (v := ?vax6) rfl (by kernel_rfl) (by kernel_rfl) (by kernel_rfl) (fun _ _ _ h => h) (Or.inl ⟨by kernel_rfl, ?hax6⟩) (by assumption) ?rax6
            case hax6 => (intro w hSw; (try dsimp only at hSw); go_simp; try with_reducible rfl)
            try simp only [Act.put, List.getElem_toArray, List.getElem_cons_zero, List.getElem_cons_succ, List.setIfInBounds_toArray, List.set_cons_zero, List.set_cons_succ]
            refine wpAnyH_take (i := 7) (v := ?vax7) rfl (by kernel_rfl) (by kernel_rfl) (by kernel_rfl) (fun _ _ _ h => h) (Or.inl ⟨by kernel_rfl, ?hax7⟩) (by assumption) ?rax7
            case hax7 => (intro w hSw; (try dsimp only at hSw); go_simp; try with_reducible rfl)
            try simp only [Act.put, List.getElem_toArray, List.getElem_cons_zero, List.getElem_cons_succ, List.setIfInBounds_toArray, List.set_cons_zero, List.set_cons_succ]
            refine wpAnyH_take (i := 8) (v := ?vax8) rfl (by kernel_rfl) (by kernel_rfl) (by kernel_rfl) (fun _ _ _ h => h) (Or.inl ⟨by kernel_rfl, ?hax8⟩) (by assumption) ?rax8
            case hax8 => (intro w hSw; (try dsimp only at hSw); go_simp; try with_reducible rfl)
            try simp only [Act.put, List.getElem_toArray, List.getElem_cons_zero, List.getElem_cons_succ, List.setIfInBounds_toArray, List.set_cons_zero, List.set_cons_succ]
            refine wpAnyH_take (i := 9) (v := ?vax9) rfl (by kernel_rfl) (by kernel_rfl) (by kernel_rfl) (fun _ _ _ h => h) (Or.inl ⟨by kernel_rfl, ?hax9⟩) (by assumption) ?rax9
            case hax9 => (intro w hSw; (try dsimp only at hSw); go_simp; try with_reducible rfl)
            try simp only [Act.put, List.getElem_toArray, List.getElem_cons_zero, List.getElem_cons_succ, List.setIfInBounds_toArray, List.set_cons_zero, List.set_cons_succ]
            refine wpAnyH_take (i := 10) (v := ?vax10) rfl (by kernel_rfl) (by kernel_rfl) (by kernel_rfl) (fun _ _ _ h => h) (Or.inl ⟨by kernel_rfl, ?hax10⟩) (by assumption) ?rax10
            case hax10 => (intro w hSw; (try dsimp only at hSw); go_simp; try with_reducible rfl)
            try simp only [Act.put, List.getElem_toArray, List.getElem_cons_zero, List.getElem_cons_succ, List.setIfInBounds_toArray, List.set_cons_zero, List.set_cons_succ]
            refine wpAnyH_take (i := 11) (v := ?vax11) rfl (by kernel_rfl) (by kernel_rfl) (by kernel_rfl) (fun _ _ _ h => h) (Or.inl ⟨by kernel_rfl, ?hax11⟩) (by assumption) ?rax11
            case hax11 => (intro w hSw; (try dsimp only at hSw); go_simp; try with_reducible rfl)
            try simp only [Act.put, List.getElem_toArray, List.getElem_cons_zero, List.getElem_cons_succ, List.setIfInBounds_toArray, List.set_cons_zero, List.set_cons_succ]
            refine wpAnyH_take (i := 12) (v := ?vax12) rfl (by kernel_rfl) (by kernel_rfl) (by kernel_rfl) (fun _ _ _ h => h) (Or.inl ⟨by kernel_rfl, ?hax12⟩) (by assumption) ?rax12
            case hax12 => (intro w hSw; (try dsimp only at hSw); go_simp; try with_reducible rfl)
            try simp only [Act.put, List.getElem_toArray, List.getElem_cons_zero, List.getElem_cons_succ, List.setIfInBounds_toArray, List.set_cons_zero, List.set_cons_succ]
            refine wpAnyH_take (i := 13) (v := ?vax13) rfl (by kernel_rfl) (by kernel_rfl) (by kernel_rfl) (fun _ _ _ h => h) (Or.inl ⟨by kernel_rfl, ?hax13⟩) (by assumption) ?rax13
            case hax13 => (intro w hSw; (try dsimp only at hSw); go_simp; try with_reducible rfl)
            try simp only [Act.put, List.getElem_toArray, List.getElem_cons_zero, List.getElem_cons_succ, List.setIfInBounds_toArray, List.set_cons_zero, List.set_cons_succ]
            refine wpAnyH_take (i := 14) (v := ?vax14) rfl (by kernel_rfl) (by kernel_rfl) (by kernel_rfl) (fun _ _ _ h => h) (Or.inl ⟨by kernel_rfl, ?hax14⟩) (by assumption) ?rax14
            case hax14 => (intro w hSw; (try dsimp only at hSw); go_simp; try with_reducible rfl)
            try simp only [Act.put, List.getElem_toArray, List.getElem_cons_zero, List.getElem_cons_succ, List.setIfInBounds_toArray, List.set_cons_zero, List.set_cons_succ]
            refine wpAnyH_ready (rs := [4, 15]) (by kernel_rfl) (by simp) ?_
            refine AllReadyH.cons rfl (fun K hK => ?_) (AllReadyH.cons rfl (fun K hK => ?_) AllReadyH.nil)
            · go_simp
              refine hK.out _ _ (p0) (fun hHeld => ?_)
              clear hK K
              try simp only [Act.put, List.getElem_toArray, List.getElem_cons_zero, List.getElem_cons_succ, List.setIfInBounds_toArray, List.set_cons_zero, List.set_cons_succ]
              refine wpAnyH_ready (rs := [15]) (by kernel_rfl) (by simp) ?_
              refine AllReadyH.cons rfl (fun K hK => ?_) AllReadyH.nil
              go_simp
              refine (CR.out _).mono ?_
              rintro e w1 ⟨rfl, rfl⟩
              show K _ _
              refine hK.out _ _ (p0) (fun hHeld => ?_)
              clear hK K
              try simp only [Act.put, List.getElem_toArray, List.getElem_cons_zero, List.getElem_cons_succ, List.setIfInBounds_toArray, List.set_cons_zero, List.set_cons_succ]
              refine wpAnyH_take (i := 16) (v := .int .i64 (10 + len)) rfl (by kernel_rfl) (by kernel_rfl) (by kernel_rfl) (fun _ _ _ h => h) (Or.inl ⟨by kernel_rfl, ?hbx1⟩) (by assumption) ?rbx1
              case hbx1 => (intro w hSw; (try dsimp only at hSw); go_simp; try with_reducible rfl)
              try simp only [Act.put, List.getElem_toArray, List.getElem_cons_zero, List.getElem_cons_succ, List.setIfInBounds_toArray, List.set_cons_zero, List.set_cons_succ]
              refine wpAnyH_take (i := 17) (v := .int .i64 (100 * (10 + len))) rfl (by kernel_rfl) (by kernel_rfl) (by kernel_rfl) (fun _ _ _ h => h) (Or.inl ⟨by kernel_rfl, ?hbx2⟩) (by assumption) ?rbx2
              case hbx2 => (intro w hSw; (try dsimp only at hSw); go_simp; try with_reducible rfl)
              try simp only [Act.put, List.getElem_toArray, List.getElem_cons_zero, List.getElem_cons_succ, List.setIfInBounds_toArray, List.set_cons_zero, List.set_cons_succ]
              refine wpAnyH_take (i := 18) (v := .int .i64 (sz2 + 100 * (10 + len))) rfl (by kernel_rfl) (by kernel_rfl) (by kernel_rfl) (fun _ _ _ h => h) (Or.inl ⟨by kernel_rfl, ?hbx3⟩) (by assumption) ?rbx3
              case hbx3 => (intro w hSw; (try dsimp only at hSw); go_simp; try with_reducible rfl)
              try simp only [Act.put, List.getElem_toArray, List.getElem_cons_zero, List.getElem_cons_succ, List.setIfInBounds_toArray, List.set_cons_zero, List.set_cons_succ]
              refine wpAnyH_take (i := 19) (v := ?vbx4) rfl (by kernel_rfl) (by kernel_rfl) (by kernel_rfl) (fun _ _ _ h => h) (Or.inl ⟨by kernel_rfl, ?hbx4⟩) (by assumption) ?rbx4
              case hbx4 => (intro w hSw; (try dsimp only at hSw); go_simp; try with_reducible rfl)
              try simp only [Act.put, List.getElem_toArray, List.getElem_cons_zero, List.getElem_cons_succ, List.setIfInBounds_toArray, List.set_cons_zero, List.set_cons_succ]
              refine wpAnyH_take (i := 20) (v := ?vbx5) rfl (by kernel_rfl) (by kernel_rfl) (by kernel_rfl) (fun _ _ _ h => h) (Or.inl ⟨by kernel_rfl, ?hbx5⟩) (by assumption) ?rbx5
              case hbx5 => (intro w hSw; (try dsimp only at hSw); go_simp; try with_reducible rfl)
              try simp only [Act.put, List.getElem_toArray, List.getElem_cons_zero, List.getElem_cons_succ, List.setIfInBounds_toArray, List.set_cons_zero, List.set_cons_succ]
              refine wpAnyH_ready (rs := [21]) (by kernel_rfl) (by simp) ?_
              refine AllReadyH.cons rfl (fun K hK => ?_) AllReadyH.nil
              go_simp
              refine hK.out _ _ (hpk) (fun hHeld => ?_)
              clear hK K
              try simp only [Act.put, List.getElem_toArray, List.getElem_cons_zero, List.getElem_cons_succ, List.setIfInBounds_toArray, List.set_cons_zero, List.set_cons_succ]
              refine wpAnyH_done (by kernel_rfl) ?_ _
              go_wp2_with fail
              go_meet
              case rel => exact hset
            · go_simp
              refine (CR.out _).mono ?_
              rintro e w1 ⟨rfl, rfl⟩
              show K _ _
              refine hK.out _ _ (p0) (fun hHeld => ?_)
              clear hK K
              try simp only [Act.put, List.getElem_toArray, List.getElem_cons_zero, List.getElem_cons_succ, List.setIfInBounds_toArray, List.set_cons_zero, List.set_cons_succ]
              refine wpAnyH_take (i := 16) (v := .int .i64 (10 + len)) rfl (by kernel_rfl) (by kernel_rfl) (by kernel_rfl) (fun _ _ _ h => h) (Or.inl ⟨by kernel_rfl, ?hcx1⟩) (by assumption) ?rcx1
              case hcx1 => (intro w hSw; (try dsimp only at hSw); go_simp; try with_reducible rfl)
              try simp only [Act.put, List.getElem_toArray, List.getElem_cons_zero, List.getElem_cons_succ, List.setIfInBounds_toArray, List.set_cons_zero, List.set_cons_succ]
              refine wpAnyH_take (i := 17) (v := .int .i64 (100 * (10 + len))) rfl (by kernel_rfl) (by kernel_rfl) (by kernel_rfl) (fun _ _ _ h => h) (Or.inl ⟨by kernel_rfl, ?hcx2⟩) (by assumption) ?rcx2
              case hcx2 => (intro w hSw; (try dsimp only at hSw); go_simp; try with_reducible rfl)
              try simp only [Act.put, List.getElem_toArray, List.getElem_cons_zero, List.getElem_cons_succ, List.setIfInBounds_toArray, List.set_cons_zero, List.set_cons_succ]
              refine wpAnyH_ready (rs := [4]) (by kernel_rfl) (by simp) ?_
              refine AllReadyH.cons rfl (fun K hK => ?_) AllReadyH.nil
              go_simp
              refine hK.out _ _ (p0) (fun hHeld => ?_)
              clear hK K
              try simp only [Act.put, List.getElem_toArray, List.getElem_cons_zero, List.getElem_cons_succ, List.setIfInBounds_toArray, List.set_cons_zero, List.set_cons_succ]
              refine wpAnyH_take (i := 18) (v := .int .i64 (sz2 + 100 * (10 + len))) rfl (by kernel_rfl) (by kernel_rfl) (by kernel_rfl) (fun _ _ _ h => h) (Or.inl ⟨by kernel_rfl, ?hcx3⟩) (by assumption) ?rcx3
              case hcx3 => (intro w hSw; (try dsimp only at hSw); go_simp; try with_reducible rfl)
              try simp only [Act.put, List.getElem_toArray, List.getElem_cons_zero, List.getElem_cons_succ, List.setIfInBounds_toArray, List.set_cons_zero, List.set_cons_succ]
              refine wpAnyH_take (i := 19) (v := ?vcx4) rfl (by kernel_rfl) (by kernel_rfl) (by kernel_rfl) (fun _ _ _ h => h) (Or.inl ⟨by kernel_rfl, ?hcx4⟩) (by assumption) ?rcx4
              case hcx4 => (intro w hSw; (try dsimp only at hSw); go_simp; try with_reducible rfl)
              try simp only [Act.put, List.getElem_toArray, List.getElem_cons_zero, List.getElem_cons_succ, List.setIfInBounds_toArray, List.set_cons_zero, List.set_cons_succ]
              refine wpAnyH_take (i := 20) (v := ?vcx5) rfl (by kernel_rfl) (by kernel_rfl) (by kernel_rfl) (fun _ _ _ h => h) (Or.inl ⟨by kernel_rfl, ?hcx5⟩) (by assumption) ?rcx5
              case hcx5 => (intro w hSw; (try dsimp only at hSw); go_simp; try with_reducible rfl)
              try simp only [Act.put, List.getElem_toArray, List.getElem_cons_zero, List.getElem_cons_succ, List.setIfInBounds_toArray, List.set_cons_zero, List.set_cons_succ]
              refine wpAnyH_ready (rs := [21]) (by kernel_rfl) (by simp) ?_
              refine AllReadyH.cons rfl (fun K hK => ?_) AllReadyH.nil
              go_simp
              refine hK.out _ _ (hpk) (fun hHeld => ?_)
              clear hK K
              try simp only [Act.put, List.getElem_toArray, List.getElem_cons_zero, List.getElem_cons_succ, List.setIfInBounds_toArray, List.set_cons_zero, List.set_cons_succ]
              refine wpAnyH_done (by kernel_rfl) ?_ _
              go_wp2_with fail
              go_meet
              case rel => exact hset
          case rest =>
          clear hw0 hw1 hw2
          obtain ⟨hk1, hb1⟩ := hcut
          obtain ⟨V1, rfl⟩ : ∃ V1, V1 = wc := ⟨wc, rfl⟩
          have HNE := hid HTB.out.ne
          have HP1 := hid (show TB V1 b base (.slice lb rs2.length lc2) (.slice nb rs2.length nc) kv rs2 (sz2 + 100 * (10 + len)) from
            ⟨hb1, ownsRow_keep HTB.out.rowL hk1 (fun q hq => HNE.out.1 q hq), ownsRow_keep HTB.out.rowN hk1 (fun q hq => HNE.out.2.1 q hq), fun i hi => (HTB.out.full i hi).keep hk1 (HNE.out.2.2.1 _ (List.mem_map.2 ⟨_, List.getElem_mem hi, rfl⟩)), HTB.out.nodup, HTB.out.few, by have := HTB.out.fit; omega⟩)
          have HK1 := hid hk1
          have hs1 := hk1.size
          have HPB1 := hid (hk1.block' HLH.out hpbb)
          have hgb' : g ≠ b := fun e => HGN.out (.inl e)
          have HG1 := hid (hk1.block' HG.out hgb')
          have HTK := hid (show ∀ q, q ∈ (ns.take j).map (·.1) → q ∈ (ns.take (j + 1)).map (·.1) from fun q hq => by
            rw [List.take_add_one, List.map_append]; exact List.mem_append_left _ hq)
          have HTG := hid (show g ∈ (ns.take (j + 1)).map (·.1) by
            rw [List.take_add_one, List.getElem?_eq_getElem hlt, hgl]; simp)
          have HBX := hid (show TBk b lv nv rs b from .inl rfl)
          have HR0 := hid (show BkSt W1 b base lv nv kv rs sz ns (j + 1) (.slice lb rs2.length lc2) (.slice nb rs2.length nc) rs2 (sz2 + 100 * (10 + len)) V1 from ⟨HP1.out, by omega, by push_cast; omega, (HKP.out.mono (fun q _ hq => ⟨hq.1, fun e => hq.2 (HTK.out q e)⟩)).trans (hk1.mono (fun q _ hq e => hq.1 (.inl e))), fun q hq => (HBK.out q hq).imp id (Or.imp (HTK.out q) id)⟩)
          have p1 := hk1.cell p0 hpbb
          clear hk1 hb1 SETS PKS b0 b1 b2 b3 f2 p0
          obtain ⟨b0, b1, b2, b3⟩ := four_of HP1.out.box
          by_cases hs2 : 33554432 < sz2 + 100 * (10 + (len : Int))
          · have hs2' : decide (33554432 < sz2 + 100 * (10 + (len : Int))) = true := decide_eq_true hs2
            go_wp2_with fail
            go_roundw
            case rel => exact ⟨j + 1, _, _, rs2, _, hlt, by go_num, HR0.out⟩
            case measure => simp [intOf]; omega
          have hs2' : decide (33554432 < sz2 + 100 * (10 + (len : Int))) = false := decide_eq_false hs2
          have f0 := frozen_of (i := 0) HP1.out.box
          have hbl := lt_of_block HP1.out.box
          have hpl := lt_of_block HPB1.out
          obtain ⟨i0, hi0, hz0, hz1, hz2⟩ := info_parts listInfo
          have hbW : base ≤ V1.heap.size := by omega
          have HK5 := hid (show ∀ (w9 : World) (o : Obj), (V1.alloc o).drew.grownBy w9 (Value.slice lb rs2.length lc2).ownBlock → Kp (fun q => some q ≠ (Value.slice lb rs2.length lc2).ownBlock) V1 w9 from fun w9 o hg => ((Ext.alloc V1 o).drew.kp _).trans ⟨hg.os, hg.tape, hg.output, hg.size, fun q hq hne => hg.block q hq hne⟩)
          go_upto_region 10 with fail
          go_cut [] from 20 to 100 (fun wx => ∃ lb2 lc3, wx.heap[b]? = some (.cells #[.slice lb2 (rs2.length + 1) lc3, .slice nb rs2.length nc, .int .i64 (sz2 + 100 * (10 + len)), kv] 63) ∧ wx.ownsRow base 24 1 (.slice lb2 (rs2.length + 1) lc3) (rs2.length + 1) (rs2.map lV ++ [.slice (some ⟨g, 0, none⟩) len len]) ∧ Kp (fun q => q ≠ b ∧ (Value.slice lb rs2.length lc2).ownBlock ≠ some q) V1 wx ∧ ((Value.slice lb2 (rs2.length + 1) lc3).ownBlock = (Value.slice lb rs2.length lc2).ownBlock ∨ ∃ q, (Value.slice lb2 (rs2.length + 1) lc3).ownBlock = some q ∧ V1.heap.size ≤ q))
          case first =>
            refine wp_region_held_drew (S := fun W' => W'.cell? ⟨L, j, none⟩ = some (.slice (some ⟨g, 0, none⟩) len len)) (by kernel_rfl) (p1) (fun hHeld => ?_)
            refine wpAnyH_take (i := 0) (v := ?vdx1) rfl (by kernel_rfl) (by kernel_rfl) (by kernel_rfl) (fun _ _ _ h => h) (Or.inl ⟨by kernel_rfl, ?hdx1⟩) (by assumption) ?rdx1
            case hdx1 => (intro w hSw; (try dsimp only at hSw); go_simp; try with_reducible rfl)
            try simp only [Act.put, List.getElem_toArray, List.getElem_cons_zero, List.setIfInBounds_toArray, List.set_cons_zero, List.set_cons_succ]
            refine wpAnyH_take (i := 1) (v := ?vdx2) rfl (by kernel_rfl) (by kernel_rfl) (by kernel_rfl) (fun _ _ _ h => h) (Or.inl ⟨by kernel_rfl, ?hdx2⟩) (by assumption) ?rdx2
            case hdx2 => (intro w hSw; (try dsimp only at hSw); go_simp; try with_reducible rfl)
            try simp only [Act.put, List.getElem_toArray, List.getElem_cons_zero, List.getElem_cons_succ, List.setIfInBounds_toArray, List.set_cons_zero, List.set_cons_succ]
            refine wpAnyH_take (i := 2) (v := ?vdx3) rfl (by kernel_rfl) (by kernel_rfl) (by kernel_rfl) (fun _ _ _ h => h) (Or.inl ⟨by kernel_rfl, ?hdx3⟩) (by assumption) ?rdx3
            case hdx3 => (intro w hSw; (try dsimp only at hSw); go_simp; try with_reducible rfl)
            try simp only [Act.put, List.getElem_toArray, List.getElem_cons_zero, List.getElem_cons_succ, List.setIfInBounds_toArray, List.set_cons_zero, List.set_cons_succ]
            refine wpAnyH_take (i := 3) (v := ?vdx4) rfl (by kernel_rfl) (by kernel_rfl) (by kernel_rfl) (fun _ _ _ h => h) (Or.inl ⟨by kernel_rfl, ?hdx4⟩) (by assumption) ?rdx4
            case hdx4 => (intro w hSw; (try dsimp only at hSw); go_simp; try with_reducible rfl)
            try simp only [Act.put, List.getElem_toArray, List.getElem_cons_zero, List.getElem_cons_succ, List.setIfInBounds_toArray, List.set_cons_zero, List.set_cons_succ]
            refine wpAnyH_take (i := 5) (v := ?vdx5) rfl (by kernel_rfl) (by kernel_rfl) (by kernel_rfl) (fun _ _ _ h => h) (Or.inl ⟨by kernel_rfl, ?hdx5⟩) (by assumption) ?rdx5
            case hdx5 => (intro w hSw; (try dsimp only at hSw); go_simp; try with_reducible rfl)
            try simp only [Act.put, List.getElem_toArray, List.getElem_cons_zero, List.getElem_cons_succ, List.setIfInBounds_toArray, List.set_cons_zero, List.set_cons_succ]
            refine wpAnyH_take (i := 6) (v := ?vdx6) rfl (by kernel_rfl) (by kernel_rfl) (by kernel_rfl) (fun _ _ _ h => h) (Or.inl ⟨by kernel_rfl, ?hdx6⟩) (by assumption) ?rdx6
            case hdx6 => (intro w hSw; (try dsimp only at hSw); go_simp; try with_reducible rfl)
            try simp only [Act.put, List.getElem_toArray, List.getElem_cons_zero, List.getElem_cons_succ, List.setIfInBounds_toArray, List.set_cons_zero, List.set_cons_succ]
            refine wpAnyH_take (i := 7) (v := ?vdx7) rfl (by kernel_rfl) (by kernel_rfl) (by kernel_rfl) (fun _ _ _ h => h) (Or.inl ⟨by kernel_rfl, ?hdx7⟩) (by assumption) ?rdx7
            case hdx7 => (intro w hSw; (try dsimp only at hSw); go_simp; try with_reducible rfl)
            try simp only [Act.put, List.getElem_toArray, List.getElem_cons_zero, List.getElem_cons_succ, List.setIfInBounds_toArray, List.set_cons_zero, List.set_cons_succ]
            refine wpAnyH_take (i := 8) (v := ?vdx8) rfl (by kernel_rfl) (by kernel_rfl) (by kernel_rfl) (fun _ _ _ h => h) (Or.inl ⟨by kernel_rfl, ?hdx8⟩) (by assumption) ?rdx8
            case hdx8 => (intro w hSw; (try dsimp only at hSw); go_simp; try with_reducible rfl)
            try simp only [Act.put, List.getElem_toArray, List.getElem_cons_zero, List.getElem_cons_succ, List.setIfInBounds_toArray, List.set_cons_zero, List.set_cons_succ]
            refine wpAnyH_ready (rs := [4, 9]) (by kernel_rfl) (by simp) ?_
            refine AllReadyH.cons rfl (fun K hK => ?_) (AllReadyH.cons rfl (fun K hK => ?_) AllReadyH.nil)
            · go_simp
              refine hK.out _ _ (p1) (fun hHeld => ?_)
              clear hK K
              try simp only [Act.put, List.getElem_toArray, List.getElem_cons_zero, List.getElem_cons_succ, List.setIfInBounds_toArray, List.set_cons_zero, List.set_cons_succ]
              refine wpAnyH_ready (rs := [9]) (by kernel_rfl) (by simp) ?_
              refine AllReadyH.cons rfl (fun K hK => ?_) AllReadyH.nil
              go_simp
              refine hK.out _ _ (((Ext.alloc V1 _).kp (fun _ => True)).cell p1 trivial) (fun hHeld => ?_)
              clear hK K
              try simp only [Act.put, List.getElem_toArray, List.getElem_cons_zero, List.getElem_cons_succ, List.setIfInBounds_toArray, List.set_cons_zero, List.set_cons_succ]
              refine wpAnyH_ready (rs := [10]) (by kernel_rfl) (by simp) ?_
              refine AllReadyH.cons rfl (fun K hK => ?_) AllReadyH.nil
              refine step_append_own _ (by rfl) _ _ 61 (by rfl) base 24 i0 (.slice none 0 0) 1 24 Try.underlying61 hi0 hz0 hz1 hz2 rfl (by decide) _ rs2.length (rs2.map lV) (by rfl) (ownsRow_keep HP1.out.rowL ((show Ext V1 _ from (by repeat (first | with_reducible exact Ext.refl _ | with_reducible refine Ext.drew ?_ | with_reducible refine Ext.more ?_ _))).kp (fun _ => True)) (fun _ _ => trivial)) ⟨V1.heap.size, 0, none⟩ 1 1 [.slice (some ⟨g, 0, none⟩) len len] (by rfl) rfl (fun e u he => by match e, he with | 0, he => cases he; exact cell_of (i := 0) (blk0 V1 _) rfl) (by simp [Value.oneCell']) (by unfold maxLen; omega) (by omega) (Nat.le_trans hbW (show Ext V1 _ from (by repeat (first | with_reducible exact Ext.refl _ | with_reducible refine Ext.drew ?_ | with_reducible refine Ext.more ?_ _))).size) ?_
              intro v9 w9 hown9 hgrow9 hat9
              obtain ⟨lb2, lc3, rfl⟩ := ownsRow_slice hown9
              have K9 := HK5.out w9 _ hgrow9
              have hb9 := K9.block' HP1.out.box (fun e => HNE.out.1 b e.symm rfl)
              have y0 := cell_of (i := 0) hb9 rfl
              have y1 := frozen_of (i := 0) hb9
              simp only [List.getElem_toArray, List.getElem_cons_zero] at y0
              show K _ _
              refine hK.out _ _ (K9.cell p1 (fun e => HPN.out (.inr (.inl e.symm)))) (fun hHeld => ?_)
              clear hK K
              try simp only [Act.put, List.getElem_toArray, List.getElem_cons_zero, List.getElem_cons_succ, List.setIfInBounds_toArray, List.set_cons_zero, List.set_cons_succ]
              refine wpAnyH_take (i := 11) (v := ?vex1) rfl (by kernel_rfl) (by kernel_rfl) (by kernel_rfl) (fun _ _ _ h => h) (Or.inl ⟨by kernel_rfl, ?hex1⟩) (by assumption) ?rex1
              case hex1 => (intro w hSw; (try dsimp only at hSw); go_simp; try with_reducible rfl)
              try simp only [Act.put, List.getElem_toArray, List.getElem_cons_zero, List.getElem_cons_succ, List.setIfInBounds_toArray, List.set_cons_zero, List.set_cons_succ]
              refine wpAnyH_take (i := 12) (v := ?vex2) rfl (by kernel_rfl) (by kernel_rfl) (by kernel_rfl) (fun _ _ _ h => h) (Or.inl ⟨by kernel_rfl, ?hex2⟩) (by assumption) ?rex2
              case hex2 => (intro w hSw; (try dsimp only at hSw); go_simp; try with_reducible rfl)
              try simp only [Act.put, List.getElem_toArray, List.getElem_cons_zero, List.getElem_cons_succ, List.setIfInBounds_toArray, List.set_cons_zero, List.set_cons_succ]
              refine wpAnyH_ready (rs := [13]) (by kernel_rfl) (by simp) ?_
              refine AllReadyH.cons rfl (fun K hK => ?_) AllReadyH.nil
              go_simp
              refine hK.out _ _ ((Kp.set (K := (· ≠ b)) w9 b 0 _ (fun h => h rfl)).cell (K9.cell p1 (fun e => HPN.out (.inr (.inl e.symm)))) hpbb) (fun hHeld => ?_)
              clear hK K
              try simp only [Act.put, List.getElem_toArray, List.getElem_cons_zero, List.getElem_cons_succ, List.setIfInBounds_toArray, List.set_cons_zero, List.set_cons_succ]
              refine wpAnyH_done (by kernel_rfl) ?_ _
              go_wp2_with fail
              go_meet
              case rel =>
                have k0 := Kp.set (K := (· ≠ b)) w9 b 0 (.slice lb2 (rs2.length + 1) lc3) (fun h => h rfl)
                refine ⟨lb2, lc3, set_at hb9 0 _, ownsRow_keep hown9 k0 (fun q hq e => ?_), (K9.mono (fun q _ hq e => hq.2 e.symm)).trans (k0.mono (fun q _ hq => hq.1)), hat9.imp id (fun h => ⟨_, h, by simp⟩)⟩
                rcases hat9 with h | h
                · rw [h] at hq; exact HNE.out.1 q hq e
                · rw [h] at hq; cases hq; have e' : _ = b := e; simp at e'; omega
            · go_simp
              refine hK.out _ _ (((Ext.alloc V1 _).kp (fun _ => True)).cell p1 trivial) (fun hHeld => ?_)
              clear hK K
              try simp only [Act.put, List.getElem_toArray, List.getElem_cons_zero, List.getElem_cons_succ, List.setIfInBounds_toArray, List.set_cons_zero, List.set_cons_succ]
              refine wpAnyH_ready (rs := [4]) (by kernel_rfl) (by simp) ?_
              refine AllReadyH.cons rfl (fun K hK => ?_) AllReadyH.nil
              go_simp
              refine hK.out _ _ (((Ext.alloc V1 _).kp (fun _ => True)).cell p1 trivial) (fun hHeld => ?_)
              clear hK K
              try simp only [Act.put, List.getElem_toArray, List.getElem_cons_zero, List.getElem_cons_succ, List.setIfInBounds_toArray, List.set_cons_zero, List.set_cons_succ]
              refine wpAnyH_ready (rs := [10]) (by kernel_rfl) (by simp) ?_
              refine AllReadyH.cons rfl (fun K hK => ?_) AllReadyH.nil
              refine step_append_own _ (by rfl) _ _ 61 (by rfl) base 24 i0 (.slice none 0 0) 1 24 Try.underlying61 hi0 hz0 hz1 hz2 rfl (by decide) _ rs2.length (rs2.map lV) (by rfl) (ownsRow_keep HP1.out.rowL ((show Ext V1 _ from (by repeat (first | with_reducible exact Ext.refl _ | with_reducible refine Ext.drew ?_ | with_reducible refine Ext.more ?_ _))).kp (fun _ => True)) (fun _ _ => trivial)) ⟨V1.heap.size, 0, none⟩ 1 1 [.slice (some ⟨g, 0, none⟩) len len] (by rfl) rfl (fun e u he => by match e, he with | 0, he => cases he; exact cell_of (i := 0) (blk0 V1 _) rfl) (by simp [Value.oneCell']) (by unfold maxLen; omega) (by omega) (Nat.le_trans hbW (show Ext V1 _ from (by repeat (first | with_reducible exact Ext.refl _ | with_reducible refine Ext.drew ?_ | with_reducible refine Ext.more ?_ _))).size) ?_
              intro v9 w9 hown9 hgrow9 hat9
              obtain ⟨lb2, lc3, rfl⟩ := ownsRow_slice hown9
              have K9 := HK5.out w9 _ hgrow9
              have hb9 := K9.block' HP1.out.box (fun e => HNE.out.1 b e.symm rfl)
              have y0 := cell_of (i := 0) hb9 rfl
              have y1 := frozen_of (i := 0) hb9
              simp only [List.getElem_toArray, List.getElem_cons_zero] at y0
              show K _ _
              refine hK.out _ _ (K9.cell p1 (fun e => HPN.out (.inr (.inl e.symm)))) (fun hHeld => ?_)
              clear hK K
              try simp only [Act.put, List.getElem_toArray, List.getElem_cons_zero, List.getElem_cons_succ, List.setIfInBounds_toArray, List.set_cons_zero, List.set_cons_succ]
              refine wpAnyH_take (i := 11) (v := ?vfx1) rfl (by kernel_rfl) (by kernel_rfl) (by kernel_rfl) (fun _ _ _ h => h) (Or.inl ⟨by kernel_rfl, ?hfx1⟩) (by assumption) ?rfx1
              case hfx1 => (intro w hSw; (try dsimp only at hSw); go_simp; try with_reducible rfl)
              try simp only [Act.put, List.getElem_toArray, List.getElem_cons_zero, List.getElem_cons_succ, List.setIfInBounds_toArray, List.set_cons_zero, List.set_cons_succ]
              refine wpAnyH_take (i := 12) (v := ?vfx2) rfl (by kernel_rfl) (by kernel_rfl) (by kernel_rfl) (fun _ _ _ h => h) (Or.inl ⟨by kernel_rfl, ?hfx2⟩) (by assumption) ?rfx2
              case hfx2 => (intro w hSw; (try dsimp only at hSw); go_simp; try with_reducible rfl)
              try simp only [Act.put, List.getElem_toArray, List.getElem_cons_zero, List.getElem_cons_succ, List.setIfInBounds_toArray, List.set_cons_zero, List.set_cons_succ]
              refine wpAnyH_ready (rs := [13]) (by kernel_rfl) (by simp) ?_
              refine AllReadyH.cons rfl (fun K hK => ?_) AllReadyH.nil
              go_simp
              refine hK.out _ _ ((Kp.set (K := (· ≠ b)) w9 b 0 _ (fun h => h rfl)).cell (K9.cell p1 (fun e => HPN.out (.inr (.inl e.symm)))) hpbb) (fun hHeld => ?_)
              clear hK K
              try simp only [Act.put, List.getElem_toArray, List.getElem_cons_zero, List.getElem_cons_succ, List.setIfInBounds_toArray, List.set_cons_zero, List.set_cons_succ]
              refine wpAnyH_done (by kernel_rfl) ?_ _
              go_wp2_with fail
              go_meet
              case rel =>
                have k0 := Kp.set (K := (· ≠ b)) w9 b 0 (.slice lb2 (rs2.length + 1) lc3) (fun h => h rfl)
                refine ⟨lb2, lc3, set_at hb9 0 _, ownsRow_keep hown9 k0 (fun q hq e => ?_), (K9.mono (fun q _ hq e => hq.2 e.symm)).trans (k0.mono (fun q _ hq => hq.1)), hat9.imp id (fun h => ⟨_, h, by simp⟩)⟩
                rcases hat9 with h | h
                · rw [h] at hq; exact HNE.out.1 q hq e
                · rw [h] at hq; cases hq; have e' : _ = b := e; simp at e'; omega
          case rest =>
          obtain ⟨lb2, lc3, hb2, hl2, hk2, ho2⟩ := hcut
          obtain ⟨V2, rfl⟩ : ∃ V2, V2 = wc := ⟨wc, rfl⟩
          have HB2 := hid hb2
          have HL2 := hid hl2
          have HK2 := hid hk2
          have HO2 := hid ho2
          have hs3 := hk2.size
          have hLk2 : L ≠ b ∧ (Value.slice lb rs2.length lc2).ownBlock ≠ some L := ⟨hpbb, fun e => HPN.out (.inr (.inl e))⟩
          have HPB2 := hid (hk2.block' HPB1.out hLk2)
          have p2 := hk2.cell p1 hLk2
          have HN2 := hid (ownsRow_keep HP1.out.rowN hk2 (fun q hq => ⟨HNE.out.2.1 q hq, fun e => HNE.out.2.2.2.1 q e hq⟩))
          have HG2 := hid (hk2.block' HG1.out ⟨hgb', fun e => HGN.out (.inr (.inl e))⟩)
          clear hb2 hl2 hk2 ho2 b0 b1 b2 b3 f0 hi0 hz0 hz1 hz2 p1 hbl hpl HK5
          obtain ⟨b0, b1, b2, b3⟩ := four_of HB2.out
          have f0 := frozen_of (i := 1) HB2.out
          have hbl := lt_of_block HB2.out
          have hpl := lt_of_block HPB2.out
          obtain ⟨i1, hi1, hu0, hu1, hu2⟩ := info_parts intInfo
          have HK6 := hid (show ∀ (w9 : World) (o : Obj), (V2.alloc o).drew.grownBy w9 (Value.slice nb rs2.length nc).ownBlock → Kp (fun q => some q ≠ (Value.slice nb rs2.length nc).ownBlock) V2 w9 from fun w9 o hg => ((Ext.alloc V2 o).drew.kp _).trans ⟨hg.os, hg.tape, hg.output, hg.size, fun q hq hne => hg.block q hq hne⟩)
          go_upto_region 11 with fail
          go_cut [] from 20 to 100 (fun wx => ∃ nb2 nc2, wx.heap[b]? = some (.cells #[.slice lb2 (rs2.length + 1) lc3, .slice nb2 (rs2.length + 1) nc2, .int .i64 (sz2 + 100 * (10 + len)), kv] 63) ∧ wx.ownsRow base 3 1 (.slice nb2 (rs2.length + 1) nc2) (rs2.length + 1) (rs2.map (fun r => Value.int .i64 (r.2 : Int)) ++ [.int .i64 len]) ∧ Kp (fun q => q ≠ b ∧ (Value.slice nb rs2.length nc).ownBlock ≠ some q) V2 wx ∧ ((Value.slice nb2 (rs2.length + 1) nc2).ownBlock = (Value.slice nb rs2.length nc).ownBlock ∨ ∃ q, (Value.slice nb2 (rs2.length + 1) nc2).ownBlock = some q ∧ V2.heap.size ≤ q))
          case first =>
            refine wp_region_held_drew (S := fun W' => W'.cell? ⟨L, j, none⟩ = some (.slice (some ⟨g, 0, none⟩) len len)) (by kernel_rfl) (p2) (fun hHeld => ?_)
            refine wpAnyH_take (i := 0) (v := ?vgx1) rfl (by kernel_rfl) (by kernel_rfl) (by kernel_rfl) (fun _ _ _ h => h) (Or.inl ⟨by kernel_rfl, ?hgx1⟩) (by assumption) ?rgx1
            case hgx1 => (intro w hSw; (try dsimp only at hSw); go_simp; try with_reducible rfl)
            try simp only [Act.put, List.getElem_toArray, List.getElem_cons_zero, List.setIfInBounds_toArray, List.set_cons_zero, List.set_cons_succ]
            refine wpAnyH_take (i := 1) (v := ?vgx2) rfl (by kernel_rfl) (by kernel_rfl) (by kernel_rfl) (fun _ _ _ h => h) (Or.inl ⟨by kernel_rfl, ?hgx2⟩) (by assumption) ?rgx2
            case hgx2 => (intro w hSw; (try dsimp only at hSw); go_simp; try with_reducible rfl)
            try simp only [Act.put, List.getElem_toArray, List.getElem_cons_zero, List.getElem_cons_succ, List.setIfInBounds_toArray, List.set_cons_zero, List.set_cons_succ]
            refine wpAnyH_take (i := 2) (v := ?vgx3) rfl (by kernel_rfl) (by kernel_rfl) (by kernel_rfl) (fun _ _ _ h => h) (Or.inl ⟨by kernel_rfl, ?hgx3⟩) (by assumption) ?rgx3
            case hgx3 => (intro w hSw; (try dsimp only at hSw); go_simp; try with_reducible rfl)
            try simp only [Act.put, List.getElem_toArray, List.getElem_cons_zero, List.getElem_cons_succ, List.setIfInBounds_toArray, List.set_cons_zero, List.set_cons_succ]
            refine wpAnyH_take (i := 3) (v := ?vgx4) rfl (by kernel_rfl) (by kernel_rfl) (by kernel_rfl) (fun _ _ _ h => h) (Or.inl ⟨by kernel_rfl, ?hgx4⟩) (by assumption) ?rgx4
            case hgx4 => (intro w hSw; (try dsimp only at hSw); go_simp; try with_reducible rfl)
            try simp only [Act.put, List.getElem_toArray, List.getElem_cons_zero, List.getElem_cons_succ, List.setIfInBounds_toArray, List.set_cons_zero, List.set_cons_succ]
            refine wpAnyH_take (i := 5) (v := ?vgx5) rfl (by kernel_rfl) (by kernel_rfl) (by kernel_rfl) (fun _ _ _ h => h) (Or.inl ⟨by kernel_rfl, ?hgx5⟩) (by assumption) ?rgx5
            case hgx5 => (intro w hSw; (try dsimp only at hSw); go_simp; try with_reducible rfl)
            try simp only [Act.put, List.getElem_toArray, List.getElem_cons_zero, List.getElem_cons_succ, List.setIfInBounds_toArray, List.set_cons_zero, List.set_cons_succ]
            refine wpAnyH_take (i := 6) (v := ?vgx6) rfl (by kernel_rfl) (by kernel_rfl) (by kernel_rfl) (fun _ _ _ h => h) (Or.inl ⟨by kernel_rfl, ?hgx6⟩) (by assumption) ?rgx6
            case hgx6 => (intro w hSw; (try dsimp only at hSw); go_simp; try with_reducible rfl)
            try simp only [Act.put, List.getElem_toArray, List.getElem_cons_zero, List.getElem_cons_succ, List.setIfInBounds_toArray, List.set_cons_zero, List.set_cons_succ]
            refine wpAnyH_take (i := 7) (v := ?vgx7) rfl (by kernel_rfl) (by kernel_rfl) (by kernel_rfl) (fun _ _ _ h => h) (Or.inl ⟨by kernel_rfl, ?hgx7⟩) (by assumption) ?rgx7
            case hgx7 => (intro w hSw; (try dsimp only at hSw); go_simp; try with_reducible rfl)
            try simp only [Act.put, List.getElem_toArray, List.getElem_cons_zero, List.getElem_cons_succ, List.setIfInBounds_toArray, List.set_cons_zero, List.set_cons_succ]
            refine wpAnyH_take (i := 8) (v := ?vgx8) rfl (by kernel_rfl) (by kernel_rfl) (by kernel_rfl) (fun _ _ _ h => h) (Or.inl ⟨by kernel_rfl, ?hgx8⟩) (by assumption) ?rgx8
            case hgx8 => (intro w hSw; (try dsimp only at hSw); go_simp; try with_reducible rfl)
            try simp only [Act.put, List.getElem_toArray, List.getElem_cons_zero, List.getElem_cons_succ, List.setIfInBounds_toArray, List.set_cons_zero, List.set_cons_succ]
            refine wpAnyH_take (i := 9) (v := .int .i64 len) rfl (by kernel_rfl) (by kernel_rfl) (by kernel_rfl) (fun _ _ _ h => h) (Or.inl ⟨by kernel_rfl, ?hgx9⟩) (by assumption) ?rgx9
            case hgx9 => (intro w hSw; (try dsimp only at hSw); go_simp; try with_reducible rfl)
            try simp only [Act.put, List.getElem_toArray, List.getElem_cons_zero, List.getElem_cons_succ, List.setIfInBounds_toArray, List.set_cons_zero, List.set_cons_succ]
            refine wpAnyH_ready (rs := [4, 10]) (by kernel_rfl) (by simp) ?_
            refine AllReadyH.cons rfl (fun K hK => ?_) (AllReadyH.cons rfl (fun K hK => ?_) AllReadyH.nil)
            · go_simp
              refine hK.out _ _ (p2) (fun hHeld => ?_)
              clear hK K
              try simp only [Act.put, List.getElem_toArray, List.getElem_cons_zero, List.getElem_cons_succ, List.setIfInBounds_toArray, List.set_cons_zero, List.set_cons_succ]
              refine wpAnyH_ready (rs := [10]) (by kernel_rfl) (by simp) ?_
              refine AllReadyH.cons rfl (fun K hK => ?_) AllReadyH.nil
              go_simp
              refine hK.out _ _ (((Ext.alloc V2 _).kp (fun _ => True)).cell p2 trivial) (fun hHeld => ?_)
              clear hK K
              try simp only [Act.put, List.getElem_toArray, List.getElem_cons_zero, List.getElem_cons_succ, List.setIfInBounds_toArray, List.set_cons_zero, List.set_cons_succ]
              refine wpAnyH_ready (rs := [11]) (by kernel_rfl) (by simp) ?_
              refine AllReadyH.cons rfl (fun K hK => ?_) AllReadyH.nil
              refine step_append_own _ (by rfl) _ _ 27 (by rfl) base 3 i1 (.int .i64 0) 1 8 Try.underlying27 hi1 hu0 hu1 hu2 rfl (by decide) _ rs2.length (rs2.map (fun r => Value.int .i64 (r.2 : Int))) (by rfl) (ownsRow_keep HN2.out ((show Ext V2 _ from (by repeat (first | with_reducible exact Ext.refl _ | with_reducible refine Ext.drew ?_ | with_reducible refine Ext.more ?_ _))).kp (fun _ => True)) (fun _ _ => trivial)) ⟨V2.heap.size, 0, none⟩ 1 1 [.int .i64 len] (by rfl) rfl (fun e u he => by match e, he with | 0, he => cases he; exact cell_of (i := 0) (blk0 V2 _) rfl) (by simp [Value.oneCell']) (by unfold maxLen; omega) (by omega) (Nat.le_trans (Nat.le_trans hbW hs3) (show Ext V2 _ from (by repeat (first | with_reducible exact Ext.refl _ | with_reducible refine Ext.drew ?_ | with_reducible refine Ext.more ?_ _))).size) ?_
              intro v9 w9 hown9 hgrow9 hat9
              obtain ⟨nb2, nc2, rfl⟩ := ownsRow_slice hown9
              have K9 := HK6.out w9 _ hgrow9
              have hb9 := K9.block' HB2.out (fun e => HNE.out.2.1 b e.symm rfl)
              have y0 := cell_of (i := 1) hb9 rfl
              have y1 := frozen_of (i := 1) hb9
              simp only [List.getElem_toArray, List.getElem_cons_zero, List.getElem_cons_succ] at y0
              show K _ _
              refine hK.out _ _ (K9.cell p2 (fun e => HPN.out (.inr (.inr (.inl e.symm))))) (fun hHeld => ?_)
              clear hK K
              try simp only [Act.put, List.getElem_toArray, List.getElem_cons_zero, List.getElem_cons_succ, List.setIfInBounds_toArray, List.set_cons_zero, List.set_cons_succ]
              refine wpAnyH_take (i := 12) (v := ?vhx1) rfl (by kernel_rfl) (by kernel_rfl) (by kernel_rfl) (fun _ _ _ h => h) (Or.inl ⟨by kernel_rfl, ?hhx1⟩) (by assumption) ?rhx1
              case hhx1 => (intro w hSw; (try dsimp only at hSw); go_simp; try with_reducible rfl)
              try simp only [Act.put, List.getElem_toArray, List.getElem_cons_zero, List.getElem_cons_succ, List.setIfInBounds_toArray, List.set_cons_zero, List.set_cons_succ]
              refine wpAnyH_take (i := 13) (v := ?vhx2) rfl (by kernel_rfl) (by kernel_rfl) (by kernel_rfl) (fun _ _ _ h => h) (Or.inl ⟨by kernel_rfl, ?hhx2⟩) (by assumption) ?rhx2
              case hhx2 => (intro w hSw; (try dsimp only at hSw); go_simp; try with_reducible rfl)
              try simp only [Act.put, List.getElem_toArray, List.getElem_cons_zero, List.getElem_cons_succ, List.setIfInBounds_toArray, List.set_cons_zero, List.set_cons_succ]
              refine wpAnyH_ready (rs := [14]) (by kernel_rfl) (by simp) ?_
              refine AllReadyH.cons rfl (fun K hK => ?_) AllReadyH.nil
              go_simp
              refine hK.out _ _ ((Kp.set (K := (· ≠ b)) w9 b 1 _ (fun h => h rfl)).cell (K9.cell p2 (fun e => HPN.out (.inr (.inr (.inl e.symm))))) hpbb) (fun hHeld => ?_)
              clear hK K
              try simp only [Act.put, List.getElem_toArray, List.getElem_cons_zero, List.getElem_cons_succ, List.setIfInBounds_toArray, List.set_cons_zero, List.set_cons_succ]
              refine wpAnyH_done (by kernel_rfl) ?_ _
              go_wp2_with fail
              go_meet
              case rel =>
                have k0 := Kp.set (K := (· ≠ b)) w9 b 1 (.slice nb2 (rs2.length + 1) nc2) (fun h => h rfl)
                refine ⟨nb2, nc2, set_at hb9 1 _, ownsRow_keep hown9 k0 (fun q hq e => ?_), (K9.mono (fun q _ hq e => hq.2 e.symm)).trans (k0.mono (fun q _ hq => hq.1)), hat9.imp id (fun h => ⟨_, h, by simp⟩)⟩
                rcases hat9 with h | h
                · rw [h] at hq; exact HNE.out.2.1 q hq e
                · rw [h] at hq; cases hq; have e' : _ = b := e; simp at e'; omega
            · go_simp
              refine hK.out _ _ (((Ext.alloc V2 _).kp (fun _ => True)).cell p2 trivial) (fun hHeld => ?_)
              clear hK K
              try simp only [Act.put, List.getElem_toArray, List.getElem_cons_zero, List.getElem_cons_succ, List.setIfInBounds_toArray, List.set_cons_zero, List.set_cons_succ]
              refine wpAnyH_ready (rs := [4]) (by kernel_rfl) (by simp) ?_
              refine AllReadyH.cons rfl (fun K hK => ?_) AllReadyH.nil
              go_simp
              refine hK.out _ _ (((Ext.alloc V2 _).kp (fun _ => True)).cell p2 trivial) (fun hHeld => ?_)
              clear hK K
              try simp only [Act.put, List.getElem_toArray, List.getElem_cons_zero, List.getElem_cons_succ, List.setIfInBounds_toArray, List.set_cons_zero, List.set_cons_succ]
              refine wpAnyH_ready (rs := [11]) (by kernel_rfl) (by simp) ?_
              refine AllReadyH.cons rfl (fun K hK => ?_) AllReadyH.nil
              refine step_append_own _ (by rfl) _ _ 27 (by rfl) base 3 i1 (.int .i64 0) 1 8 Try.underlying27 hi1 hu0 hu1 hu2 rfl (by decide) _ rs2.length (rs2.map (fun r => Value.int .i64 (r.2 : Int))) (by rfl) (ownsRow_keep HN2.out ((show Ext V2 _ from (by repeat (first | with_reducible exact Ext.refl _ | with_reducible refine Ext.drew ?_ | with_reducible refine Ext.more ?_ _))).kp (fun _ => True)) (fun _ _ => trivial)) ⟨V2.heap.size, 0, none⟩ 1 1 [.int .i64 len] (by rfl) rfl (fun e u he => by match e, he with | 0, he => cases he; exact cell_of (i := 0) (blk0 V2 _) rfl) (by simp [Value.oneCell']) (by unfold maxLen; omega) (by omega) (Nat.le_trans (Nat.le_trans hbW hs3) (show Ext V2 _ from (by repeat (first | with_reducible exact Ext.refl _ | with_reducible refine Ext.drew ?_ | with_reducible refine Ext.more ?_ _))).size) ?_
              intro v9 w9 hown9 hgrow9 hat9
              obtain ⟨nb2, nc2, rfl⟩ := ownsRow_slice hown9
              have K9 := HK6.out w9 _ hgrow9
              have hb9 := K9.block' HB2.out (fun e => HNE.out.2.1 b e.symm rfl)
              have y0 := cell_of (i := 1) hb9 rfl
              have y1 := frozen_of (i := 1) hb9
              simp only [List.getElem_toArray, List.getElem_cons_zero, List.getElem_cons_succ] at y0
              show K _ _
              refine hK.out _ _ (K9.cell p2 (fun e => HPN.out (.inr (.inr (.inl e.symm))))) (fun hHeld => ?_)
              clear hK K
              try simp only [Act.put, List.getElem_toArray, List.getElem_cons_zero, List.getElem_cons_succ, List.setIfInBounds_toArray, List.set_cons_zero, List.set_cons_succ]
              refine wpAnyH_take (i := 12) (v := ?vix1) rfl (by kernel_rfl) (by kernel_rfl) (by kernel_rfl) (fun _ _ _ h => h) (Or.inl ⟨by kernel_rfl, ?hix1⟩) (by assumption) ?rix1
              case hix1 => (intro w hSw; (try dsimp only at hSw); go_simp; try with_reducible rfl)
              try simp only [Act.put, List.getElem_toArray, List.getElem_cons_zero, List.getElem_cons_succ, List.setIfInBounds_toArray, List.set_cons_zero, List.set_cons_succ]
              refine wpAnyH_take (i := 13) (v := ?vix2) rfl (by kernel_rfl) (by kernel_rfl) (by kernel_rfl) (fun _ _ _ h => h) (Or.inl ⟨by kernel_rfl, ?hix2⟩) (by assumption) ?rix2
              case hix2 => (intro w hSw; (try dsimp only at hSw); go_simp; try with_reducible rfl)
              try simp only [Act.put, List.getElem_toArray, List.getElem_cons_zero, List.getElem_cons_succ, List.setIfInBounds_toArray, List.set_cons_zero, List.set_cons_succ]
              refine wpAnyH_ready (rs := [14]) (by kernel_rfl) (by simp) ?_
              refine AllReadyH.cons rfl (fun K hK => ?_) AllReadyH.nil
              go_simp
              refine hK.out _ _ ((Kp.set (K := (· ≠ b)) w9 b 1 _ (fun h => h rfl)).cell (K9.cell p2 (fun e => HPN.out (.inr (.inr (.inl e.symm))))) hpbb) (fun hHeld => ?_)
              clear hK K
              try simp only [Act.put, List.getElem_toArray, List.getElem_cons_zero, List.getElem_cons_succ, List.setIfInBounds_toArray, List.set_cons_zero, List.set_cons_succ]
              refine wpAnyH_done (by kernel_rfl) ?_ _
              go_wp2_with fail
              go_meet
              case rel =>
                have k0 := Kp.set (K := (· ≠ b)) w9 b 1 (.slice nb2 (rs2.length + 1) nc2) (fun h => h rfl)
                refine ⟨nb2, nc2, set_at hb9 1 _, ownsRow_keep hown9 k0 (fun q hq e => ?_), (K9.mono (fun q _ hq e => hq.2 e.symm)).trans (k0.mono (fun q _ hq => hq.1)), hat9.imp id (fun h => ⟨_, h, by simp⟩)⟩
                rcases hat9 with h | h
                · rw [h] at hq; exact HNE.out.2.1 q hq e
                · rw [h] at hq; cases hq; have e' : _ = b := e; simp at e'; omega
          case rest =>
          obtain ⟨nb2, nc2, hb3, hn3, hk3, ho3⟩ := hcut
          obtain ⟨V3, rfl⟩ : ∃ V3, V3 = wc := ⟨wc, rfl⟩
          have HB3 := hid hb3
          have HN3 := hid hn3
          have HK3 := hid hk3
          have HO3 := hid ho3
          have hs4 := hk3.size
          have hLk3 : L ≠ b ∧ (Value.slice nb rs2.length nc).ownBlock ≠ some L := ⟨hpbb, fun e => HPN.out (.inr (.inr (.inl e)))⟩
          have HPB3 := hid (hk3.block' HPB2.out hLk3)
          have P3 := hid (hk3.cell p2 hLk3)
          have HG3 := hid (hk3.block' HG2.out ⟨hgb', fun e => HGN.out (.inr (.inr (.inl e)))⟩)
          have HNL := hid (show ∀ q, (Value.slice lb2 (rs2.length + 1) lc3).ownBlock = some q → q ≠ b ∧ (Value.slice nb rs2.length nc).ownBlock ≠ some q ∧ (q = g → False) from fun q hq => by
            rcases HO2.out with e | ⟨q', e, hq'⟩
            · rw [e] at hq; exact ⟨HNE.out.1 q hq, HNE.out.2.2.2.1 q hq, fun e2 => HGN.out (.inr (.inl (e2 ▸ hq)))⟩
            · rw [e] at hq; cases hq
              refine ⟨fun e2 => ?_, fun e2 => ?_, fun e2 => ?_⟩
              · have := lt_of_block HP1.out.box; omega
              · have := HP1.out.lt _ (.inr (.inr (.inl e2))); omega
              · have := lt_of_block HG1.out; omega)
          have HL3 := hid (ownsRow_keep HL2.out hk3 (fun q hq => ⟨(HNL.out q hq).1, (HNL.out q hq).2.1⟩))
          clear hb3 hn3 hk3 ho3 b0 b1 b2 b3 f0 hi1 hu0 hu1 hu2 p2 hbl hpl HK6
          go_wp2_with fail
          go_loopw [7] (fun k wq => ∃ (kk : Nat) (cu : Array Value), kk ≤ len ∧ k = .int .i64 kk ∧ Kp (· ≠ g) V3 wq ∧ wq.heap[g]? = some (.cells cu 26) ∧ cu.size = len * 4 ∧ ∀ k, k < kk → cu[k * 4]? = some (.string ⟨#[]⟩) ∧ cu[k * 4 + 1]? = some (.int .i64 (-1 - (rs2.length : Int))) ∧ cu[k * 4 + 2]? = some (.string ⟨#[]⟩) ∧ cu[k * 4 + 3]? = some (.slice none 0 0)) (fun k _ => len - (intOf k).toNat)
          case atStart => exact ⟨0, cs0, Nat.zero_le _, rfl, Kp.refl _ _, HG3.out, hcz, fun k hk => absurd hk (Nat.not_lt_zero _)⟩
          case round =>
            obtain ⟨kk, cu, hkk, rfl, hkq, hgq, hcu, hcm2⟩ := hrel
            have HKQ := hid hkq
            have HGQ := hid hgq
            have HCM := hid hcm2
            have hgp : L ≠ g := fun e => by
              have h1 := HPB3.out
              rw [e, HG3.out] at h1
              injection h1 with h1
              injection h1 with _ h2
              revert h2
              decide
            have hbq := hkq.block' HB3.out (fun e => hgb' e.symm)
            have q0 := hkq.cell P3.out hgp
            obtain ⟨b0, b1, b2, b3⟩ := four_of hbq
            clear hkq hgq hcm2 hbq
            by_cases hkl : kk < len
            · have hkl' : (kk : Int) < len := by omega
              have hkz : kk * 4 + 3 < cu.size := by rw [hcu]; omega
              have g0 := cell_of (i := kk * 4) HGQ.out (Array.getElem?_eq_getElem (by omega))
              have g1 := cell_of (i := kk * 4 + 1) HGQ.out (Array.getElem?_eq_getElem (by omega))
              have g2 := cell_of (i := kk * 4 + 2) HGQ.out (Array.getElem?_eq_getElem (by omega))
              have g3 := cell_of (i := kk * 4 + 3) HGQ.out (Array.getElem?_eq_getElem (by omega))
              have z0 := frozen_of (i := kk * 4) HGQ.out
              have z1 := frozen_of (i := kk * 4 + 1) HGQ.out
              have z2 := frozen_of (i := kk * 4 + 2) HGQ.out
              have z3 := frozen_of (i := kk * 4 + 3) HGQ.out
              have HPQ := hid (show ∀ v0 v1 v2 v3, (((((wr.setCell ⟨g, kk * 4, none⟩ v0).setCell ⟨g, kk * 4 + 1, none⟩ v1).setCell ⟨g, kk * 4 + 2, none⟩ v2).setCell ⟨g, kk * 4 + 3, none⟩ v3).drew.cell? ⟨L, j, none⟩ = some (.slice (some ⟨g, 0, none⟩) len len) ∧ ((((wr.setCell ⟨g, kk * 4, none⟩ v0).setCell ⟨g, kk * 4 + 1, none⟩ v1).setCell ⟨g, kk * 4 + 2, none⟩ v2).setCell ⟨g, kk * 4 + 3, none⟩ v3).drew.cell? ⟨b, 0, none⟩ = some (.slice lb2 (rs2.length + 1) lc3)) from fun v0 v1 v2 v3 => ⟨(Kp.set4 wr g (kk * 4) v0 v1 v2 v3).drew.cell q0 hgp, (Kp.set4 wr g (kk * 4) v0 v1 v2 v3).drew.cell b0 (fun e => hgb' e.symm)⟩)
              have hwm2 : IntKind.i64.wrap (-1 - (rs2.length : Int)) = -1 - (rs2.length : Int) := wrap_small _ (by omega) (by omega)
              have hwm : IntKind.i64.wrap (-((rs2.length : Int) + 1)) = -1 - (rs2.length : Int) := by rw [show -((rs2.length : Int) + 1) = -1 - (rs2.length : Int) by omega]; exact hwm2
              go_wp2_with fail
              refine wp_region_held_drew (S := fun W' => W'.cell? ⟨L, j, none⟩ = some (.slice (some ⟨g, 0, none⟩) len len) ∧ W'.cell? ⟨b, 0, none⟩ = some (.slice lb2 (rs2.length + 1) lc3)) (by kernel_rfl) (And.intro q0 b0) (fun hHeld => ?_)
              refine wpAnyH_take (i := 0) (v := ?vjx1) rfl (by kernel_rfl) (by kernel_rfl) (by kernel_rfl) (fun _ _ _ h => h) (Or.inl ⟨by kernel_rfl, ?hjx1⟩) (by assumption) ?rjx1
              case hjx1 => (intro w hSw; (try dsimp only at hSw); go_simp; try with_reducible rfl)
              try simp only [Act.put, List.getElem_toArray, List.getElem_cons_zero, List.setIfInBounds_toArray, List.set_cons_zero, List.set_cons_succ]
              refine wpAnyH_take (i := 1) (v := ?vjx2) rfl (by kernel_rfl) (by kernel_rfl) (by kernel_rfl) (fun _ _ _ h => h) (Or.inl ⟨by kernel_rfl, ?hjx2⟩) (by assumption) ?rjx2
              case hjx2 => (intro w hSw; (try dsimp only at hSw); go_simp; try with_reducible rfl)
              try simp only [Act.put, List.getElem_toArray, List.getElem_cons_zero, List.getElem_cons_succ, List.setIfInBounds_toArray, List.set_cons_zero, List.set_cons_succ]
              refine wpAnyH_take (i := 2) (v := ?vjx3) rfl (by kernel_rfl) (by kernel_rfl) (by kernel_rfl) (fun _ _ _ h => h) (Or.inl ⟨by kernel_rfl, ?hjx3⟩) (by assumption) ?rjx3
              case hjx3 => (intro w hSw; (try dsimp only at hSw); go_simp; try with_reducible rfl)
              try simp only [Act.put, List.getElem_toArray, List.getElem_cons_zero, List.getElem_cons_succ, List.setIfInBounds_toArray, List.set_cons_zero, List.set_cons_succ]
              refine wpAnyH_take (i := 3) (v := ?vjx4) rfl (by kernel_rfl) (by kernel_rfl) (by kernel_rfl) (fun _ _ _ h => h) (Or.inl ⟨by kernel_rfl, ?hjx4⟩) (by assumption) ?rjx4
              case hjx4 => (intro w hSw; (try dsimp only at hSw); go_simp; try with_reducible rfl)
              try simp only [Act.put, List.getElem_toArray, List.getElem_cons_zero, List.getElem_cons_succ, List.setIfInBounds_toArray, List.set_cons_zero, List.set_cons_succ]
              refine wpAnyH_take (i := 4) (v := ?vjx5) rfl (by kernel_rfl) (by kernel_rfl) (by kernel_rfl) (fun _ _ _ h => h) (Or.inl ⟨by kernel_rfl, ?hjx5⟩) (by assumption) ?rjx5
              case hjx5 => (intro w hSw; (try dsimp only at hSw); go_simp; try with_reducible rfl)
              try simp only [Act.put, List.getElem_toArray, List.getElem_cons_zero, List.getElem_cons_succ, List.setIfInBounds_toArray, List.set_cons_zero, List.set_cons_succ]
              refine wpAnyH_take (i := 5) (v := ?vjx6) rfl (by kernel_rfl) (by kernel_rfl) (by kernel_rfl) (fun _ _ _ h => h) (Or.inl ⟨by kernel_rfl, ?hjx6⟩) (by assumption) ?rjx6
              case hjx6 => (intro w hSw; (try dsimp only at hSw); go_simp; try with_reducible rfl)
              try simp only [Act.put, List.getElem_toArray, List.getElem_cons_zero, List.getElem_cons_succ, List.setIfInBounds_toArray, List.set_cons_zero, List.set_cons_succ]
              refine wpAnyH_take (i := 6) (v := ?vjx7) rfl (by kernel_rfl) (by kernel_rfl) (by kernel_rfl) (fun _ _ _ h => h) (Or.inl ⟨by kernel_rfl, ?hjx7⟩) (by assumption) ?rjx7
              case hjx7 => (intro w hSw; (try dsimp only at hSw); go_simp; try with_reducible rfl)
              try simp only [Act.put, List.getElem_toArray, List.getElem_cons_zero, List.getElem_cons_succ, List.setIfInBounds_toArray, List.set_cons_zero, List.set_cons_succ]
              refine wpAnyH_take (i := 7) (v := ?vjx8) rfl (by kernel_rfl) (by kernel_rfl) (by kernel_rfl) (fun _ _ _ h => h) (Or.inl ⟨by kernel_rfl, ?hjx8⟩) (by assumption) ?rjx8
              case hjx8 => (intro w hSw; (try dsimp only at hSw); go_simp; try with_reducible rfl)
              try simp only [Act.put, List.getElem_toArray, List.getElem_cons_zero, List.getElem_cons_succ, List.setIfInBounds_toArray, List.set_cons_zero, List.set_cons_succ]
              refine wpAnyH_take (i := 8) (v := ?vjx9) rfl (by kernel_rfl) (by kernel_rfl) (by kernel_rfl) (fun _ _ _ h => h) (Or.inl ⟨by kernel_rfl, ?hjx9⟩) (by assumption) ?rjx9
              case hjx9 => (intro w hSw; (try dsimp only at hSw); go_simp; try with_reducible rfl)
              try simp only [Act.put, List.getElem_toArray, List.getElem_cons_zero, List.getElem_cons_succ, List.setIfInBounds_toArray, List.set_cons_zero, List.set_cons_succ]
              refine wpAnyH_take (i := 9) (v := .int .i64 ((rs2.length : Int) + 1)) rfl (by kernel_rfl) (by kernel_rfl) (by kernel_rfl) (fun _ _ _ h => h) (Or.inl ⟨by kernel_rfl, ?hjx10⟩) (by assumption) ?rjx10
              case hjx10 => (intro w hSw; (try dsimp only at hSw); go_simp; try with_reducible rfl)
              try simp only [Act.put, List.getElem_toArray, List.getElem_cons_zero, List.getElem_cons_succ, List.setIfInBounds_toArray, List.set_cons_zero, List.set_cons_succ]
              refine wpAnyH_take (i := 10) (v := .int .i64 (-1 - (rs2.length : Int))) rfl (by kernel_rfl) (by kernel_rfl) (by kernel_rfl) (fun _ _ _ h => h) (Or.inl ⟨by kernel_rfl, ?hjx11⟩) (by assumption) ?rjx11
              case hjx11 => (intro w hSw; (try dsimp only at hSw); go_simp; try with_reducible rfl)
              try simp only [Act.put, List.getElem_toArray, List.getElem_cons_zero, List.getElem_cons_succ, List.setIfInBounds_toArray, List.set_cons_zero, List.set_cons_succ]
              refine wpAnyH_take (i := 11) (v := ?vjx12) rfl (by kernel_rfl) (by kernel_rfl) (by kernel_rfl) (fun _ _ _ h => h) (Or.inl ⟨by kernel_rfl, ?hjx12⟩) (by assumption) ?rjx12
              case hjx12 => (intro w hSw; (try dsimp only at hSw); go_simp; try with_reducible rfl)
              try simp only [Act.put, List.getElem_toArray, List.getElem_cons_zero, List.getElem_cons_succ, List.setIfInBounds_toArray, List.set_cons_zero, List.set_cons_succ]
              refine wpAnyH_take (i := 12) (v := ?vjx13) rfl (by kernel_rfl) (by kernel_rfl) (by kernel_rfl) (fun _ _ _ h => h) (Or.inl ⟨by kernel_rfl, ?hjx13⟩) (by assumption) ?rjx13
              case hjx13 => (intro w hSw; (try dsimp only at hSw); go_simp; try with_reducible rfl)
              try simp only [Act.put, List.getElem_toArray, List.getElem_cons_zero, List.getElem_cons_succ, List.setIfInBounds_toArray, List.set_cons_zero, List.set_cons_succ]
              refine wpAnyH_ready (rs := [13]) (by kernel_rfl) (by simp) ?_
              refine AllReadyH.cons rfl (fun K hK => ?_) AllReadyH.nil
              go_simp
              refine hK.out _ _ (HPQ.out _ _ _ _) (fun hHeld => ?_)
              clear hK K
              try simp only [Act.put, List.getElem_toArray, List.getElem_cons_zero, List.getElem_cons_succ, List.setIfInBounds_toArray, List.set_cons_zero, List.set_cons_succ]
              refine wpAnyH_done (by kernel_rfl) ?_ _
              go_wp2_with fail
              clear hwm hwm2
              go_roundw
              case rel =>
                refine ⟨kk + 1, set4A cu (kk * 4) (.string ⟨#[]⟩) (.int .i64 (-1 - (rs2.length : Int))) (.string ⟨#[]⟩) (.slice none 0 0), hkl, by go_num, (HKQ.out.trans (Kp.set4 _ _ _ _ _ _ _)).drew, set4_block HGQ.out _ _ _ _ _, by rw [set4A_size]; exact hcu, fun k hk => ?_⟩
                by_cases e : kk = k
                · subst e; exact set4A_get _ _ _ _ hkz
                · obtain ⟨c0, c1, c2, c3⟩ := HCM.out k (by omega)
                  exact ⟨by rw [set4A_other _ _ _ _ (by omega)]; exact c0, by rw [set4A_other _ _ _ _ (by omega)]; exact c1, by rw [set4A_other _ _ _ _ (by omega)]; exact c2, by rw [set4A_other _ _ _ _ (by omega)]; exact c3⟩
              case measure => simp [intOf]; omega
            · have hke : kk = len := by omega
              go_wp2_with fail
              go_roundw
              case rel =>
                refine ⟨j + 1, .slice lb2 (rs2.length + 1) lc3, .slice nb2 (rs2.length + 1) nc2, rs2 ++ [(g, len)], sz2 + 100 * (10 + len), hlt, by go_num, ⟨?_, ?_, ?_, fun i hi => ?_, ?_, ?_, ?_⟩, by omega, by push_cast; omega, ?_, fun q hq => ?_⟩
                · exact HKQ.out.block' HB3.out (fun e => hgb' e.symm)
                · have h1 := ownsRow_keep HL3.out HKQ.out (fun q hq => (HNL.out q hq).2.2)
                  simpa using h1
                · have h1 := ownsRow_keep HN3.out HKQ.out (fun q hq e => by
                    have e' : q = g := e
                    subst e'
                    rcases HO3.out with h | ⟨q', h, hq'⟩
                    · rw [h] at hq; exact HGN.out (.inr (.inr (.inl hq)))
                    · rw [h] at hq; cases hq; have := lt_of_block HG2.out; omega)
                  simpa using h1
                · have hi' : i < rs2.length + 1 := by simpa using hi
                  by_cases e : i < rs2.length
                  · rw [List.getElem_append_left e]
                    have hm : rs2[i].1 ∈ rs2.map (·.1) := List.mem_map.2 ⟨_, List.getElem_mem e, rfl⟩
                    exact ((((HP1.out.full i e).keep HK2.out ⟨HNE.out.2.2.1 _ hm, HNE.out.2.2.2.2.1 _ hm⟩).keep HK3.out ⟨HNE.out.2.2.1 _ hm, HNE.out.2.2.2.2.2 _ hm⟩).keep HKQ.out (fun e2 => HGN.out (.inr (.inr (.inr (by have e' : rs2[i].1 = g := e2; rw [← e']; exact hm))))))
                  · have e' : i = rs2.length := by omega
                    subst e'
                    rw [List.getElem_append_right (Nat.le_refl _)]
                    simp only [Nat.sub_self, List.getElem_cons_zero]
                    exact ⟨hg2, hlp, hle, cu, HGQ.out, hcu, fun k hk => HCM.out k (by have hk' : k < len := hk; omega)⟩
                · rw [List.map_append, List.nodup_append]
                  refine ⟨HTB.out.nodup, by simp, fun a ha c hc e => ?_⟩
                  have hc' : c = g := by simpa using hc
                  exact HGN.out (.inr (.inr (.inr (by rw [← hc', ← e]; exact ha))))
                · have := HTB.out.fit
                  rw [List.length_append]
                  simp only [List.length_cons, List.length_nil]
                  omega
                · have := HTB.out.fit
                  rw [List.length_append]
                  simp only [List.length_cons, List.length_nil]
                  push_cast
                  omega
                · refine ((((HKP.out.mono (fun q _ hq => ⟨hq.1, fun e => hq.2 (HTK.out q e)⟩)).chain HK1.out (fun q _ h e => h.1 (.inl e))).chain HK2.out (fun q hq h => ⟨fun e => h.1 (.inl e), fun e => ?_⟩)).chain HK3.out (fun q hq h => ⟨fun e => h.1 (.inl e), fun e => ?_⟩)).chain HKQ.out (fun q _ h e => h.2 (by have e' : q = g := e; rw [e']; exact HTG.out))
                  · rcases HBK.out q (.inr (.inl e)) with h2 | h2 | h2
                    · exact h.1 h2
                    · exact h.2 (HTK.out q h2)
                    · omega
                  · rcases HBK.out q (.inr (.inr (.inl e))) with h2 | h2 | h2
                    · exact h.1 h2
                    · exact h.2 (HTK.out q h2)
                    · omega
                · rcases hq with h | h | h | h
                  · exact .inl (.inl h)
                  · rcases HO2.out with h2 | ⟨q', h2, hq'⟩
                    · rw [h2] at h; exact (HBK.out q (.inr (.inl h))).imp id (Or.imp (HTK.out q) id)
                    · rw [h2] at h; cases h; exact .inr (.inr (by omega))
                  · rcases HO3.out with h2 | ⟨q', h2, hq'⟩
                    · rw [h2] at h; exact (HBK.out q (.inr (.inr (.inl h)))).imp id (Or.imp (HTK.out q) id)
                    · rw [h2] at h; cases h; exact .inr (.inr (by omega))
                  · rw [List.map_append, List.mem_append] at h
                    rcases h with h | h
                    · exact (HBK.out q (.inr (.inr (.inr h)))).imp id (Or.imp (HTK.out q) id)
                    · have h' : q = g := by simpa using h
                      exact .inr (.inl (by rw [h']; exact HTG.out))
              case measure => simp [intOf]; omega
        · have hje : j = ns.length := by omega
          subst hje
          go_wp2_with fail
          go_end0
          obtain ⟨hTB, hsa, hsb, hkp, hbk⟩ := HSJ.out
          rw [List.take_length, HM.out] at hkp hbk
          have hW1s := HX.out.size
          exact ⟨⟨_, rfl⟩, lv2, nv2, rs2, sz2, hTB, hsa, by omega, (HX.out.kp _).trans hkp, fun q hq => (hbk q hq).imp id (Or.imp id (fun e => by omega))⟩
end Go.Proofs.Ythdmoghooaccgaa
/-
  Keep of the statements' Book, by a contract: trees that are left as they are until all are there.
-/
namespace Go.Proofs.Ythdmoghooaccgaa
open Go.RowKit
/-- The lists of a tree are lists of trees. -/
theorem Own.ty {w : World} : ∀ {d : Nat} {v : Value} {t : T} {bs : List Nat}, Own w d v t bs → ∀ b ∈ bs, ∃ cs, w.heap[b]? = some (.cells cs 26)
  | 0, _, _, _, h => h.elim
  | d + 1, v, .node k n x ks, bs, ⟨a, h1, h2, h3, h4, h5⟩ => by
      rcases h5 with ⟨_, _, rfl⟩ | ⟨g, cs, bss, rfl, hp, hg, hs, rfl, hbl, hc⟩
      · intro b hb; cases hb
      · intro b hb
        rcases List.mem_cons.1 hb with rfl | hb
        · exact ⟨cs, hg⟩
        · obtain ⟨l, hl, hbl2⟩ := List.mem_flatten.1 hb
          obtain ⟨j, hj, rfl⟩ := List.getElem_of_mem hl
          obtain ⟨u0, u1, u2, u3, b', _, _, _, _, hb', ho⟩ := hc j (by omega)
          rw [List.getElem?_eq_getElem hj] at hb'
          cases hb'
          exact Own.ty ho b hbl2
/-- The trees of a list, whose cells are xs. -/
def InRow (w : World) (d : Nat) (xs : List Value) (ts : List T) (bss : List (List Nat)) : Prop :=
  bss.length = ts.length ∧ ∀ j, (h : j < ts.length) → ∃ u0 u1 u2 u3 l, xs[j * 4]? = some u0 ∧ xs[j * 4 + 1]? = some u1 ∧ xs[j * 4 + 2]? = some u2 ∧ xs[j * 4 + 3]? = some u3 ∧ bss[j]? = some l ∧ Own w d (.agg #[u0, u1, u2, u3]) ts[j] l
theorem InRow.get {w : World} {d : Nat} {xs : List Value} {ts : List T} {bss : List (List Nat)} (h : InRow w d xs ts bss) {q : Nat} (hq : q ∈ bss.flatten) : ∃ j l v, ∃ h : j < ts.length, bss[j]? = some l ∧ q ∈ l ∧ Own w d v ts[j] l := by
  obtain ⟨l, hl, hql⟩ := List.mem_flatten.1 hq
  obtain ⟨j, hj, rfl⟩ := List.getElem_of_mem hl
  have hj' : j < ts.length := by have := h.1; omega
  obtain ⟨u0, u1, u2, u3, b', _, _, _, _, hb', ho⟩ := h.2 j hj'
  rw [List.getElem?_eq_getElem hj] at hb'
  cases hb'
  exact ⟨j, _, _, hj', List.getElem?_eq_getElem hj, hql, ho⟩
theorem InRow.ty {w : World} {d : Nat} {xs : List Value} {ts : List T} {bss : List (List Nat)} (h : InRow w d xs ts bss) : ∀ q ∈ bss.flatten, ∃ cs, w.heap[q]? = some (.cells cs 26) := by
  intro q hq
  obtain ⟨j, l, v, hj, _, hql, ho⟩ := h.get hq
  exact ho.ty q hql
theorem InRow.keep {K : Nat → Prop} {w w' : World} {d : Nat} {xs : List Value} {ts : List T} {bss : List (List Nat)} (h : InRow w d xs ts bss) (hk : Kp K w w') (hK : ∀ q ∈ bss.flatten, K q) : InRow w' d xs ts bss := by
  refine ⟨h.1, fun j hj => ?_⟩
  obtain ⟨u0, u1, u2, u3, l, e0, e1, e2, e3, hl, ho⟩ := h.2 j hj
  exact ⟨u0, u1, u2, u3, l, e0, e1, e2, e3, hl, ho.keep (hk.mono (fun q _ hq => hK q (List.mem_flatten.2 ⟨l, List.mem_of_getElem? hl, hq⟩)))⟩
theorem InRow.append {w : World} {d : Nat} {xs ys : List Value} {ts us : List T} {bss css : List (List Nat)} (h : InRow w d xs ts bss) (k : InRow w d ys us css) (hx : xs.length = ts.length * 4) : InRow w d (xs ++ ys) (ts ++ us) (bss ++ css) := by
  refine ⟨by rw [List.length_append, List.length_append, h.1, k.1], fun j hj => ?_⟩
  by_cases hlt : j < ts.length
  · obtain ⟨u0, u1, u2, u3, l, e0, e1, e2, e3, hl, ho⟩ := h.2 j hlt
    refine ⟨u0, u1, u2, u3, l, ?_, ?_, ?_, ?_, ?_, ?_⟩
    · rw [List.getElem?_append_left (by omega)]; exact e0
    · rw [List.getElem?_append_left (by omega)]; exact e1
    · rw [List.getElem?_append_left (by omega)]; exact e2
    · rw [List.getElem?_append_left (by omega)]; exact e3
    · rw [List.getElem?_append_left (by have := h.1; omega)]; exact hl
    · rw [List.getElem_append_left hlt]; exact ho
  · have hj' : j - ts.length < us.length := by rw [List.length_append] at hj; omega
    obtain ⟨u0, u1, u2, u3, l, e0, e1, e2, e3, hl, ho⟩ := k.2 (j - ts.length) hj'
    refine ⟨u0, u1, u2, u3, l, ?_, ?_, ?_, ?_, ?_, ?_⟩
    · rw [List.getElem?_append_right (by omega), show j * 4 - xs.length = (j - ts.length) * 4 by omega]; exact e0
    · rw [List.getElem?_append_right (by omega), show j * 4 + 1 - xs.length = (j - ts.length) * 4 + 1 by omega]; exact e1
    · rw [List.getElem?_append_right (by omega), show j * 4 + 2 - xs.length = (j - ts.length) * 4 + 2 by omega]; exact e2
    · rw [List.getElem?_append_right (by omega), show j * 4 + 3 - xs.length = (j - ts.length) * 4 + 3 by omega]; exact e3
    · rw [List.getElem?_append_right (by have := h.1; omega), h.1]; exact hl
    · rw [List.getElem_append_right (by omega)]; exact ho
/-- The trees that are kept. -/
def Keeps (w : World) (base d : Nat) (kv : Value) (ts : List T) (bss : List (List Nat)) : Prop :=
  ∃ xs, w.ownsRow base 26 4 kv ts.length xs ∧ InRow w d xs ts bss ∧ ∀ q, kv.ownBlock = some q → q ∉ bss.flatten
theorem Keeps.keep {K : Nat → Prop} {w w' : World} {base d : Nat} {kv : Value} {ts : List T} {bss : List (List Nat)} (h : Keeps w base d kv ts bss) (hk : Kp K w w') (hK : ∀ q, kv.ownBlock = some q ∨ q ∈ bss.flatten → K q) : Keeps w' base d kv ts bss := by
  obtain ⟨xs, h1, h2, h3⟩ := h
  exact ⟨xs, row4_keep h1 hk (fun q hq => hK q (.inl hq)), h2.keep hk (fun q hq => hK q (.inr hq)), h3⟩
theorem row4_block {w : World} {base : Nat} {v : Value} {n : Nat} {xs : List Value} (h : w.ownsRow base 26 4 v n xs) {q : Nat} (hq : v.ownBlock = some q) : base ≤ q ∧ ∃ cur, w.heap[q]? = some (.cells cur 26) := by
  rcases h.2 with ⟨rfl, _⟩ | ⟨g, cap, cur, rfl, hb, hc, _⟩
  · cases hq
  · cases hq; exact ⟨hb, cur, hc⟩
theorem Keeps.lt {w : World} {base d : Nat} {kv : Value} {ts : List T} {bss : List (List Nat)} (h : Keeps w base d kv ts bss) {q : Nat} (hq : kv.ownBlock = some q ∨ q ∈ bss.flatten) : q < w.heap.size := by
  obtain ⟨xs, h1, h2, h3⟩ := h
  rcases hq with hq | hq
  · obtain ⟨_, cur, hc⟩ := row4_block h1 hq; exact lt_of_block hc
  · obtain ⟨cs, hc⟩ := h2.ty q hq; exact lt_of_block hc
theorem Keeps.trees {w : World} {base d : Nat} {kv : Value} {ts : List T} {bss : List (List Nat)} (h : Keeps w base d kv ts bss) : ∃ a c, kv = .slice a ts.length c ∧ Trees w d a ts bss := by
  obtain ⟨xs, h1, h2, h3⟩ := h
  rcases h1.2 with ⟨rfl, h0⟩ | ⟨g, cap, cur, rfl, hb, hc, h4, h5, h6, h7⟩
  · exact ⟨none, 0, by rw [h0], h2.1, .inl (List.eq_nil_of_length_eq_zero h0)⟩
  · refine ⟨some ⟨g, 0, none⟩, cap, rfl, h2.1, .inr ⟨g, cur, rfl, hc, h3 g rfl, fun j hj => ?_⟩⟩
    obtain ⟨u0, u1, u2, u3, l, e0, e1, e2, e3, hl, ho⟩ := h2.2 j hj
    have hx : ∀ (e : Nat) (u : Value), xs[e]? = some u → cur[e]? = some u := fun e u he => by
      rw [← h7] at he
      obtain ⟨h8, h9⟩ := List.getElem?_eq_some_iff.1 he
      rw [List.getElem_take] at h9
      rw [← h9]
      rw [List.length_take] at h8
      have h10 : e < cur.size := by have := Array.length_toList (xs := cur); omega
      rw [Array.getElem?_eq_getElem h10]
      simp
    exact ⟨u0, u1, u2, u3, l, hx _ _ e0, hx _ _ e1, hx _ _ e2, hx _ _ e3, hl, ho⟩
theorem Own.cells1 {w : World} {d : Nat} {u0 u1 u2 u3 : Value} {t : T} {bs : List Nat} (h : Own w d (.agg #[u0, u1, u2, u3]) t bs) : u0.oneCell' = true ∧ u1.oneCell' = true ∧ u2.oneCell' = true ∧ u3.oneCell' = true := by
  obtain ⟨k, n, x, a, c, rfl, rfl, rfl, rfl⟩ := h.rd.shape
  simp [Value.oneCell']
set_option maxRecDepth 100000 in
set_option maxHeartbeats 4000000 in
theorem bkeep_any (w : World) (b base d : Nat) (lv nv kv : Value) (rs : List (Nat × Nat)) (sz : Int) (kts : List T) (kbss : List (List Nat)) (pb c : Nat) (ts : List T) (bss : List (List Nat)) (ys : List Value) (h : TB w b base lv nv kv rs sz) (hK : Keeps w base d kv kts kbss) (hbs : base ≤ w.heap.size)
    (hI : InRow w d ys ts bss) (hyl : ys.length = ts.length * 4) (hyc : ∀ e u, ys[e]? = some u → w.cell? ⟨pb, e, none⟩ = some u) (hm : ts.length ≤ 1000) (hkl : kts.length ≤ 100000) (hkb : ∀ q, kv.ownBlock = some q → ¬ TBk b lv nv rs q ∧ q ∉ bss.flatten) :
    Calls Try.prog 27 #[.pointer (some ⟨b, 0, none⟩), .slice (some ⟨pb, 0, none⟩) ts.length c] w fun e w' => (∃ v, e = .returned v) ∧ ∃ kv', TB w' b base lv nv kv' rs sz ∧ Keeps w' base d kv' (kts ++ ts) (kbss ++ bss) ∧ Kp (fun q => q ≠ b ∧ kv.ownBlock ≠ some q) w w' ∧ (kv'.ownBlock = kv.ownBlock ∨ ∃ q, kv'.ownBlock = some q ∧ w.heap.size ≤ q) := by
  obtain ⟨xs, hrow, hI0, hkn⟩ := hK
  obtain ⟨ka, kc, rfl⟩ := row4_slice hrow
  have hne := h.ne
  have H := hid h
  have HROW := hid hrow
  have HI0 := hid hI0
  have HI := hid hI
  have HKN := hid hkn
  have HKB := hid hkb
  obtain ⟨b0, b1, b2, b3⟩ := four_of h.box
  obtain ⟨ti, hti, hy0, hy1, hy2⟩ := info_parts treeInfo
  have hone : ∀ u ∈ ys, u.oneCell' = true := fun u hu => by
    obtain ⟨e, he, rfl⟩ := List.getElem_of_mem hu
    obtain ⟨u0, u1, u2, u3, l, e0, e1, e2, e3, _, ho⟩ := hI.2 (e / 4) (by omega)
    obtain ⟨o0, o1, o2, o3⟩ := ho.cells1
    have h4 : e = e / 4 * 4 ∨ e = e / 4 * 4 + 1 ∨ e = e / 4 * 4 + 2 ∨ e = e / 4 * 4 + 3 := by omega
    have hs : ∀ v, ys[e]? = some v → ys[e] = v := fun v hv => by rw [List.getElem?_eq_getElem he] at hv; exact Option.some.inj hv
    rcases h4 with h4 | h4 | h4 | h4
    · rw [hs u0 (by rw [h4]; exact e0)]; exact o0
    · rw [hs u1 (by rw [h4]; exact e1)]; exact o1
    · rw [hs u2 (by rw [h4]; exact e2)]; exact o2
    · rw [hs u3 (by rw [h4]; exact e3)]; exact o3
  have hyc' : ∀ e u, ys[e]? = some u → w.cell? ((⟨pb, 0, none⟩ : Addr).add e) = some u := fun e u he => by
    have := hyc e u he
    by_cases e0 : e = 0
    · subst e0; simpa [Addr.add] using this
    · simpa [Addr.add, e0] using this
  have HYC := hid (And.intro hyc' hone)
  have HKV := hid (show ∀ q, (Value.slice ka kts.length kc).ownBlock = some q → q ≠ b from fun q hq e => (hkb q hq).1 (.inl e))
  clear h hI0 hI hkn hkb hne hone hyc hyc' hrow
  go_enter Try.func27, Try.ntmps27
  go_wp2_with (at_builtin; refine wpList_append_own_at _ rfl _ _ 24 rfl base 26 ti (.agg #[.string ⟨#[]⟩, .int .i64 0, .string ⟨#[]⟩, .slice none 0 0]) 4 64 Try.underlying24 hti hy0 hy1 hy2 rfl (by decide) _ _ _ rfl HROW.out ⟨pb, 0, none⟩ ts.length c ys rfl hyl HYC.out.1 HYC.out.2 (by unfold maxLen; omega) (by omega) hbs ?_; intro v9 w9 hown9 hgrow9 _ hat9; obtain ⟨a9, c9, rfl⟩ := row4_slice hown9; have K9 : Kp (fun q => some q ≠ (Value.slice ka kts.length kc).ownBlock) w w9 := ⟨hgrow9.os, hgrow9.tape, hgrow9.output, hgrow9.size, fun q hq hne => hgrow9.block q hq hne⟩; have hb9 := K9.block' H.out.box (fun e => HKV.out b e.symm rfl); have y0 := cell_of (i := 3) hb9 rfl; have y1 := frozen_of (i := 3) hb9; simp only [List.getElem_toArray, List.getElem_cons_zero, List.getElem_cons_succ] at y0)
  go_end0
  have k0 := Kp.set (K := (· ≠ b)) w9 b 3 (.slice a9 (kts.length + ts.length) c9) (fun h => h rfl)
  have kk : Kp (fun q => q ≠ b ∧ (Value.slice ka kts.length kc).ownBlock ≠ some q) w (w9.setCell ⟨b, 3, none⟩ (.slice a9 (kts.length + ts.length) c9)) := (K9.mono (fun q _ hq e => hq.2 e.symm)).trans (k0.mono (fun q _ hq => hq.1))
  have hnb : ∀ q, (∃ cs, w.heap[q]? = some (.cells cs 26)) → q ≠ b := fun q ⟨cs, hc⟩ e => by
    subst e
    have h1 := H.out.box
    rw [hc] at h1
    injection h1 with h1
    injection h1 with _ h2
    revert h2
    decide
  have hat : ∀ q, (Value.slice a9 (kts.length + ts.length) c9).ownBlock = some q → (Value.slice ka kts.length kc).ownBlock = some q ∨ w.heap.size ≤ q := fun q hq => by
    rcases hat9 with h | h
    · rw [h] at hq; exact .inl hq
    · rw [h] at hq; cases hq; exact .inr (Nat.le_refl _)
  have hbA : ∀ q ∈ kbss.flatten, q ≠ b ∧ (Value.slice ka kts.length kc).ownBlock ≠ some q := fun q hq => ⟨hnb q (HI0.out.ty q hq), fun e => HKN.out q e hq⟩
  have hbB : ∀ q ∈ bss.flatten, q ≠ b ∧ (Value.slice ka kts.length kc).ownBlock ≠ some q := fun q hq => ⟨hnb q (HI.out.ty q hq), fun e => (HKB.out q e).2 hq⟩
  have hbl := lt_of_block H.out.box
  refine ⟨⟨_, rfl⟩, _, ⟨set_at hb9 3 _, ?_, ?_, fun i hi => ?_, H.out.nodup, H.out.few, H.out.fit⟩, ⟨xs ++ ys, ?_, ?_, fun q hq => ?_⟩, kk, ?_⟩
  · exact ownsRow_keep H.out.rowL kk (fun q hq => ⟨H.out.ne.1 q hq, fun e => (HKB.out q e).1 (.inr (.inl hq))⟩)
  · exact ownsRow_keep H.out.rowN kk (fun q hq => ⟨H.out.ne.2.1 q hq, fun e => (HKB.out q e).1 (.inr (.inr (.inl hq)))⟩)
  · have hm : rs[i].1 ∈ rs.map (·.1) := List.mem_map.2 ⟨_, List.getElem_mem hi, rfl⟩
    exact (H.out.full i hi).keep kk ⟨H.out.ne.2.2.1 _ hm, fun e => (HKB.out _ e).1 (.inr (.inr (.inr hm)))⟩
  · rw [List.length_append]
    refine row4_keep hown9 k0 (fun q hq e => ?_)
    rcases hat q hq with h | h
    · exact HKV.out q h e
    · have e' : q = b := e
      omega
  · exact (HI0.out.keep kk hbA).append (HI.out.keep kk hbB) (by rw [HROW.out.1])
  · rw [List.flatten_append, List.mem_append]
    rintro (hm | hm)
    · rcases hat q hq with h | h
      · exact HKN.out q h hm
      · obtain ⟨cs, hc⟩ := HI0.out.ty q hm
        have := lt_of_block hc
        omega
    · rcases hat q hq with h | h
      · exact (HKB.out q h).2 hm
      · obtain ⟨cs, hc⟩ := HI.out.ty q hm
        have := lt_of_block hc
        omega
  · rcases hat9 with h | h
    · exact .inl h
    · exact .inr ⟨_, h, Nat.le_refl _⟩
end Go.Proofs.Ythdmoghooaccgaa
/-
  Whole of the statements' Book, by a contract: each list holds its own marks alone.
-/
namespace Go.Proofs.Ythdmoghooaccgaa
open Go.RowKit
theorem rowN_at {w : World} {base : Nat} {a : Option Addr} {c : Nat} {ns : List (Nat × Nat)} (h : w.ownsRow base 3 1 (.slice a ns.length c) ns.length (ns.map (fun r => Value.int .i64 (r.2 : Int)))) {j : Nat} (hj : j < ns.length) : ∃ g, a = some ⟨g, 0, none⟩ ∧ w.cell? ⟨g, j, none⟩ = some (.int .i64 (ns[j].2 : Int)) := by
  rcases h.2 with ⟨_, h0⟩ | ⟨g, cap, cur, e0, hb, hc, h1, h2, h3, h4⟩
  · omega
  · cases e0
    refine ⟨g, rfl, ?_⟩
    have e : (cur.toList.take (ns.length * 1))[j]? = some (.int .i64 (ns[j].2 : Int)) := by rw [h4]; simp [hj]
    rw [List.getElem?_take_of_lt (by omega)] at e
    exact cell_of hc (by simpa using e)
set_option maxRecDepth 100000 in
set_option maxHeartbeats 4000000 in
theorem bwhole_any (w : World) (b base d : Nat) (lv nv kv : Value) (rs : List (Nat × Nat)) (sz : Int) (kts : List T) (kbss : List (List Nat)) (h : TB w b base lv nv kv rs sz) (hK : Keeps w base d kv kts kbss) (hbs : base ≤ w.heap.size) (hnd : kbss.flatten.Nodup) (hba : ∀ q ∈ kbss.flatten, base ≤ q ∧ ¬ TBk b lv nv rs q) (hts : T.sizeL kts ≤ 1000000) (hsz : 0 ≤ sz) (hsz' : sz ≤ 8000000000000000000) :
    Calls Try.prog 30 #[.pointer (some ⟨b, 0, none⟩)] w fun e w' => e = .returned (.bool true) ∧ Kp (fun q => ¬ TBk b lv nv rs q ∧ q ∉ kbss.flatten) w w' := by
  obtain ⟨a, c, rfl, ht⟩ := hK.trees
  have CT := hid (btake_any w b base lv nv (.slice a kts.length c) rs sz d a c kts kbss h hbs ht hnd hba hts hsz hsz')
  obtain ⟨b0, b1, b2, b3⟩ := four_of h.box
  clear h hK ht hnd hba hts
  go_enter Try.func30, Try.ntmps30
  go_wp2_with fail
  refine CT.out.mono ?_
  rintro e w1 ⟨⟨v, rfl⟩, lv1, nv1, rs1, sz1, hTB, _, _, hkp, _⟩
  obtain ⟨lb, lc, rfl⟩ := ownsRow_slice hTB.rowL
  obtain ⟨nb, nc, rfl⟩ := ownsRow_slice hTB.rowN
  have HTB := hid hTB
  have HKP := hid hkp
  have hrl : (rs1.length : Int) ≤ 33554 := by have := hTB.few; omega
  clear hTB hkp b0 b1 b2 b3 CT
  go_wp2_with fail
  go_loopw [3] (fun i wr => ∃ j : Nat, j ≤ rs1.length ∧ i = .int .i64 j ∧ Ext w1 wr) (fun i _ => rs1.length - (intOf i).toNat)
  case atStart => exact ⟨0, Nat.zero_le _, rfl, Ext.refl _⟩
  case round =>
    obtain ⟨j, hj, rfl, hx⟩ := hrel
    have HX := hid hx
    have hTW := HTB.out.keep (hx.kp (fun _ => True)) (fun _ _ => trivial)
    have HTW := hid hTW
    obtain ⟨b0, b1, b2, b3⟩ := four_of hTW.box
    clear hx
    by_cases hlt : j < rs1.length
    · have hlt' : (j : Int) < rs1.length := by omega
      obtain ⟨L, rfl, hLb, l0, lcur, hLh⟩ := rowL_at hTW.rowL hlt
      obtain ⟨⟨g, len⟩, hgl⟩ : ∃ r, rs1[j] = r := ⟨_, rfl⟩
      have hfull := hTW.full j hlt
      rw [hgl] at l0 hfull
      obtain ⟨hf1, hf2, hf3, _⟩ := hfull
      simp only at hf1 hf2 hf3
      have hrm : roomI len len = len := by unfold roomI; rw [if_neg (by omega)]
      have CR := hid (fun W => room_any len len W (by omega) (by omega))
      rw [hrm] at CR
      clear hTW hrm hLh hLb
      go_wp2_with fail
      go_cut [4] from 14 to 84 (fun s4 wx => s4 = .int .i64 len ∧ Ext wr wx)
      case first =>
        go_region_held3 (fun W' => W'.cell? ⟨b, 0, none⟩ = some (.slice (some ⟨L, 0, none⟩) rs1.length lc) ∧ W'.cell? ⟨L, j, none⟩ = some (.slice (some ⟨g, 0, none⟩) len len))
          (first | exact ⟨b0, l0⟩ | go_keep)
          (first | (go_at_call 55; refine (CR.out _).mono ?_; rintro e w2 ⟨rfl, rfl⟩))
        all_goals
          go_wp2_with fail
          go_meet
          case rel => exact ⟨rfl, (Ext.refl wr).drew⟩
      case rest =>
      obtain ⟨rfl, hxc⟩ := hcut
      obtain ⟨V, rfl⟩ : ∃ V, V = wc := ⟨wc, rfl⟩
      have q0 := (hxc.kp (fun _ => True)).cell b0 trivial
      have q1 := (hxc.kp (fun _ => True)).cell l0 trivial
      have HXC := hid (HX.out.trans hxc)
      clear hxc b0 b1 b2 b3 l0 CR
      go_wp2_with fail
      go_loopw [] (fun wq => wq = V) (fun _ => 0)
      case atStart => rfl
      case round =>
        obtain rfl := hrel
        have hnl : decide ((len : Int) < len) = false := decide_eq_false (by omega)
        go_wp2_with fail
        go_roundw
        case rel => exact ⟨j + 1, hlt, by go_num, HXC.out⟩
        case measure => simp [intOf]; omega
    · clear hTW
      go_wp2_with fail
      go_loopw [5] (fun i wq => ∃ j2 : Nat, j2 ≤ rs1.length ∧ i = .int .i64 j2 ∧ Ext w1 wq) (fun i _ => rs1.length - (intOf i).toNat)
      case atStart => exact ⟨0, Nat.zero_le _, rfl, HX.out⟩
      case round =>
        obtain ⟨j2, hj2, rfl, hx⟩ := hrel
        have HX2 := hid hx
        clear hx b0 b1 b2 b3
        obtain ⟨b0, b1, b2, b3⟩ := four_of (HX2.out.block HTB.out.box)
        by_cases hlt2 : j2 < rs1.length
        · have hlt2' : (j2 : Int) < rs1.length := by omega
          obtain ⟨L, rfl, hLb, hl0, lcur, hLh⟩ := rowL_at HTB.out.rowL hlt2
          obtain ⟨M, rfl, hn0⟩ := rowN_at HTB.out.rowN hlt2
          obtain ⟨⟨g, len⟩, hgl⟩ : ∃ r, rs1[j2] = r := ⟨_, rfl⟩
          have hfull := HTB.out.full j2 hlt2
          rw [hgl] at hl0 hn0 hfull
          obtain ⟨hf1, hf2, hf3, cs, hcs, hcz, hmk⟩ := hfull
          simp only at hf1 hf2 hf3 hcs hcz hmk hn0
          have HCS := hid hcs
          have HMK := hid hmk
          have HL0 := hid hl0
          have HN0 := hid hn0
          clear hcs hmk hl0 hn0 hLh hLb
          go_wp2_with fail
          go_loopw [6] (fun k wq => ∃ kk : Nat, kk ≤ len ∧ k = .int .i64 kk ∧ Ext w1 wq) (fun k _ => len - (intOf k).toNat)
          case atStart => exact ⟨0, Nat.zero_le _, rfl, HX2.out⟩
          case round =>
            obtain ⟨kk, hkk, rfl, hx⟩ := hrel
            have HX3 := hid hx
            have l0 := (hx.kp (fun _ => True)).cell HL0.out trivial
            have n0 := (hx.kp (fun _ => True)).cell HN0.out trivial
            clear hx b0 b1 b2 b3
            obtain ⟨b0, b1, b2, b3⟩ := four_of (HX3.out.block HTB.out.box)
            by_cases hkl : kk < len
            · have hkl' : (kk : Int) < len := by omega
              obtain ⟨k0, k1, k2, k3⟩ := HMK.out kk hkl
              have hgw := HX3.out.block HCS.out
              have c0 := cell_of hgw k0
              have c1 := cell_of hgw k1
              have c2 := cell_of hgw k2
              have c3 := cell_of hgw k3
              have hd : decide ((len : Int) ≤ kk) = false := decide_eq_false (by omega)
              have hw1 : IntKind.i64.wrap (-1 - (j2 : Int)) = -1 - (j2 : Int) := wrap_small _ (by omega) (by omega)
              obtain ⟨x0, x1, x2, x3⟩ := four_of (blk0 wr (.cells #[.string ⟨#[]⟩, .int .i64 (-1 - (j2 : Int)), .string ⟨#[]⟩, .slice none 0 0] 26))
              have y1 := ((Ext.alloc wr (.cells #[.string ⟨#[]⟩, .int .i64 (-1 - (j2 : Int)), .string ⟨#[]⟩, .slice none 0 0] 26)).kp (fun _ => True)).cell b1 trivial
              have y2 := ((Ext.alloc wr (.cells #[.string ⟨#[]⟩, .int .i64 (-1 - (j2 : Int)), .string ⟨#[]⟩, .slice none 0 0] 26)).kp (fun _ => True)).cell n0 trivial
              clear hgw k0 k1 k2 k3
              go_wp2_with fail
              refine wp_region_held_drew (S := fun W' => W'.cell? ⟨wr.heap.size, 0, none⟩ = some (.string ⟨#[]⟩) ∧ W'.cell? ⟨wr.heap.size, 1, none⟩ = some (.int .i64 (-1 - (j2 : Int))) ∧ W'.cell? ⟨wr.heap.size, 2, none⟩ = some (.string ⟨#[]⟩) ∧ W'.cell? ⟨wr.heap.size, 3, none⟩ = some (.slice none 0 0) ∧ W'.cell? ⟨b, 1, none⟩ = some (.slice (some ⟨M, 0, none⟩) rs1.length nc) ∧ W'.cell? ⟨M, j2, none⟩ = some (.int .i64 (len : Int))) (by kernel_rfl) (⟨x0, x1, x2, x3, y1, y2⟩) (fun hHeld => ?_)
              refine wpAnyH_take (i := 0) (v := ?vax1) rfl (by kernel_rfl) (by kernel_rfl) (by kernel_rfl) (fun _ _ _ h => h) (Or.inl ⟨by kernel_rfl, ?hax1⟩) (by assumption) ?rax1
              case hax1 => (intro w hSw; (try dsimp only at hSw); go_simp; try with_reducible rfl)
              try simp only [Act.put, List.getElem_toArray, List.getElem_cons_zero, List.setIfInBounds_toArray, List.set_cons_zero, List.set_cons_succ]
              refine wpAnyH_take (i := 1) (v := ?vax2) rfl (by kernel_rfl) (by kernel_rfl) (by kernel_rfl) (fun _ _ _ h => h) (Or.inl ⟨by kernel_rfl, ?hax2⟩) (by assumption) ?rax2
              case hax2 => (intro w hSw; (try dsimp only at hSw); go_simp; try with_reducible rfl)
              try simp only [Act.put, List.getElem_toArray, List.getElem_cons_zero, List.getElem_cons_succ, List.setIfInBounds_toArray, List.set_cons_zero, List.set_cons_succ]
              refine wpAnyH_take (i := 2) (v := ?vax3) rfl (by kernel_rfl) (by kernel_rfl) (by kernel_rfl) (fun _ _ _ h => h) (Or.inl ⟨by kernel_rfl, ?hax3⟩) (by assumption) ?rax3
              case hax3 => (intro w hSw; (try dsimp only at hSw); go_simp; try with_reducible rfl)
              try simp only [Act.put, List.getElem_toArray, List.getElem_cons_zero, List.getElem_cons_succ, List.setIfInBounds_toArray, List.set_cons_zero, List.set_cons_succ]
              refine wpAnyH_take (i := 3) (v := .int .i64 (-1 - (j2 : Int))) rfl (by kernel_rfl) (by kernel_rfl) (by kernel_rfl) (fun _ _ _ h => h) (Or.inl ⟨by kernel_rfl, ?hax4⟩) (by assumption) ?rax4
              case hax4 => (intro w hSw; (try dsimp only at hSw); go_simp; try with_reducible rfl)
              try simp only [Act.put, List.getElem_toArray, List.getElem_cons_zero, List.getElem_cons_succ, List.setIfInBounds_toArray, List.set_cons_zero, List.set_cons_succ]
              refine wpAnyH_take (i := 4) (v := .bool false) rfl (by kernel_rfl) (by kernel_rfl) (by kernel_rfl) (fun _ _ _ h => h) (Or.inl ⟨by kernel_rfl, ?hax5⟩) (by assumption) ?rax5
              case hax5 => (intro w hSw; (try dsimp only at hSw); go_simp; try with_reducible rfl)
              try simp only [Act.put, List.getElem_toArray, List.getElem_cons_zero, List.getElem_cons_succ, List.setIfInBounds_toArray, List.set_cons_zero, List.set_cons_succ]
              refine wpAnyH_take (i := 5) (v := .bool false) rfl (by kernel_rfl) (by kernel_rfl) (by kernel_rfl) (fun _ _ _ h => h) (Or.inl ⟨by kernel_rfl, ?hax6⟩) (by assumption) ?rax6
              case hax6 => (intro w hSw; (try dsimp only at hSw); go_simp; try with_reducible rfl)
              try simp only [Act.put, List.getElem_toArray, List.getElem_cons_zero, List.getElem_cons_succ, List.setIfInBounds_toArray, List.set_cons_zero, List.set_cons_succ]
              refine wpAnyH_take (i := 6) (v := ?vax7) rfl (by kernel_rfl) (by kernel_rfl) (by kernel_rfl) (fun _ _ _ h => h) (Or.inl ⟨by kernel_rfl, ?hax7⟩) (by assumption) ?rax7
              case hax7 => (intro w hSw; (try dsimp only at hSw); go_simp; try with_reducible rfl)
              try simp only [Act.put, List.getElem_toArray, List.getElem_cons_zero, List.getElem_cons_succ, List.setIfInBounds_toArray, List.set_cons_zero, List.set_cons_succ]
              refine wpAnyH_take (i := 7) (v := ?vax8) rfl (by kernel_rfl) (by kernel_rfl) (by kernel_rfl) (fun _ _ _ h => h) (Or.inl ⟨by kernel_rfl, ?hax8⟩) (by assumption) ?rax8
              case hax8 => (intro w hSw; (try dsimp only at hSw); go_simp; try with_reducible rfl)
              try simp only [Act.put, List.getElem_toArray, List.getElem_cons_zero, List.getElem_cons_succ, List.setIfInBounds_toArray, List.set_cons_zero, List.set_cons_succ]
              refine wpAnyH_take (i := 8) (v := .bool false) rfl (by kernel_rfl) (by kernel_rfl) (by kernel_rfl) (fun _ _ _ h => h) (Or.inl ⟨by kernel_rfl, ?hax9⟩) (by assumption) ?rax9
              case hax9 => (intro w hSw; (try dsimp only at hSw); go_simp; try with_reducible rfl)
              try simp only [Act.put, List.getElem_toArray, List.getElem_cons_zero, List.getElem_cons_succ, List.setIfInBounds_toArray, List.set_cons_zero, List.set_cons_succ]
              refine wpAnyH_take (i := 9) (v := ?vax10) rfl (by kernel_rfl) (by kernel_rfl) (by kernel_rfl) (fun _ _ _ h => h) (Or.inl ⟨by kernel_rfl, ?hax10⟩) (by assumption) ?rax10
              case hax10 => (intro w hSw; (try dsimp only at hSw); go_simp; try with_reducible rfl)
              try simp only [Act.put, List.getElem_toArray, List.getElem_cons_zero, List.getElem_cons_succ, List.setIfInBounds_toArray, List.set_cons_zero, List.set_cons_succ]
              refine wpAnyH_take (i := 10) (v := ?vax11) rfl (by kernel_rfl) (by kernel_rfl) (by kernel_rfl) (fun _ _ _ h => h) (Or.inl ⟨by kernel_rfl, ?hax11⟩) (by assumption) ?rax11
              case hax11 => (intro w hSw; (try dsimp only at hSw); go_simp; try with_reducible rfl)
              try simp only [Act.put, List.getElem_toArray, List.getElem_cons_zero, List.getElem_cons_succ, List.setIfInBounds_toArray, List.set_cons_zero, List.set_cons_succ]
              refine wpAnyH_take (i := 11) (v := ?vax12) rfl (by kernel_rfl) (by kernel_rfl) (by kernel_rfl) (fun _ _ _ h => h) (Or.inl ⟨by kernel_rfl, ?hax12⟩) (by assumption) ?rax12
              case hax12 => (intro w hSw; (try dsimp only at hSw); go_simp; try with_reducible rfl)
              try simp only [Act.put, List.getElem_toArray, List.getElem_cons_zero, List.getElem_cons_succ, List.setIfInBounds_toArray, List.set_cons_zero, List.set_cons_succ]
              refine wpAnyH_take (i := 12) (v := ?vax13) rfl (by kernel_rfl) (by kernel_rfl) (by kernel_rfl) (fun _ _ _ h => h) (Or.inl ⟨by kernel_rfl, ?hax13⟩) (by assumption) ?rax13
              case hax13 => (intro w hSw; (try dsimp only at hSw); go_simp; try with_reducible rfl)
              try simp only [Act.put, List.getElem_toArray, List.getElem_cons_zero, List.getElem_cons_succ, List.setIfInBounds_toArray, List.set_cons_zero, List.set_cons_succ]
              refine wpAnyH_take (i := 13) (v := ?vax14) rfl (by kernel_rfl) (by kernel_rfl) (by kernel_rfl) (fun _ _ _ h => h) (Or.inl ⟨by kernel_rfl, ?hax14⟩) (by assumption) ?rax14
              case hax14 => (intro w hSw; (try dsimp only at hSw); go_simp; try with_reducible rfl)
              try simp only [Act.put, List.getElem_toArray, List.getElem_cons_zero, List.getElem_cons_succ, List.setIfInBounds_toArray, List.set_cons_zero, List.set_cons_succ]
              refine wpAnyH_take (i := 14) (v := ?vax15) rfl (by kernel_rfl) (by kernel_rfl) (by kernel_rfl) (fun _ _ _ h => h) (Or.inl ⟨by kernel_rfl, ?hax15⟩) (by assumption) ?rax15
              case hax15 => (intro w hSw; (try dsimp only at hSw); go_simp; try with_reducible rfl)
              try simp only [Act.put, List.getElem_toArray, List.getElem_cons_zero, List.getElem_cons_succ, List.setIfInBounds_toArray, List.set_cons_zero, List.set_cons_succ]
              refine wpAnyH_take (i := 15) (v := ?vax16) rfl (by kernel_rfl) (by kernel_rfl) (by kernel_rfl) (fun _ _ _ h => h) (Or.inl ⟨by kernel_rfl, ?hax16⟩) (by assumption) ?rax16
              case hax16 => (intro w hSw; (try dsimp only at hSw); go_simp; try with_reducible rfl)
              try simp only [Act.put, List.getElem_toArray, List.getElem_cons_zero, List.getElem_cons_succ, List.setIfInBounds_toArray, List.set_cons_zero, List.set_cons_succ]
              refine wpAnyH_take (i := 16) (v := ?vax17) rfl (by kernel_rfl) (by kernel_rfl) (by kernel_rfl) (fun _ _ _ h => h) (Or.inl ⟨by kernel_rfl, ?hax17⟩) (by assumption) ?rax17
              case hax17 => (intro w hSw; (try dsimp only at hSw); go_simp; try with_reducible rfl)
              try simp only [Act.put, List.getElem_toArray, List.getElem_cons_zero, List.getElem_cons_succ, List.setIfInBounds_toArray, List.set_cons_zero, List.set_cons_succ]
              refine wpAnyH_take (i := 17) (v := .bool false) rfl (by kernel_rfl) (by kernel_rfl) (by kernel_rfl) (fun _ _ _ h => h) (Or.inl ⟨by kernel_rfl, ?hax18⟩) (by assumption) ?rax18
              case hax18 => (intro w hSw; (try dsimp only at hSw); go_simp; try with_reducible rfl)
              try simp only [Act.put, List.getElem_toArray, List.getElem_cons_zero, List.getElem_cons_succ, List.setIfInBounds_toArray, List.set_cons_zero, List.set_cons_succ]
              refine wpAnyH_take (i := 18) (v := .bool false) rfl (by kernel_rfl) (by kernel_rfl) (by kernel_rfl) (fun _ _ _ h => h) (Or.inl ⟨by kernel_rfl, ?hax19⟩) (by assumption) ?rax19
              case hax19 => (intro w hSw; (try dsimp only at hSw); go_simp; try with_reducible rfl)
              try simp only [Act.put, List.getElem_toArray, List.getElem_cons_zero, List.getElem_cons_succ, List.setIfInBounds_toArray, List.set_cons_zero, List.set_cons_succ]
              refine wpAnyH_take (i := 19) (v := .bool false) rfl (by kernel_rfl) (by kernel_rfl) (by kernel_rfl) (fun _ _ _ h => h) (Or.inl ⟨by kernel_rfl, ?hax20⟩) (by assumption) ?rax20
              case hax20 => (intro w hSw; (try dsimp only at hSw); go_simp; try with_reducible rfl)
              try simp only [Act.put, List.getElem_toArray, List.getElem_cons_zero, List.getElem_cons_succ, List.setIfInBounds_toArray, List.set_cons_zero, List.set_cons_succ]
              refine wpAnyH_take (i := 20) (v := .bool false) rfl (by kernel_rfl) (by kernel_rfl) (by kernel_rfl) (fun _ _ _ h => h) (Or.inl ⟨by kernel_rfl, ?hax21⟩) (by assumption) ?rax21
              case hax21 => (intro w hSw; (try dsimp only at hSw); go_simp; try with_reducible rfl)
              try simp only [Act.put, List.getElem_toArray, List.getElem_cons_zero, List.getElem_cons_succ, List.setIfInBounds_toArray, List.set_cons_zero, List.set_cons_succ]
              refine wpAnyH_take (i := 21) (v := ?vax22) rfl (by kernel_rfl) (by kernel_rfl) (by kernel_rfl) (fun _ _ _ h => h) (Or.inl ⟨by kernel_rfl, ?hax22⟩) (by assumption) ?rax22
              case hax22 => (intro w hSw; (try dsimp only at hSw); go_simp; try with_reducible rfl)
              try simp only [Act.put, List.getElem_toArray, List.getElem_cons_zero, List.getElem_cons_succ, List.setIfInBounds_toArray, List.set_cons_zero, List.set_cons_succ]
              refine wpAnyH_take (i := 22) (v := ?vax23) rfl (by kernel_rfl) (by kernel_rfl) (by kernel_rfl) (fun _ _ _ h => h) (Or.inl ⟨by kernel_rfl, ?hax23⟩) (by assumption) ?rax23
              case hax23 => (intro w hSw; (try dsimp only at hSw); go_simp; try with_reducible rfl)
              try simp only [Act.put, List.getElem_toArray, List.getElem_cons_zero, List.getElem_cons_succ, List.setIfInBounds_toArray, List.set_cons_zero, List.set_cons_succ]
              refine wpAnyH_take (i := 23) (v := .bool false) rfl (by kernel_rfl) (by kernel_rfl) (by kernel_rfl) (fun _ _ _ h => h) (Or.inl ⟨by kernel_rfl, ?hax24⟩) (by assumption) ?rax24
              case hax24 => (intro w hSw; (try dsimp only at hSw); go_simp; try with_reducible rfl)
              try simp only [Act.put, List.getElem_toArray, List.getElem_cons_zero, List.getElem_cons_succ, List.setIfInBounds_toArray, List.set_cons_zero, List.set_cons_succ]
              refine wpAnyH_take (i := 24) (v := .bool false) rfl (by kernel_rfl) (by kernel_rfl) (by kernel_rfl) (fun _ _ _ h => h) (Or.inl ⟨by kernel_rfl, ?hax25⟩) (by assumption) ?rax25
              case hax25 => (intro w hSw; (try dsimp only at hSw); go_simp; try with_reducible rfl)
              try simp only [Act.put, List.getElem_toArray, List.getElem_cons_zero, List.getElem_cons_succ, List.setIfInBounds_toArray, List.set_cons_zero, List.set_cons_succ]
              refine wpAnyH_take (i := 25) (v := .bool false) rfl (by kernel_rfl) (by kernel_rfl) (by kernel_rfl) (fun _ _ _ h => h) (Or.inl ⟨by kernel_rfl, ?hax26⟩) (by assumption) ?rax26
              case hax26 => (intro w hSw; (try dsimp only at hSw); go_simp; try with_reducible rfl)
              try simp only [Act.put, List.getElem_toArray, List.getElem_cons_zero, List.getElem_cons_succ, List.setIfInBounds_toArray, List.set_cons_zero, List.set_cons_succ]
              refine wpAnyH_take (i := 26) (v := ?vax27) rfl (by kernel_rfl) (by kernel_rfl) (by kernel_rfl) (fun _ _ _ h => h) (Or.inl ⟨by kernel_rfl, ?hax27⟩) (by assumption) ?rax27
              case hax27 => (intro w hSw; (try dsimp only at hSw); go_simp; try with_reducible rfl)
              try simp only [Act.put, List.getElem_toArray, List.getElem_cons_zero, List.getElem_cons_succ, List.setIfInBounds_toArray, List.set_cons_zero, List.set_cons_succ]
              refine wpAnyH_take (i := 27) (v := ?vax28) rfl (by kernel_rfl) (by kernel_rfl) (by kernel_rfl) (fun _ _ _ h => h) (Or.inl ⟨by kernel_rfl, ?hax28⟩) (by assumption) ?rax28
              case hax28 => (intro w hSw; (try dsimp only at hSw); go_simp; try with_reducible rfl)
              try simp only [Act.put, List.getElem_toArray, List.getElem_cons_zero, List.getElem_cons_succ, List.setIfInBounds_toArray, List.set_cons_zero, List.set_cons_succ]
              refine wpAnyH_take (i := 28) (v := ?vax29) rfl (by kernel_rfl) (by kernel_rfl) (by kernel_rfl) (fun _ _ _ h => h) (Or.inl ⟨by kernel_rfl, ?hax29⟩) (by assumption) ?rax29
              case hax29 => (intro w hSw; (try dsimp only at hSw); go_simp; try with_reducible rfl)
              try simp only [Act.put, List.getElem_toArray, List.getElem_cons_zero, List.getElem_cons_succ, List.setIfInBounds_toArray, List.set_cons_zero, List.set_cons_succ]
              refine wpAnyH_take (i := 29) (v := .bool false) rfl (by kernel_rfl) (by kernel_rfl) (by kernel_rfl) (fun _ _ _ h => h) (Or.inl ⟨by kernel_rfl, ?hax30⟩) (by assumption) ?rax30
              case hax30 => (intro w hSw; (try dsimp only at hSw); go_simp; try with_reducible rfl)
              try simp only [Act.put, List.getElem_toArray, List.getElem_cons_zero, List.getElem_cons_succ, List.setIfInBounds_toArray, List.set_cons_zero, List.set_cons_succ]
              refine wpAnyH_take (i := 30) (v := .bool false) rfl (by kernel_rfl) (by kernel_rfl) (by kernel_rfl) (fun _ _ _ h => h) (Or.inl ⟨by kernel_rfl, ?hax31⟩) (by assumption) ?rax31
              case hax31 => (intro w hSw; (try dsimp only at hSw); go_simp; try with_reducible rfl)
              try simp only [Act.put, List.getElem_toArray, List.getElem_cons_zero, List.getElem_cons_succ, List.setIfInBounds_toArray, List.set_cons_zero, List.set_cons_succ]
              refine wpAnyH_done (by kernel_rfl) ?_ _
              go_wp2_with fail
              go_roundw
              case rel => exact ⟨kk + 1, hkl, by go_num, (HX3.out.trans (Ext.alloc wr _)).drew⟩
              case measure => simp [intOf]; omega
            · go_wp2_with fail
              go_roundw
              case rel => exact ⟨j2 + 1, hlt2, by go_num, HX3.out⟩
              case measure => simp [intOf]; omega
        · go_wp2_with fail
          go_ret
          exact ⟨rfl, HKP.out.trans (HX2.out.kp _)⟩
end Go.Proofs.Ythdmoghooaccgaa
