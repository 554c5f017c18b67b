/-
  Take of the statements' Book, by a contract: the lists of some values more in the book, written over.
-/
import Derived.Test.YtbpbkihcfdnphaaDoorVBook
import Derived.Test.YtbpbkihcfdnphaaDoorFace
namespace Go.Proofs.YtbpbkihcfdnphaaDoor
open Go.RowKit
/-- What the first loop of Take holds: the lists of the values so far. -/
def BtSt (w : World) (bss : List (List Nat)) (ts : List T) (j : Nat) (l : Value) (ns : List (Nat × Nat × Nat)) (wr : World) : Prop :=
  wr.ownsRow w.heap.size 61 1 l ns.length (ns.map sV) ∧ (∀ r ∈ ns, r.1 ∈ (bss.take j).flatten) ∧ (ns.map (·.1)).Nodup ∧ LsOk w ns ∧ ns.length ≤ T.sizeL (ts.take j) ∧ Ext w wr
/-- What the second one holds. -/
def BkSt (W1 : World) (b base : Nat) (lv nv kv : Value) (rs : List (Nat × Nat × Nat)) (sz : Int) (ns : List (Nat × Nat × Nat)) (j : Nat) (lv' nv' : Value) (rs' : List (Nat × Nat × Nat)) (sz' : Int) (wr : World) : Prop :=
  VB wr b base lv' nv' kv rs' sz' ∧ sz ≤ sz' ∧ sz' ≤ sz + 200000 * j ∧ Kp (fun q => ¬ VBk b lv nv rs q ∧ q ∉ (ns.take j).map (·.1)) W1 wr ∧ ∀ q, VBk b lv' nv' rs' q → VBk b lv nv rs q ∨ q ∈ (ns.take j).map (·.1) ∨ W1.heap.size ≤ q
theorem rowS_at {w : World} {base : Nat} {a : Option Addr} {c : Nat} {ns : List (Nat × Nat × Nat)} (h : w.ownsRow base 61 1 (.slice a ns.length c) ns.length (ns.map sV)) {j : Nat} (hj : j < ns.length) : ∃ g, a = some ⟨g, 0, none⟩ ∧ base ≤ g ∧ w.cell? ⟨g, j, none⟩ = some (sV ns[j]) ∧ ∃ cur, w.heap[g]? = some (.cells cur 61) := by
  rcases h.2 with ⟨_, h0⟩ | ⟨g, cap, cur, e0, hb, hc, h1, h2, h3, h4⟩
  · omega
  · cases e0
    refine ⟨g, rfl, hb, ?_, cur, hc⟩
    have e : (cur.toList.take (ns.length * 1))[j]? = some (sV ns[j]) := by rw [h4]; simp [hj]
    rw [List.getElem?_take_of_lt (by omega)] at e
    exact cell_of hc (by simpa using e)
set_option maxRecDepth 100000 in
set_option maxHeartbeats 8000000 in
theorem vtake_any (w : World) (b base : Nat) (lv nv kv : Value) (rs : List (Nat × Nat × Nat)) (sz : Int) (a : Option Addr) (c : Nat) (ts : List T) (bss : List (List Nat)) (h : VB w b base lv nv kv rs sz) (hbs : base ≤ w.heap.size) (ht : VVals w a ts bss) (hnd : bss.flatten.Nodup) (hba : ∀ q ∈ bss.flatten, base ≤ q ∧ ¬ VBk b lv nv rs q) (hts : T.sizeL ts ≤ 1000000) (ht1 : ∀ t ∈ ts, t.size ≤ 65536) (hsz : 0 ≤ sz) (hsz' : sz ≤ 1000000000000000000) :
    Calls Tryd.prog 23 #[.pointer (some ⟨b, 0, none⟩), .slice a ts.length c] w fun e w' => (∃ v, e = .returned v) ∧ TakeV w b base lv nv kv rs sz bss.flatten w' := by
  have H := hid h
  have HT := hid ht
  have HND := hid hnd
  have HBA := hid hba
  have HTS := hid hts
  have HT1 := hid (show ∀ t ∈ ts, t.size ≤ 65536 from ht1)
  have htl : (ts.length : Int) ≤ 1000000 := by have := T.sizeL_len ts; omega
  clear h ht hnd hba hts ht1
  go_enter Tryd.func23, Tryd.ntmps23
  go_wp2_with fail
  go_loopw [4, 5] (fun l i wr => ∃ (j : Nat) (ns : List (Nat × Nat × Nat)), j ≤ ts.length ∧ i = .int .i64 j ∧ BtSt w bss ts j l ns wr) (fun _ i _ => ts.length - (intOf i).toNat)
  case atStart => exact ⟨0, [], Nat.zero_le _, rfl, World.ownsRow_nil _ _ _ _, fun r hr => absurd hr (by simp), by simp, fun r hr => absurd hr (by simp), by simp, Ext.refl _⟩
  case round =>
    obtain ⟨j, ns, hj, rfl, hst⟩ := hrel
    have HSJ := hid hst
    obtain ⟨la, lc, rfl⟩ := ownsRow_slice hst.1
    clear hst
    by_cases hlt : j < ts.length
    · have hlt' : (j : Int) < ts.length := by omega
      obtain ⟨hbl, h0 | ⟨pb, cs, rfl, hpb, hpn, hc⟩⟩ := HT.out
      · rw [h0] at hlt; exact absurd hlt (by simp)
      obtain ⟨u, bs, d, e0, hbj, hown⟩ := hc j hlt
      have hpw := HSJ.out.2.2.2.2.2.block hpb
      have m0 := cell_of hpw e0
      have hpl := lt_of_block hpw
      have HLT := hid (show ∀ q, (Value.slice la ns.length lc).ownBlock = some q → w.heap.size ≤ q from fun q hq => (ownsRow_block HSJ.out.1 hq).1)
      have HOW := hid hown
      have HBJ := hid hbj
      have HCH := hid (show Calls Tryd.prog 39 #[u, .slice la ns.length lc] wr (ListsR wr w.heap.size (.slice la ns.length lc) ns ts[j].size bs) from by
        rcases hown with hown | ⟨rfl, rfl⟩
        · exact lists_any d _ ts[j] bs wr w.heap.size _ ns (hown.keep (HSJ.out.2.2.2.2.2.kp _)) (nodup_at HND.out hbj) (HT1.out _ (List.getElem_mem hlt)) HSJ.out.1 (fun q hq hqb => by have h1 := HLT.out q hq; have h2 := hown.lt q hqb; omega) HSJ.out.2.2.2.2.2.size (by
            have h1 := HSJ.out.2.2.2.2.1
            have h2 := T.sizeL_take ts j hlt
            have h3 := T.sizeL_split ts (j + 1)
            have := HTS.out
            omega)
        · exact lists_nil wr w.heap.size _ ns _ _ HSJ.out.1)
      clear hown hbj hc hpb hpn e0 hpw
      go_wp2_with fail
      refine HCH.out.mono ?_
      rintro e w2 ⟨v', rs', rfl, hrow2, hm2, hnd2, hok2, hl2, hkp2, hown2⟩
      have HR2 := hid (And.intro hrow2 (And.intro hm2 (And.intro hnd2 (And.intro hok2 (And.intro hl2 (And.intro hkp2 hown2))))))
      obtain ⟨a3, c3, rfl⟩ := ownsRow_slice hrow2
      generalize hL2 : (ns ++ rs').length = L2 at HR2 ⊢
      have HL2 := hid hL2
      clear hL2 hrow2 hm2 hnd2 hok2 hl2 hkp2 hown2 HCH m0
      go_wp2_with fail
      go_roundw
      case rel =>
        obtain ⟨hrow2, hm2, hnd2, hok2, hl2, hkp2, hown2⟩ := HR2.out
        have hx := HSJ.out.2.2.2.2.2
        refine ⟨j + 1, ns ++ rs', hlt, by go_num, ?_, fun r hr => ?_, ?_, fun r hr => ?_, ?_, ?_⟩
        · rw [HL2.out]; exact hrow2
        · rcases List.mem_append.1 hr with hr | hr
          · exact (take_flat HBJ.out).2 (.inl (HSJ.out.2.1 r hr))
          · exact (take_flat HBJ.out).2 (.inr (hm2 r hr))
        · rw [List.map_append, List.nodup_append]
          refine ⟨HSJ.out.2.2.1, hnd2, fun a ha c hc e => ?_⟩
          obtain ⟨r, hr, rfl⟩ := List.mem_map.1 ha
          obtain ⟨r', hr', rfl⟩ := List.mem_map.1 hc
          exact not_before HND.out HBJ.out (hm2 r' hr') (by rw [← e]; exact HSJ.out.2.1 r hr)
        · rcases List.mem_append.1 hr with hr | hr
          · exact HSJ.out.2.2.2.1 r hr
          · obtain ⟨h1, h2, h3, cs', h4, h5⟩ := hok2 r hr
            exact ⟨h1, h2, h3, cs', by rw [← h4]; exact ((hx.kp (fun _ => True)).block r.1 (HOW.out.lt _ (hm2 r hr)) trivial).symm, h5⟩
        · have h1 := HSJ.out.2.2.2.2.1
          have h2 := T.sizeL_take ts j hlt
          rw [List.length_append]
          omega
        · exact Kp.ext (K := fun q => q < w.heap.size) ((hx.kp (fun q => q < w.heap.size)).chain hkp2 (fun q hq _ e => by have := HLT.out q e.symm; omega)) (fun k hk => hk)
      case measure => simp [intOf]; omega
    · have hje : j = ts.length := by omega
      subst hje
      have hbe : (bss.take ts.length).flatten = bss.flatten := by rw [← HT.out.1, List.take_length]
      have HM := hid (show ∀ r ∈ ns, r.1 ∈ bss.flatten from fun r hr => by rw [← hbe]; exact HSJ.out.2.1 r hr)
      have HOK := hid HSJ.out.2.2.2.1
      have hnl : (ns.length : Int) ≤ 1000000 := by
        have h1 := HSJ.out.2.2.2.2.1
        rw [List.take_length] at h1
        have := HTS.out
        omega
      have HX := hid HSJ.out.2.2.2.2.2
      have HROW := hid HSJ.out.1
      have HN := hid (show ∀ r ∈ ns, r.1 < w.heap.size ∧ base ≤ r.1 ∧ ¬ VBk b lv nv rs r.1 from fun r hr => by
        have hm := HM.out r hr
        obtain ⟨_, _, _, cs, hcs, _⟩ := HOK.out r hr
        exact ⟨lt_of_block hcs, (HBA.out _ hm).1, (HBA.out _ hm).2⟩)
      have HNS := hid (show (ns.map (·.1)).Nodup from HSJ.out.2.2.1)
      have HMT := hid (show ∀ (j q : Nat), q ∈ (ns.take j).map (·.1) → q ∈ bss.flatten from fun j q hq => by
        obtain ⟨r, hr, rfl⟩ := List.mem_map.1 hq
        exact HM.out r (List.mem_of_mem_take hr))
      obtain ⟨W1, hW1⟩ : ∃ W1, W1 = wr := ⟨wr, rfl⟩
      rw [← hW1] at HX HROW
      clear HSJ hbe HT
      go_wp2_with fail
      go_loopw [6] (fun i wq => ∃ (j : Nat) (lv' nv' : Value) (rs' : List (Nat × Nat × Nat)) (sz' : Int), j ≤ ns.length ∧ i = .int .i64 j ∧ BkSt W1 b base lv nv kv rs sz ns j lv' nv' rs' sz' wq) (fun i _ => ns.length - (intOf i).toNat)
      case atStart =>
        subst hW1
        exact ⟨0, lv, nv, rs, sz, Nat.zero_le _, rfl, H.out.keep (HX.out.kp (fun _ => True)) (fun _ _ => trivial), Int.le_refl _, by omega, Kp.refl _ _, fun q hq => .inl hq⟩
      case round =>
        clear hW1
        obtain ⟨j, lv2, nv2, rs2, sz2, hj, rfl, hst⟩ := hrel
        have HSJ := hid hst
        clear hst
        by_cases hlt : j < ns.length
        · have hlt' : (j : Int) < ns.length := by omega
          obtain ⟨L, rfl, hLb, hLc, lcur, hLh⟩ := rowS_at HROW.out hlt
          obtain ⟨⟨g, len, cap⟩, hgl⟩ : ∃ r, ns[j] = r := ⟨_, rfl⟩
          have hgm : (g, len, cap) ∈ ns := hgl ▸ List.getElem_mem hlt
          rw [hgl] at hLc
          obtain ⟨hg1, hg2, hg3⟩ := HN.out _ hgm
          obtain ⟨hcp, hlc, hle, cs0, hcs0, hcz⟩ := HOK.out _ hgm
          simp only at hg1 hg2 hg3 hle hcp hlc hcs0 hcz
          obtain ⟨hTB, hsa, hsb, hkp, hbk⟩ := HSJ.out
          have HBK := hid hbk
          have hgt : g ∉ (ns.take j).map (·.1) := fun hm => by
            have h1 := HNS.out
            rw [← List.take_append_drop j ns, List.map_append, List.nodup_append] at h1
            refine h1.2.2 g hm g (List.mem_map.2 ⟨(g, len, cap), ?_, rfl⟩) rfl
            rw [List.drop_eq_getElem_cons hlt, hgl]
            exact List.mem_cons_self
          have hW1s := HX.out.size
          have hGN : ¬ VBk b lv2 nv2 rs2 g := fun e => by
            rcases hbk g e with h | h | h
            · exact hg3 h
            · exact hgt h
            · omega
          have hLold : ¬ VBk b lv nv rs L := fun e => by have := H.out.lt L e; omega
          have hLnt : L ∉ (ns.take j).map (·.1) := fun hm => by
            obtain ⟨r, hr, e⟩ := List.mem_map.1 hm
            have := (HN.out r (List.mem_of_mem_take hr)).1
            omega
          have hLl := lt_of_block hLh
          have hPN : ¬ VBk b lv2 nv2 rs2 L := fun e => by
            rcases hbk L e with h | h | h
            · exact hLold h
            · exact hLnt h
            · omega
          have p0 := hkp.cell hLc ⟨hLold, hLnt⟩
          have HLH := hid (hkp.block' hLh ⟨hLold, hLnt⟩)
          have HKP := hid hkp
          have HGN := hid hGN
          have HPN := hid hPN
          have HTB := hid hTB
          have hszr : wr.heap.size ≥ W1.heap.size := hkp.size
          have hLr : L < wr.heap.size := by omega
          have HG := hid (hkp.block' ((HX.out.block hcs0)) ⟨hg3, hgt⟩)
          obtain ⟨lb, lc2, rfl⟩ := ownsRow_slice hTB.rowL
          obtain ⟨nb, nc, rfl⟩ := ownsRow_slice hTB.rowN
          obtain ⟨b0, b1, b2, b3⟩ := four_of hTB.box
          have hblt := lt_of_block hTB.box
          have hrl : (rs2.length : Int) ≤ 209715 := by have := hTB.few; omega
          have hsj : (200000 : Int) * j ≤ 200000 * 1000000 := by omega
          have f2 := frozen_of (i := 2) hTB.box
          have hpbb : L ≠ b := fun e => HPN.out (.inl e)
          obtain ⟨mn, hmn⟩ : ∃ mn : Int, mn = min (cap : Int) ((len : Int) + 70000) := ⟨_, rfl⟩
          have hmn0 : 0 ≤ mn := by omega
          have hmn1 : mn ≤ 135536 := by omega
          have hs20 : 0 ≤ sz2 := by omega
          have hs21 : sz2 ≤ 1000000200000000000 := by omega
          have HMN := hid hmn
          have SETS := hid (show ∀ wx : World, wx.heap = (wr.setCell ⟨b, 2, none⟩ (.int .i64 (sz2 + 10 + mn))).heap → wx.os = wr.os → wx.tape = wr.tape → wx.output = wr.output → Kp (· ≠ b) wr wx ∧ wx.heap[b]? = some (.cells #[.slice lb rs2.length lc2, .slice nb rs2.length nc, .int .i64 (sz2 + 10 + mn), kv] 51) from fun wx e1 e2 e3 e4 => by
            have k := Kp.set (K := (· ≠ b)) wr b 2 (.int .i64 (sz2 + 10 + mn)) (fun h => h rfl)
            refine ⟨⟨e2, e3, e4, by rw [e1]; exact k.size, fun q hq hK => by rw [e1]; exact k.block q hq hK⟩, by rw [e1]; exact set_at hTB.box 2 _⟩)
          clear hTB hbk hkp hLc hLh hGN hPN hgm hgt hLnt hLold hcs0 hmn
          go_upto_region 8 with fail
          go_cut [] from 20 to 100 (fun wx => Kp (· ≠ b) wr wx ∧ wx.heap[b]? = some (.cells #[.slice lb rs2.length lc2, .slice nb rs2.length nc, .int .i64 (sz2 + 10 + mn), kv] 51))
          case first =>
            have hset := SETS.out
            by_cases hmc : (cap : Int) ≤ (len : Int) + 70000
            · have hme : mn = cap := by have := HMN.out; omega
              subst hme
              go_region
              all_goals
                go_wp2_with fail
                go_meet
                case rel => exact hset _ rfl rfl rfl rfl
            · have hme : mn = (len : Int) + 70000 := by have := HMN.out; omega
              subst hme
              go_region
              all_goals
                go_wp2_with fail
                go_meet
                case rel => exact hset _ rfl rfl rfl rfl
          case rest =>
          obtain ⟨hk1, hb1⟩ := hcut
          obtain ⟨V1, rfl⟩ : ∃ V1, V1 = wc := ⟨wc, rfl⟩
          have HNE := hid HTB.out.ne
          have HP1 := hid (show VB V1 b base (.slice lb rs2.length lc2) (.slice nb rs2.length nc) kv rs2 (sz2 + 10 + mn) from
            ⟨hb1, ownsRow_keep HTB.out.rowL hk1 (fun q hq => HNE.out.1 q hq), ownsRow_keep HTB.out.rowN hk1 (fun q hq => HNE.out.2.1 q hq), fun i hi => (HTB.out.full i hi).keep hk1 (HNE.out.2.2.1 _ (List.mem_map.2 ⟨_, List.getElem_mem hi, rfl⟩)), HTB.out.nodup, HTB.out.few, by have := HTB.out.fit; omega⟩)
          have HK1 := hid hk1
          have hs1 := hk1.size
          have HPB1 := hid (hk1.block' HLH.out hpbb)
          have hgb' : g ≠ b := fun e => HGN.out (.inl e)
          have HG1 := hid (hk1.block' HG.out hgb')
          have HTK := hid (show ∀ q, q ∈ (ns.take j).map (·.1) → q ∈ (ns.take (j + 1)).map (·.1) from fun q hq => by
            rw [List.take_add_one, List.map_append]; exact List.mem_append_left _ hq)
          have HTG := hid (show g ∈ (ns.take (j + 1)).map (·.1) by
            rw [List.take_add_one, List.getElem?_eq_getElem hlt, hgl]; simp)
          have HR0 := hid (show BkSt W1 b base lv nv kv rs sz ns (j + 1) (.slice lb rs2.length lc2) (.slice nb rs2.length nc) rs2 (sz2 + 10 + mn) V1 from ⟨HP1.out, by omega, by push_cast; omega, (HKP.out.mono (fun q _ hq => ⟨hq.1, fun e => hq.2 (HTK.out q e)⟩)).trans (hk1.mono (fun q _ hq e => hq.1 (.inl e))), fun q hq => (HBK.out q hq).imp id (Or.imp (HTK.out q) id)⟩)
          have p1 := hk1.cell p0 hpbb
          clear hk1 hb1 SETS b0 b1 b2 b3 f2 p0
          obtain ⟨b0, b1, b2, b3⟩ := four_of HP1.out.box
          by_cases hs2 : 2097152 < sz2 + 10 + mn
          · have hs2' : decide (2097152 < sz2 + 10 + mn) = true := decide_eq_true hs2
            go_wp2_with fail
            (try simp only [Exit.inBlock, Exit.then])
            refine bodyPost_ret (results_none rfl _ _ _) rfl ?_
            obtain ⟨h1, h2, h3, h4, h5⟩ := HR0.out
            exact ⟨⟨_, rfl⟩, _, _, rs2, _, h1, h2, by push_cast at h3; omega, (HX.out.kp _).trans (h4.mono (fun q _ hq => ⟨hq.1, fun e => hq.2 (HMT.out _ q e)⟩)), fun q hq => (h5 q hq).imp id (Or.imp (HMT.out _ q) (fun e => by omega))⟩
          have hs2' : decide (2097152 < sz2 + 10 + mn) = false := decide_eq_false hs2
          have f0 := frozen_of (i := 0) HP1.out.box
          have hbl := lt_of_block HP1.out.box
          have hpl := lt_of_block HPB1.out
          obtain ⟨i0, hi0, hz0, hz1, hz2⟩ := info_parts listInfo
          have hbW : base ≤ V1.heap.size := by omega
          have HK5 := hid (show ∀ (w9 : World) (o : Obj), (V1.alloc o).drew.grownBy w9 (Value.slice lb rs2.length lc2).ownBlock → Kp (fun q => some q ≠ (Value.slice lb rs2.length lc2).ownBlock) V1 w9 from fun w9 o hg => ((Ext.alloc V1 o).drew.kp _).trans ⟨hg.os, hg.tape, hg.output, hg.size, fun q hq hne => hg.block q hq hne⟩)
          go_upto_region 10 with fail
          go_cut [] from 20 to 100 (fun wx => ∃ lb2 lc3, wx.heap[b]? = some (.cells #[.slice lb2 (rs2.length + 1) lc3, .slice nb rs2.length nc, .int .i64 (sz2 + 10 + mn), kv] 51) ∧ wx.ownsRow base 61 1 (.slice lb2 (rs2.length + 1) lc3) (rs2.length + 1) (rs2.map sV ++ [.slice (some ⟨g, 0, none⟩) len cap]) ∧ Kp (fun q => q ≠ b ∧ (Value.slice lb rs2.length lc2).ownBlock ≠ some q) V1 wx ∧ ((Value.slice lb2 (rs2.length + 1) lc3).ownBlock = (Value.slice lb rs2.length lc2).ownBlock ∨ ∃ q, (Value.slice lb2 (rs2.length + 1) lc3).ownBlock = some q ∧ V1.heap.size ≤ q))
          case first =>
            refine wp_region_held_drew (S := fun W' => W'.cell? ⟨L, j, none⟩ = some (.slice (some ⟨g, 0, none⟩) len cap)) (by kernel_rfl) (p1) (fun hHeld => ?_)
            refine wpAnyH_take (i := 0) (v := ?vdx1) rfl (by kernel_rfl) (by kernel_rfl) (by kernel_rfl) (fun _ _ _ h => h) (Or.inl ⟨by kernel_rfl, ?hdx1⟩) (by assumption) ?rdx1
            case hdx1 => (intro w hSw; (try dsimp only at hSw); go_simp; try with_reducible rfl)
            try simp only [Act.put, List.getElem_toArray, List.getElem_cons_zero, List.setIfInBounds_toArray, List.set_cons_zero, List.set_cons_succ]
            refine wpAnyH_take (i := 1) (v := ?vdx2) rfl (by kernel_rfl) (by kernel_rfl) (by kernel_rfl) (fun _ _ _ h => h) (Or.inl ⟨by kernel_rfl, ?hdx2⟩) (by assumption) ?rdx2
            case hdx2 => (intro w hSw; (try dsimp only at hSw); go_simp; try with_reducible rfl)
            try simp only [Act.put, List.getElem_toArray, List.getElem_cons_zero, List.getElem_cons_succ, List.setIfInBounds_toArray, List.set_cons_zero, List.set_cons_succ]
            refine wpAnyH_take (i := 2) (v := ?vdx3) rfl (by kernel_rfl) (by kernel_rfl) (by kernel_rfl) (fun _ _ _ h => h) (Or.inl ⟨by kernel_rfl, ?hdx3⟩) (by assumption) ?rdx3
            case hdx3 => (intro w hSw; (try dsimp only at hSw); go_simp; try with_reducible rfl)
            try simp only [Act.put, List.getElem_toArray, List.getElem_cons_zero, List.getElem_cons_succ, List.setIfInBounds_toArray, List.set_cons_zero, List.set_cons_succ]
            refine wpAnyH_take (i := 3) (v := ?vdx4) rfl (by kernel_rfl) (by kernel_rfl) (by kernel_rfl) (fun _ _ _ h => h) (Or.inl ⟨by kernel_rfl, ?hdx4⟩) (by assumption) ?rdx4
            case hdx4 => (intro w hSw; (try dsimp only at hSw); go_simp; try with_reducible rfl)
            try simp only [Act.put, List.getElem_toArray, List.getElem_cons_zero, List.getElem_cons_succ, List.setIfInBounds_toArray, List.set_cons_zero, List.set_cons_succ]
            refine wpAnyH_take (i := 5) (v := ?vdx5) rfl (by kernel_rfl) (by kernel_rfl) (by kernel_rfl) (fun _ _ _ h => h) (Or.inl ⟨by kernel_rfl, ?hdx5⟩) (by assumption) ?rdx5
            case hdx5 => (intro w hSw; (try dsimp only at hSw); go_simp; try with_reducible rfl)
            try simp only [Act.put, List.getElem_toArray, List.getElem_cons_zero, List.getElem_cons_succ, List.setIfInBounds_toArray, List.set_cons_zero, List.set_cons_succ]
            refine wpAnyH_take (i := 6) (v := ?vdx6) rfl (by kernel_rfl) (by kernel_rfl) (by kernel_rfl) (fun _ _ _ h => h) (Or.inl ⟨by kernel_rfl, ?hdx6⟩) (by assumption) ?rdx6
            case hdx6 => (intro w hSw; (try dsimp only at hSw); go_simp; try with_reducible rfl)
            try simp only [Act.put, List.getElem_toArray, List.getElem_cons_zero, List.getElem_cons_succ, List.setIfInBounds_toArray, List.set_cons_zero, List.set_cons_succ]
            refine wpAnyH_take (i := 7) (v := ?vdx7) rfl (by kernel_rfl) (by kernel_rfl) (by kernel_rfl) (fun _ _ _ h => h) (Or.inl ⟨by kernel_rfl, ?hdx7⟩) (by assumption) ?rdx7
            case hdx7 => (intro w hSw; (try dsimp only at hSw); go_simp; try with_reducible rfl)
            try simp only [Act.put, List.getElem_toArray, List.getElem_cons_zero, List.getElem_cons_succ, List.setIfInBounds_toArray, List.set_cons_zero, List.set_cons_succ]
            refine wpAnyH_take (i := 8) (v := ?vdx8) rfl (by kernel_rfl) (by kernel_rfl) (by kernel_rfl) (fun _ _ _ h => h) (Or.inl ⟨by kernel_rfl, ?hdx8⟩) (by assumption) ?rdx8
            case hdx8 => (intro w hSw; (try dsimp only at hSw); go_simp; try with_reducible rfl)
            try simp only [Act.put, List.getElem_toArray, List.getElem_cons_zero, List.getElem_cons_succ, List.setIfInBounds_toArray, List.set_cons_zero, List.set_cons_succ]
            refine wpAnyH_ready (rs := [4, 9]) (by kernel_rfl) (by simp) ?_
            refine AllReadyH.cons rfl (fun K hK => ?_) (AllReadyH.cons rfl (fun K hK => ?_) AllReadyH.nil)
            · go_simp
              refine hK.out _ _ (p1) (fun hHeld => ?_)
              clear hK K
              try simp only [Act.put, List.getElem_toArray, List.getElem_cons_zero, List.getElem_cons_succ, List.setIfInBounds_toArray, List.set_cons_zero, List.set_cons_succ]
              refine wpAnyH_ready (rs := [9]) (by kernel_rfl) (by simp) ?_
              refine AllReadyH.cons rfl (fun K hK => ?_) AllReadyH.nil
              go_simp
              refine hK.out _ _ (((Ext.alloc V1 _).kp (fun _ => True)).cell p1 trivial) (fun hHeld => ?_)
              clear hK K
              try simp only [Act.put, List.getElem_toArray, List.getElem_cons_zero, List.getElem_cons_succ, List.setIfInBounds_toArray, List.set_cons_zero, List.set_cons_succ]
              refine wpAnyH_ready (rs := [10]) (by kernel_rfl) (by simp) ?_
              refine AllReadyH.cons rfl (fun K hK => ?_) AllReadyH.nil
              refine step_append_own _ (by rfl) _ _ 47 (by rfl) base 61 i0 (.slice none 0 0) 1 24 Tryd.underlying47 hi0 hz0 hz1 hz2 rfl (by decide) _ rs2.length (rs2.map sV) (by rfl) (ownsRow_keep HP1.out.rowL ((show Ext V1 _ from (by repeat (first | with_reducible exact Ext.refl _ | with_reducible refine Ext.drew ?_ | with_reducible refine Ext.more ?_ _))).kp (fun _ => True)) (fun _ _ => trivial)) ⟨V1.heap.size, 0, none⟩ 1 1 [.slice (some ⟨g, 0, none⟩) len cap] (by rfl) rfl (fun e u he => by match e, he with | 0, he => cases he; exact cell_of (i := 0) (blk0 V1 _) rfl) (by simp [Value.oneCell']) (by unfold maxLen; omega) (by omega) (Nat.le_trans hbW (show Ext V1 _ from (by repeat (first | with_reducible exact Ext.refl _ | with_reducible refine Ext.drew ?_ | with_reducible refine Ext.more ?_ _))).size) ?_
              intro v9 w9 hown9 hgrow9 hat9
              obtain ⟨lb2, lc3, rfl⟩ := ownsRow_slice hown9
              have K9 := HK5.out w9 _ hgrow9
              have hb9 := K9.block' HP1.out.box (fun e => HNE.out.1 b e.symm rfl)
              have y0 := cell_of (i := 0) hb9 rfl
              have y1 := frozen_of (i := 0) hb9
              simp only [List.getElem_toArray, List.getElem_cons_zero] at y0
              show K _ _
              refine hK.out _ _ (K9.cell p1 (fun e => HPN.out (.inr (.inl e.symm)))) (fun hHeld => ?_)
              clear hK K
              try simp only [Act.put, List.getElem_toArray, List.getElem_cons_zero, List.getElem_cons_succ, List.setIfInBounds_toArray, List.set_cons_zero, List.set_cons_succ]
              refine wpAnyH_take (i := 11) (v := ?vex1) rfl (by kernel_rfl) (by kernel_rfl) (by kernel_rfl) (fun _ _ _ h => h) (Or.inl ⟨by kernel_rfl, ?hex1⟩) (by assumption) ?rex1
              case hex1 => (intro w hSw; (try dsimp only at hSw); go_simp; try with_reducible rfl)
              try simp only [Act.put, List.getElem_toArray, List.getElem_cons_zero, List.getElem_cons_succ, List.setIfInBounds_toArray, List.set_cons_zero, List.set_cons_succ]
              refine wpAnyH_take (i := 12) (v := ?vex2) rfl (by kernel_rfl) (by kernel_rfl) (by kernel_rfl) (fun _ _ _ h => h) (Or.inl ⟨by kernel_rfl, ?hex2⟩) (by assumption) ?rex2
              case hex2 => (intro w hSw; (try dsimp only at hSw); go_simp; try with_reducible rfl)
              try simp only [Act.put, List.getElem_toArray, List.getElem_cons_zero, List.getElem_cons_succ, List.setIfInBounds_toArray, List.set_cons_zero, List.set_cons_succ]
              refine wpAnyH_ready (rs := [13]) (by kernel_rfl) (by simp) ?_
              refine AllReadyH.cons rfl (fun K hK => ?_) AllReadyH.nil
              go_simp
              refine hK.out _ _ ((Kp.set (K := (· ≠ b)) w9 b 0 _ (fun h => h rfl)).cell (K9.cell p1 (fun e => HPN.out (.inr (.inl e.symm)))) hpbb) (fun hHeld => ?_)
              clear hK K
              try simp only [Act.put, List.getElem_toArray, List.getElem_cons_zero, List.getElem_cons_succ, List.setIfInBounds_toArray, List.set_cons_zero, List.set_cons_succ]
              refine wpAnyH_done (by kernel_rfl) ?_ _
              go_wp2_with fail
              go_meet
              case rel =>
                have k0 := Kp.set (K := (· ≠ b)) w9 b 0 (.slice lb2 (rs2.length + 1) lc3) (fun h => h rfl)
                refine ⟨lb2, lc3, set_at hb9 0 _, ownsRow_keep hown9 k0 (fun q hq e => ?_), (K9.mono (fun q _ hq e => hq.2 e.symm)).trans (k0.mono (fun q _ hq => hq.1)), hat9.imp id (fun h => ⟨_, h, by simp⟩)⟩
                rcases hat9 with h | h
                · rw [h] at hq; exact HNE.out.1 q hq e
                · rw [h] at hq; cases hq; have e' : _ = b := e; simp at e'; omega
            · go_simp
              refine hK.out _ _ (((Ext.alloc V1 _).kp (fun _ => True)).cell p1 trivial) (fun hHeld => ?_)
              clear hK K
              try simp only [Act.put, List.getElem_toArray, List.getElem_cons_zero, List.getElem_cons_succ, List.setIfInBounds_toArray, List.set_cons_zero, List.set_cons_succ]
              refine wpAnyH_ready (rs := [4]) (by kernel_rfl) (by simp) ?_
              refine AllReadyH.cons rfl (fun K hK => ?_) AllReadyH.nil
              go_simp
              refine hK.out _ _ (((Ext.alloc V1 _).kp (fun _ => True)).cell p1 trivial) (fun hHeld => ?_)
              clear hK K
              try simp only [Act.put, List.getElem_toArray, List.getElem_cons_zero, List.getElem_cons_succ, List.setIfInBounds_toArray, List.set_cons_zero, List.set_cons_succ]
              refine wpAnyH_ready (rs := [10]) (by kernel_rfl) (by simp) ?_
              refine AllReadyH.cons rfl (fun K hK => ?_) AllReadyH.nil
              refine step_append_own _ (by rfl) _ _ 47 (by rfl) base 61 i0 (.slice none 0 0) 1 24 Tryd.underlying47 hi0 hz0 hz1 hz2 rfl (by decide) _ rs2.length (rs2.map sV) (by rfl) (ownsRow_keep HP1.out.rowL ((show Ext V1 _ from (by repeat (first | with_reducible exact Ext.refl _ | with_reducible refine Ext.drew ?_ | with_reducible refine Ext.more ?_ _))).kp (fun _ => True)) (fun _ _ => trivial)) ⟨V1.heap.size, 0, none⟩ 1 1 [.slice (some ⟨g, 0, none⟩) len cap] (by rfl) rfl (fun e u he => by match e, he with | 0, he => cases he; exact cell_of (i := 0) (blk0 V1 _) rfl) (by simp [Value.oneCell']) (by unfold maxLen; omega) (by omega) (Nat.le_trans hbW (show Ext V1 _ from (by repeat (first | with_reducible exact Ext.refl _ | with_reducible refine Ext.drew ?_ | with_reducible refine Ext.more ?_ _))).size) ?_
              intro v9 w9 hown9 hgrow9 hat9
              obtain ⟨lb2, lc3, rfl⟩ := ownsRow_slice hown9
              have K9 := HK5.out w9 _ hgrow9
              have hb9 := K9.block' HP1.out.box (fun e => HNE.out.1 b e.symm rfl)
              have y0 := cell_of (i := 0) hb9 rfl
              have y1 := frozen_of (i := 0) hb9
              simp only [List.getElem_toArray, List.getElem_cons_zero] at y0
              show K _ _
              refine hK.out _ _ (K9.cell p1 (fun e => HPN.out (.inr (.inl e.symm)))) (fun hHeld => ?_)
              clear hK K
              try simp only [Act.put, List.getElem_toArray, List.getElem_cons_zero, List.getElem_cons_succ, List.setIfInBounds_toArray, List.set_cons_zero, List.set_cons_succ]
              refine wpAnyH_take (i := 11) (v := ?vfx1) rfl (by kernel_rfl) (by kernel_rfl) (by kernel_rfl) (fun _ _ _ h => h) (Or.inl ⟨by kernel_rfl, ?hfx1⟩) (by assumption) ?rfx1
              case hfx1 => (intro w hSw; (try dsimp only at hSw); go_simp; try with_reducible rfl)
              try simp only [Act.put, List.getElem_toArray, List.getElem_cons_zero, List.getElem_cons_succ, List.setIfInBounds_toArray, List.set_cons_zero, List.set_cons_succ]
              refine wpAnyH_take (i := 12) (v := ?vfx2) rfl (by kernel_rfl) (by kernel_rfl) (by kernel_rfl) (fun _ _ _ h => h) (Or.inl ⟨by kernel_rfl, ?hfx2⟩) (by assumption) ?rfx2
              case hfx2 => (intro w hSw; (try dsimp only at hSw); go_simp; try with_reducible rfl)
              try simp only [Act.put, List.getElem_toArray, List.getElem_cons_zero, List.getElem_cons_succ, List.setIfInBounds_toArray, List.set_cons_zero, List.set_cons_succ]
              refine wpAnyH_ready (rs := [13]) (by kernel_rfl) (by simp) ?_
              refine AllReadyH.cons rfl (fun K hK => ?_) AllReadyH.nil
              go_simp
              refine hK.out _ _ ((Kp.set (K := (· ≠ b)) w9 b 0 _ (fun h => h rfl)).cell (K9.cell p1 (fun e => HPN.out (.inr (.inl e.symm)))) hpbb) (fun hHeld => ?_)
              clear hK K
              try simp only [Act.put, List.getElem_toArray, List.getElem_cons_zero, List.getElem_cons_succ, List.setIfInBounds_toArray, List.set_cons_zero, List.set_cons_succ]
              refine wpAnyH_done (by kernel_rfl) ?_ _
              go_wp2_with fail
              go_meet
              case rel =>
                have k0 := Kp.set (K := (· ≠ b)) w9 b 0 (.slice lb2 (rs2.length + 1) lc3) (fun h => h rfl)
                refine ⟨lb2, lc3, set_at hb9 0 _, ownsRow_keep hown9 k0 (fun q hq e => ?_), (K9.mono (fun q _ hq e => hq.2 e.symm)).trans (k0.mono (fun q _ hq => hq.1)), hat9.imp id (fun h => ⟨_, h, by simp⟩)⟩
                rcases hat9 with h | h
                · rw [h] at hq; exact HNE.out.1 q hq e
                · rw [h] at hq; cases hq; have e' : _ = b := e; simp at e'; omega
          case rest =>
          obtain ⟨lb2, lc3, hb2, hl2, hk2, ho2⟩ := hcut
          obtain ⟨V2, rfl⟩ : ∃ V2, V2 = wc := ⟨wc, rfl⟩
          have HB2 := hid hb2
          have HL2 := hid hl2
          have HK2 := hid hk2
          have HO2 := hid ho2
          have hs3 := hk2.size
          have hLk2 : L ≠ b ∧ (Value.slice lb rs2.length lc2).ownBlock ≠ some L := ⟨hpbb, fun e => HPN.out (.inr (.inl e))⟩
          have HPB2 := hid (hk2.block' HPB1.out hLk2)
          have p2 := hk2.cell p1 hLk2
          have HN2 := hid (ownsRow_keep HP1.out.rowN hk2 (fun q hq => ⟨HNE.out.2.1 q hq, fun e => HNE.out.2.2.2.1 q e hq⟩))
          have HG2 := hid (hk2.block' HG1.out ⟨hgb', fun e => HGN.out (.inr (.inl e))⟩)
          clear hb2 hl2 hk2 ho2 b0 b1 b2 b3 f0 hi0 hz0 hz1 hz2 p1 hbl hpl HK5
          obtain ⟨b0, b1, b2, b3⟩ := four_of HB2.out
          have f0 := frozen_of (i := 1) HB2.out
          have hbl := lt_of_block HB2.out
          have hpl := lt_of_block HPB2.out
          obtain ⟨i1, hi1, hu0, hu1, hu2⟩ := info_parts intInfo
          have HK6 := hid (show ∀ (w9 : World) (o : Obj), (V2.alloc o).drew.grownBy w9 (Value.slice nb rs2.length nc).ownBlock → Kp (fun q => some q ≠ (Value.slice nb rs2.length nc).ownBlock) V2 w9 from fun w9 o hg => ((Ext.alloc V2 o).drew.kp _).trans ⟨hg.os, hg.tape, hg.output, hg.size, fun q hq hne => hg.block q hq hne⟩)
          go_upto_region 11 with fail
          go_cut [] from 20 to 100 (fun wx => ∃ nb2 nc2, wx.heap[b]? = some (.cells #[.slice lb2 (rs2.length + 1) lc3, .slice nb2 (rs2.length + 1) nc2, .int .i64 (sz2 + 10 + mn), kv] 51) ∧ wx.ownsRow base 3 1 (.slice nb2 (rs2.length + 1) nc2) (rs2.length + 1) (rs2.map (fun r => Value.int .i64 (r.2.1 : Int)) ++ [.int .i64 len]) ∧ Kp (fun q => q ≠ b ∧ (Value.slice nb rs2.length nc).ownBlock ≠ some q) V2 wx ∧ ((Value.slice nb2 (rs2.length + 1) nc2).ownBlock = (Value.slice nb rs2.length nc).ownBlock ∨ ∃ q, (Value.slice nb2 (rs2.length + 1) nc2).ownBlock = some q ∧ V2.heap.size ≤ q))
          case first =>
            refine wp_region_held_drew (S := fun W' => W'.cell? ⟨L, j, none⟩ = some (.slice (some ⟨g, 0, none⟩) len cap)) (by kernel_rfl) (p2) (fun hHeld => ?_)
            refine wpAnyH_take (i := 0) (v := ?vgx1) rfl (by kernel_rfl) (by kernel_rfl) (by kernel_rfl) (fun _ _ _ h => h) (Or.inl ⟨by kernel_rfl, ?hgx1⟩) (by assumption) ?rgx1
            case hgx1 => (intro w hSw; (try dsimp only at hSw); go_simp; try with_reducible rfl)
            try simp only [Act.put, List.getElem_toArray, List.getElem_cons_zero, List.setIfInBounds_toArray, List.set_cons_zero, List.set_cons_succ]
            refine wpAnyH_take (i := 1) (v := ?vgx2) rfl (by kernel_rfl) (by kernel_rfl) (by kernel_rfl) (fun _ _ _ h => h) (Or.inl ⟨by kernel_rfl, ?hgx2⟩) (by assumption) ?rgx2
            case hgx2 => (intro w hSw; (try dsimp only at hSw); go_simp; try with_reducible rfl)
            try simp only [Act.put, List.getElem_toArray, List.getElem_cons_zero, List.getElem_cons_succ, List.setIfInBounds_toArray, List.set_cons_zero, List.set_cons_succ]
            refine wpAnyH_take (i := 2) (v := ?vgx3) rfl (by kernel_rfl) (by kernel_rfl) (by kernel_rfl) (fun _ _ _ h => h) (Or.inl ⟨by kernel_rfl, ?hgx3⟩) (by assumption) ?rgx3
            case hgx3 => (intro w hSw; (try dsimp only at hSw); go_simp; try with_reducible rfl)
            try simp only [Act.put, List.getElem_toArray, List.getElem_cons_zero, List.getElem_cons_succ, List.setIfInBounds_toArray, List.set_cons_zero, List.set_cons_succ]
            refine wpAnyH_take (i := 3) (v := ?vgx4) rfl (by kernel_rfl) (by kernel_rfl) (by kernel_rfl) (fun _ _ _ h => h) (Or.inl ⟨by kernel_rfl, ?hgx4⟩) (by assumption) ?rgx4
            case hgx4 => (intro w hSw; (try dsimp only at hSw); go_simp; try with_reducible rfl)
            try simp only [Act.put, List.getElem_toArray, List.getElem_cons_zero, List.getElem_cons_succ, List.setIfInBounds_toArray, List.set_cons_zero, List.set_cons_succ]
            refine wpAnyH_take (i := 5) (v := ?vgx5) rfl (by kernel_rfl) (by kernel_rfl) (by kernel_rfl) (fun _ _ _ h => h) (Or.inl ⟨by kernel_rfl, ?hgx5⟩) (by assumption) ?rgx5
            case hgx5 => (intro w hSw; (try dsimp only at hSw); go_simp; try with_reducible rfl)
            try simp only [Act.put, List.getElem_toArray, List.getElem_cons_zero, List.getElem_cons_succ, List.setIfInBounds_toArray, List.set_cons_zero, List.set_cons_succ]
            refine wpAnyH_take (i := 6) (v := ?vgx6) rfl (by kernel_rfl) (by kernel_rfl) (by kernel_rfl) (fun _ _ _ h => h) (Or.inl ⟨by kernel_rfl, ?hgx6⟩) (by assumption) ?rgx6
            case hgx6 => (intro w hSw; (try dsimp only at hSw); go_simp; try with_reducible rfl)
            try simp only [Act.put, List.getElem_toArray, List.getElem_cons_zero, List.getElem_cons_succ, List.setIfInBounds_toArray, List.set_cons_zero, List.set_cons_succ]
            refine wpAnyH_take (i := 7) (v := ?vgx7) rfl (by kernel_rfl) (by kernel_rfl) (by kernel_rfl) (fun _ _ _ h => h) (Or.inl ⟨by kernel_rfl, ?hgx7⟩) (by assumption) ?rgx7
            case hgx7 => (intro w hSw; (try dsimp only at hSw); go_simp; try with_reducible rfl)
            try simp only [Act.put, List.getElem_toArray, List.getElem_cons_zero, List.getElem_cons_succ, List.setIfInBounds_toArray, List.set_cons_zero, List.set_cons_succ]
            refine wpAnyH_take (i := 8) (v := ?vgx8) rfl (by kernel_rfl) (by kernel_rfl) (by kernel_rfl) (fun _ _ _ h => h) (Or.inl ⟨by kernel_rfl, ?hgx8⟩) (by assumption) ?rgx8
            case hgx8 => (intro w hSw; (try dsimp only at hSw); go_simp; try with_reducible rfl)
            try simp only [Act.put, List.getElem_toArray, List.getElem_cons_zero, List.getElem_cons_succ, List.setIfInBounds_toArray, List.set_cons_zero, List.set_cons_succ]
            refine wpAnyH_take (i := 9) (v := .int .i64 len) rfl (by kernel_rfl) (by kernel_rfl) (by kernel_rfl) (fun _ _ _ h => h) (Or.inl ⟨by kernel_rfl, ?hgx9⟩) (by assumption) ?rgx9
            case hgx9 => (intro w hSw; (try dsimp only at hSw); go_simp; try with_reducible rfl)
            try simp only [Act.put, List.getElem_toArray, List.getElem_cons_zero, List.getElem_cons_succ, List.setIfInBounds_toArray, List.set_cons_zero, List.set_cons_succ]
            refine wpAnyH_ready (rs := [4, 10]) (by kernel_rfl) (by simp) ?_
            refine AllReadyH.cons rfl (fun K hK => ?_) (AllReadyH.cons rfl (fun K hK => ?_) AllReadyH.nil)
            · go_simp
              refine hK.out _ _ (p2) (fun hHeld => ?_)
              clear hK K
              try simp only [Act.put, List.getElem_toArray, List.getElem_cons_zero, List.getElem_cons_succ, List.setIfInBounds_toArray, List.set_cons_zero, List.set_cons_succ]
              refine wpAnyH_ready (rs := [10]) (by kernel_rfl) (by simp) ?_
              refine AllReadyH.cons rfl (fun K hK => ?_) AllReadyH.nil
              go_simp
              refine hK.out _ _ (((Ext.alloc V2 _).kp (fun _ => True)).cell p2 trivial) (fun hHeld => ?_)
              clear hK K
              try simp only [Act.put, List.getElem_toArray, List.getElem_cons_zero, List.getElem_cons_succ, List.setIfInBounds_toArray, List.set_cons_zero, List.set_cons_succ]
              refine wpAnyH_ready (rs := [11]) (by kernel_rfl) (by simp) ?_
              refine AllReadyH.cons rfl (fun K hK => ?_) AllReadyH.nil
              refine step_append_own _ (by rfl) _ _ 48 (by rfl) base 3 i1 (.int .i64 0) 1 8 Tryd.underlying48 hi1 hu0 hu1 hu2 rfl (by decide) _ rs2.length (rs2.map (fun r => Value.int .i64 (r.2.1 : Int))) (by rfl) (ownsRow_keep HN2.out ((show Ext V2 _ from (by repeat (first | with_reducible exact Ext.refl _ | with_reducible refine Ext.drew ?_ | with_reducible refine Ext.more ?_ _))).kp (fun _ => True)) (fun _ _ => trivial)) ⟨V2.heap.size, 0, none⟩ 1 1 [.int .i64 len] (by rfl) rfl (fun e u he => by match e, he with | 0, he => cases he; exact cell_of (i := 0) (blk0 V2 _) rfl) (by simp [Value.oneCell']) (by unfold maxLen; omega) (by omega) (Nat.le_trans (Nat.le_trans hbW hs3) (show Ext V2 _ from (by repeat (first | with_reducible exact Ext.refl _ | with_reducible refine Ext.drew ?_ | with_reducible refine Ext.more ?_ _))).size) ?_
              intro v9 w9 hown9 hgrow9 hat9
              obtain ⟨nb2, nc2, rfl⟩ := ownsRow_slice hown9
              have K9 := HK6.out w9 _ hgrow9
              have hb9 := K9.block' HB2.out (fun e => HNE.out.2.1 b e.symm rfl)
              have y0 := cell_of (i := 1) hb9 rfl
              have y1 := frozen_of (i := 1) hb9
              simp only [List.getElem_toArray, List.getElem_cons_zero, List.getElem_cons_succ] at y0
              show K _ _
              refine hK.out _ _ (K9.cell p2 (fun e => HPN.out (.inr (.inr (.inl e.symm))))) (fun hHeld => ?_)
              clear hK K
              try simp only [Act.put, List.getElem_toArray, List.getElem_cons_zero, List.getElem_cons_succ, List.setIfInBounds_toArray, List.set_cons_zero, List.set_cons_succ]
              refine wpAnyH_take (i := 12) (v := ?vhx1) rfl (by kernel_rfl) (by kernel_rfl) (by kernel_rfl) (fun _ _ _ h => h) (Or.inl ⟨by kernel_rfl, ?hhx1⟩) (by assumption) ?rhx1
              case hhx1 => (intro w hSw; (try dsimp only at hSw); go_simp; try with_reducible rfl)
              try simp only [Act.put, List.getElem_toArray, List.getElem_cons_zero, List.getElem_cons_succ, List.setIfInBounds_toArray, List.set_cons_zero, List.set_cons_succ]
              refine wpAnyH_take (i := 13) (v := ?vhx2) rfl (by kernel_rfl) (by kernel_rfl) (by kernel_rfl) (fun _ _ _ h => h) (Or.inl ⟨by kernel_rfl, ?hhx2⟩) (by assumption) ?rhx2
              case hhx2 => (intro w hSw; (try dsimp only at hSw); go_simp; try with_reducible rfl)
              try simp only [Act.put, List.getElem_toArray, List.getElem_cons_zero, List.getElem_cons_succ, List.setIfInBounds_toArray, List.set_cons_zero, List.set_cons_succ]
              refine wpAnyH_ready (rs := [14]) (by kernel_rfl) (by simp) ?_
              refine AllReadyH.cons rfl (fun K hK => ?_) AllReadyH.nil
              go_simp
              refine hK.out _ _ ((Kp.set (K := (· ≠ b)) w9 b 1 _ (fun h => h rfl)).cell (K9.cell p2 (fun e => HPN.out (.inr (.inr (.inl e.symm))))) hpbb) (fun hHeld => ?_)
              clear hK K
              try simp only [Act.put, List.getElem_toArray, List.getElem_cons_zero, List.getElem_cons_succ, List.setIfInBounds_toArray, List.set_cons_zero, List.set_cons_succ]
              refine wpAnyH_done (by kernel_rfl) ?_ _
              go_wp2_with fail
              go_meet
              case rel =>
                have k0 := Kp.set (K := (· ≠ b)) w9 b 1 (.slice nb2 (rs2.length + 1) nc2) (fun h => h rfl)
                refine ⟨nb2, nc2, set_at hb9 1 _, ownsRow_keep hown9 k0 (fun q hq e => ?_), (K9.mono (fun q _ hq e => hq.2 e.symm)).trans (k0.mono (fun q _ hq => hq.1)), hat9.imp id (fun h => ⟨_, h, by simp⟩)⟩
                rcases hat9 with h | h
                · rw [h] at hq; exact HNE.out.2.1 q hq e
                · rw [h] at hq; cases hq; have e' : _ = b := e; simp at e'; omega
            · go_simp
              refine hK.out _ _ (((Ext.alloc V2 _).kp (fun _ => True)).cell p2 trivial) (fun hHeld => ?_)
              clear hK K
              try simp only [Act.put, List.getElem_toArray, List.getElem_cons_zero, List.getElem_cons_succ, List.setIfInBounds_toArray, List.set_cons_zero, List.set_cons_succ]
              refine wpAnyH_ready (rs := [4]) (by kernel_rfl) (by simp) ?_
              refine AllReadyH.cons rfl (fun K hK => ?_) AllReadyH.nil
              go_simp
              refine hK.out _ _ (((Ext.alloc V2 _).kp (fun _ => True)).cell p2 trivial) (fun hHeld => ?_)
              clear hK K
              try simp only [Act.put, List.getElem_toArray, List.getElem_cons_zero, List.getElem_cons_succ, List.setIfInBounds_toArray, List.set_cons_zero, List.set_cons_succ]
              refine wpAnyH_ready (rs := [11]) (by kernel_rfl) (by simp) ?_
              refine AllReadyH.cons rfl (fun K hK => ?_) AllReadyH.nil
              refine step_append_own _ (by rfl) _ _ 48 (by rfl) base 3 i1 (.int .i64 0) 1 8 Tryd.underlying48 hi1 hu0 hu1 hu2 rfl (by decide) _ rs2.length (rs2.map (fun r => Value.int .i64 (r.2.1 : Int))) (by rfl) (ownsRow_keep HN2.out ((show Ext V2 _ from (by repeat (first | with_reducible exact Ext.refl _ | with_reducible refine Ext.drew ?_ | with_reducible refine Ext.more ?_ _))).kp (fun _ => True)) (fun _ _ => trivial)) ⟨V2.heap.size, 0, none⟩ 1 1 [.int .i64 len] (by rfl) rfl (fun e u he => by match e, he with | 0, he => cases he; exact cell_of (i := 0) (blk0 V2 _) rfl) (by simp [Value.oneCell']) (by unfold maxLen; omega) (by omega) (Nat.le_trans (Nat.le_trans hbW hs3) (show Ext V2 _ from (by repeat (first | with_reducible exact Ext.refl _ | with_reducible refine Ext.drew ?_ | with_reducible refine Ext.more ?_ _))).size) ?_
              intro v9 w9 hown9 hgrow9 hat9
              obtain ⟨nb2, nc2, rfl⟩ := ownsRow_slice hown9
              have K9 := HK6.out w9 _ hgrow9
              have hb9 := K9.block' HB2.out (fun e => HNE.out.2.1 b e.symm rfl)
              have y0 := cell_of (i := 1) hb9 rfl
              have y1 := frozen_of (i := 1) hb9
              simp only [List.getElem_toArray, List.getElem_cons_zero, List.getElem_cons_succ] at y0
              show K _ _
              refine hK.out _ _ (K9.cell p2 (fun e => HPN.out (.inr (.inr (.inl e.symm))))) (fun hHeld => ?_)
              clear hK K
              try simp only [Act.put, List.getElem_toArray, List.getElem_cons_zero, List.getElem_cons_succ, List.setIfInBounds_toArray, List.set_cons_zero, List.set_cons_succ]
              refine wpAnyH_take (i := 12) (v := ?vix1) rfl (by kernel_rfl) (by kernel_rfl) (by kernel_rfl) (fun _ _ _ h => h) (Or.inl ⟨by kernel_rfl, ?hix1⟩) (by assumption) ?rix1
              case hix1 => (intro w hSw; (try dsimp only at hSw); go_simp; try with_reducible rfl)
              try simp only [Act.put, List.getElem_toArray, List.getElem_cons_zero, List.getElem_cons_succ, List.setIfInBounds_toArray, List.set_cons_zero, List.set_cons_succ]
              refine wpAnyH_take (i := 13) (v := ?vix2) rfl (by kernel_rfl) (by kernel_rfl) (by kernel_rfl) (fun _ _ _ h => h) (Or.inl ⟨by kernel_rfl, ?hix2⟩) (by assumption) ?rix2
              case hix2 => (intro w hSw; (try dsimp only at hSw); go_simp; try with_reducible rfl)
              try simp only [Act.put, List.getElem_toArray, List.getElem_cons_zero, List.getElem_cons_succ, List.setIfInBounds_toArray, List.set_cons_zero, List.set_cons_succ]
              refine wpAnyH_ready (rs := [14]) (by kernel_rfl) (by simp) ?_
              refine AllReadyH.cons rfl (fun K hK => ?_) AllReadyH.nil
              go_simp
              refine hK.out _ _ ((Kp.set (K := (· ≠ b)) w9 b 1 _ (fun h => h rfl)).cell (K9.cell p2 (fun e => HPN.out (.inr (.inr (.inl e.symm))))) hpbb) (fun hHeld => ?_)
              clear hK K
              try simp only [Act.put, List.getElem_toArray, List.getElem_cons_zero, List.getElem_cons_succ, List.setIfInBounds_toArray, List.set_cons_zero, List.set_cons_succ]
              refine wpAnyH_done (by kernel_rfl) ?_ _
              go_wp2_with fail
              go_meet
              case rel =>
                have k0 := Kp.set (K := (· ≠ b)) w9 b 1 (.slice nb2 (rs2.length + 1) nc2) (fun h => h rfl)
                refine ⟨nb2, nc2, set_at hb9 1 _, ownsRow_keep hown9 k0 (fun q hq e => ?_), (K9.mono (fun q _ hq e => hq.2 e.symm)).trans (k0.mono (fun q _ hq => hq.1)), hat9.imp id (fun h => ⟨_, h, by simp⟩)⟩
                rcases hat9 with h | h
                · rw [h] at hq; exact HNE.out.2.1 q hq e
                · rw [h] at hq; cases hq; have e' : _ = b := e; simp at e'; omega
          case rest =>
          obtain ⟨nb2, nc2, hb3, hn3, hk3, ho3⟩ := hcut
          obtain ⟨V3, rfl⟩ : ∃ V3, V3 = wc := ⟨wc, rfl⟩
          have HB3 := hid hb3
          have HN3 := hid hn3
          have HK3 := hid hk3
          have HO3 := hid ho3
          have hs4 := hk3.size
          have hLk3 : L ≠ b ∧ (Value.slice nb rs2.length nc).ownBlock ≠ some L := ⟨hpbb, fun e => HPN.out (.inr (.inr (.inl e)))⟩
          have HPB3 := hid (hk3.block' HPB2.out hLk3)
          have P3 := hid (hk3.cell p2 hLk3)
          have HG3 := hid (hk3.block' HG2.out ⟨hgb', fun e => HGN.out (.inr (.inr (.inl e)))⟩)
          have HNL := hid (show ∀ q, (Value.slice lb2 (rs2.length + 1) lc3).ownBlock = some q → q ≠ b ∧ (Value.slice nb rs2.length nc).ownBlock ≠ some q ∧ (q = g → False) from fun q hq => by
            rcases HO2.out with e | ⟨q', e, hq'⟩
            · rw [e] at hq; exact ⟨HNE.out.1 q hq, HNE.out.2.2.2.1 q hq, fun e2 => HGN.out (.inr (.inl (e2 ▸ hq)))⟩
            · rw [e] at hq; cases hq
              refine ⟨fun e2 => ?_, fun e2 => ?_, fun e2 => ?_⟩
              · have := lt_of_block HP1.out.box; omega
              · have := HP1.out.lt _ (.inr (.inr (.inl e2))); omega
              · have := lt_of_block HG1.out; omega)
          have HL3 := hid (ownsRow_keep HL2.out hk3 (fun q hq => ⟨(HNL.out q hq).1, (HNL.out q hq).2.1⟩))
          clear hb3 hn3 hk3 ho3 b0 b1 b2 b3 f0 hi1 hu0 hu1 hu2 p2 hbl hpl HK6
          go_wp2_with fail
          go_loopw [7] (fun k wq => ∃ (kk : Nat) (cu : Array Value), kk ≤ len ∧ k = .int .i64 kk ∧ Kp (· ≠ g) V3 wq ∧ wq.heap[g]? = some (.cells cu 30) ∧ cu.size = cap ∧ ∀ k, k < kk → cu[k]? = some (.iface 58 (.int .i64 (-1 - (rs2.length : Int))))) (fun k _ => len - (intOf k).toNat)
          case atStart => exact ⟨0, cs0, Nat.zero_le _, rfl, Kp.refl _ _, HG3.out, hcz, fun k hk => absurd hk (Nat.not_lt_zero _)⟩
          case round =>
            obtain ⟨kk, cu, hkk, rfl, hkq, hgq, hcu, hcm2⟩ := hrel
            have HKQ := hid hkq
            have HGQ := hid hgq
            have HCM := hid hcm2
            have hgp : L ≠ g := fun e => by
              have h1 := HPB3.out
              rw [e, HG3.out] at h1
              injection h1 with h1
              injection h1 with _ h2
              revert h2
              decide
            have hbq := hkq.block' HB3.out (fun e => hgb' e.symm)
            have q0 := hkq.cell P3.out hgp
            obtain ⟨b0, b1, b2, b3⟩ := four_of hbq
            have hLq := lt_of_cell q0
            have hbq2 := lt_of_cell b0
            clear hkq hgq hcm2 hbq
            by_cases hkl : kk < len
            · have hkl' : (kk : Int) < len := by omega
              have hkz : kk < cu.size := by rw [hcu]; omega
              have g0 := cell_of (i := kk) HGQ.out (Array.getElem?_eq_getElem hkz)
              have z0 := frozen_of (i := kk) HGQ.out
              have hgq2 := lt_of_block HGQ.out
              have hwm2 : IntKind.i64.wrap (-1 - (rs2.length : Int)) = -1 - (rs2.length : Int) := wrap_small _ (by omega) (by omega)
              have hwm : IntKind.i64.wrap (-((rs2.length : Int) + 1)) = -1 - (rs2.length : Int) := by rw [show -((rs2.length : Int) + 1) = -1 - (rs2.length : Int) by omega]; exact hwm2
              have HSET := hid (show ∃ (kk' : Nat) (cu' : Array Value), kk' ≤ len ∧ Value.int .i64 ((kk : Int) + 1) = .int .i64 kk' ∧ Kp (· ≠ g) V3 (wr.setCell ⟨g, kk, none⟩ (.iface 58 (.int .i64 (-1 - (rs2.length : Int))))).drew ∧ (wr.setCell ⟨g, kk, none⟩ (.iface 58 (.int .i64 (-1 - (rs2.length : Int))))).drew.heap[g]? = some (.cells cu' 30) ∧ cu'.size = cap ∧ ∀ k, k < kk' → cu'[k]? = some (.iface 58 (.int .i64 (-1 - (rs2.length : Int)))) from by
                refine ⟨kk + 1, cu.setIfInBounds kk (.iface 58 (.int .i64 (-1 - (rs2.length : Int)))), hkl, by go_num, (HKQ.out.trans (Kp.set (K := (· ≠ g)) wr g kk _ (fun h => h rfl))).drew, set_at HGQ.out kk _, by rw [Array.size_setIfInBounds]; exact hcu, fun k hk => ?_⟩
                by_cases e : k = kk
                · subst e; exact set_get _ hkz
                · rw [set_get_other _ e]; exact HCM.out k (by omega))
              go_wp2_with fail
              go_region
              all_goals
                go_wp2_with fail
                go_roundw
                case rel =>
                  first | exact HSET.out | (obtain ⟨k1, c1, a1, a2, a3, a4, a5, a6⟩ := HSET.out; exact ⟨k1, c1, a1, a2, a3, a4, a5, a6⟩)
                case measure => simp [intOf]; omega
            · have hke : kk = len := by omega
              go_wp2_with fail
              go_roundw
              case rel =>
                refine ⟨j + 1, .slice lb2 (rs2.length + 1) lc3, .slice nb2 (rs2.length + 1) nc2, rs2 ++ [(g, len, cap)], sz2 + 10 + mn, hlt, by go_num, ⟨?_, ?_, ?_, fun i hi => ?_, ?_, ?_, ?_⟩, by omega, by push_cast; omega, ?_, fun q hq => ?_⟩
                · exact HKQ.out.block' HB3.out (fun e => hgb' e.symm)
                · have h1 := ownsRow_keep HL3.out HKQ.out (fun q hq => (HNL.out q hq).2.2)
                  simpa using h1
                · have h1 := ownsRow_keep HN3.out HKQ.out (fun q hq e => by
                    have e' : q = g := e
                    subst e'
                    rcases HO3.out with h | ⟨q', h, hq'⟩
                    · rw [h] at hq; exact HGN.out (.inr (.inr (.inl hq)))
                    · rw [h] at hq; cases hq; have := lt_of_block HG2.out; omega)
                  simpa using h1
                · have hi' : i < rs2.length + 1 := by simpa using hi
                  by_cases e : i < rs2.length
                  · rw [List.getElem_append_left e]
                    have hm : rs2[i].1 ∈ rs2.map (·.1) := List.mem_map.2 ⟨_, List.getElem_mem e, rfl⟩
                    exact ((((HP1.out.full i e).keep HK2.out ⟨HNE.out.2.2.1 _ hm, HNE.out.2.2.2.2.1 _ hm⟩).keep HK3.out ⟨HNE.out.2.2.1 _ hm, HNE.out.2.2.2.2.2 _ hm⟩).keep HKQ.out (fun e2 => HGN.out (.inr (.inr (.inr (by have e' : rs2[i].1 = g := e2; rw [← e']; exact hm))))))
                  · have e' : i = rs2.length := by omega
                    subst e'
                    rw [List.getElem_append_right (Nat.le_refl _)]
                    simp only [Nat.sub_self, List.getElem_cons_zero]
                    exact ⟨hg2, hcp, hlc, hle, cu, HGQ.out, hcu, fun k hk => HCM.out k (by have hk' : k < len := hk; omega)⟩
                · rw [List.map_append, List.nodup_append]
                  refine ⟨HTB.out.nodup, by simp, fun a ha c hc e => ?_⟩
                  have hc' : c = g := by simpa using hc
                  exact HGN.out (.inr (.inr (.inr (by rw [← hc', ← e]; exact ha))))
                · have := HTB.out.fit
                  rw [List.length_append]
                  simp only [List.length_cons, List.length_nil]
                  omega
                · have := HTB.out.fit
                  rw [List.length_append]
                  simp only [List.length_cons, List.length_nil]
                  push_cast
                  omega
                · refine ((((HKP.out.mono (fun q _ hq => ⟨hq.1, fun e => hq.2 (HTK.out q e)⟩)).chain HK1.out (fun q _ h e => h.1 (.inl e))).chain HK2.out (fun q hq h => ⟨fun e => h.1 (.inl e), fun e => ?_⟩)).chain HK3.out (fun q hq h => ⟨fun e => h.1 (.inl e), fun e => ?_⟩)).chain HKQ.out (fun q _ h e => h.2 (by have e' : q = g := e; rw [e']; exact HTG.out))
                  · rcases HBK.out q (.inr (.inl e)) with h2 | h2 | h2
                    · exact h.1 h2
                    · exact h.2 (HTK.out q h2)
                    · omega
                  · rcases HBK.out q (.inr (.inr (.inl e))) with h2 | h2 | h2
                    · exact h.1 h2
                    · exact h.2 (HTK.out q h2)
                    · omega
                · rcases hq with h | h | h | h
                  · exact .inl (.inl h)
                  · rcases HO2.out with h2 | ⟨q', h2, hq'⟩
                    · rw [h2] at h; exact (HBK.out q (.inr (.inl h))).imp id (Or.imp (HTK.out q) id)
                    · rw [h2] at h; cases h; exact .inr (.inr (by omega))
                  · rcases HO3.out with h2 | ⟨q', h2, hq'⟩
                    · rw [h2] at h; exact (HBK.out q (.inr (.inr (.inl h)))).imp id (Or.imp (HTK.out q) id)
                    · rw [h2] at h; cases h; exact .inr (.inr (by omega))
                  · rw [List.map_append, List.mem_append] at h
                    rcases h with h | h
                    · exact (HBK.out q (.inr (.inr (.inr h)))).imp id (Or.imp (HTK.out q) id)
                    · have h' : q = g := by simpa using h
                      exact .inr (.inl (by rw [h']; exact HTG.out))
              case measure => simp [intOf]; omega
        · have hje : j = ns.length := by omega
          subst hje
          go_wp2_with fail
          go_end0
          obtain ⟨hTB, hsa, hsb, hkp, hbk⟩ := HSJ.out
          have hW1s := HX.out.size
          exact ⟨⟨_, rfl⟩, lv2, nv2, rs2, sz2, hTB, hsa, by omega, (HX.out.kp _).trans (hkp.mono (fun q _ hq => ⟨hq.1, fun e => hq.2 (HMT.out _ q e)⟩)), fun q hq => (hbk q hq).imp id (Or.imp (HMT.out _ q) (fun e => by omega))⟩
end Go.Proofs.YtbpbkihcfdnphaaDoor
