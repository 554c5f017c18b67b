/-
  Rows of lists in memory; lists of the statements' own, by a contract: lists of a value of its own memory.
-/
import Derived.Test.YtbpbkihcfdnphaaDoorFullF
import Derived.Deep.RegionHeld3
namespace Go.Proofs.YtbpbkihcfdnphaaDoor
open Go.RowKit
theorem ownsRow_keep {K : Nat → Prop} {w w' : World} {n0 n : Nat} {e : TypeId} {v : Value} {xs : List Value} (h : w.ownsRow n0 e 1 v n xs) (hk : Kp K w w') (hb : ∀ b, v.ownBlock = some b → K b) : w'.ownsRow n0 e 1 v n xs := by
  refine ⟨h.1, ?_⟩
  rcases h.2 with h | ⟨g, cap, cur, rfl, h2, h3, h4⟩
  · exact .inl h
  · exact .inr ⟨g, cap, cur, rfl, h2, hk.block' h3 (hb g rfl), h4⟩
theorem ownsRow_block {w : World} {n0 n : Nat} {e : TypeId} {v : Value} {xs : List Value} (h : w.ownsRow n0 e 1 v n xs) {b : Nat} (hb : v.ownBlock = some b) : n0 ≤ b ∧ ∃ cur, w.heap[b]? = some (.cells cur e) := by
  rcases h.2 with ⟨rfl, _⟩ | ⟨g, cap, cur, rfl, h2, h3, h4⟩
  · cases hb
  · cases hb; exact ⟨h2, cur, h3⟩
theorem Kp.chain {K L : Nat → Prop} {a b c : World} (h : Kp K a b) (k : Kp L b c) (hl : ∀ q, q < a.heap.size → K q → L q) : Kp K a c :=
  ⟨k.os.trans h.os, k.tape.trans h.tape, k.output.trans h.output, Nat.le_trans h.size k.size, fun i hi hk => (k.block i (Nat.lt_of_lt_of_le hi h.size) (hl i hi hk)).trans (h.block i hi hk)⟩
theorem wrap_small (m : Int) (h : -1000000 ≤ m) (h' : m ≤ 1000000) : IntKind.i64.wrap m = m := by rw [IntKind.wrap_i64]; omega
theorem listInfo : (Tryd.prog.info? 61).map (fun i => (i.zero, i.size, i.bytes)) = some (some (.slice none 0 0), 1, 24) := by kernel_rfl
theorem as_nil_li (w : World) : (Instr.typeAssert .nilIface 30 61 true).run Tryd.prog w = .ok (.tuple #[(.slice none 0 0), .bool false]) w := by kernel_rfl
theorem step_append_own {ops : Array Oper} {o : Oper} {ac : Act} {K : Act → World → Prop} {Q : Exit → Act → World → Prop} {E : Prop} (w : World) (hgd : o.guard = none) (x y : Operand) (t : TypeId)
    (ho : o.op = .call { callee := .builtin .append, args := #[x, y], argTypes := #[t, t] })
    (base : Nat) (e : TypeId) (i : TypeInfo) (z : Value) (size bytes : Nat) (ht : Tryd.prog.underlying t = some (.slice e)) (hi : Tryd.prog.info? e = some i) (hz : i.zero = some z)
    (hsize : i.size = size) (hby : i.bytes = bytes) (hzs : z.cells.size = size) (hsz : 0 < size)
    (v : Value) (n : Nat) (xs : List Value) (hx : ac.eval x = v) (hown : w.ownsRow base e size v n xs)
    (ad : Addr) (m c : Nat) (news : List Value) (hy : ac.eval y = .slice (some ad) m c) (hl : news.length = m * size) (hnews : ∀ j u, news[j]? = some u → w.cell? (ad.add j) = some u) (h1 : ∀ u ∈ news, u.oneCell' = true)
    (h63 : n + m ≤ maxLen) (hbytes : (n + m) * bytes ≤ 140737488355328) (hbase : base ≤ w.heap.size)
    (h : ∀ v' w', w'.ownsRow base e size v' (n + m) (xs ++ news) → w.grownBy w' v.ownBlock → (v'.ownBlock = v.ownBlock ∨ v'.ownBlock = some w.heap.size) → K (ac.put o.dst v') w') :
    if Region.wanted o (yielded ops ac.tmps) = true then Oper.wp Tryd.prog o ac w K Q else E := by
  have hw : Region.wanted o (yielded ops ac.tmps) = true := by simp [Region.wanted, hgd]
  rw [if_pos hw]
  obtain ⟨v', w', hr, h2, h3, _, h5⟩ := run_append_own_at (P := Tryd.prog) w base t o.type e i z size bytes ht hi hz hsize hby hzs hsz v n xs hown ad m c news hl hnews h1 h63 hbytes hbase
  unfold Oper.wp execOp
  simp only [ho, resolve, invoke, builtin, Sem.run_bind, Sem.run_pure, Result.andThen_ok, List.map_toArray, List.map_cons, List.map_nil, hx, hy, hr]
  exact h v' w' h2 h3 h5
/-- A list: its block, its length, its room. -/
abbrev sV (r : Nat × Nat × Nat) : Value := .slice (some ⟨r.1, 0, none⟩) r.2.1 r.2.2
/-- Lists that lie there. -/
def LsOk (w : World) (rs : List (Nat × Nat × Nat)) : Prop := ∀ r ∈ rs, 0 < r.2.2 ∧ r.2.1 ≤ r.2.2 ∧ r.2.1 ≤ 65536 ∧ ∃ cs, w.heap[r.1]? = some (.cells cs 30) ∧ cs.size = r.2.2
/-- A value of its own memory, or none. -/
def VOwn0 (w : World) (d : Nat) (v : Value) (t : T) (bs : List Nat) : Prop := VOwn w d v t bs ∨ (v = .nilIface ∧ bs = [])
theorem VOwn0.keep {w w' : World} {d : Nat} {v : Value} {t : T} {bs : List Nat} (h : VOwn0 w d v t bs) (hk : Kp (· ∈ bs) w w') : VOwn0 w' d v t bs := h.imp (fun h => h.keep hk) id
theorem VOwn0.lt {w : World} {d : Nat} {v : Value} {t : T} {bs : List Nat} (h : VOwn0 w d v t bs) : ∀ b ∈ bs, b < w.heap.size := by
  rcases h with h | ⟨_, rfl⟩
  · exact h.lt
  · intro b hb; cases hb
theorem VOwn.ty {w : World} : ∀ {d : Nat} {v : Value} {t : T} {bs : List Nat}, VOwn w d v t bs → ∀ b ∈ bs, ∃ cs, w.heap[b]? = some (.cells cs 30)
  | 0, _, _, _, h => h.elim
  | d + 1, v, .node k n x ks, bs, h => by
    rcases h with ⟨_, _, _, _, rfl, _⟩ | ⟨_, _, _, rfl, _⟩ | ⟨_, _, _, rfl, _⟩ | ⟨_, _, _, rfl, _⟩ | ⟨h1, h2, h3, h4, g, c, cs, bss, h5, h6, h7, h8, rfl, h9, hc⟩
    · intro b hb; cases hb
    · intro b hb; cases hb
    · intro b hb; cases hb
    · intro b hb; cases hb
    · intro b hb
      rcases List.mem_cons.1 hb with rfl | hb
      · exact ⟨cs, h7⟩
      · obtain ⟨l, hl, hbl⟩ := List.mem_flatten.1 hb
        obtain ⟨j, hj, rfl⟩ := List.getElem_of_mem hl
        obtain ⟨u, b', _, hb', ho⟩ := hc j (by omega)
        rw [List.getElem?_eq_getElem hj] at hb'
        cases hb'
        exact VOwn.ty ho b hbl
theorem VOwn0.ty {w : World} {d : Nat} {v : Value} {t : T} {bs : List Nat} (h : VOwn0 w d v t bs) : ∀ b ∈ bs, ∃ cs, w.heap[b]? = some (.cells cs 30) := by
  rcases h with h | ⟨_, rfl⟩
  · exact h.ty
  · intro b hb; cases hb
/-- What lists answers. -/
def ListsR (w : World) (base : Nat) (lv : Value) (rs0 : List (Nat × Nat × Nat)) (m : Nat) (bs : List Nat) (e : Ending) (w' : World) : Prop :=
  ∃ v' rs, e = .returned v' ∧ w'.ownsRow base 61 1 v' (rs0 ++ rs).length ((rs0 ++ rs).map sV) ∧ (∀ r ∈ rs, r.1 ∈ bs) ∧ (rs.map (·.1)).Nodup ∧ LsOk w rs ∧ rs.length ≤ m ∧ Kp (fun q => some q ≠ lv.ownBlock) w w' ∧ (v'.ownBlock = lv.ownBlock ∨ ∃ q, v'.ownBlock = some q ∧ w.heap.size ≤ q)
/-- What the loop of lists holds. -/
def LsSt (w : World) (base : Nat) (lv : Value) (rs0 : List (Nat × Nat × Nat)) (bss : List (List Nat)) (ks : List T) (j : Nat) (l : Value) (rs : List (Nat × Nat × Nat)) (wr : World) : Prop :=
  wr.ownsRow base 61 1 l (rs0 ++ rs).length ((rs0 ++ rs).map sV) ∧ (∀ r ∈ rs, r.1 ∈ (bss.take j).flatten) ∧ (rs.map (·.1)).Nodup ∧ LsOk w rs ∧ rs.length ≤ T.sizeL (ks.take j) ∧ Kp (fun q => some q ≠ lv.ownBlock) w wr ∧ (l.ownBlock = lv.ownBlock ∨ ∃ q, l.ownBlock = some q ∧ w.heap.size ≤ q)
theorem lists_none {w : World} {base : Nat} {lv : Value} {rs0 : List (Nat × Nat × Nat)} {m : Nat} {bs : List Nat} (hrow : w.ownsRow base 61 1 lv rs0.length (rs0.map sV)) : ListsR w base lv rs0 m bs (.returned lv) w :=
  ⟨lv, [], rfl, by simpa using hrow, fun r hr => absurd hr (by simp), by simp, fun r hr => absurd hr (by simp), Nat.zero_le _, Kp.refl _ _, .inl rfl⟩
attribute [local go_sem] as_un_li as_tu_li as_in_li as_tx_li as_li_li as_nil_li
set_option maxRecDepth 100000 in
theorem lists_nil (w : World) (base : Nat) (lv : Value) (rs0 : List (Nat × Nat × Nat)) (m : Nat) (bs : List Nat) (hrow : w.ownsRow base 61 1 lv rs0.length (rs0.map sV)) :
    Calls Tryd.prog 39 #[.nilIface, lv] w (ListsR w base lv rs0 m bs) := by
  obtain ⟨la, lc, rfl⟩ := ownsRow_slice hrow
  have HR := hid (lists_none (m := m) (bs := bs) hrow)
  clear hrow
  go_enter Tryd.func39, Tryd.ntmps39
  go_wp2_with fail
  go_ret
  exact HR.out
set_option maxRecDepth 100000 in
set_option maxHeartbeats 4000000 in
theorem lists_any : ∀ (d : Nat) (v : Value) (t : T) (bs : List Nat) (w : World) (base : Nat) (lv : Value) (rs0 : List (Nat × Nat × Nat)), VOwn w d v t bs → bs.Nodup → t.size ≤ 65536 → w.ownsRow base 61 1 lv rs0.length (rs0.map sV) → (∀ q, lv.ownBlock = some q → q ∉ bs) → base ≤ w.heap.size → rs0.length + t.size ≤ 1000000 →
    Calls Tryd.prog 39 #[v, lv] w (ListsR w base lv rs0 t.size bs) := by
  intro d
  induction d with
  | zero => intro v t bs w base lv rs0 h; exact h.elim
  | succ d ih =>
    intro v t bs w base lv rs0 h hnd hst hrow hlk hbs hsz
    obtain ⟨k, n, x, ks⟩ := t
    obtain ⟨la, lc, rfl⟩ := ownsRow_slice hrow
    have HR0 := hid (fun m bs => lists_none (m := m) (bs := bs) hrow)
    rcases h with ⟨rfl, rfl, rfl, rfl, rfl, rfl⟩ | ⟨rfl, rfl, rfl, rfl, B, hn, rfl⟩ | ⟨rfl, rfl, rfl, rfl, rfl⟩ | ⟨rfl, rfl, rfl, rfl, hxs, rfl⟩ | ⟨rfl, rfl, rfl, hll, g, c, cs, bss, rfl, hlc, hg, hcs, rfl, hbl, hks⟩
    · clear ih hst hnd hsz hrow hlk hbs
      go_enter Tryd.func39, Tryd.ntmps39
      go_wp2_with fail
      go_ret
      exact HR0.out _ _
    · clear ih hst hnd hsz hrow hlk hbs hn
      go_enter Tryd.func39, Tryd.ntmps39
      go_wp2_with fail
      go_ret
      exact HR0.out _ _
    · clear ih hst hnd hsz hrow hlk hbs
      go_enter Tryd.func39, Tryd.ntmps39
      go_wp2_with fail
      go_ret
      exact HR0.out _ _
    · clear ih hst hnd hsz hrow hlk hbs hxs
      go_enter Tryd.func39, Tryd.ntmps39
      go_wp2_with fail
      go_ret
      exact HR0.out _ _
    · obtain ⟨hgn, hfn⟩ := List.nodup_cons.1 hnd
      have HROW := hid hrow
      have HG := hid hg
      have HKS := hid hks
      have HLK := hid hlk
      have HIH := hid ih
      have HFN := hid hfn
      have HGN := hid hgn
      have HBL := hid hbl
      have HCS := hid hcs
      have HLC := hid hlc
      have HLT := hid (show ∀ q, (Value.slice la rs0.length lc).ownBlock = some q → q < w.heap.size from fun q hq => by obtain ⟨_, cur, hc⟩ := ownsRow_block hrow hq; exact lt_of_block hc)
      have hsk : 1 + T.sizeL ks ≤ 65536 := by simp only [T.size] at hst; exact hst
      have HSK := hid hsk
      have HSZ := hid (show rs0.length + 1 + T.sizeL ks ≤ 1000000 by simp only [T.size] at hsz; have : (⟨#[]⟩ : ByteArray).size = 0 := rfl; omega)
      have hkl : (ks.length : Int) ≤ 65536 := by have := T.sizeL_len ks; omega
      have hrl : (rs0.length : Int) ≤ 1000000 := by have := HSZ.out; omega
      have HNG := hid (show ∀ q, q ∈ g :: bss.flatten → some q ≠ (Value.slice la rs0.length lc).ownBlock from fun q hq e => HLK.out q e.symm hq)
      have HST := hid (show LsSt w base (.slice la rs0.length lc) rs0 bss ks 0 (.slice la rs0.length lc) [] w from ⟨by simpa using hrow, fun r hr => absurd hr (by simp), by simp, fun r hr => absurd hr (by simp), Nat.zero_le _, Kp.refl _ _, .inl rfl⟩)
      clear hg hks hlk ih hfn hgn hbl hcs hlc hrow hst hsz hnd hsk
      go_enter Tryd.func39, Tryd.ntmps39
      go_wp2_with fail
      go_loopw [1, 7] (fun l i wr => ∃ (j : Nat) (rs : List (Nat × Nat × Nat)), j ≤ ks.length ∧ i = .int .i64 j ∧ LsSt w base (.slice la rs0.length lc) rs0 bss ks j l rs wr) (fun _ i _ => ks.length - (intOf i).toNat)
      case atStart => exact ⟨0, [], Nat.zero_le _, rfl, HST.out⟩
      case round =>
        obtain ⟨j, rs, hj, rfl, hst⟩ := hrel
        have HSJ := hid hst
        obtain ⟨a2, c2, rfl⟩ := ownsRow_slice hst.1
        clear hst HST
        generalize hL : (rs0 ++ rs).length = L at HSJ ⊢
        have HL := hid hL
        clear hL
        by_cases hlt : j < ks.length
        · have hlt' : (j : Int) < ks.length := by omega
          obtain ⟨u, b, hu, hbj, hown⟩ := HKS.out j hlt
          obtain ⟨τ, p, rfl⟩ := hown.rd.iface
          have hgw := HSJ.out.2.2.2.2.2.1.block' HG.out (HNG.out g (by simp))
          have m0 := cell_of hgw hu
          have hbm : ∀ q ∈ b, q ∈ g :: bss.flatten := fun q hq => List.mem_cons_of_mem _ (List.mem_flatten.2 ⟨b, List.mem_of_getElem? hbj, hq⟩)
          have HKB := hid (show Kp (· ∈ b) w wr from HSJ.out.2.2.2.2.2.1.mono (fun q _ hq => HNG.out q (hbm q hq)))
          have hgl := lt_of_block hgw
          have hb2 := HSJ.out.2.2.2.2.2.1.size
          have HCH := hid (HIH.out _ ks[j] b wr base (.slice a2 L c2) (rs0 ++ rs) (hown.keep HKB.out) (nodup_at HFN.out hbj) (by have h1 := T.sizeL_mem (List.getElem_mem hlt); have := HSK.out; omega) HSJ.out.1 (fun q hq hqb => by
            rcases HSJ.out.2.2.2.2.2.2 with h | ⟨q', h, hq'⟩
            · rw [h] at hq; exact HLK.out q hq (hbm q hqb)
            · rw [h] at hq; cases hq; have := hown.lt _ hqb; omega) (by omega) (by
            have h1 := HSJ.out.2.2.2.2.1
            have h2 := T.sizeL_take ks j hlt
            have h3 := T.sizeL_split ks (j + 1)
            have := HSZ.out
            rw [List.length_append]
            omega))
          have HBJ := hid hbj
          have HOW := hid hown
          clear hu hbj hown hgw hbm
          go_wp2_with fail
          refine HCH.out.mono ?_
          rintro e w2 ⟨v', rs', rfl, hrow2, hm2, hnd2, hok2, hl2, hkp2, hown2⟩
          have HR2 := hid (And.intro hrow2 (And.intro hm2 (And.intro hnd2 (And.intro hok2 (And.intro hl2 (And.intro hkp2 hown2))))))
          obtain ⟨a3, c3, rfl⟩ := ownsRow_slice hrow2
          generalize hL2 : (rs0 ++ rs ++ rs').length = L2 at HR2 ⊢
          have HL2 := hid hL2
          clear hL2 hrow2 hm2 hnd2 hok2 hl2 hkp2 hown2 HCH m0
          go_wp2_with fail
          go_roundw
          case rel =>
            obtain ⟨hrow2, hm2, hnd2, hok2, hl2, hkp2, hown2⟩ := HR2.out
            have hso := HSJ.out.2.2.2.2.2.2
            refine ⟨j + 1, rs ++ rs', hlt, by go_num, ?_, ?_, ?_, ?_, ?_, ?_, ?_⟩
            · rw [← List.append_assoc, HL2.out]; exact hrow2
            · intro r hr
              rcases List.mem_append.1 hr with hr | hr
              · exact (take_flat HBJ.out).2 (.inl (HSJ.out.2.1 r hr))
              · exact (take_flat HBJ.out).2 (.inr (hm2 r hr))
            · rw [List.map_append, List.nodup_append]
              refine ⟨HSJ.out.2.2.1, hnd2, fun a ha c hc e => ?_⟩
              obtain ⟨r, hr, rfl⟩ := List.mem_map.1 ha
              obtain ⟨r', hr', rfl⟩ := List.mem_map.1 hc
              exact not_before HFN.out HBJ.out (hm2 r' hr') (by rw [← e]; exact HSJ.out.2.1 r hr)
            · intro r hr
              rcases List.mem_append.1 hr with hr | hr
              · exact HSJ.out.2.2.2.1 r hr
              · obtain ⟨h1, h2, h3, cs', h4, h5⟩ := hok2 r hr
                exact ⟨h1, h2, h3, cs', by rw [← h4]; exact (HKB.out.block r.1 (HOW.out.lt _ (hm2 r hr)) (hm2 r hr)).symm, h5⟩
            · have h1 := HSJ.out.2.2.2.2.1
              have h2 := T.sizeL_take ks j hlt
              rw [List.length_append]
              omega
            · refine HSJ.out.2.2.2.2.2.1.chain hkp2 (fun q hq hne e => ?_)
              rcases hso with h | ⟨q', h, hq'⟩
              · rw [h] at e; exact hne e
              · rw [h] at e; cases e; omega
            · rcases hown2 with h | ⟨q', h, hq'⟩
              · rw [h]; exact hso
              · exact .inr ⟨q', h, by omega⟩
          case measure => simp [intOf]; omega
        · have hje : j = ks.length := by omega
          have HFL := hid (show (bss.take j).flatten = bss.flatten by rw [hje, ← HBL.out, List.take_length])
          have HSL := hid (show T.sizeL (ks.take j) = T.sizeL ks by rw [hje, List.take_length])
          clear hje
          obtain ⟨g1, g2, g3, g4, g5, g6, g7⟩ := HSJ.out
          have HS := hid (show rs.length ≤ T.sizeL ks by rw [← HSL.out]; exact g5)
          by_cases hc0 : c = 0
          · have hc1 : decide ((0 : Int) < c) = false := decide_eq_false (by omega)
            have HR := hid (show ListsR w base (.slice la rs0.length lc) rs0 (T.size (.node 5 0 ⟨#[]⟩ ks)) (g :: bss.flatten) (.returned (.slice a2 L c2)) wr from ⟨_, rs, rfl, g1, fun r hr => List.mem_cons_of_mem _ (by rw [← HFL.out]; exact g2 r hr), g3, g4, by simp only [T.size]; have := HS.out; omega, g6, g7⟩)
            clear g1 g2 g3 g4 g5 g6 g7
            go_wp2_with fail
            go_ret
            exact HR.out
          · have hc1 : decide ((0 : Int) < c) = true := decide_eq_true (by omega)
            obtain ⟨i0, hi0, hz0, hz1, hz2⟩ := info_parts listInfo
            have hLb : (L : Int) ≤ 1000000 := by have h1 := HL.out; rw [List.length_append] at h1; have := HS.out; have := HSZ.out; omega
            have hLn : L ≤ 1000000 := by omega
            rw [HL.out] at g1
            have xr2 := ownsRow_keep g1 ((Ext.alloc wr (.cells #[.slice (some ⟨g, 0, none⟩) ks.length c] 61)).kp (fun _ => True)) (fun _ _ => trivial)
            have hbw : base ≤ wr.heap.size := by have := g6.size; omega
            have XR := hid xr2
            have G6 := hid g6
            have G7 := hid g7
            have G2 := hid g2
            have G3 := hid g3
            have G4 := hid g4
            clear g1 g2 g3 g4 g5 g6 g7 xr2
            go_wp2_with (at_builtin; refine wpList_append_own_at _ rfl _ _ 47 rfl base 61 i0 (.slice none 0 0) 1 24 Tryd.underlying47 hi0 hz0 hz1 hz2 rfl (by decide) _ _ _ rfl XR.out ⟨wr.heap.size, 0, none⟩ 1 1 [.slice (some ⟨g, 0, none⟩) ks.length c] rfl rfl (cell_one_new _ _ _) (by simp [Value.oneCell']) (by unfold maxLen; omega) (by omega) (by rw [blkS]; omega) ?_; intro v9 w9 hown9 hgrow9 _ hat9; obtain ⟨a9, c9, rfl⟩ := ownsRow_slice hown9)
            go_ret
            have hgr : (wr.alloc (.cells #[.slice (some ⟨g, 0, none⟩) ks.length c] 61)).grownBy w9 (Value.slice a2 L c2).ownBlock := hgrow9
            have hat : (Value.slice a9 (L + 1) c9).ownBlock = (Value.slice a2 L c2).ownBlock ∨ (Value.slice a9 (L + 1) c9).ownBlock = some (wr.alloc (.cells #[.slice (some ⟨g, 0, none⟩) ks.length c] 61)).heap.size := hat9
            refine ⟨.slice a9 (L + 1) c9, rs ++ [(g, ks.length, c)], rfl, ?_, ?_, ?_, ?_, ?_, ?_, ?_⟩
            · rw [← List.append_assoc, List.map_append, List.length_append, HL.out]; exact hown9
            · intro r hr
              rcases List.mem_append.1 hr with hr | hr
              · exact List.mem_cons_of_mem _ (by rw [← HFL.out]; exact G2.out r hr)
              · rw [List.mem_singleton.1 hr]; exact List.mem_cons_self
            · rw [List.map_append, List.nodup_append]
              refine ⟨G3.out, by simp, fun a ha c hc e => ?_⟩
              obtain ⟨r, hr, rfl⟩ := List.mem_map.1 ha
              have hc' : c = g := by simpa using hc
              exact HGN.out (by rw [← hc', ← e, ← HFL.out]; exact G2.out r hr)
            · intro r hr
              rcases List.mem_append.1 hr with hr | hr
              · exact G4.out r hr
              · rw [List.mem_singleton.1 hr]; exact ⟨by show 0 < c; omega, HLC.out, by show ks.length ≤ 65536; omega, cs, HG.out, HCS.out⟩
            · simp only [T.size]; have := HS.out; rw [List.length_append]; simp; omega
            · refine G6.out.chain (((Ext.alloc wr _).kp _).trans (grown_kp hgr)) (fun q hq hne e => ?_)
              have e' : (Value.slice a2 L c2).ownBlock = some q := e
              clear e
              have e := e'
              rcases G7.out with h | ⟨q', h, hq'⟩
              · rw [h] at e; exact hne e.symm
              · rw [h] at e; cases e; omega
            · rcases hat with h | h
              · rw [h]; exact G7.out
              · exact .inr ⟨_, h, by rw [blkS]; have := G6.out.size; omega⟩
end Go.Proofs.YtbpbkihcfdnphaaDoor
/-
  The statements' Book of values: lists that were taken, each written full with its own mark, in blocks that are all unlike.
-/
namespace Go.Proofs.YtbpbkihcfdnphaaDoor
open Go.RowKit
/-- A list that is written full with a mark. -/
def FullV (w : World) (base : Nat) (r : Nat × Nat × Nat) (m : Int) : Prop :=
  base ≤ r.1 ∧ 0 < r.2.2 ∧ r.2.1 ≤ r.2.2 ∧ r.2.1 ≤ 65536 ∧ ∃ cs, w.heap[r.1]? = some (.cells cs 30) ∧ cs.size = r.2.2 ∧ ∀ k, k < r.2.1 → cs[k]? = some (.iface 58 (.int .i64 m))
/-- The book, but for the values that are kept. -/
structure VB (w : World) (b base : Nat) (lv nv kv : Value) (rs : List (Nat × Nat × Nat)) (sz : Int) : Prop where
  box : w.heap[b]? = some (.cells #[lv, nv, .int .i64 sz, kv] 51)
  rowL : w.ownsRow base 61 1 lv rs.length (rs.map sV)
  rowN : w.ownsRow base 3 1 nv rs.length (rs.map (fun r => Value.int .i64 (r.2.1 : Int)))
  full : ∀ i, (h : i < rs.length) → FullV w base rs[i] (-1 - (i : Int))
  nodup : (rs.map (·.1)).Nodup
  few : 10 * rs.length ≤ 2097152
  fit : (10 * rs.length : Int) ≤ sz
/-- The book's blocks. -/
def VBk (b : Nat) (lv nv : Value) (rs : List (Nat × Nat × Nat)) (q : Nat) : Prop := q = b ∨ lv.ownBlock = some q ∨ nv.ownBlock = some q ∨ q ∈ rs.map (·.1)
theorem FullV.keep {K : Nat → Prop} {w w' : World} {base : Nat} {r : Nat × Nat × Nat} {m : Int} (h : FullV w base r m) (hk : Kp K w w') (hr : K r.1) : FullV w' base r m := by
  obtain ⟨h1, h2, h3, h4, cs, h5, h6⟩ := h
  exact ⟨h1, h2, h3, h4, cs, hk.block' h5 hr, h6⟩
theorem VB.keep {K : Nat → Prop} {w w' : World} {b base : Nat} {lv nv kv : Value} {rs : List (Nat × Nat × Nat)} {sz : Int} (h : VB w b base lv nv kv rs sz) (hk : Kp K w w') (hK : ∀ q, VBk b lv nv rs q → K q) : VB w' b base lv nv kv rs sz where
  box := hk.block' h.box (hK b (.inl rfl))
  rowL := ownsRow_keep h.rowL hk (fun q hq => hK q (.inr (.inl hq)))
  rowN := ownsRow_keep h.rowN hk (fun q hq => hK q (.inr (.inr (.inl hq))))
  full := fun i hi => (h.full i hi).keep hk (hK _ (.inr (.inr (.inr (List.mem_map.2 ⟨_, List.getElem_mem hi, rfl⟩)))))
  nodup := h.nodup
  few := h.few
  fit := h.fit
theorem VB.lt {w : World} {b base : Nat} {lv nv kv : Value} {rs : List (Nat × Nat × Nat)} {sz : Int} (h : VB w b base lv nv kv rs sz) : ∀ q, VBk b lv nv rs q → q < w.heap.size := by
  intro q hq
  rcases hq with rfl | hq | hq | hq
  · exact lt_of_block h.box
  · obtain ⟨_, cur, hc⟩ := ownsRow_block h.rowL hq; exact lt_of_block hc
  · obtain ⟨_, cur, hc⟩ := ownsRow_block h.rowN hq; exact lt_of_block hc
  · obtain ⟨r, hr, rfl⟩ := List.mem_map.1 hq
    obtain ⟨i, hi, rfl⟩ := List.getElem_of_mem hr
    obtain ⟨_, _, _, _, cur, hc, _⟩ := h.full i hi
    exact lt_of_block hc
theorem VB.ty {w : World} {b base : Nat} {lv nv kv : Value} {rs : List (Nat × Nat × Nat)} {sz : Int} (h : VB w b base lv nv kv rs sz) : ∀ q ∈ rs.map (·.1), ∃ cur, w.heap[q]? = some (.cells cur 30) := fun q hq => by
  obtain ⟨r, hr, rfl⟩ := List.mem_map.1 hq
  obtain ⟨i, hi, rfl⟩ := List.getElem_of_mem hr
  obtain ⟨_, _, _, _, cur, hc, _⟩ := h.full i hi
  exact ⟨cur, hc⟩
theorem ty_same {w : World} {q : Nat} {c c' : Array Value} {t t' : TypeId} (h1 : w.heap[q]? = some (.cells c t)) (h2 : w.heap[q]? = some (.cells c' t')) : t = t' := by
  rw [h1] at h2; injection h2 with h2; injection h2
theorem VB.ne {w : World} {b base : Nat} {lv nv kv : Value} {rs : List (Nat × Nat × Nat)} {sz : Int} (h : VB w b base lv nv kv rs sz) : (∀ q, lv.ownBlock = some q → q ≠ b) ∧ (∀ q, nv.ownBlock = some q → q ≠ b) ∧ (∀ q ∈ rs.map (·.1), q ≠ b) ∧ (∀ q, lv.ownBlock = some q → nv.ownBlock ≠ some q) ∧ (∀ q ∈ rs.map (·.1), lv.ownBlock ≠ some q) ∧ (∀ q ∈ rs.map (·.1), nv.ownBlock ≠ some q) := by
  have hb := h.box
  refine ⟨fun q hq e => ?_, fun q hq e => ?_, fun q hq e => ?_, fun q hq e => ?_, fun q hq e => ?_, fun q hq e => ?_⟩
  · subst e; obtain ⟨_, cur, hc⟩ := ownsRow_block h.rowL hq; have := ty_same hb hc; revert this; decide
  · subst e; obtain ⟨_, cur, hc⟩ := ownsRow_block h.rowN hq; have := ty_same hb hc; revert this; decide
  · subst e; obtain ⟨cur, hc⟩ := h.ty q hq; have := ty_same hb hc; revert this; decide
  · obtain ⟨_, cur, hc⟩ := ownsRow_block h.rowL hq
    obtain ⟨_, cur', hc'⟩ := ownsRow_block h.rowN e
    have := ty_same hc hc'; revert this; decide
  · obtain ⟨cur, hc⟩ := h.ty q hq
    obtain ⟨_, cur', hc'⟩ := ownsRow_block h.rowL e
    have := ty_same hc hc'; revert this; decide
  · obtain ⟨cur, hc⟩ := h.ty q hq
    obtain ⟨_, cur', hc'⟩ := ownsRow_block h.rowN e
    have := ty_same hc hc'; revert this; decide
/-- Values of their own memory, in a list: theirs are the blocks bss. -/
def VVals (w : World) (a : Option Addr) (ts : List T) (bss : List (List Nat)) : Prop :=
  bss.length = ts.length ∧ (ts = [] ∨ ∃ pb cs, a = some ⟨pb, 0, none⟩ ∧ w.heap[pb]? = some (.cells cs 30) ∧ pb ∉ bss.flatten ∧ ∀ j, (h : j < ts.length) → ∃ u l d, cs[j]? = some u ∧ bss[j]? = some l ∧ VOwn0 w d u ts[j] l)
/-- What Take leaves: what is there besides is as it was. -/
def TakeV (w : World) (b base : Nat) (lv nv kv : Value) (rs : List (Nat × Nat × Nat)) (sz : Int) (ns : List Nat) (w' : World) : Prop :=
  ∃ lv' nv' rs' sz', VB w' b base lv' nv' kv rs' sz' ∧ sz ≤ sz' ∧ sz' ≤ sz + 1000000000000 ∧ Kp (fun q => ¬ VBk b lv nv rs q ∧ q ∉ ns) w w' ∧ ∀ q, VBk b lv' nv' rs' q → VBk b lv nv rs q ∨ q ∈ ns ∨ w.heap.size ≤ q
end Go.Proofs.YtbpbkihcfdnphaaDoor
