/-
  craft.Work by a contract, whatever the operations give, the values in memory of their own; of a kind that joins.
-/
import Derived.Test.YtaafcmmmkalgjaaGreatDoorCWorkO
import Derived.Test.YtaafcmmmkalgjaaGreatDoorCTItems
import Derived.Test.YtaafcmmmkalgjaaGreatDoorKBlk
import Derived.Test.YtaafcmmmkalgjaaGreatDoorEqs
namespace Go.Proofs.YtaafcmmmkalgjaaGreatDoor
open Go.RowKit
theorem bound_max {P : Nat → Nat → Prop} (hm : ∀ j d, P j d → P j (d + 1)) : ∀ n, (∀ j, j < n → ∃ d, P j d) → ∃ d, ∀ j, j < n → P j d
  | 0, _ => ⟨0, fun j h => absurd h (Nat.not_lt_zero _)⟩
  | n + 1, h => by
    obtain ⟨d1, h1⟩ := bound_max hm n (fun j hj => h j (Nat.lt_succ_of_lt hj))
    obtain ⟨d2, h2⟩ := h n (Nat.lt_succ_self _)
    have up : ∀ j d k, P j d → P j (d + k) := fun j d k hp => by
      induction k with
      | zero => exact hp
      | succ k ih => exact hm j (d + k) ih
    refine ⟨d1 + d2, fun j hj => ?_⟩
    rcases Nat.lt_succ_iff_lt_or_eq.1 hj with hj | rfl
    · exact up j d1 d2 (h1 j hj)
    · rw [Nat.add_comm]; exact up j d2 d1 h2
theorem Rd.deeper {K : Nat → Prop} {w : World} : ∀ {d : Nat} {v : Value} {t : T}, Rd K w d v t → Rd K w (d + 1) v t
  | 0, _, _, h => h.elim
  | d + 1, v, .node k n x ks, ⟨a, c, h1, h3, h4, h5⟩ => ⟨a, c, h1, h3, h4, h5.imp id fun ⟨g, off, ha, hg, hc⟩ => ⟨g, off, ha, hg, fun j hj => by
      obtain ⟨u0, u1, u2, u3, hf, hr⟩ := hc j hj
      exact ⟨u0, u1, u2, u3, hf, Rd.deeper hr⟩⟩⟩
theorem PRow.rdl {w : World} {a : Option Addr} {ts : List T} (h : PRow w a ts) (hn : ts.length * 56 ≤ 140737488351232) : ∃ d, RdL (fun _ => True) w d a ts := by
  rcases h with h | ⟨g, off, ha, hc⟩
  · exact ⟨0, hn, .inl h⟩
  · obtain ⟨d, hd⟩ := bound_max (P := fun j d => ∃ (h : j < ts.length), ∃ u0 u1 u2 u3, Four w g (off + j * 4) u0 u1 u2 u3 ∧ Rd (fun _ => True) w d (.agg #[u0, u1, u2, u3]) ts[j]) (fun j d ⟨h, u0, u1, u2, u3, h4, hr⟩ => ⟨h, u0, u1, u2, u3, h4, hr.deeper⟩) ts.length (fun j hj => by
      obtain ⟨K, d, u0, u1, u2, u3, h4, hr⟩ := hc j hj
      exact ⟨d, hj, u0, u1, u2, u3, h4, hr.mono (fun _ _ _ => trivial)⟩)
    exact ⟨d, hn, .inr ⟨g, off, ha, trivial, fun j hj => by
      obtain ⟨_, u0, u1, u2, u3, h4, hr⟩ := hd j hj
      exact ⟨u0, u1, u2, u3, h4, hr⟩⟩⟩
/-- What Work answers of a kind that joins. -/
def JoinQ (sg : ByteArray) (ts : List T) (Q : World → Value → Prop) (w : World) (V : Value) : Prop :=
  if ∀ t ∈ ts, t.may then (if (T.node 5 0 ⟨#[]⟩ ts).may then (if rightB sg.data.toList (ts.map T.kind) = true then Q w V else V = refV 20) else V = refV 2) else V = refV 1
set_option maxRecDepth 100000 in
set_option maxHeartbeats 4000000 in
theorem work_join (ks : List Kd) (tb : Nat) (op : ByteArray) (a : Option Addr) (c : Nat) (ts : List T) (Q : World → Value → Prop) (w : World) (hl : ks.length ≤ 1000) (ht : TabAt w tb ks) (hm : MaxAt w) (hp : PRow w a ts) (hn : ts.length ≤ 1000000)
    (k : Kd) (f : Nat) (ho : kdFind ks op = some k) (hdo : k.does = some f) (hct : k.min ≤ ts.length) (hcx : k.max < 0) (hj : k.joins = true ∧ k.signs.size ≤ 4000)
    (hd : (∀ t ∈ ts, t.may) → (T.node 5 0 ⟨#[]⟩ ts).may → rightB k.signs.data.toList (ts.map T.kind) = true → ∀ w1 g, Ext w w1 → VOCells w1 g ts → Calls Tryz.prog f #[.slice (some ⟨g, 0, none⟩) ts.length ts.length] w1 fun e w' => ∃ V, e = .returned V ∧ ResR Q w' V ∧ Ext w1 w')
    (he : Enters f) :
    Calls Tryz.prog 24 #[.slice (some ⟨tb, 0, none⟩) ks.length ks.length, .string op, .slice a ts.length c] w fun e w' => ∃ V, e = .returned V ∧ JoinQ k.signs ts Q w' V ∧ (∃ x y z, V = .tuple #[x, y, z]) ∧ Ext w w' := by
  obtain ⟨dd, hrl⟩ := hp.rdl (by omega)
  have HJOIN := hid (fun w1 (hx : Ext w w1) => join_any (c := c) w1 (hrl.keep (hx.kp _)))
  clear hrl
  have HF := hid (fun w1 (hx : Ext w w1) => find_any ks tb op w1 hl (ht.later hx))
  rw [ho] at HF
  have HMX := hid hm
  have HP := hid hp
  have HDK := hid hd
  have HEK := hid he
  have hn' : (ts.length : Int) ≤ 1000000 := by omega
  have hqn : ∀ w : World, (binOp .eql 74 .nilFunc .nilFunc).run Tryz.prog w = .ok (.bool true) w := fun _ => by kernel_rfl
  have hqf : ∀ (f : Nat) (w : World), (binOp .eql 74 (.func (.func f) #[] #[]) .nilFunc).run Tryz.prog w = .ok (.bool false) w := fun _ _ => by kernel_rfl
  clear hl ht hm hp hd he
  obtain ⟨kn, hkn⟩ : ∃ n, ks.length = n := ⟨_, rfl⟩
  rw [hkn] at HF ⊢
  clear hkn ho
  have HDN := hid (fun g ks Q w h2 h3 h4 h5 h6 => done_gen k f hdo HEK.out g ks Q w h2 h3 h4 h5 h6)
  have HJS := hid hj.2
  obtain ⟨k0, k1, k2, k3, k4, k5, k6, k7, k8⟩ := k
  obtain rfl : k8 = true := hj.1
  obtain rfl : k7 = some f := hdo
  dsimp only at HJS HDK hct hcx
  clear hj
  obtain ⟨n, hne⟩ : ∃ n, ts.length = n := ⟨_, rfl⟩
  have HNE := hid hne
  rw [hne] at hn' hct HJOIN ⊢
  clear hne
  have h1 : k1 ≤ (n : Int) := hct
  have hk2 : k2 < 0 := hcx
  have HV := hid (show ∀ W V, JoinQ k5 ts Q W V → JoinQ (⟨k0, k1, k2, k3, k4, k5, k6, some f, true⟩ : Kd).signs ts Q W V from fun _ _ h => h)
  obtain ⟨ti, hi, hz0, hz1, hz2⟩ := info_parts valueInfoC
  obtain ⟨cz, hcz, hmk⟩ : ∃ cz : Array Value, cz.size = n ∧ ∀ w, (Instr.makeSlice 24 (.int .i64 (n : Int)) (.int .i64 (n : Int))).run Tryz.prog w = .ok (.slice (some ⟨w.heap.size, 0, none⟩) n n) (w.alloc (.cells cz 35)) := by
    refine ⟨madeCells (Value.nilIface).cells (n * 1), by rw [size_madeCells]; omega, fun w => ?_⟩
    have := run_make (P := Tryz.prog) w 24 35 ti _ Tryz.underlying24 hi hz0 .i64 .i64 n n (by omega) (Int.le_refl _) (by rw [hz2]; omega) (by omega)
    rw [hz1] at this
    simpa using this
  have HCZ := hid hcz
  clear hcz hi hz0 hz1 hz2
  go_enter Tryz.func24, Tryz.ntmps24
  go_wp2_with fail
  refine (HF.out _ (Ext.refl _)).mono ?_
  rintro e w1 ⟨rfl, hx1⟩
  have X1 := hid hx1
  clear hx1
  unfold kdVal Kd.val fnV
  dsimp only
  go_wp2_with fail
  refine (HJOIN.out _ (X1.out.trans (Ext.alloc _ _))).mono ?_
  rintro e wj ⟨hxj, hcase⟩
  have XJ := hid (X1.out.trans ((Ext.alloc w1 (.cells #[.string k0, .int .i64 k1, .int .i64 k2, .int .i64 k3, .string k4, .string k5, .func (.func k6) #[] #[], .func (.func f) #[] #[], .bool true] 76)).trans hxj))
  have HKB := hid (hxj.block (blk0 w1 (.cells #[.string k0, .int .i64 k1, .int .i64 k2, .int .i64 k3, .string k4, .string k5, .func (.func k6) #[] #[], .func (.func f) #[] #[], .bool true] 76)))
  clear hxj
  generalize w1.heap.size = kx at HKB
  rcases hcase with ⟨⟨t0, ht0, hno⟩, rfl⟩ | ⟨hmay, hno, rfl⟩ | ⟨hmay, hall0, u, bs, rfl, _⟩
  · have HVV := hid (show ∀ W, JoinQ k5 ts Q W (refV 1) from fun W => by unfold JoinQ; rw [if_neg (fun h => hno (h _ ht0))])
    clear hno ht0
    go_wp2_with fail
    go_ret3
    exact ⟨_, rfl, HVV.out _, ⟨_, _, _, rfl⟩, XJ.out⟩
  · have HVV := hid (show ∀ W, JoinQ k5 ts Q W (refV 2) from fun W => by unfold JoinQ; rw [if_pos hmay, if_neg hno])
    clear hno hmay
    go_wp2_with fail
    go_ret3
    exact ⟨_, rfl, HVV.out _, ⟨_, _, _, rfl⟩, XJ.out⟩
  have HMAY := hid hmay
  have HALL0 := hid hall0
  have HVV := hid (show ∀ W V, (if rightB k5.data.toList (ts.map T.kind) = true then Q W V else V = refV 20) → JoinQ k5 ts Q W V from fun W V h => by unfold JoinQ; rw [if_pos hmay, if_pos hall0]; exact h)
  clear hmay hall0
  obtain ⟨zz0, zz1, zz2, zz3, zz4, zz5, zz6, zz7, zz8⟩ := nine_of HKB.out
  have hkx := lt_of_cell zz0
  have HKX := hid hkx
  go_wp2_with fail
  clear zz0 zz1 zz2 zz3 zz4 zz5 zz6 zz7 zz8 hkx
  have HMK := hid hmk
  clear hmk hqn hqf
  go_loopw [59] (fun q59 wr => ∃ (j : Nat) (cs : Array Value), j ≤ n ∧ q59 = .int .i64 j ∧ Ext w wr ∧ wr.heap[kx]? = some (.cells #[.string k0, .int .i64 k1, .int .i64 k2, .int .i64 k3, .string k4, .string k5, .func (.func k6) #[] #[], .func (.func f) #[] #[], .bool true] 76) ∧ wr.heap[wj.heap.size]? = some (.cells cs 35) ∧ cs.size = n ∧
      (∀ i, (h : i < ts.length) → i < j → ts[i].may ∧ ∃ d u, cs[i]? = some u ∧ VX (wj.heap.size) wr d u ts[i])) (fun q59 _ => n - (intOf q59).toNat)
  case atStart => exact ⟨0, cz, Nat.zero_le _, rfl, XJ.out.trans (Ext.alloc _ _), blkOld _ HKB.out, blk0 _ _, HCZ.out, fun i _ h => absurd h (Nat.not_lt_zero _)⟩
  case round =>
    obtain ⟨j, cs, hj, rfl, hx, hb1, hb3, hcs, hall⟩ := hrel
    have HX := hid hx
    have HB1 := hid hb1
    have HB3 := hid hb3
    have HCS := hid hcs
    have HALL := hid hall
    clear hx hb1 hb3 hcs hall
    by_cases hlt : j < n
    · have hlt' : (j : Int) < n := by omega
      have hjt : j < ts.length := by rw [HNE.out]; exact hlt
      rcases HP.out with e0 | ⟨g, off, rfl, hcells⟩
      · rw [e0] at hjt; exact absurd hjt (Nat.not_lt_zero _)
      obtain ⟨K, d, u0, u1, u2, u3, h4, hrd⟩ := hcells j hjt
      obtain ⟨pk, pn, px, pa, pc, rfl, rfl, rfl, rfl⟩ := hrd.shape
      have HR := hid (fun o => hrd.later (HX.out.trans (Ext.alloc wr o)))
      obtain ⟨m0, m1, m2, m3⟩ := h4.later HX.out
      have hgl := lt_of_cell m0
      have HIN := hid (List.getElem_mem hjt)
      have HST := hid (show ts[j].may → ∀ (cs' : Array Value) (w' : World), (∀ i, i ≠ j → cs'[i]? = cs[i]?) → (∀ i d u, (h : i < ts.length) → VX (wj.heap.size) wr d u ts[i] → VX (wj.heap.size) w' d u ts[i]) → (∃ d u, cs'[j]? = some u ∧ VX (wj.heap.size) w' d u ts[j]) → ∀ i, (h : i < ts.length) → i < j + 1 → ts[i].may ∧ ∃ d u, cs'[i]? = some u ∧ VX (wj.heap.size) w' d u ts[i] from fun hm cs' w' h1 h2 h3 i hi hij => by
        by_cases e : i = j
        · subst e; exact ⟨hm, h3⟩
        · obtain ⟨hmi, d', u', hu', hv'⟩ := HALL.out i hi (by omega)
          exact ⟨hmi, d', u', by rw [h1 i e]; exact hu', h2 i d' u' hi hv'⟩)
      clear hrd hcells h4
      generalize hkl : ts[j].kids.length = kl at m3 HR
      clear hkl
      generalize ts[j] = tj at HR HIN HST
      go_wp2_with fail
      refine (of_any _ (HR.out _)).mono ?_
      rintro e w2 ⟨hy, ⟨htm, u, bs, rfl, hown, hge, hnd⟩ | ⟨htm, rfl⟩⟩
      · obtain ⟨τ, p, rfl⟩ := hown.rd.iface
        have HY := hid ((Ext.alloc wr _).trans hy)
        have HO := hid (show VX (wj.heap.size) w2 _ _ _ from ⟨_, hown, fun q hq => by
          have h1 := hge q hq
          have h2 := lt_of_block HB3.out
          rw [blkS] at h1
          omega⟩)
        have HTM := hid htm
        clear hy hown hge hnd htm
        have hb3' := HY.out.block HB3.out
        have hf3 : w2.frozen? ⟨wj.heap.size, j, none⟩ = false := frozen_of hb3'
        have hc3 : w2.cell? ⟨wj.heap.size, j, none⟩ = some cs[j]! := cell_of hb3' (by
          have hs : j < cs.size := by rw [HCS.out]; exact hlt
          rw [Array.getElem?_eq_getElem hs, getElem!_pos cs j hs])
        clear hb3'
        go_wp2_with fail
        go_roundw
        case rel =>
          have KS : Kp (· ≠ wj.heap.size) w2 (w2.setCell ⟨wj.heap.size, j, none⟩ (.iface τ p)) := Kp.set w2 _ j _ (fun h => h rfl)
          have hle : w.heap.size ≤ wj.heap.size := XJ.out.size
          refine ⟨j + 1, cs.setIfInBounds j (.iface τ p), by omega, by go_num, Kp.extOf (HX.out.trans HY.out) KS hle, set_other (HY.out.block HB1.out) (by have := HKX.out; omega) _, set_at (HY.out.block HB3.out) j _, by rw [Array.size_setIfInBounds]; exact HCS.out, HST.out HTM.out _ _ (fun i hi => set_get_other _ hi) (fun i d' u' hi hv => (hv.later HY.out).keep KS) ⟨_, _, set_get _ (by rw [HCS.out]; exact hlt), HO.out.keep KS⟩⟩
        case measure => simp [intOf]; omega
      · exact absurd (HMAY.out _ HIN.out) htm
    · have hje : j = n := by omega
      have hlt2 : decide ((j : Int) < n) = false := decide_eq_false (by omega)
      have hlt3 : ¬ (j : Int) < n := by omega
      have HVC := hid (show VOCells wr (wj.heap.size) ts from fun i hi => by
        obtain ⟨_, d', u', hu', hv'⟩ := HALL.out i hi (by have := HNE.out; omega)
        obtain ⟨bs', hv', _⟩ := hv'
        exact ⟨d', u', bs', cell_of HB3.out hu', hv'⟩)
      have HDD := hid (HDN.out (wj.heap.size) (ts.map T.kind) Q wr HJS.out (by rw [List.length_map, HNE.out]; omega) (HMX.out.later HX.out) HVC.out.row (fun hr => by
        have h2 := HDK.out HMAY.out HALL0.out hr
        exact fun w3 hx3 => by rw [List.length_map]; exact h2 w3 _ (HX.out.trans hx3) (HVC.out.later hx3)))
      rw [List.length_map, HNE.out] at HDD
      unfold Kd.val fnV at HDD
      dsimp only at HDD
      obtain ⟨z0, z1, z2, z3, z4, z5, z6, z7, z8⟩ := nine_of HB1.out
      clear hje
      go_wp2_with fail
      refine HDD.out.mono ?_
      rintro e w2 ⟨V, rfl, hv, ⟨x, y, z, rfl⟩, hy⟩
      have HY := hid (HX.out.trans hy)
      have HVQ := hid hv
      clear hy hv
      go_wp2_with fail
      go_ret3
      exact ⟨_, rfl, HVV.out _ _ HVQ.out, ⟨_, _, _, rfl⟩, HY.out⟩
end Go.Proofs.YtaafcmmmkalgjaaGreatDoor
/-
  The reference's left, May and Size, each by a contract.
-/
namespace Go.Proofs.YtaafcmmmkalgjaaGreatDoor
open Go.RowKit
/-- What is left of sz behind a value with so many lists around it; -1: it may not be. -/
def leftN (sz nest : Nat) (t : T) : Int := if T.ok sz nest t then ((sz - t.size : Nat) : Int) else -1
theorem leftN_range (sz nest : Nat) (t : T) : -1 ≤ leftN sz nest t ∧ leftN sz nest t ≤ sz := by unfold leftN; split <;> omega
def goodP (k n : Int) (s l dp : Nat) : Prop := T.wfP k n s l ∧ (k = 5 → dp < 64)
instance (k n : Int) (s l dp : Nat) : Decidable (goodP k n s l dp) := by unfold goodP; exact inferInstance
/-- What the loop over the kids has left. -/
def kidsN (sz nest : Nat) (ks : List T) : Int := if T.goodL ks ∧ T.sizeL ks ≤ sz ∧ T.deepL ks ≤ nest then ((sz - T.sizeL ks : Nat) : Int) else -1
theorem kidsN_range (sz nest : Nat) (ks : List T) : -1 ≤ kidsN sz nest ks ∧ kidsN sz nest ks ≤ sz := by unfold kidsN; split <;> omega
theorem kidsN_nil (sz nest : Nat) : kidsN sz nest [] = sz := by simp [kidsN, T.goodL, T.sizeL, T.deepL]
theorem kidsN_next (sz nest : Nat) (ks : List T) (j : Nat) (h : j < ks.length) (h0 : 0 ≤ kidsN sz nest (ks.take j)) : kidsN sz nest (ks.take (j + 1)) = leftN (kidsN sz nest (ks.take j)).toNat nest ks[j] := by
  have s1 := T.sizeL_take ks j h
  have s2 := T.deepL_take ks j h
  have s3 := T.goodL_take ks j h
  unfold kidsN at h0 ⊢
  unfold leftN
  split at h0
  · next hh =>
    rw [if_pos hh]
    obtain ⟨h1, h2, h3⟩ := hh
    rw [Int.toNat_natCast]
    by_cases g : T.ok (sz - T.sizeL (ks.take j)) nest ks[j]
    · have g1 := g.2.1
      have g2 := g.2.2
      rw [if_pos g, if_pos ⟨s3.2 ⟨h1, g.1⟩, by omega, by omega⟩]
      congr 1
      omega
    · rw [if_neg g, if_neg]
      rintro ⟨q1, q2, q3⟩
      exact g ⟨(s3.1 q1).2, by omega, by omega⟩
  · omega
theorem kidsN_stop (sz nest : Nat) (ks : List T) (j : Nat) (h0 : kidsN sz nest (ks.take j) < 0) : kidsN sz nest ks = -1 := by
  unfold kidsN at h0 ⊢
  split at h0
  · omega
  · next hh =>
    rw [if_neg]
    rintro ⟨q1, q2, q3⟩
    have s4 := T.sizeL_split ks j
    have s5 := T.deepL_split ks j
    exact hh ⟨((T.goodL_split ks j).1 q1).1, by omega, by omega⟩
theorem leftN_bad {sz dp : Nat} {k n : Int} {x : ByteArray} {ks : List T} (h : ¬ goodP k n x.size ks.length dp) (hd : dp ≤ 64) : leftN sz (64 - dp) (.node k n x ks) = -1 := by
  unfold leftN
  rw [if_neg]
  rintro ⟨q1, q2, q3⟩
  refine h ⟨q1.1, fun e => ?_⟩
  subst e
  simp only [T.deep, if_pos] at q3
  omega
theorem leftN_short {sz nest : Nat} {k n : Int} {x : ByteArray} {ks : List T} (h : (sz : Int) - 1 - x.size < 0) : leftN sz nest (.node k n x ks) = -1 := by
  unfold leftN
  rw [if_neg]
  rintro ⟨q1, q2, q3⟩
  simp only [T.size] at q2
  omega
theorem leftN_kids {sz dp S : Nat} {k n : Int} {x : ByteArray} {ks : List T} (h : goodP k n x.size ks.length dp) (hS : (S : Int) = (sz : Int) - 1 - x.size) : leftN sz (64 - dp) (.node k n x ks) = kidsN S (64 - (dp + 1)) ks := by
  obtain ⟨hw, hd⟩ := h
  unfold leftN kidsN
  by_cases k5 : k = 5
  · subst k5
    have := hd rfl
    by_cases g : T.goodL ks ∧ T.sizeL ks ≤ S ∧ T.deepL ks ≤ 64 - (dp + 1)
    · rw [if_pos g, if_pos (show T.ok sz (64 - dp) (.node 5 n x ks) from ⟨⟨hw, g.1⟩, by simp only [T.size]; omega, by simp only [T.deep, if_pos]; omega⟩)]
      simp only [T.size]
      congr 1
      omega
    · rw [if_neg g, if_neg]
      rintro ⟨q1, q2, q3⟩
      simp only [T.size] at q2
      simp only [T.deep, if_pos] at q3
      exact g ⟨q1.2, by omega, by omega⟩
  · have l0 : ks = [] := List.eq_nil_of_length_eq_zero (T.wf_leaf hw k5)
    subst l0
    rw [if_pos (show T.ok sz (64 - dp) (.node k n x []) from ⟨⟨hw, trivial⟩, by simp only [T.size, T.sizeL]; omega, by simp only [T.deep, if_neg k5]; omega⟩), if_pos ⟨trivial, by simp [T.sizeL], by simp [T.deepL]⟩]
    simp only [T.size, T.sizeL]
    congr 1
    omega
theorem bool_of {p : Prop} [Decidable p] {b : Bool} (h : decide p = b) : Value.bool b = .bool (decide p) := by rw [h]
set_option maxRecDepth 100000 in
set_option maxHeartbeats 4000000 in
theorem left_any : ∀ (d : Nat) (v : Value) (t : T) (K : Nat → Prop) (w : World) (sz dp : Nat), Rd K w d v t → sz ≤ 65536 → dp ≤ 64 →
    Calls Tryz.prog 72 #[v, .int .i64 sz, .int .i64 dp] w fun e w' => e = .returned (.int .i64 (leftN sz (64 - dp) t)) ∧ Ext w w' := by
  intro d
  induction d with
  | zero => intro v t K w sz dp h; exact h.elim
  | succ d ih =>
    intro v t K w sz dp hr hS hD
    obtain ⟨k, n, x, ks⟩ := t
    obtain ⟨a, c, rfl, hkl⟩ := hr.kidsL
    have hx : x.size ≤ 140737488351232 := by obtain ⟨_, _, _, h2, _⟩ := hr; exact h2
    have HK := hid hkl
    have HIH := hid ih
    have hl' : (ks.length : Int) ≤ 140737488355328 := by have := hkl.1; omega
    have hx' : (x.size : Int) ≤ 140737488355328 := by omega
    clear hr hkl ih
    go_enter Tryz.func72, Tryz.ntmps72
    go_upto_block 0 with fail
    go_cut [7] from 9 (fun g wx => g = .bool (decide (goodP k n x.size ks.length dp)) ∧ wx = w.alloc (.cells #[.int .i64 k, .int .i64 n, .string x, .slice a ks.length c] 30))
    case first =>
      have x1 : ¬ x.size = 0 → ¬ x.toList = [] := fun h h' => h (toList_nil.1 h')
      clear hl' hx'
      by_cases k1 : k = 1
      · subst k1
        by_cases n0 : n = 0
        · subst n0
          by_cases x0 : x.size = 0
          · obtain rfl := empty_of x0
            clear x1 x0
            by_cases l0 : ks.length = 0
            · have l1 : ((ks.length : Int) == 0) = true := by simpa using l0
              go_wp2_with fail
              go_meet
              case rel => exact ⟨bool_of (decide_eq_true (by have := size0; unfold goodP T.wfP; omega)), by first | rfl | rw [l0]⟩
            · have l1 : ((ks.length : Int) == 0) = false := by simpa using l0
              go_wp2_with fail
              go_meet
              case rel => exact ⟨bool_of (decide_eq_false (by have := size0; unfold goodP T.wfP; omega)), by first | rfl | rw [l0]⟩
          · have x2 := x1 x0
            go_wp2_with fail
            go_meet
            case rel => exact ⟨bool_of (decide_eq_false (by have := size0; unfold goodP T.wfP; omega)), by first | rfl | rw [l0]⟩
        · have n1 : (n == 0) = false := by simpa using n0
          go_wp2_with fail
          go_meet
          case rel => exact ⟨bool_of (decide_eq_false (by have := size0; unfold goodP T.wfP; omega)), by first | rfl | rw [l0]⟩
      by_cases k2 : k = 2
      · subst k2
        by_cases n0 : n = 0
        · subst n0
          by_cases x0 : x.size = 0
          · obtain rfl := empty_of x0
            clear x1 x0
            by_cases l0 : ks.length = 0
            · have l1 : ((ks.length : Int) == 0) = true := by simpa using l0
              go_wp2_with fail
              go_meet
              case rel => exact ⟨bool_of (decide_eq_true (by have := size0; unfold goodP T.wfP; omega)), by first | rfl | rw [l0]⟩
            · have l1 : ((ks.length : Int) == 0) = false := by simpa using l0
              go_wp2_with fail
              go_meet
              case rel => exact ⟨bool_of (decide_eq_false (by have := size0; unfold goodP T.wfP; omega)), by first | rfl | rw [l0]⟩
          · have x2 := x1 x0
            go_wp2_with fail
            go_meet
            case rel => exact ⟨bool_of (decide_eq_false (by have := size0; unfold goodP T.wfP; omega)), by first | rfl | rw [l0]⟩
        by_cases n2 : n = 1
        · subst n2
          clear n0
          by_cases x0 : x.size = 0
          · obtain rfl := empty_of x0
            clear x1 x0
            by_cases l0 : ks.length = 0
            · have l1 : ((ks.length : Int) == 0) = true := by simpa using l0
              go_wp2_with fail
              go_meet
              case rel => exact ⟨bool_of (decide_eq_true (by have := size0; unfold goodP T.wfP; omega)), by first | rfl | rw [l0]⟩
            · have l1 : ((ks.length : Int) == 0) = false := by simpa using l0
              go_wp2_with fail
              go_meet
              case rel => exact ⟨bool_of (decide_eq_false (by have := size0; unfold goodP T.wfP; omega)), by first | rfl | rw [l0]⟩
          · have x2 := x1 x0
            go_wp2_with fail
            go_meet
            case rel => exact ⟨bool_of (decide_eq_false (by have := size0; unfold goodP T.wfP; omega)), by first | rfl | rw [l0]⟩
        have n1 : (n == 0) = false := by simpa using n0
        have n3 : (n == 1) = false := by simpa using n2
        go_wp2_with fail
        go_meet
        case rel => exact ⟨bool_of (decide_eq_false (by have := size0; unfold goodP T.wfP; omega)), by first | rfl | rw [l0]⟩
      by_cases k3 : k = 3
      · subst k3
        by_cases x0 : x.size = 0
        · obtain rfl := empty_of x0
          clear x1 x0
          by_cases l0 : ks.length = 0
          · have l1 : ((ks.length : Int) == 0) = true := by simpa using l0
            go_wp2_with fail
            go_meet
            case rel => exact ⟨bool_of (decide_eq_true (by have := size0; unfold goodP T.wfP; omega)), by first | rfl | rw [l0]⟩
          · have l1 : ((ks.length : Int) == 0) = false := by simpa using l0
            go_wp2_with fail
            go_meet
            case rel => exact ⟨bool_of (decide_eq_false (by have := size0; unfold goodP T.wfP; omega)), by first | rfl | rw [l0]⟩
        · have x2 := x1 x0
          go_wp2_with fail
          go_meet
          case rel => exact ⟨bool_of (decide_eq_false (by have := size0; unfold goodP T.wfP; omega)), by first | rfl | rw [l0]⟩
      by_cases k4 : k = 4
      · subst k4
        by_cases n0 : n = 0
        · subst n0
          by_cases l0 : ks.length = 0
          · have l1 : ((ks.length : Int) == 0) = true := by simpa using l0
            go_wp2_with fail
            go_meet
            case rel => exact ⟨bool_of (decide_eq_true (by have := size0; unfold goodP T.wfP; omega)), by first | rfl | rw [l0]⟩
          · have l1 : ((ks.length : Int) == 0) = false := by simpa using l0
            go_wp2_with fail
            go_meet
            case rel => exact ⟨bool_of (decide_eq_false (by have := size0; unfold goodP T.wfP; omega)), by first | rfl | rw [l0]⟩
        · have n1 : (n == 0) = false := by simpa using n0
          go_wp2_with fail
          go_meet
          case rel => exact ⟨bool_of (decide_eq_false (by have := size0; unfold goodP T.wfP; omega)), by first | rfl | rw [l0]⟩
      by_cases k5 : k = 5
      · subst k5
        by_cases n0 : n = 0
        · subst n0
          by_cases x0 : x.size = 0
          · obtain rfl := empty_of x0
            clear x1 x0
            by_cases d0 : dp < 64
            · have d1 : decide ((dp : Int) < 64) = true := decide_eq_true (by omega)
              go_wp2_with fail
              go_meet
              case rel => exact ⟨bool_of (decide_eq_true (by have := size0; unfold goodP T.wfP; omega)), by first | rfl | rw [l0]⟩
            · have d1 : decide ((dp : Int) < 64) = false := decide_eq_false (by omega)
              go_wp2_with fail
              go_meet
              case rel => exact ⟨bool_of (decide_eq_false (by have := size0; unfold goodP T.wfP; omega)), by first | rfl | rw [l0]⟩
          · have x2 := x1 x0
            go_wp2_with fail
            go_meet
            case rel => exact ⟨bool_of (decide_eq_false (by have := size0; unfold goodP T.wfP; omega)), by first | rfl | rw [l0]⟩
        · have n1 : (n == 0) = false := by simpa using n0
          go_wp2_with fail
          go_meet
          case rel => exact ⟨bool_of (decide_eq_false (by have := size0; unfold goodP T.wfP; omega)), by first | rfl | rw [l0]⟩
      go_wp2_with fail
      go_meet
      case rel => exact ⟨bool_of (decide_eq_false (by have := size0; unfold goodP T.wfP; omega)), by first | rfl | rw [l0]⟩
    case rest =>
      obtain ⟨rfl, rfl⟩ := hcut
      have hb0 := blk0 w (.cells #[.int .i64 k, .int .i64 n, .string x, .slice a ks.length c] 30)
      obtain ⟨q0, q1, q2, q3⟩ := four_of hb0
      by_cases hg : goodP k n x.size ks.length dp
      · have hgd : decide (goodP k n x.size ks.length dp) = true := decide_eq_true hg
        rw [hgd]
        clear hgd
        have HG := hid hg
        clear hg
        by_cases hs : (sz : Int) - 1 - x.size < 0
        · have hs' : decide ((sz : Int) - 1 - x.size < 0) = true := decide_eq_true hs
          have HE := hid (leftN_short (nest := 64 - dp) (k := k) (n := n) (ks := ks) hs)
          clear hs
          go_wp2_with fail
          go_ret
          exact ⟨ret_int' HE.out.symm, Ext.alloc _ _⟩
        · have hs' : decide ((sz : Int) - 1 - x.size < 0) = false := decide_eq_false hs
          obtain ⟨S, hSe⟩ : ∃ S : Nat, (S : Int) = (sz : Int) - 1 - x.size := ⟨((sz : Int) - 1 - x.size).toNat, by omega⟩
          have HE := hid (leftN_kids HG.out hSe)
          have HSZ := hid (show S ≤ 65536 by omega)
          rw [← hSe] at hs'
          have HSE := hid hSe
          clear hs hSe
          have hs2 : decide ((sz : Int) - 1 - x.size < 0) = false := decide_eq_false (by have := HSE.out; omega)
          go_wp2_with fail
          rw [← HSE.out]
          have hS1 : S ≤ 65536 := HSZ.out
          clear hs' hs2 q0 q1 q2 q3
          go_loopw [1, 8] (fun s i wr => ∃ j : Nat, j ≤ ks.length ∧ i = .int .i64 j ∧ s = .int .i64 (kidsN S (64 - (dp + 1)) (ks.take j)) ∧ Ext (w.alloc (.cells #[.int .i64 k, .int .i64 n, .string x, .slice a ks.length c] 30)) wr) (fun _ i _ => ks.length - (intOf i).toNat)
          case atStart => exact ⟨0, Nat.zero_le _, rfl, by rw [List.take_zero, kidsN_nil], Ext.refl _⟩
          case round =>
            obtain ⟨j, hj, rfl, rfl, hx1⟩ := hrel
            have HX1 := hid hx1
            obtain ⟨q0, q1, q2, q3⟩ := four_of (hx1.block hb0)
            clear hx1
            have hr1 := kidsN_range S (64 - (dp + 1)) (ks.take j)
            have HNX := hid (kidsN_next S (64 - (dp + 1)) ks j)
            have HST := hid (kidsN_stop S (64 - (dp + 1)) ks j)
            have HTK := hid (show j = ks.length → ks.take j = ks from fun e => by rw [e, List.take_length])
            generalize hM : kidsN S (64 - (dp + 1)) (ks.take j) = M at hr1 HNX HST ⊢
            have HM := hid hM
            clear hM
            by_cases hlt : j < ks.length
            · have hlt' : (j : Int) < ks.length := by omega
              by_cases hM0 : 0 ≤ M
              · obtain ⟨g, off, k', n', x', a', l', c', rfl, hg, h4, hrd⟩ := HK.out.kid hlt
                have hd : dp < 64 := by
                  have h1 := HG.out
                  rcases h1.1 with h | h | h | h | h
                  · omega
                  · omega
                  · omega
                  · omega
                  · exact h1.2 h.1
                have HXw := hid ((Ext.alloc w _).trans HX1.out)
                obtain ⟨m0, m1, m2, m3⟩ := h4.keep (HXw.out.kp K) hg
                have hgl := lt_of_cell m0
                obtain ⟨M', rfl⟩ : ∃ M' : Nat, M = M' := ⟨M.toNat, by omega⟩
                have hge : decide (0 ≤ (M' : Int)) = true := decide_eq_true hM0
                have HC := hid (HIH.out _ ks[j] K wr M' (dp + 1) (hrd.later HXw.out) (by omega) (by omega))
                have hN := HNX.out hlt hM0
                rw [Int.toNat_natCast] at hN
                have HN := hid hN
                have hdI : (dp : Int) < 64 := by omega
                rw [show ((dp + 1 : Nat) : Int) = (dp : Int) + 1 by omega] at HC
                clear h4 hrd hg hN
                generalize leftN M' (64 - (dp + 1)) ks[j] = V at HC HN
                go_wp2_with fail
                refine HC.out.mono ?_
                rintro e w2 ⟨rfl, hx2⟩
                have HX2 := hid (HX1.out.trans hx2)
                clear hx2 HC m0 m1 m2 m3 q0 q1 q2 q3
                go_wp2_with fail
                go_roundw
                case rel =>
                  have REL : ∃ j' : Nat, j' ≤ ks.length ∧ Value.int .i64 ((j : Int) + 1) = .int .i64 j' ∧ Value.int .i64 V = .int .i64 (kidsN S (64 - (dp + 1)) (ks.take j')) ∧ Ext (w.alloc (.cells #[.int .i64 k, .int .i64 n, .string x, .slice (some ⟨g, off, none⟩) ks.length c] 30)) w2 :=
                    ⟨j + 1, hlt, by go_num, by rw [HN.out], HX2.out⟩
                  first | exact REL | ((repeat apply Exists.intro); exact ⟨REL, rfl⟩)
                case measure => simp [intOf]; omega
              · have hge : decide (0 ≤ M) = false := decide_eq_false hM0
                have HE2 := hid (HST.out (by omega))
                have hM1 : M = -1 := by omega
                subst hM1
                go_wp2_with fail
                go_ret
                exact ⟨ret_int' (HE.out.trans HE2.out).symm, (Ext.alloc w _).trans HX1.out⟩
            · have hje : j = ks.length := by omega
              have HE2 := hid (show M = kidsN S (64 - (dp + 1)) ks by rw [← HM.out, HTK.out hje])
              clear hje
              go_wp2_with fail
              go_ret
              exact ⟨ret_int' (HE2.out.trans HE.out.symm), (Ext.alloc w _).trans HX1.out⟩
      · have hgd : decide (goodP k n x.size ks.length dp) = false := decide_eq_false hg
        rw [hgd]
        have HE := hid (leftN_bad (sz := sz) hg hD)
        clear hgd hg
        go_wp2_with fail
        go_ret
        exact ⟨ret_int' HE.out.symm, Ext.alloc _ _⟩
set_option maxRecDepth 100000 in
theorem rmay_any {K : Nat → Prop} {d : Nat} {v : Value} {t : T} (w : World) (hr : Rd K w d v t) :
    Calls Tryz.prog 36 #[v] w fun e w' => e = .returned (.bool (decide t.may)) ∧ Ext w w' := by
  obtain ⟨u0, u1, u2, u3, rfl⟩ := hr.agg
  obtain ⟨k, n, x, a, c, rfl, rfl, rfl, rfl⟩ := hr.shape
  have HC := hid (fun w1 (h : Ext w w1) => left_any d _ t K w1 65536 0 (hr.later h) (by omega) (by omega))
  have HR := leftN_range 65536 (64 - 0) t
  have HE := hid (show decide (0 ≤ leftN 65536 (64 - 0) t) = decide t.may by
    unfold leftN
    by_cases h : T.ok 65536 (64 - 0) t
    · rw [if_pos h, decide_eq_true (show t.may from h)]; exact decide_eq_true (by omega)
    · rw [if_neg h, decide_eq_false (show ¬ t.may from h)]; rfl)
  clear hr
  generalize leftN 65536 (64 - 0) t = M at *
  generalize (T.kids t).length = kt at *
  go_enter Tryz.func36, Tryz.ntmps36
  go_wp2_with fail
  refine (HC.out _ (Ext.alloc _ _)).mono ?_
  rintro e w1 ⟨rfl, hx1⟩
  have HX := hid ((Ext.alloc w _).trans hx1)
  clear hx1
  go_wp2_with fail
  go_ret
  exact ⟨ret_bool HE.out, HX.out⟩
end Go.Proofs.YtaafcmmmkalgjaaGreatDoor
