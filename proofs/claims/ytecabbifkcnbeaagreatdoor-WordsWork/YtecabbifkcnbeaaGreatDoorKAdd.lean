/-
  A region that draws its order: its head walked under a condition on the world, its tail (the stores, in a row) without it.
-/
import Derived.Test.YtecabbifkcnbeaaGreatDoorPlainIn
import Derived.StillTail
import Derived.Deep.RegionHeld3
import Derived.Test.YtecabbifkcnbeaaGreatDoorKItems
import Derived.RegionTactic
namespace Go.Proofs.YtecabbifkcnbeaaGreatDoor
section
variable {P : Program} {ops : Array Oper} {Q : Exit → Act → World → Prop} {md : Region.Mode} {S : World → Prop}
/-- Each operation of the tail but its first waits for an earlier one of the tail. -/
def tailB (md : Region.Mode) (ops : Array Oper) (n : Nat) : Bool :=
  (List.range ops.size).all fun t => decide (t ≤ n) || (List.range t).any fun t' => decide (n ≤ t') && Region.waitsFor md ops t t'
theorem tail_waits2 {n : Nat} {listed : Array Bool} (hs : Region.sinkB md ops n = true) (hc : tailB md ops n = true) (hn : n < ops.size) (inv : HeadInv md ops n listed) :
    ∀ (d i : Nat), n - i = d → i < n → listed.getD i true = false → ∀ t, n ≤ t → t ∉ Region.ready md ops listed := by
  intro d
  induction d using Nat.strongRecOn with
  | _ d ih =>
    intro i hd hi hun t ht hr
    obtain ⟨_, ot, hot, hall⟩ := mem_ready.1 hr
    have htlt : t < ops.size := (Array.getElem?_eq_some_iff.1 hot).1
    by_cases htn : t = n
    · subst htn
      have h1 := List.all_eq_true.1 hs i (List.mem_range.2 hi)
      obtain ⟨j, hj, hj2⟩ := List.any_eq_true.1 h1
      simp only [Bool.and_eq_true, decide_eq_true_eq] at hj2
      obtain ⟨oj, hoj, e, he, hb, hon⟩ := Region.waitsFor_spec hj2.2
      have hjle : j ≤ t := by have := List.mem_range.1 hj; omega
      by_cases hjt : j = t
      · subst hjt
        have : oj = ot := Option.some.inj (hoj.symm.trans hot)
        subst this
        have h2 := hall e he hb
        rw [hon, getD_both hun] at h2
        cases h2
      · cases hl : listed.getD j false with
        | true =>
          have h2 := inv.closed j oj hoj hl e he hb
          rw [hon, getD_both hun] at h2
          cases h2
        | false =>
          have hjs : j < listed.size := by rw [inv.size]; omega
          exact ih (t - j) (by omega) j rfl (by omega) (getD_in hjs hl) t (Nat.le_refl _) hr
    · have h1 := List.all_eq_true.1 hc t (List.mem_range.2 htlt)
      simp only [Bool.or_eq_true, decide_eq_true_eq] at h1
      rcases h1 with h1 | h1
      · omega
      · obtain ⟨t', ht', hw⟩ := List.any_eq_true.1 h1
        simp only [Bool.and_eq_true, decide_eq_true_eq] at hw
        obtain ⟨o', ho', e, he, hb, hon⟩ := Region.waitsFor_spec hw.2
        have : o' = ot := Option.some.inj (ho'.symm.trans hot)
        subst this
        have h2 := hall e he hb
        have := List.mem_range.1 ht'
        rw [hon, getD_both (inv.tail t' hw.1 (by omega))] at h2
        cases h2
/-- Whatever order of the head is picked, the condition stands behind each operation; what follows is told by L. -/
def wpHead (P : Program) (md : Region.Mode) (ops : Array Oper) (Q : Exit → Act → World → Prop) (S : World → Prop) (n : Nat) (L : Array Bool → Act → World → Prop) : Nat → Array Bool → Act → World → Prop
  | 0, listed, a, w => L listed a w
  | f + 1, listed, a, w =>
    Region.ready md ops listed ≠ [] ∧ ∀ i ∈ Region.ready md ops listed, i < n ∧ wpOp P ops Q i (fun a' w' => S w' ∧ wpHead P md ops Q S n L f (listed.setIfInBounds i true) a' w') a w

theorem wpAny_of_wpHead {n g : Nat} {L : Array Bool → Act → World → Prop} (hL : ∀ listed a w, L listed a w → wpAny P md ops Q g listed a w) :
    ∀ (f : Nat) (listed : Array Bool) (a : Act) (w : World), wpHead P md ops Q S n L f listed a w → wpAny P md ops Q (f + g) listed a w
  | 0, listed, a, w, h => by rw [Nat.zero_add]; exact hL _ _ _ h
  | f + 1, listed, a, w, h => by
    rw [show f + 1 + g = (f + g) + 1 by omega]
    exact ⟨fun h0 => absurd h0 h.1, fun i hi => wpOp_mono (fun a' w' h' => wpAny_of_wpHead hL f _ a' w' h'.2) (h.2 i hi).2⟩

theorem wpHead_first {n i : Nat} {oi : Oper} {v : Value} {L : Array Bool → Act → World → Prop} (hi : ops[i]? = some oi) (hsel : ∀ (j : Nat) (o : Oper) cs b, ops[j]? = some o → o.op ≠ .select cs b)
    (hQ : ∀ c a w, Q (.panic c) (a.put oi.dst v) w → Q (.panic c) a w)
    (hs : Region.sinkB md ops n = true) (hc : tailB md ops n = true) (hn : n < ops.size) (hin : i < n)
    (hdone : ∀ listed a w, L listed a w → ∀ j ∈ Region.ready md ops listed, n ≤ j) :
    ∀ (f : Nat) (listed : Array Bool) (a : Act) (w : World), HeadInv md ops n listed →
      (∀ j oj, ops[j]? = some oj → j ≠ i → listed.getD j true = false → (∀ e ∈ oj.after, Region.binds md e = true → e.on ≠ i) → oi.apart ops oj = true) →
      i ∈ Region.ready md ops listed → YieldsIf P ops S oi v a → S w →
      wpHead P md ops Q S n L f (listed.setIfInBounds i true) (a.put oi.dst v) w → wpHead P md ops Q S n L (f + 1) listed a w := by
  intro f
  induction f with
  | zero =>
    intro listed a w inv _ hr hy hS H
    have hun := (mem_ready.1 hr).1
    refine ⟨fun h => (by rw [h] at hr; cases hr), fun j hj => ?_⟩
    have hjn : j < n := by
      rcases Nat.lt_or_ge j n with h | h
      · exact h
      · exact absurd hj (tail_waits2 hs hc hn inv _ i rfl hin hun j h)
    refine ⟨hjn, ?_⟩
    by_cases hji : j = i
    · subst hji; exact hy.wpOp hi hS ⟨hS, H⟩
    · have := hdone _ _ _ H j (ready_mono hj hji)
      omega
  | succ f ih =>
    intro listed a w inv hfree hr hy hS H
    have hun := (mem_ready.1 hr).1
    refine ⟨fun h => (by rw [h] at hr; cases hr), fun j hj => ?_⟩
    have hjn : j < n := by
      rcases Nat.lt_or_ge j n with h | h
      · exact h
      · exact absurd hj (tail_waits2 hs hc hn inv _ i rfl hin hun j h)
    refine ⟨hjn, ?_⟩
    by_cases hji : j = i
    · subst hji; exact hy.wpOp hi hS ⟨hS, H⟩
    · have h1 := (H.2 j (ready_mono hj hji)).2
      obtain ⟨hjun, oj, hoj, hall⟩ := mem_ready.1 hj
      have hnot : ∀ e ∈ oj.after, Region.binds md e = true → e.on ≠ i := fun e he hb heq => by
        have h1 := hall e he hb
        rw [heq, getD_both hun] at h1
        cases h1
      have h2 := wpOp_putIf hoj (hfree j oj hoj hji hjun hnot) (fun cs b => hsel i oi cs b hi) (fun cs b => hsel j oj cs b hoj) hQ hy h1
      have hfree' : ∀ k ok, ops[k]? = some ok → k ≠ i → (listed.setIfInBounds j true).getD k true = false →
          (∀ e ∈ ok.after, Region.binds md e = true → e.on ≠ i) → oi.apart ops ok = true := fun k ok hk hki hun hno => by
        refine hfree k ok hk hki ?_ hno
        by_cases hjk : j = k
        · subst hjk; exact hjun
        · rw [getD_set_ne true hjk] at hun; exact hun
      refine wpOp_mono (fun a' w' h3 => ⟨h3.2.1, ih (listed.setIfInBounds j true) a' w' (inv.set hj hjn) hfree' (ready_mono hr (Ne.symm hji)) h3.1 h3.2.1 ?_⟩) h2
      rw [Array.setIfInBounds_comm _ _ hji]
      exact h3.2.2

/-- The head's walk, of a list that is closed. -/
def wpHd (P : Program) (md : Region.Mode) (ops : Array Oper) (Q : Exit → Act → World → Prop) (S : World → Prop) (n : Nat) (f : Nat) (listed : Array Bool) (a : Act) (w : World) : Prop :=
  HeadInv md ops n listed → wpHead P md ops Q S n (fun listed' a' w' => (∀ j ∈ Region.ready md ops listed', n ≤ j) ∧ wpAny P md ops Q (ops.size - n) listed' a' w') f listed a w

/-- What the region must meet. -/
def headB (md : Region.Mode) (ops : Array Oper) (n : Nat) : Bool := Region.noSelect ops && decide (n < ops.size) && Region.sinkB md ops n && tailB md ops n

theorem wpHd_take {n i : Nat} {oi : Oper} {v : Value} {f : Nat} {listed : Array Bool} {a : Act} {w : World} (hi : ops[i]? = some oi) (hB : headB md ops n = true)
    (hf : (Region.free md ops listed i && (Region.ready md ops listed).contains i && decide (i < n)) = true)
    (hQ : ∀ c a w, Q (.panic c) (a.put oi.dst v) w → Q (.panic c) a w) (hy : YieldsIf P ops S oi v a) (hS : S w)
    (h : wpHd P md ops Q S n f (listed.setIfInBounds i true) (a.put oi.dst v) w) : wpHd P md ops Q S n (f + 1) listed a w := fun inv => by
  simp only [headB, Bool.and_eq_true, decide_eq_true_eq] at hB hf
  obtain ⟨⟨⟨h1, h2⟩, h3⟩, h4⟩ := hB
  obtain ⟨⟨h5, h6⟩, h7⟩ := hf
  have hr' : i ∈ Region.ready md ops listed := by simpa using h6
  exact wpHead_first hi (Region.noSelect_spec h1) hQ h3 h4 h2 h7 (fun _ _ _ hL => hL.1) f listed a w inv (Region.free_spec hi h5) hr' hy hS (h (inv.set hr' h7))

theorem wpHd_step {n i : Nat} {o : Oper} {f : Nat} {listed : Array Bool} {a : Act} {w : World} (ho : ops[i]? = some o)
    (hr : (decide (Region.ready md ops listed = [i]) && decide (i < n)) = true)
    (h : ∀ K' : Act → World → Prop, Shut (∀ a w, S w → (S w → wpHd P md ops Q S n f (listed.setIfInBounds i true) a w) → K' a w) → if Region.wanted o (yielded ops a.tmps) = true then Oper.wp P o a w K' Q else K' (a.put o.dst undef) w) :
    wpHd P md ops Q S n (f + 1) listed a w := fun inv => by
  simp only [Bool.and_eq_true, decide_eq_true_eq] at hr
  obtain ⟨h1, h2⟩ := hr
  refine ⟨by rw [h1]; simp, fun j hj => ?_⟩
  have hji : j = i := by rw [h1] at hj; simpa using hj
  subst hji
  exact ⟨h2, wpOp_step ho (fun K' hK => h K' (fun a w hS hW => hK a w ⟨hS, hW hS (inv.set hj h2)⟩))⟩

theorem wpHd_done {n : Nat} {listed : Array Bool} {a : Act} {w : World} (hB : (Region.ready md ops listed).all (fun j => decide (n ≤ j)) = true) (g : Nat) (hg : ops.size - n = g) (h : wpAny P md ops Q g listed a w) : wpHd P md ops Q S n 0 listed a w := fun _ => by
  subst hg
  exact ⟨fun j hj => by have := List.all_eq_true.1 hB j hj; simpa using this, h⟩

theorem wp_region_headed {id : Nat} {a : Act} {w : World} (n : Nat) (hm : P.follows .mixedOrders = true) (hB : headB .any ops n = true) (hS : S w.drew)
    (h : S w.drew → wpHd P .any ops Q S n n (Array.replicate ops.size false) a w.drew) : (Code.region id ops true).wp P Q a w := by
  have hn : n < ops.size := by simp only [headB, Bool.and_eq_true, decide_eq_true_eq] at hB; exact hB.1.1.2
  have inv0 : HeadInv .any ops n (Array.replicate ops.size false) :=
    ⟨by simp, fun j oj _ hl => (by rw [getD_replicate_false] at hl; cases hl), fun t _ ht => getD_in (by simpa using ht) (getD_replicate_false _ _)⟩
  refine wp_region_any hm ?_
  have := wpAny_of_wpHead (g := ops.size - n) (fun listed a' w' hL => hL.2) n _ _ _ (h hS inv0)
  rwa [show n + (ops.size - n) = ops.size by omega] at this
theorem wpAny_row {a : Act} {w : World} {listed : Array Bool} (k g : Nat) (hk : (ops.toList.drop k).length = g) (hB : Region.seqB md ops g k listed = true) (h : wpList P ops Q (ops.toList.drop k) a w) : wpAny P md ops Q g listed a w := by
  subst hk
  exact wpAny_of_seq (md := md) (Q' := Q) (ops.toList.drop k) k listed a w (fun j => by simp [List.getElem?_drop]) hB h
end
end Go.Proofs.YtecabbifkcnbeaaGreatDoor
/-
  (*Kit).add of a row that may be, by a contract.
-/
namespace Go.Proofs.YtecabbifkcnbeaaGreatDoor
open Go.RowKit
/-- Where a kind's row stands. -/
def kIx (acc : List Rw) (k : ByteArray) : Option Nat := acc.findIdx? (fun r => decide (r.kind = k))
theorem kIx_snoc {acc : List Rw} {r : Rw} (h : kIx acc r.kind = none) : kIx (acc ++ [r]) = fun k => if k = r.kind then some acc.length else kIx acc k := by
  funext k
  unfold kIx at *
  rw [List.findIdx?_append]
  by_cases e : k = r.kind
  · subst e
    rw [h, if_pos rfl]
    simp
  · rw [if_neg e]
    have e' : ¬ r.kind = k := fun h => e h.symm
    simp [e']
theorem Kp.below {K : Nat → Prop} {a b : World} {base : Nat} (h : Kp K a b) (hK : ∀ q, q < base → K q) (hb : base ≤ a.heap.size) : Below base a b := ⟨h.os, h.tape, h.output, h.size, fun i hi => h.block i (Nat.lt_of_lt_of_le hi hb) (hK i hi)⟩
/-- A kit that is being made. -/
structure KitM (w : World) (base kb mb : Nat) (nm : ByteArray) (mk : Value) (lv : Value) (acc : List Rw) : Prop where
  blk : w.heap[kb]? = some (.cells #[.string nm, lv, .map (some mb), mk] 107)
  kge : base ≤ kb
  mge : base ≤ mb
  map : MapAt w mb acc.length (kIx acc)
  rows : RItems w base lv acc
theorem KitM.later {w w' : World} {base kb mb : Nat} {nm : ByteArray} {mk lv : Value} {acc : List Rw} (h : KitM w base kb mb nm mk lv acc) (hx : Ext w w') : KitM w' base kb mb nm mk lv acc := ⟨hx.block h.blk, h.kge, h.mge, h.map.later hx, h.rows.later hx⟩
theorem KitM.four {w : World} {base kb mb : Nat} {nm : ByteArray} {mk lv : Value} {acc : List Rw} (h : KitM w base kb mb nm mk lv acc) : w.cell? ⟨kb, 0, none⟩ = some (.string nm) ∧ w.cell? ⟨kb, 1, none⟩ = some lv ∧ w.cell? ⟨kb, 2, none⟩ = some (.map (some mb)) ∧ w.cell? ⟨kb, 3, none⟩ = some mk := ⟨cell_of h.blk rfl, cell_of h.blk rfl, cell_of h.blk rfl, cell_of h.blk rfl⟩
/-- A row's block. -/
abbrev RowAt (w : World) (b : Nat) (r : Rw) (a : Option Addr) (c : Nat) : Prop := w.heap[b]? = some (.cells #[.string r.kind, .int .i64 r.min, .int .i64 r.max, .bool r.num, .int .i64 r.text, .slice a r.abs.length c] 118)
set_option linter.unusedSimpArgs false in
set_option maxRecDepth 100000 in
set_option maxHeartbeats 2000000 in
theorem add_good {pre : List UInt8} {r : Rw} (hg : GoodR pre r) (base kb mb : Nat) (nm : ByteArray) (hnm : nm = ⟨pre.toArray⟩) (mk lv : Value) (acc : List Rw) (a : Option Addr) (c : Nat) (w : World) (hk : KitM w base kb mb nm mk lv acc) (ht : TB w a r.abs) (hno : kIx acc r.kind = none) (hlim : acc.length ≤ 1000) (hbw : base ≤ w.heap.size) :
    Calls Tryz.prog 135 #[.pointer (some ⟨kb, 0, none⟩), r.val a c] w fun e w' => e = .returned (.int .i64 0) ∧ ∃ lv', KitM w' base kb mb nm mk lv' (acc ++ [r]) ∧ Below base w w' := by
  subst hnm
  have HMAY := hid (fun w1 (hx : Ext w w1) => may_good hg a c w1 (ht.later hx).row)
  have HKI := hid (fun w1 => hg.kind_ok w1)
  have HCP := hid (fun w1 h => copied_any r a c w1 hg.len h)
  have HK := hid hk
  have HT := hid ht
  have HNO := hid hno
  have hks : r.kind.size ≤ 4000 := hg.size
  have HRV := hid (show r.val a c = .agg #[.string r.kind, .int .i64 r.min, .int .i64 r.max, .bool r.num, .int .i64 r.text, .slice a r.abs.length c] from rfl)
  rw [HRV.out] at HMAY HCP ⊢
  obtain ⟨ao, lc, hlv⟩ := hk.rows.shape
  clear hg hk ht hno
  obtain ⟨M, hM⟩ : ∃ M, w.alloc (.cells #[.string r.kind, .int .i64 r.min, .int .i64 r.max, .bool r.num, .int .i64 r.text, .slice a r.abs.length c] 118) = M := ⟨_, rfl⟩
  have XM := hid (show Ext w M from hM ▸ Ext.alloc _ _)
  have HR0 := hid (show RowAt M w.heap.size r a c from hM ▸ blk0 _ _)
  obtain ⟨SP, hSP⟩ : ∃ S : ByteArray, (⟨pre.toArray⟩ : ByteArray) = S := ⟨_, rfl⟩
  have hsrc := str_eqb SP SP
  rw [decide_eq_true rfl] at hsrc
  rw [hSP] at HKI HK ⊢
  have hsrc2 : (SP.toList != SP.toList) = false := by unfold bne; rw [hsrc]; rfl
  clear hSP
  obtain ⟨z0, z1, z2, z3, z4, z5⟩ := six_of HR0.out
  go_enter Tryz.func135, Tryz.ntmps135
  go_wp2_with fail
  clear hM
  refine (HMAY.out _ XM.out).mono ?_
  rintro e w1 ⟨rfl, hx1⟩
  have X1 := hid (XM.out.trans hx1)
  have HR1 := hid (show RowAt w1 w.heap.size r a c from hx1.block HR0.out)
  obtain ⟨y0, y1, y2, y3, y4, y5⟩ := six_of HR1.out
  clear hx1 z0 z1 z2 z3 z4 z5
  go_wp2_with fail
  obtain ⟨P, hP⟩ := HKI.out w1
  refine hP.mono ?_
  clear hP y0 y1 y2 y3 y4 y5
  rintro e w2 ⟨rfl, hx2⟩
  have X2 := hid (X1.out.trans hx2)
  have HR2 := hid (show RowAt w2 w.heap.size r a c from hx2.block HR1.out)
  obtain ⟨y0, y1, y2, y3, y4, y5⟩ := six_of HR2.out
  have HK2 := hid (HK.out.later X2.out)
  obtain ⟨k0, k1, k2, k3⟩ := HK2.out.four
  have hl := (HK2.out.map.later (Ext.refl w2).drew).look r.kind (by omega)
  rw [HNO.out] at hl
  have hl' : (Instr.lookup 103 (.map (some mb)) (.string r.kind) true).run Tryz.prog w2.drew = .ok (.tuple #[.int .i64 0, .bool false]) w2.drew := hl
  clear hl hx2
  go_upto_region 7 with fail
  go_region
  clear hl'
  subst hlv
  have HL := hid (show acc.length ≤ 1000 from hlim)
  obtain ⟨w3, hput, hmap3, hkp3⟩ := (HK2.out.map.later ((Ext.refl w2).drew).drew).put r.kind acc.length (by omega) (by omega)
  rw [← kIx_snoc HNO.out] at hmap3
  have HP3 := hid hmap3
  have HKP := hid hkp3
  clear hmap3 hkp3
  go_upto_region 10 with fail
  generalize hal : acc.length = al at *
  have HAL := hid hal
  clear hal
  go_region
  have HK3 := hid (HKP.out.block' (((Ext.refl w2).drew).drew.block HK2.out.blk) (fun e => (HK2.out.map.nocells (e ▸ HK2.out.blk)).elim))
  have HR3 := hid (show RowAt w3 w.heap.size r a c from HKP.out.block' (((Ext.refl w2).drew).drew.block HR2.out) (fun e => (HK2.out.map.nocells (e ▸ HR2.out)).elim))
  have HI3 := hid ((HK2.out.rows.later ((Ext.refl w2).drew).drew).keep HKP.out (fun q hq e => by
    obtain ⟨_, cur, hc⟩ := HK2.out.rows.block hq
    exact HK2.out.map.nocells (e ▸ hc)) (fun q cur hq e => (HK2.out.map.later ((Ext.refl w2).drew).drew).nocells (e ▸ hq)))
  have HT3 := hid ((HT.out.later (X2.out.trans ((Ext.refl w2).drew).drew)).keep HKP.out (fun q cur hq e => (HK2.out.map.later ((Ext.refl w2).drew).drew).nocells (e ▸ hq)))
  have HRB := hid (show (Value.slice ao al lc).ownBlock ≠ some w.heap.size from fun e => by
    obtain ⟨_, cur, hc⟩ := HK.out.rows.block e
    exact absurd (lt_of_block hc) (Nat.lt_irrefl _))
  have HB3 := hid (show base ≤ w3.heap.size from Nat.le_trans hbw (Nat.le_trans X2.out.size HKP.out.size))
  clear y0 y1 y2 y3 y4 y5 k0 k1 k2 k3 hput
  generalize hrb : w.heap.size = rb at HR3 HRB ⊢
  clear hrb
  have HSK := hid (show ∀ W', W'.heap[kb]? = some (.cells #[.string SP, .slice ao al lc, .map (some mb), mk] 107) → RowAt W' rb r a c → (W'.cell? ⟨kb, 1, none⟩ = some (.slice ao al lc) ∧ W'.cell? ⟨rb, 0, none⟩ = some (.string r.kind) ∧ W'.cell? ⟨rb, 1, none⟩ = some (.int .i64 r.min) ∧ W'.cell? ⟨rb, 2, none⟩ = some (.int .i64 r.max) ∧ W'.cell? ⟨rb, 3, none⟩ = some (.bool r.num) ∧ W'.cell? ⟨rb, 4, none⟩ = some (.int .i64 r.text) ∧ W'.cell? ⟨rb, 5, none⟩ = some (.slice a r.abs.length c)) from fun W' X Y => by
    obtain ⟨s0, s1, s2, s3, s4, s5⟩ := six_of Y
    exact ⟨cell_of X rfl, s0, s1, s2, s3, s4, s5⟩)
  go_upto_region 11 with fail
  refine wp_region_noPanic ?_
  refine wp_region_headed (S := fun W' => W'.cell? ⟨kb, 1, none⟩ = some (.slice ao al lc) ∧ W'.cell? ⟨rb, 0, none⟩ = some (.string r.kind) ∧ W'.cell? ⟨rb, 1, none⟩ = some (.int .i64 r.min) ∧ W'.cell? ⟨rb, 2, none⟩ = some (.int .i64 r.max) ∧ W'.cell? ⟨rb, 3, none⟩ = some (.bool r.num) ∧ W'.cell? ⟨rb, 4, none⟩ = some (.int .i64 r.text) ∧ W'.cell? ⟨rb, 5, none⟩ = some (.slice a r.abs.length c)) 9 (by kernel_rfl) (by kernel_rfl) (HSK.out _ ((Ext.refl w3).drew.block HK3.out) ((Ext.refl w3).drew.block HR3.out)) (fun hS => ?_)
  have Z0 : Ext w3 w3.drew := Ext.drew (Ext.refl _)
  refine wpHd_take (i := 0) (oi := ?o0) (v := ?v0) ?hi0 (by kernel_rfl) (by kernel_rfl) (fun _ _ _ h => h) (Or.inl ⟨?hw0, ?hy0⟩) hS ?rs0
  case hi0 => (simp only [List.getElem?_toArray, List.getElem?_cons_succ, List.getElem?_cons_zero]; rfl)
  case hw0 => rfl
  case hy0 => (intro w hSw; (try dsimp only at hSw); obtain ⟨t0, t1, t2, t3, t4, t5, t6⟩ := hSw; go_simp; all_goals with_reducible rfl)
  try simp only [Act.put, List.setIfInBounds_toArray, List.set_cons_zero, List.set_cons_succ]
  refine wpHd_take (i := 1) (oi := ?o1) (v := ?v1) ?hi1 (by kernel_rfl) (by kernel_rfl) (fun _ _ _ h => h) (Or.inl ⟨?hw1, ?hy1⟩) hS ?rs1
  case hi1 => (simp only [List.getElem?_toArray, List.getElem?_cons_succ, List.getElem?_cons_zero]; rfl)
  case hw1 => rfl
  case hy1 => (intro w hSw; (try dsimp only at hSw); obtain ⟨t0, t1, t2, t3, t4, t5, t6⟩ := hSw; go_simp; all_goals with_reducible rfl)
  try simp only [Act.put, List.setIfInBounds_toArray, List.set_cons_zero, List.set_cons_succ]
  refine wpHd_take (i := 2) (oi := ?o2) (v := ?v2) ?hi2 (by kernel_rfl) (by kernel_rfl) (fun _ _ _ h => h) (Or.inl ⟨?hw2, ?hy2⟩) hS ?rs2
  case hi2 => (simp only [List.getElem?_toArray, List.getElem?_cons_succ, List.getElem?_cons_zero]; rfl)
  case hw2 => rfl
  case hy2 => (intro w hSw; (try dsimp only at hSw); obtain ⟨t0, t1, t2, t3, t4, t5, t6⟩ := hSw; go_simp; all_goals with_reducible rfl)
  try simp only [Act.put, List.setIfInBounds_toArray, List.set_cons_zero, List.set_cons_succ]
  refine wpHd_take (i := 3) (oi := ?o3) (v := ?v3) ?hi3 (by kernel_rfl) (by kernel_rfl) (fun _ _ _ h => h) (Or.inl ⟨?hw3, ?hy3⟩) hS ?rs3
  case hi3 => (simp only [List.getElem?_toArray, List.getElem?_cons_succ, List.getElem?_cons_zero]; rfl)
  case hw3 => rfl
  case hy3 => (intro w hSw; (try dsimp only at hSw); obtain ⟨t0, t1, t2, t3, t4, t5, t6⟩ := hSw; go_simp; all_goals with_reducible rfl)
  try simp only [Act.put, List.setIfInBounds_toArray, List.set_cons_zero, List.set_cons_succ]
  refine wpHd_take (i := 4) (oi := ?o4) (v := ?v4) ?hi4 (by kernel_rfl) (by kernel_rfl) (fun _ _ _ h => h) (Or.inl ⟨?hw4, ?hy4⟩) hS ?rs4
  case hi4 => (simp only [List.getElem?_toArray, List.getElem?_cons_succ, List.getElem?_cons_zero]; rfl)
  case hw4 => rfl
  case hy4 => (intro w hSw; (try dsimp only at hSw); obtain ⟨t0, t1, t2, t3, t4, t5, t6⟩ := hSw; go_simp; all_goals with_reducible rfl)
  try simp only [Act.put, List.setIfInBounds_toArray, List.set_cons_zero, List.set_cons_succ]
  refine wpHd_take (i := 5) (oi := ?o5) (v := ?v5) ?hi5 (by kernel_rfl) (by kernel_rfl) (fun _ _ _ h => h) (Or.inl ⟨?hw5, ?hy5⟩) hS ?rs5
  case hi5 => (simp only [List.getElem?_toArray, List.getElem?_cons_succ, List.getElem?_cons_zero]; rfl)
  case hw5 => rfl
  case hy5 => (intro w hSw; (try dsimp only at hSw); obtain ⟨t0, t1, t2, t3, t4, t5, t6⟩ := hSw; go_simp; all_goals with_reducible rfl)
  try simp only [Act.put, List.setIfInBounds_toArray, List.set_cons_zero, List.set_cons_succ]
  refine wpHd_step (i := 6) (o := ?o6) ?hi6 (by kernel_rfl) (fun K hK => ?st6)
  case hi6 => (simp only [List.getElem?_toArray, List.getElem?_cons_succ, List.getElem?_cons_zero]; rfl)
  go_simp
  refine (HCP.out _ (HT3.out.later Z0)).mono ?_
  rintro r9 w9 ⟨a9, c9, rfl, htb9, hx9⟩
  have Z1 : Ext w3 w9 := Z0.trans hx9
  have HTB9 := hid htb9
  clear hx9 htb9
  unfold Rw.val
  try go_simp
  refine hK.out _ _ ?_ (fun hS => ?_)
  · exact HSK.out _ (Z1.block HK3.out) (Z1.block HR3.out)
  clear hK K
  try simp only [Act.put, List.setIfInBounds_toArray, List.set_cons_zero, List.set_cons_succ]
  refine wpHd_step (i := 7) (o := ?o7) ?hi7 (by kernel_rfl) (fun K hK => ?st7)
  case hi7 => (simp only [List.getElem?_toArray, List.getElem?_cons_succ, List.getElem?_cons_zero]; rfl)
  go_simp
  refine hK.out _ _ ?_ (fun hS => ?_)
  · exact HSK.out _ ((Z1.more _).block HK3.out) ((Z1.more _).block HR3.out)
  clear hK K
  try simp only [Act.put, List.setIfInBounds_toArray, List.set_cons_zero, List.set_cons_succ]
  refine wpHd_step (i := 8) (o := ?o8) ?hi8 (by kernel_rfl) (fun K hK => ?st8)
  case hi8 => (simp only [List.getElem?_toArray, List.getElem?_cons_succ, List.getElem?_cons_zero]; rfl)
  refine step_ritem (ty := 118) _ (by rfl) _ _ (by rfl) (by rfl) base w9.heap.size (.slice ao al lc) acc r a9 c9 (by rfl) (by rfl) (Nat.le_trans HB3.out (Nat.le_trans Z1.size (Nat.le_of_lt (lt_of_block (blk0 w9 (.cells (r.cells a9 c9).toArray 118)))))) (HI3.out.later (Z1.trans (Ext.alloc _ _))) (blk0 _ _) (HTB9.out.later (Ext.alloc _ _)) (by have := HL.out; have := HAL.out; omega) ?_
  intro ao5 n5 c5 w5 hit5 hgr5
  have HIT5 := hid hit5
  have HG5 := hid (grown_kp hgr5)
  have HK5 := hid (HG5.out.block' ((Z1.more _).block HK3.out) (fun e => by
    obtain ⟨_, cur, hc⟩ := HI3.out.block e
    rw [HK3.out] at hc
    cases hc))
  have HR5 := hid (show RowAt w5 rb r a c from HG5.out.block' ((Z1.more _).block HR3.out) (fun e => HRB.out e))
  clear hit5 hgr5
  refine hK.out _ _ ?_ (fun hS => ?_)
  · exact HSK.out _ HK5.out HR5.out
  clear hK K
  try simp only [Act.put, List.setIfInBounds_toArray, List.set_cons_zero, List.set_cons_succ]
  refine wpHd_done (by kernel_rfl) 3 rfl ?_
  refine wpAny_row 9 3 rfl (by kernel_rfl) ?_
  clear hS
  have g1 : w5.cell? ⟨kb, 1, none⟩ = some (.slice ao al lc) := cell_of HK5.out rfl
  have g2 : w5.frozen? ⟨kb, 1, none⟩ = false := frozen_of HK5.out
  simp only [List.drop_succ_cons, List.drop_zero]
  go_wp2_with fail
  refine NoPanic.normal ?_
  go_wp2_with fail
  go_ret
  have hkm : kb ≠ mb := fun e => HK.out.map.nocells (e ▸ HK.out.blk)
  have KS := Kp.set w5 kb 1 (.slice ao5 n5 c5) (K := (· ≠ kb)) (fun h => h rfl)
  have hm5 : MapAt w5 mb (al + 1) (kIx (acc ++ [r])) := (HP3.out.later (Z1.more _)).keep HG5.out (fun e => by
    obtain ⟨_, cur, hc⟩ := HI3.out.block e
    exact HP3.out.nocells hc)
  refine ⟨rfl, .slice ao5 n5 c5, ⟨(set_at HK5.out 1 _).trans (by simp), HK.out.kge, HK.out.mge, ?_, ?_⟩, ?_⟩
  · rw [show (acc ++ [r]).length = al + 1 by rw [List.length_append, HAL.out]; rfl]
    exact hm5.keep KS (fun e => hkm e.symm)
  · refine HIT5.out.keep KS (fun q hq e => ?_) (fun q cur hq e => ?_)
    · obtain ⟨_, cur, hc⟩ := HIT5.out.block hq
      rw [e, HK5.out] at hc
      cases hc
    · rw [e, HK5.out] at hq
      cases hq
  · have b1 : Below base w w2.drew.drew := Below.mono (X2.out.trans ((Ext.refl w2).drew).drew) hbw
    have b2 : Below base w2.drew.drew w3 := HKP.out.below (fun q hq e => by have := HK.out.mge; omega) (Nat.le_trans hbw X2.out.size)
    have b3 : Below base w3 _ := Below.mono (Z1.more (.cells #[.string r.kind, .int .i64 r.min, .int .i64 r.max, .bool r.num, .int .i64 r.text, .slice a9 r.abs.length c9] 118)) HB3.out
    have b4 : Below base _ w5 := HG5.out.below (fun q hq e => by
      have := (HK.out.rows.block e).1
      omega) (Nat.le_trans HB3.out (Z1.more (.cells #[.string r.kind, .int .i64 r.min, .int .i64 r.max, .bool r.num, .int .i64 r.text, .slice a9 r.abs.length c9] 118)).size)
    have b5 : Below base w5 _ := KS.below (fun q hq e => by have := HK.out.kge; omega) (Nat.le_trans (Nat.le_trans HB3.out (Z1.more (.cells #[.string r.kind, .int .i64 r.min, .int .i64 r.max, .bool r.num, .int .i64 r.text, .slice a9 r.abs.length c9] 118)).size) HG5.out.size)
    exact (((b1.trans b2).trans b3).trans b4).trans b5
end Go.Proofs.YtecabbifkcnbeaaGreatDoor
