/-
  A list of rows that is being made; one more is appended. kit.copied.
-/
import Derived.Test.YtaafcmmmkalgjaaGreatDoorCWork
import Derived.Maps.AppendAt
import Derived.Test.YtaafcmmmkalgjaaGreatDoorEqs
import Derived.Test.YtaafcmmmkalgjaaGreatDoorCRightW
import Derived.Test.YtaafcmmmkalgjaaGreatDoorBKind
import Derived.Test.YtaafcmmmkalgjaaGreatDoorCMay
import Derived.Test.YtaafcmmmkalgjaaGreatDoorTFit
namespace Go.Proofs.YtaafcmmmkalgjaaGreatDoor
open Go.RowKit
theorem rowInfo : (Tryz.prog.info? 102).map (fun i => (i.zero, i.size, i.bytes)) = some (some (.agg #[.string ⟨#[]⟩, .int .i64 0, .int .i64 0, .bool false, .int .i64 0, .slice none 0 0]), 6, 72) := by kernel_rfl
def Rw.cells (r : Rw) (a : Option Addr) (c : Nat) : List Value := [.string r.kind, .int .i64 r.min, .int .i64 r.max, .bool r.num, .int .i64 r.text, .slice a r.abs.length c]
/-- Six values of a list are a row's. -/
def RAt (us : List Value) (i : Nat) (r : Rw) (a : Option Addr) (c : Nat) : Prop := us[i]? = some (.string r.kind) ∧ us[i + 1]? = some (.int .i64 r.min) ∧ us[i + 2]? = some (.int .i64 r.max) ∧ us[i + 3]? = some (.bool r.num) ∧ us[i + 4]? = some (.int .i64 r.text) ∧ us[i + 5]? = some (.slice a r.abs.length c)
/-- The slice lv holds rows that were made; each row's texts in a block of their own. -/
def RItems (w : World) (base : Nat) (lv : Value) (acc : List Rw) : Prop := ∃ us : List Value, w.ownsRow base 102 6 lv acc.length us ∧ ∀ j, (h : j < acc.length) → ∃ a c, RAt us (j * 6) acc[j] a c ∧ TB w a acc[j].abs
theorem RItems.nil (w : World) (base : Nat) : RItems w base (.slice none 0 0) [] := ⟨[], World.ownsRow_nil _ _ _ _, fun _ h => absurd h (Nat.not_lt_zero _)⟩
theorem RItems.keep {w w' : World} {base : Nat} {lv : Value} {acc : List Rw} {K : Nat → Prop} (h : RItems w base lv acc) (hk : Kp K w w') (h1 : ∀ g, lv.ownBlock = some g → K g) (h2 : ∀ g cur, w.heap[g]? = some (.cells cur 9) → K g) : RItems w' base lv acc := by
  obtain ⟨us, ho, hi⟩ := h
  refine ⟨us, ⟨ho.1, ?_⟩, fun j hj => ?_⟩
  · rcases ho.2 with h | ⟨g, cap, cur, hv, hg, hb, hr⟩
    · exact .inl h
    · exact .inr ⟨g, cap, cur, hv, hg, hk.block' hb (h1 g (by rw [hv]; rfl)), hr⟩
  · obtain ⟨a, c, h3, h4⟩ := hi j hj
    exact ⟨a, c, h3, h4.keep hk h2⟩
theorem RItems.later {w w' : World} {base : Nat} {lv : Value} {acc : List Rw} (h : RItems w base lv acc) (hx : Ext w w') : RItems w' base lv acc := h.keep (hx.kp (fun _ => True)) (fun _ _ => trivial) (fun _ _ _ => trivial)
theorem RItems.shape {w : World} {base : Nat} {lv : Value} {acc : List Rw} (h : RItems w base lv acc) : ∃ ao c, lv = .slice ao acc.length c := by
  obtain ⟨us, ho, _⟩ := h
  rcases ho.2 with ⟨hv, h0⟩ | ⟨g, cap, cur, hv, _⟩
  · exact ⟨none, 0, by rw [hv, h0]⟩
  · exact ⟨_, _, hv⟩
/-- Its block is one of rows. -/
theorem RItems.block {w : World} {base : Nat} {lv : Value} {acc : List Rw} (h : RItems w base lv acc) {g : Nat} (hg : lv.ownBlock = some g) : base ≤ g ∧ ∃ cur, w.heap[g]? = some (.cells cur 102) := by
  obtain ⟨us, ho, _⟩ := h
  rcases ho.2 with ⟨hv, h0⟩ | ⟨g', cap, cur, hv, hb, hbl, _⟩
  · rw [hv] at hg; simp [Value.ownBlock] at hg
  · rw [hv] at hg; simp [Value.ownBlock] at hg; subst hg; exact ⟨hb, cur, hbl⟩
theorem run_ritem {w : World} {ty : TypeId} (base g : Nat) (lv : Value) (acc : List Rw) (r : Rw) (a : Option Addr) (c : Nat) (hB : base ≤ w.heap.size) (hit : RItems w base lv acc) (hg : w.heap[g]? = some (.cells (r.cells a c).toArray ty)) (htb : TB w a r.abs) (hlim : acc.length ≤ 2000000) :
    ∃ ao c' w', (Builtin.append_ #[98, 98] 98 #[lv, .slice (some ⟨g, 0, none⟩) 1 1]).run Tryz.prog w = .ok (.slice ao (acc ++ [r]).length c') w' ∧ RItems w' base (.slice ao (acc ++ [r]).length c') (acc ++ [r]) ∧ w.grownBy w' lv.ownBlock := by
  have HB := fun g' h => hit.block (g := g') h
  obtain ⟨us, ho, hi⟩ := hit
  obtain ⟨ii, hii, hz0, hz1, hz2⟩ := info_parts rowInfo
  have hnews : ∀ (j : Nat) (u : Value), (r.cells a c)[j]? = some u → w.cell? (Addr.add ⟨g, 0, none⟩ j) = some u := by
    intro j u hu
    have e : Addr.add ⟨g, 0, none⟩ j = ⟨g, j, none⟩ := by
      by_cases hj : j = 0
      · subst hj; simp [Addr.add]
      · simp [Addr.add, hj]
    rw [e]
    exact cell_of hg (by simpa using hu)
  obtain ⟨v', w', hr, ho2, hgr, _, hat⟩ := run_append_own_at (P := Tryz.prog) w base 98 98 102 ii _ 6 72 Tryz.underlying98 hii hz0 hz1 hz2 rfl (by decide) lv acc.length us ho ⟨g, 0, none⟩ 1 1 (r.cells a c) rfl hnews (fun u hu => by simp [Rw.cells] at hu; rcases hu with rfl | rfl | rfl | rfl | rfl | rfl <;> rfl) (by unfold maxLen; omega) (by omega) (by omega)
  have hkp := grown_kp hgr
  have hKst : ∀ q cur, w.heap[q]? = some (.cells cur 9) → lv.ownBlock ≠ some q := fun q cur hq e => by
    obtain ⟨_, cur', hc'⟩ := HB q e
    rw [hc'] at hq
    cases hq
  have hul : us.length = acc.length * 6 := ho.1
  have hI : RItems w' base v' (acc ++ [r]) := by
    refine ⟨us ++ r.cells a c, by rw [List.length_append]; exact ho2, fun j hj => ?_⟩
    by_cases hj' : j < acc.length
    · obtain ⟨a', c', ⟨h0, h1, h2, h3, h4, h5⟩, h6⟩ := hi j hj'
      rw [List.getElem_append_left hj']
      exact ⟨a', c', ⟨by rw [List.getElem?_append_left (by omega)]; exact h0, by rw [List.getElem?_append_left (by omega)]; exact h1, by rw [List.getElem?_append_left (by omega)]; exact h2, by rw [List.getElem?_append_left (by omega)]; exact h3, by rw [List.getElem?_append_left (by omega)]; exact h4, by rw [List.getElem?_append_left (by omega)]; exact h5⟩, h6.keep hkp hKst⟩
    · have hje : j = acc.length := by simp at hj; omega
      subst hje
      simp only [List.getElem_append_right (Nat.le_refl _), Nat.sub_self, List.getElem_cons_zero]
      exact ⟨a, c, ⟨by rw [← hul]; simp [Rw.cells], by rw [← hul]; simp [Rw.cells], by rw [← hul]; simp [Rw.cells], by rw [← hul]; simp [Rw.cells], by rw [← hul]; simp [Rw.cells], by rw [← hul]; simp [Rw.cells]⟩, htb.keep hkp hKst⟩
  obtain ⟨ao, c', rfl⟩ := hI.shape
  exact ⟨ao, c', w', hr, hI, hgr⟩
theorem step_ritem {ops : Array Oper} {o : Oper} {ac : Act} {K : Act → World → Prop} {Q : Exit → Act → World → Prop} {E : Prop} {ty : TypeId} (w : World) (hgd : o.guard = none) (x y : Operand)
    (ho : o.op = .call { callee := .builtin .append, args := #[x, y], argTypes := #[98, 98] }) (hty : o.type = 98)
    (base g : Nat) (lv : Value) (acc : List Rw) (r : Rw) (a : Option Addr) (c : Nat) (hx : ac.eval x = lv) (hy : ac.eval y = .slice (some ⟨g, 0, none⟩) 1 1) (hB : base ≤ w.heap.size)
    (hit : RItems w base lv acc) (hg : w.heap[g]? = some (.cells (r.cells a c).toArray ty)) (htb : TB w a r.abs) (hlim : acc.length ≤ 2000000)
    (h : ∀ ao n c' w', RItems w' base (.slice ao n c') (acc ++ [r]) → w.grownBy w' lv.ownBlock → K (ac.put o.dst (.slice ao n c')) w') :
    if Region.wanted o (yielded ops ac.tmps) = true then Oper.wp Tryz.prog o ac w K Q else E := by
  have hw : Region.wanted o (yielded ops ac.tmps) = true := by simp [Region.wanted, hgd]
  rw [if_pos hw]
  obtain ⟨ao, c', w', hr, h2, h3⟩ := run_ritem (ty := ty) base g lv acc r a c hB hit hg htb hlim
  unfold Oper.wp execOp
  simp only [ho, hty, resolve, invoke, builtin, Sem.run_bind, Sem.run_pure, Result.andThen_ok, List.map_toArray, List.map_cons, List.map_nil, hx, hy, hr]
  exact h ao _ c' w' h2 h3
theorem six_set {w : World} {b : Nat} {v0 v1 v2 v3 v4 v5 u0 u1 u2 u3 u4 u5 : Value} {t : TypeId} (h : w.heap[b]? = some (.cells #[v0, v1, v2, v3, v4, v5] t)) : ((((((w.setCell ⟨b, 0, none⟩ u0).setCell ⟨b, 1, none⟩ u1).setCell ⟨b, 2, none⟩ u2).setCell ⟨b, 3, none⟩ u3).setCell ⟨b, 4, none⟩ u4).setCell ⟨b, 5, none⟩ u5).heap[b]? = some (.cells #[u0, u1, u2, u3, u4, u5] t) := (set_at (set_at (set_at (set_at (set_at (set_at h 0 u0) 1 u1) 2 u2) 3 u3) 4 u4) 5 u5).trans (by simp)
theorem Kp.set6 (w : World) (g : Nat) (v0 v1 v2 v3 v4 v5 : Value) : Kp (· ≠ g) w ((((((w.setCell ⟨g, 0, none⟩ v0).setCell ⟨g, 1, none⟩ v1).setCell ⟨g, 2, none⟩ v2).setCell ⟨g, 3, none⟩ v3).setCell ⟨g, 4, none⟩ v4).setCell ⟨g, 5, none⟩ v5) :=
  (((((Kp.set w g 0 v0 (fun h => h rfl)).trans (Kp.set _ g 1 v1 (fun h => h rfl))).trans (Kp.set _ g 2 v2 (fun h => h rfl))).trans (Kp.set _ g 3 v3 (fun h => h rfl))).trans (Kp.set _ g 4 v4 (fun h => h rfl))).trans (Kp.set _ g 5 v5 (fun h => h rfl))
set_option maxRecDepth 100000 in
theorem copied_any (r : Rw) (a : Option Addr) (c : Nat) (w : World) (hl : r.abs.length ≤ 100) (h : TB w a r.abs) : Calls Tryz.prog 109 #[r.val a c] w fun e w' => ∃ a' c', e = .returned (r.val a' c') ∧ TB w' a' r.abs ∧ Ext w w' := by
  have HC := hid (fun w1 (hx : Ext w w1) => cloneT a c r.abs w1 hl (h.later hx))
  unfold Rw.val
  obtain ⟨k, mn, mx, nm, tx, abs⟩ := r
  dsimp only at *
  generalize abs.length = l at *
  clear h hl
  obtain ⟨M, hM⟩ : ∃ M, (w.alloc (.cells #[.string k, .int .i64 mn, .int .i64 mx, .bool nm, .int .i64 tx, .slice a l c] 102)).alloc (.cells #[.string ⟨#[]⟩, .int .i64 0, .int .i64 0, .bool false, .int .i64 0, .slice none 0 0] 102) = M := ⟨_, rfl⟩
  have XM := hid (show Ext w M from hM ▸ Ext.alloc2 _ _ _)
  have HM0 := hid (show M.heap[w.heap.size]? = some (.cells #[.string k, .int .i64 mn, .int .i64 mx, .bool nm, .int .i64 tx, .slice a l c] 102) from hM ▸ blkOld _ (blk0 _ _))
  have HM1 := hid (show M.heap[w.heap.size + 1]? = some (.cells #[.string ⟨#[]⟩, .int .i64 0, .int .i64 0, .bool false, .int .i64 0, .slice none 0 0] 102) from hM ▸ blk1 _ _ _)
  obtain ⟨z0, z1, z2, z3, z4, z5⟩ := six_of HM0.out
  go_enter Tryz.func109, Tryz.ntmps109
  go_wp2_with fail
  clear hM
  refine (HC.out _ XM.out).mono ?_
  rintro e w1 ⟨a', c', rfl, htb, hx1⟩
  have HTB := hid htb
  have X1 := hid (XM.out.trans hx1)
  have B0 := hid (hx1.block HM0.out)
  have B1 := hid (hx1.block HM1.out)
  obtain ⟨y0, y1, y2, y3, y4, y5⟩ := six_of B0.out
  obtain ⟨f0, f1, f2, f3, f4, f5⟩ : w1.frozen? ⟨w.heap.size + 1, 0, none⟩ = false ∧ w1.frozen? ⟨w.heap.size + 1, 1, none⟩ = false ∧ w1.frozen? ⟨w.heap.size + 1, 2, none⟩ = false ∧ w1.frozen? ⟨w.heap.size + 1, 3, none⟩ = false ∧ w1.frozen? ⟨w.heap.size + 1, 4, none⟩ = false ∧ w1.frozen? ⟨w.heap.size + 1, 5, none⟩ = false := ⟨frozen_of B1.out, frozen_of B1.out, frozen_of B1.out, frozen_of B1.out, frozen_of B1.out, frozen_of B1.out⟩
  have fz : w1.frozen? ⟨w.heap.size, 5, none⟩ = false := frozen_of B0.out
  obtain ⟨x0, x1, x2, x3, x4, x5⟩ := six_of B1.out
  clear htb hx1
  go_wp2_with fail
  have BS := set_other (i := 5) B1.out (show w.heap.size + 1 ≠ w.heap.size by omega) (.slice a' l c')
  obtain ⟨q0, q1, q2, q3, q4, q5⟩ := six_of (six_set (u0 := .string k) (u1 := .int .i64 mn) (u2 := .int .i64 mx) (u3 := .bool nm) (u4 := .int .i64 tx) (u5 := .slice a' l c') BS)
  refine bodyPost_ret (v := .agg #[.string k, .int .i64 mn, .int .i64 mx, .bool nm, .int .i64 tx, .slice a' l c']) (by simp [results, Tryz.results109, go_sem, q0, q1, q2, q3, q4, q5]) rfl ?_
  have K1 : Kp (fun q => q ≠ w.heap.size ∧ q ≠ w.heap.size + 1) w1 _ := ((Kp.set w1 w.heap.size 5 (.slice a' l c') (fun h => h rfl)).mono (L := fun q => q ≠ w.heap.size ∧ q ≠ w.heap.size + 1) (fun q _ h => h.1)).trans ((Kp.set6 _ (w.heap.size + 1) (.string k) (.int .i64 mn) (.int .i64 mx) (.bool nm) (.int .i64 tx) (.slice a' l c')).mono (fun q _ h => h.2))
  refine ⟨a', c', rfl, HTB.out.keep K1 (fun q cur hq => ⟨fun e => ?_, fun e => ?_⟩), ?_⟩
  · rw [e, B0.out] at hq; cases hq
  · rw [e, B1.out] at hq; cases hq
  · exact ⟨K1.os.trans X1.out.os, K1.tape.trans X1.out.tape, K1.output.trans X1.out.output, Nat.le_trans X1.out.size K1.size, fun i hi => (K1.block i (Nat.lt_of_lt_of_le hi X1.out.size) ⟨by omega, by omega⟩).trans (Below.block X1.out i hi)⟩
end Go.Proofs.YtaafcmmmkalgjaaGreatDoor
/-
  (Kind).done by a contract, whatever its function gives: values in memory, too.
-/
namespace Go.Proofs.YtaafcmmmkalgjaaGreatDoor
open Go.RowKit
/-- What an operation gave, and what is made of it: none beside a fault; a value, if it may be, else a fault. Q: what the kit's answer is to be. -/
def refX (c : Int) (x : ByteArray) : Value := .tuple #[.nilIface, .int .i64 c, .string x]
def ResR (Q : World → Value → Prop) (w : World) (V : Value) : Prop := (∃ c x, (c == 0) = false ∧ V = refX c x ∧ ∀ w1, Ext w w1 → Q w1 (refX c x)) ∨
  (∃ τ p b, V = .tuple #[.iface τ p, .int .i64 0, .string ⟨#[]⟩] ∧ (∀ w1, Ext w w1 → Calls Tryz.prog 84 #[.iface τ p] w1 fun e w' => e = .returned (.bool b) ∧ Ext w1 w') ∧ ∀ w1, Ext w w1 → Q w1 (if b = true then .tuple #[.iface τ p, .int .i64 0, .string ⟨#[]⟩] else refV 2))
set_option maxRecDepth 100000 in
set_option maxHeartbeats 2000000 in
theorem done_gen (k : Kd) (f : Nat) (hf : k.does = some f) (he : Enters f) (g : Nat) (ks : List Int) (Q : World → Value → Prop) (w : World) (hs : k.signs.size ≤ 4000) (hn : ks.length ≤ 100000000) (hm : MaxAt w) (hv : VRow w g ks)
    (hd : rightB k.signs.data.toList ks = true → ∀ w1, Ext w w1 → Calls Tryz.prog f #[.slice (some ⟨g, 0, none⟩) ks.length ks.length] w1 fun e w' => ∃ V, e = .returned V ∧ ResR Q w' V ∧ Ext w1 w') :
    Calls Tryz.prog 52 #[k.val, .slice (some ⟨g, 0, none⟩) ks.length ks.length] w fun e w' => ∃ V, e = .returned V ∧ (if rightB k.signs.data.toList ks = true then Q w' V else V = refV 20) ∧ (∃ x y z, V = .tuple #[x, y, z]) ∧ Ext w w' := by
  obtain ⟨k0, k1, k2, k3, k4, k5, k6, k7, k8⟩ := k
  dsimp only [Kd.val] at *
  subst hf
  show Calls Tryz.prog 52 #[.agg #[.string k0, .int .i64 k1, .int .i64 k2, .int .i64 k3, .string k4, .string k5, .func (.func k6) #[] #[], .func (.func f) #[] #[], .bool k8], .slice (some ⟨g, 0, none⟩) ks.length ks.length] w _
  obtain ⟨M, hM⟩ : ∃ M, w.alloc (.cells #[.string k0, .int .i64 k1, .int .i64 k2, .int .i64 k3, .string k4, .string k5, .func (.func k6) #[] #[], .func (.func f) #[] #[], .bool k8] 76) = M := ⟨_, rfl⟩
  have XM := hid (show Ext w M from hM ▸ Ext.alloc _ _)
  have HM0 := hid (show M.heap[w.heap.size]? = some (.cells #[.string k0, .int .i64 k1, .int .i64 k2, .int .i64 k3, .string k4, .string k5, .func (.func k6) #[] #[], .func (.func f) #[] #[], .bool k8] 76) from hM ▸ blk0 _ _)
  have HRI := hid (right_any k5 g ks M hs hn (hm.later XM.out) (hv.later XM.out))
  have HD := hid hd
  generalize ks.length = n at *
  obtain ⟨b, hb⟩ : ∃ b, rightB k5.data.toList ks = b := ⟨_, rfl⟩
  rw [hb] at HRI HD ⊢
  have he' : ∀ (a : Array Value) (w : World), (callFunc f a).run Tryz.prog w = .ok (.enter f a) w := he
  obtain ⟨z0, z1, z2, z3, z4, z5, z6, z7, z8⟩ := nine_of HM0.out
  clear hb hd hm hv hs hn he
  go_enter Tryz.func52, Tryz.ntmps52
  go_wp2_with fail
  clear hM
  refine HRI.out.mono ?_
  rintro e w1 ⟨rfl, hx1⟩
  have X1 := hid (XM.out.trans hx1)
  obtain ⟨y0, y1, y2, y3, y4, y5, y6, y7, y8⟩ := nine_of (hx1.block HM0.out)
  clear hx1
  cases b with
  | false =>
    go_wp2_with fail
    go_ret3
    exact ⟨_, rfl, rfl, ⟨_, _, _, rfl⟩, X1.out⟩
  | true =>
    have HC := hid (HD.out rfl _ X1.out)
    go_wp2_with fail
    refine HC.out.mono ?_
    rintro e w2 ⟨V, rfl, hR, hx2⟩
    have X2 := hid (X1.out.trans hx2)
    clear hx2
    rcases hR with ⟨cc, xx, hcc, rfl, hq⟩ | ⟨τ, p, bb, rfl, hma, hq⟩
    · have HQ := hid hq
      clear hq
      unfold refX at HQ ⊢
      go_wp2_with fail
      go_ret3
      exact ⟨_, rfl, HQ.out _ (Ext.refl _), ⟨_, _, _, rfl⟩, X2.out⟩
    · have HQ := hid hq
      have HMA := hid hma
      clear hq hma
      go_wp2_with fail
      refine (HMA.out _ (Ext.refl _)).mono ?_
      rintro e w3 ⟨rfl, hx3⟩
      have X3 := hid (X2.out.trans hx3)
      have HQ3 := hid (HQ.out _ hx3)
      clear hx3
      cases bb with
      | true =>
        go_wp2_with fail
        go_ret3
        exact ⟨_, rfl, HQ3.out, ⟨_, _, _, rfl⟩, X3.out⟩
      | false =>
        go_wp2_with fail
        go_ret3
        exact ⟨_, rfl, HQ3.out, ⟨_, _, _, rfl⟩, X3.out⟩
end Go.Proofs.YtaafcmmmkalgjaaGreatDoor
/-
  Numbers and texts as plain values; the answers that operations give.
-/
namespace Go.Proofs.YtaafcmmmkalgjaaGreatDoor
open Go.RowKit
/-- A number as a plain value. -/
def intT (n : Int) : T := .node 3 n ⟨#[]⟩ []
def unitT : T := .node 1 0 ⟨#[]⟩ []
theorem intT_may (n : Int) : (intT n).may := by
  refine ⟨⟨.inr (.inr (.inl ⟨rfl, rfl, rfl⟩)), trivial⟩, ?_, ?_⟩
  · show (T.node 3 n ⟨#[]⟩ []).size ≤ 65536
    simp only [T.size, T.sizeL]; decide
  · show (T.node 3 n ⟨#[]⟩ []).deep ≤ 64
    simp only [T.deep]; simp
theorem unitT_may : unitT.may := by
  refine ⟨⟨.inl ⟨rfl, rfl, rfl, rfl⟩, trivial⟩, ?_, ?_⟩
  · show (T.node 1 0 ⟨#[]⟩ []).size ≤ 65536
    simp only [T.size, T.sizeL]; decide
  · show (T.node 1 0 ⟨#[]⟩ []).deep ≤ 64
    simp only [T.deep]; simp
theorem VRd.int {K : Nat → Prop} {w : World} {d : Nat} {v : Value} {n : Int} (h : VRd K w d v (intT n)) : v = .iface 83 (.int .i64 n) := by
  cases d with
  | zero => exact h.elim
  | succ d =>
    rcases h with ⟨h, _⟩ | ⟨h, _⟩ | ⟨_, _, _, h⟩ | ⟨h, _⟩ | ⟨h, _⟩
    · exact absurd h (by decide)
    · exact absurd h (by decide)
    · exact h
    · exact absurd h (by decide)
    · exact absurd h (by decide)
theorem NRes.came (n : Int) : NRes (cameV n) := .inl ⟨n, rfl⟩
theorem NRes.told (b : Bool) : NRes (toldV b) := .inr (.inl ⟨b, rfl⟩)
theorem NRes.ref {c : Int} (h : (c == 0) = false) : NRes (refV c) := .inr (.inr (.inl ⟨c, h, rfl⟩))
theorem NRes.wrote {s : ByteArray} (h : s.size ≤ 65535) : NRes (wroteV s) := .inr (.inr (.inr ⟨s, h, rfl⟩))
theorem NRes.three {R : Value} (h : NRes R) : ∃ x y z, R = .tuple #[x, y, z] := by
  rcases h with ⟨_, rfl⟩ | ⟨_, rfl⟩ | ⟨_, _, rfl⟩ | ⟨_, _, rfl⟩ <;> exact ⟨_, _, _, rfl⟩
/-- A text as a plain value. -/
def textT (s : ByteArray) : T := .node 4 0 s []
theorem textT_may {s : ByteArray} (h : s.size ≤ 65535) : (textT s).may := by
  refine ⟨⟨.inr (.inr (.inr (.inl ⟨rfl, rfl, rfl⟩))), trivial⟩, ?_, ?_⟩
  · show (T.node 4 0 s []).size ≤ 65536
    simp only [T.size, T.sizeL]; omega
  · show (T.node 4 0 s []).deep ≤ 64
    simp only [T.deep]; simp
theorem textT_not {s : ByteArray} (h : 65535 < s.size) : ¬ (textT s).may := by
  intro hm
  have : (T.node 4 0 s []).size ≤ 65536 := hm.2.1
  simp only [T.size, T.sizeL] at this
  omega
theorem VRd.text {K : Nat → Prop} {w : World} {d : Nat} {v : Value} {s : ByteArray} (h : VRd K w d v (textT s)) : v = .iface 174 (.string s) := by
  cases d with
  | zero => exact h.elim
  | succ d =>
    rcases h with ⟨h, _⟩ | ⟨h, _⟩ | ⟨h, _⟩ | ⟨_, _, _, _, h⟩ | ⟨h, _⟩
    · exact absurd h (by decide)
    · exact absurd h (by decide)
    · exact absurd h (by decide)
    · exact h
    · exact absurd h (by decide)
end Go.Proofs.YtaafcmmmkalgjaaGreatDoor
/-
  craft.may of any value, by a contract: whether it may be.
-/
namespace Go.Proofs.YtaafcmmmkalgjaaGreatDoor
open Go.RowKit
theorem size0 : (⟨#[]⟩ : ByteArray).size = 0 := rfl
theorem goodL_of {l : List T} (h : ∀ u ∈ l, T.good u) : T.goodL l := by
  induction l with
  | nil => trivial
  | cons x r ih => exact ⟨h x List.mem_cons_self, ih fun u hu => h u (List.mem_cons_of_mem _ hu)⟩
theorem VRd.good {K : Nat → Prop} {w : World} : ∀ {d : Nat} {v : Value} {t : T}, VRd K w d v t → t.good
  | 0, _, _, h => h.elim
  | d + 1, v, .node k n x ks, h => by
    rcases h with ⟨rfl, rfl, rfl, rfl, _⟩ | ⟨rfl, rfl, rfl, b, rfl, _⟩ | ⟨rfl, rfl, rfl, _⟩ | ⟨rfl, rfl, rfl, _, _⟩ | ⟨rfl, rfl, rfl, _, a, c, _, h6⟩
    · exact ⟨.inl ⟨rfl, rfl, rfl, rfl⟩, trivial⟩
    · exact ⟨.inr (.inl ⟨rfl, by cases b; exact .inl rfl; exact .inr rfl, rfl, rfl⟩), trivial⟩
    · exact ⟨.inr (.inr (.inl ⟨rfl, rfl, rfl⟩)), trivial⟩
    · exact ⟨.inr (.inr (.inr (.inl ⟨rfl, rfl, rfl⟩))), trivial⟩
    · refine ⟨.inr (.inr (.inr (.inr ⟨rfl, rfl, rfl⟩))), goodL_of fun u hu => ?_⟩
      rcases h6 with rfl | ⟨g, off, _, _, hc⟩
      · cases hu
      · obtain ⟨j, hj, rfl⟩ := List.getElem_of_mem hu
        obtain ⟨u', _, hr⟩ := hc j hj
        exact hr.good
theorem cbs_un_tx (v : Value) (w : World) : (Instr.typeAssert (.iface 172 v) 35 174 true).run Tryz.prog w = .ok (.tuple #[(.string ByteArray.empty), .bool false]) w := by kernel_rfl
theorem cbs_un_li (v : Value) (w : World) : (Instr.typeAssert (.iface 172 v) 35 81 true).run Tryz.prog w = .ok (.tuple #[(.slice none 0 0), .bool false]) w := by kernel_rfl
theorem cbs_li_tx (v : Value) (w : World) : (Instr.typeAssert (.iface 81 v) 35 174 true).run Tryz.prog w = .ok (.tuple #[(.string ByteArray.empty), .bool false]) w := by kernel_rfl
theorem cbs_li_li (v : Value) (w : World) : (Instr.typeAssert (.iface 81 v) 35 81 true).run Tryz.prog w = .ok (.tuple #[v, .bool true]) w := by kernel_rfl
/-- What holds and holdsAll answer of so much. -/
def MayR (w : World) (b left n : Nat) (ok : Prop) (e : Ending) (w' : World) : Prop := Kp (· ≠ b) w w' ∧ ((ok ∧ e = .returned (.bool true) ∧ w'.heap[b]? = some (.cells #[.int .i64 (left - n : Nat)] 213)) ∨ (¬ ok ∧ e = .returned (.bool false) ∧ ∃ x, w'.heap[b]? = some (.cells #[.int .i64 x] 213)))
def fitT (left nest : Nat) (t : T) : Prop := t.size ≤ left ∧ t.deep ≤ nest
theorem retB1 {b c : Bool} (h : b = c) : Ending.returned (.bool b) = .returned (.bool c) := by rw [h]
set_option maxRecDepth 100000 in
theorem vh_un (b left : Nat) (nest : Int) (w : World) (h : w.heap[b]? = some (.cells #[.int .i64 left] 213)) (hl : left ≤ 65536) : Calls Tryz.prog 103 #[.pointer (some ⟨b, 0, none⟩), .iface 172 (.agg #[]), .int .i64 nest] w (MayR w b left 1 (1 ≤ left)) := by
  have HB := hid (set_at h 0 (.int .i64 ((left : Int) - 1)))
  have c0 : w.cell? ⟨b, 0, none⟩ = some (.int .i64 left) := cell_of h rfl
  have f0 : w.frozen? ⟨b, 0, none⟩ = false := frozen_of h
  have h1 := cbs_un_tx (.agg #[])
  have h2 := cbs_un_li (.agg #[])
  have hl' : (left : Int) ≤ 65536 := by omega
  clear h
  go_enter Tryz.func103, Tryz.ntmps103
  go_wp2_with fail
  go_ret
  refine ⟨Kp.set w b 0 _ (fun h => h rfl), ?_⟩
  by_cases g1 : 1 ≤ left
  · exact .inl ⟨g1, retB1 (decide_eq_true (by omega)), by rw [show ((left - 1 : Nat) : Int) = (left : Int) - 1 by omega]; exact HB.out⟩
  · exact .inr ⟨g1, retB1 (decide_eq_false (by omega)), _, HB.out⟩
set_option maxRecDepth 100000 in
theorem vh_in (n : Int) (b left : Nat) (nest : Int) (w : World) (h : w.heap[b]? = some (.cells #[.int .i64 left] 213)) (hl : left ≤ 65536) : Calls Tryz.prog 103 #[.pointer (some ⟨b, 0, none⟩), .iface 83 (.int .i64 n), .int .i64 nest] w (MayR w b left 1 (1 ≤ left)) := by
  have HB := hid (set_at h 0 (.int .i64 ((left : Int) - 1)))
  have c0 : w.cell? ⟨b, 0, none⟩ = some (.int .i64 left) := cell_of h rfl
  have f0 : w.frozen? ⟨b, 0, none⟩ = false := frozen_of h
  have h1 := cas_in_tx (.int .i64 n)
  have h2 := cas_in_li (.int .i64 n)
  have hl' : (left : Int) ≤ 65536 := by omega
  clear h
  go_enter Tryz.func103, Tryz.ntmps103
  go_wp2_with fail
  go_ret
  refine ⟨Kp.set w b 0 _ (fun h => h rfl), ?_⟩
  by_cases g1 : 1 ≤ left
  · exact .inl ⟨g1, retB1 (decide_eq_true (by omega)), by rw [show ((left - 1 : Nat) : Int) = (left : Int) - 1 by omega]; exact HB.out⟩
  · exact .inr ⟨g1, retB1 (decide_eq_false (by omega)), _, HB.out⟩
set_option maxRecDepth 100000 in
theorem vh_tu (q : Bool) (b left : Nat) (nest : Int) (w : World) (h : w.heap[b]? = some (.cells #[.int .i64 left] 213)) (hl : left ≤ 65536) : Calls Tryz.prog 103 #[.pointer (some ⟨b, 0, none⟩), .iface 173 (.bool q), .int .i64 nest] w (MayR w b left 1 (1 ≤ left)) := by
  have HB := hid (set_at h 0 (.int .i64 ((left : Int) - 1)))
  have c0 : w.cell? ⟨b, 0, none⟩ = some (.int .i64 left) := cell_of h rfl
  have f0 : w.frozen? ⟨b, 0, none⟩ = false := frozen_of h
  have h1 := cas_tu_tx (.bool q)
  have h2 := cas_tu_li (.bool q)
  have hl' : (left : Int) ≤ 65536 := by omega
  clear h
  go_enter Tryz.func103, Tryz.ntmps103
  go_wp2_with fail
  go_ret
  refine ⟨Kp.set w b 0 _ (fun h => h rfl), ?_⟩
  by_cases g1 : 1 ≤ left
  · exact .inl ⟨g1, retB1 (decide_eq_true (by omega)), by rw [show ((left - 1 : Nat) : Int) = (left : Int) - 1 by omega]; exact HB.out⟩
  · exact .inr ⟨g1, retB1 (decide_eq_false (by omega)), _, HB.out⟩

set_option maxRecDepth 100000 in
theorem vh_tx (s : ByteArray) (b left : Nat) (nest : Int) (w : World) (h : w.heap[b]? = some (.cells #[.int .i64 left] 213)) (hl : left ≤ 65536) (hs : s.size ≤ 140737488351232) : Calls Tryz.prog 103 #[.pointer (some ⟨b, 0, none⟩), .iface 174 (.string s), .int .i64 nest] w (MayR w b left (1 + s.size) (1 + s.size ≤ left)) := by
  have HB := hid (set_at (set_at h 0 (.int .i64 ((left : Int) - 1))) 0 (.int .i64 ((left : Int) - 1 - s.size)))
  have c0 : w.cell? ⟨b, 0, none⟩ = some (.int .i64 left) := cell_of h rfl
  have f0 : w.frozen? ⟨b, 0, none⟩ = false := frozen_of h
  have h1 := cas_tx_tx (.string s)
  have hl' : (left : Int) ≤ 65536 := by omega
  have hs' : (s.size : Int) ≤ 140737488351232 := by omega
  clear h
  go_enter Tryz.func103, Tryz.ntmps103
  go_wp2_with fail
  go_ret
  refine ⟨(Kp.set w b 0 _ (fun h => h rfl)).trans (Kp.set _ b 0 _ (fun h => h rfl)), ?_⟩
  by_cases g1 : 1 + s.size ≤ left
  · exact .inl ⟨g1, retB1 (decide_eq_true (by omega)), by rw [show ((left - (1 + s.size) : Nat) : Int) = (left : Int) - 1 - s.size by omega]; exact HB.out⟩
  · exact .inr ⟨g1, retB1 (decide_eq_false (by omega)), _, HB.out⟩
/-- Values of a list in memory. -/
def VKids (K : Nat → Prop) (w : World) (d : Nat) (a : Option Addr) (ks : List T) : Prop := ks = [] ∨ ∃ g off, a = some ⟨g, off, none⟩ ∧ K g ∧ ∀ j, (h : j < ks.length) → ∃ u, w.cell? ⟨g, off + j, none⟩ = some u ∧ VRd K w d u ks[j]
def VHolds (d : Nat) : Prop := ∀ (v : Value) (t : T) (K : Nat → Prop) (w : World) (b left nest : Nat), VRd K w d v t → ¬ K b → w.heap[b]? = some (.cells #[.int .i64 left] 213) → left ≤ 65536 → nest ≤ 64 →
    Calls Tryz.prog 103 #[.pointer (some ⟨b, 0, none⟩), v, .int .i64 nest] w (MayR w b left t.size (fitT left nest t))
set_option maxRecDepth 100000 in
set_option maxHeartbeats 2000000 in
theorem vall_any (d : Nat) (ih : VHolds d) (a : Option Addr) (c : Nat) (ks : List T) (K : Nat → Prop) (w : World) (b left nest : Nat) (hk : VKids K w d a ks) (hb : ¬ K b) (hm : w.heap[b]? = some (.cells #[.int .i64 left] 213)) (hL : left ≤ 65536) (hN : nest ≤ 64) (hlen : ks.length ≤ 140737488351232) :
    Calls Tryz.prog 142 #[.pointer (some ⟨b, 0, none⟩), .slice a ks.length c, .int .i64 nest] w (MayR w b left (T.sizeL ks) (T.sizeL ks ≤ left ∧ T.deepL ks ≤ nest)) := by
  have HK := hid hk
  have HB := hid hb
  have HM := hid hm
  have HIH := hid ih
  have c0 : w.cell? ⟨b, 0, none⟩ = some (.int .i64 left) := cell_of hm rfl
  obtain ⟨n, hne⟩ : ∃ n, ks.length = n := ⟨_, rfl⟩
  have HNE := hid hne
  rw [hne] at hlen ⊢
  have hn' : (n : Int) ≤ 140737488351232 := by omega
  clear hk hb hm ih hne
  by_cases g2 : left < n
  · have q2 : decide ((left : Int) < (n : Int)) = true := decide_eq_true (by omega)
    have q3 : (left : Int) < (n : Int) := by omega
    have NOK := hid (show ¬ (T.sizeL ks ≤ left ∧ T.deepL ks ≤ nest) from fun h => by have := T.sizeL_len ks; have := HNE.out; omega)
    go_enter Tryz.func142, Tryz.ntmps142
    go_wp2_with fail
    go_ret
    exact ⟨Kp.refl _ _, .inr ⟨NOK.out, rfl, _, HM.out⟩⟩
  have q2 : ¬ (left : Int) < (n : Int) := by omega
  go_enter Tryz.func142, Tryz.ntmps142
  go_wp2_with fail
  clear c0
  go_loopw [18] (fun i wr => ∃ j : Nat, j ≤ n ∧ i = .int .i64 j ∧ Kp (· ≠ b) w wr ∧ (T.sizeL (ks.take j) ≤ left ∧ T.deepL (ks.take j) ≤ nest) ∧ wr.heap[b]? = some (.cells #[.int .i64 (left - T.sizeL (ks.take j) : Nat)] 213)) (fun i _ => n - (intOf i).toNat)
  case atStart => exact ⟨0, Nat.zero_le _, rfl, Kp.refl _ _, ⟨by simp [T.sizeL], by simp [T.deepL]⟩, by simpa [T.sizeL] using HM.out⟩
  case round =>
    obtain ⟨j, hj, rfl, hkp, hle, hbm⟩ := hrel
    have HK2 := hid hkp
    have HLE := hid hle
    have HB2 := hid hbm
    clear hkp hle hbm
    by_cases hlt2 : j < n
    · have hlt' : (j : Int) < n := by omega
      have hjk : j < ks.length := by rw [HNE.out]; exact hlt2
      rcases HK.out with h0 | ⟨g, off, rfl, hg, hcells⟩
      · rw [h0] at hjk; exact absurd hjk (Nat.not_lt_zero _)
      obtain ⟨u, h4, hrd⟩ := hcells j hjk
      obtain ⟨τ, p, rfl⟩ := hrd.iface
      have hne : g ≠ b := fun e => HB.out (e ▸ hg)
      have m0 := HK2.out.cell h4 hne
      have hgl := lt_of_cell m0
      have hKK : Kp K w wr := HK2.out.mono (fun k _ hk e => HB.out (e ▸ hk))
      have HC := hid (HIH.out _ ks[j] K wr b (left - T.sizeL (ks.take j)) nest (hrd.keep hKK) HB.out HB2.out (by omega) hN)
      have HS := hid (And.intro (T.sizeL_take ks j hjk) (And.intro (T.deepL_take ks j hjk) (And.intro (T.sizeL_split ks (j + 1)) (T.deepL_split ks (j + 1)))))
      clear hcells h4 hrd hg hKK
      generalize ks[j] = tj at *
      clear hjk
      go_wp2_with fail
      refine HC.out.mono ?_
      rintro e w2 ⟨hk2, hcase⟩
      have HK3 := hid (HK2.out.trans hk2)
      clear hk2 m0 hgl
      rcases hcase with ⟨hok, rfl, hb3⟩ | ⟨hno, rfl, hb3⟩
      · have HOK := hid hok
        have HB3 := hid hb3
        clear hok hb3
        go_wp2_with fail
        go_roundw
        case rel =>
          obtain ⟨s1, s2, s4, s5⟩ := HS.out
          obtain ⟨o2, o3⟩ := HOK.out
          obtain ⟨p2, p3⟩ := HLE.out
          refine ⟨j + 1, hlt2, by go_num, HK3.out, ⟨by omega, by omega⟩, ?_⟩
          rw [HB3.out, show left - T.sizeL (ks.take (j + 1)) = left - T.sizeL (ks.take j) - tj.size by omega]
        case measure => simp [intOf]; omega
      · have HNO := hid hno
        have HB3 := hid hb3
        clear hno hb3
        go_wp2_with fail
        go_ret
        refine ⟨HK3.out, .inr ⟨fun h => HNO.out ?_, rfl, HB3.out⟩⟩
        obtain ⟨s1, s2, s4, s5⟩ := HS.out
        exact ⟨by omega, by omega⟩
    · have hje : j = n := by omega
      have HT := hid (show ks.take j = ks by rw [hje, ← HNE.out, List.take_length])
      have hlt3 : ¬ (j : Int) < n := by omega
      go_wp2_with fail
      go_ret
      obtain ⟨p2, p3⟩ := HLE.out
      have hb4 := HB2.out
      rw [HT.out] at p2 p3 hb4
      exact ⟨HK2.out, .inl ⟨⟨p2, p3⟩, rfl, hb4⟩⟩
set_option maxRecDepth 100000 in
theorem vall_neg (a : Option Addr) (n c : Nat) (w : World) (b nest : Nat) (hm : w.heap[b]? = some (.cells #[.int .i64 (-1)] 213)) (hlen : n ≤ 140737488351232) :
    Calls Tryz.prog 142 #[.pointer (some ⟨b, 0, none⟩), .slice a n c, .int .i64 nest] w fun e w' => e = .returned (.bool false) ∧ w' = w := by
  have c0 : w.cell? ⟨b, 0, none⟩ = some (.int .i64 (-1)) := cell_of hm rfl
  have hn' : (n : Int) ≤ 140737488351232 := by omega
  have q3 : (-1 : Int) < (n : Int) := by omega
  clear hm
  go_enter Tryz.func142, Tryz.ntmps142
  go_wp2_with fail
  go_ret
  exact ⟨rfl, rfl⟩
set_option maxRecDepth 100000 in
set_option maxHeartbeats 2000000 in
theorem vholds_any : ∀ d, VHolds d := by
  intro d
  induction d with
  | zero => intro v t K w b left nest h; exact h.elim
  | succ d ih =>
    intro v t K w b left nest hr hb hm hL hN
    obtain ⟨k, n, x, ks⟩ := t
    rcases hr with ⟨rfl, rfl, rfl, rfl, rfl⟩ | ⟨rfl, rfl, rfl, q, rfl, rfl⟩ | ⟨rfl, rfl, rfl, rfl⟩ | ⟨rfl, rfl, rfl, hx, rfl⟩ | ⟨rfl, rfl, rfl, hl, a, c, rfl, hks⟩
    · refine (vh_un b left nest w hm hL).mono fun e w' h => ?_
      have e1 : fitT left nest (.node 1 0 ⟨#[]⟩ []) = (1 ≤ left) := by simp [fitT, T.size, T.sizeL, T.deep, size0]
      rw [e1]; exact h
    · refine (vh_tu q b left nest w hm hL).mono fun e w' h => ?_
      have e1 : fitT left nest (.node 2 (if q then 1 else 0) ⟨#[]⟩ []) = (1 ≤ left) := by simp [fitT, T.size, T.sizeL, T.deep, size0]
      rw [e1]; exact h
    · refine (vh_in n b left nest w hm hL).mono fun e w' h => ?_
      have e1 : fitT left nest (.node 3 n ⟨#[]⟩ []) = (1 ≤ left) := by simp [fitT, T.size, T.sizeL, T.deep, size0]
      rw [e1]; exact h
    · refine (vh_tx x b left nest w hm hL hx).mono fun e w' h => ?_
      have e1 : fitT left nest (.node 4 0 x []) = (1 + x.size ≤ left) := by simp [fitT, T.size, T.sizeL, T.deep]
      have e2 : (T.node 4 0 x []).size = 1 + x.size := by simp [T.size, T.sizeL]
      rw [e1, e2]; exact h
    · have HB := hid (set_at hm 0 (.int .i64 ((left : Int) - 1)))
      have HKP := hid (Kp.set w b 0 (.int .i64 ((left : Int) - 1)) (K := (· ≠ b)) (fun h => h rfl))
      have hks' : VKids K w d a ks := hks
      have hlen : ks.length ≤ 140737488351232 := by omega
      have HA := hid (fun (h0 : 1 ≤ left) (h1 : 1 ≤ nest) => vall_any d ih a c ks K (w.setCell ⟨b, 0, none⟩ (.int .i64 ((left : Int) - 1))) b (left - 1) (nest - 1) (by
          rcases hks' with h | ⟨g, off, ea, hg, hc⟩
          · exact .inl h
          · refine .inr ⟨g, off, ea, hg, fun j hj => ?_⟩
            obtain ⟨u, h2, h3⟩ := hc j hj
            exact ⟨u, HKP.out.cell h2 (fun e => hb (e ▸ hg)), h3.keep (HKP.out.mono (fun k _ hk e => hb (e ▸ hk)))⟩) hb (by rw [show ((left - 1 : Nat) : Int) = (left : Int) - 1 by omega]; exact HB.out) (by omega) (by omega) hlen)
      have HN := hid (fun (h0 : left = 0) (nest' : Nat) => vall_neg a ks.length c (w.setCell ⟨b, 0, none⟩ (.int .i64 ((left : Int) - 1))) b nest' (by
        have e : (left : Int) - 1 = -1 := by omega
        have hb' := HB.out
        rw [e] at hb' ⊢
        exact hb') hlen)
      have e1 : fitT left nest (.node 5 0 ⟨#[]⟩ ks) = (1 + T.sizeL ks ≤ left ∧ 1 + T.deepL ks ≤ nest) := by simp [fitT, T.size, T.deep, size0]
      have e2 : (T.node 5 0 ⟨#[]⟩ ks).size = 1 + T.sizeL ks := by simp [T.size, size0]
      rw [e1, e2]
      have c0 : w.cell? ⟨b, 0, none⟩ = some (.int .i64 left) := cell_of hm rfl
      have f0 : w.frozen? ⟨b, 0, none⟩ = false := frozen_of hm
      have h1 := cbs_li_tx (.slice a ks.length c)
      have h2 := cbs_li_li (.slice a ks.length c)
      have hl' : (left : Int) ≤ 65536 := by omega
      clear hm hks hks' ih e1 e2 hl
      by_cases g1 : nest = 0
      · subst g1
        go_enter Tryz.func103, Tryz.ntmps103
        go_wp2_with fail
        go_ret
        exact ⟨HKP.out, .inr ⟨fun h => by have := h.2; omega, rfl, _, HB.out⟩⟩
      have g1' : (0 : Int) < (nest : Int) := by omega
      have g1n : 0 < nest := by omega
      have hnest : (nest : Int) - 1 = ((nest - 1 : Nat) : Int) := by omega
      by_cases g2 : left = 0
      · have HN2 := hid (HN.out g2 (nest - 1))
        have HG2 := hid g2
        clear g2
        go_enter Tryz.func103, Tryz.ntmps103
        go_wp2_with fail
        refine HN2.out.mono ?_
        rintro e w2 ⟨rfl, rfl⟩
        go_wp2_with fail
        go_ret
        exact ⟨HKP.out, .inr ⟨fun h => by have := h.1; have := HG2.out; omega, rfl, _, HB.out⟩⟩
      · have HA2 := hid (HA.out (by omega) (by omega))
        have HG2 := hid g2
        clear g2
        go_enter Tryz.func103, Tryz.ntmps103
        go_wp2_with fail
        refine HA2.out.mono ?_
        rintro e w2 ⟨hk2, hcase⟩
        have HK3 := hid (HKP.out.trans hk2)
        clear hk2
        rcases hcase with ⟨hok, rfl, hb3⟩ | ⟨hno, rfl, hb3⟩
        · have HOK := hid hok
          have HB3 := hid hb3
          clear hok hb3
          go_wp2_with fail
          go_ret
          refine ⟨HK3.out, .inl ⟨⟨by have := HOK.out.1; have := HG2.out; omega, by have := HOK.out.2; omega⟩, rfl, ?_⟩⟩
          rw [HB3.out, show left - (1 + T.sizeL ks) = left - 1 - T.sizeL ks by omega]
        · have HNO := hid hno
          have HB3 := hid hb3
          clear hno hb3
          go_wp2_with fail
          go_ret
          exact ⟨HK3.out, .inr ⟨fun h => HNO.out ⟨by have := h.1; omega, by have := h.2; omega⟩, rfl, HB3.out⟩⟩
/-- craft.may: whether a value may be. -/
theorem cmay_any {K : Nat → Prop} {d : Nat} {v : Value} {t : T} (w : World) (hr : VRd K w d v t) : Calls Tryz.prog 84 #[v] w fun e w' => e = .returned (.bool (decide t.may)) ∧ Ext w w' := by
  obtain ⟨τ, p, rfl⟩ := hr.iface
  have hg := hr.good
  have HR := hid hr.low
  clear hr
  go_enter Tryz.func84, Tryz.ntmps84
  go_wp2_with fail
  refine (vholds_any d _ t (· < w.heap.size) _ w.heap.size 65536 64 (HR.out.later (Ext.alloc _ _)) (by omega) (blk0 _ _) (by omega) (by omega)).mono ?_
  rintro e w2 ⟨hk, hcase⟩
  have HX := hid (hk.extOf (Ext.alloc w _) (Nat.le_refl _))
  clear hk
  rcases hcase with ⟨hok, rfl, _⟩ | ⟨hno, rfl, _⟩
  · have HS := hid (show t.may from ⟨hg, hok.1, hok.2⟩)
    clear hok
    go_wp2_with fail
    go_ret
    exact ⟨retB1 (decide_eq_true HS.out).symm, HX.out⟩
  · have HS := hid (show ¬ t.may from fun h => hno ⟨h.2.1, h.2.2⟩)
    clear hno
    go_wp2_with fail
    go_ret
    exact ⟨retB1 (decide_eq_false HS.out).symm, HX.out⟩
end Go.Proofs.YtaafcmmmkalgjaaGreatDoor
/-
  list.refused, at beyond the end, count by contracts.
-/
namespace Go.Proofs.YtaafcmmmkalgjaaGreatDoor
open Go.RowKit
theorem lref_any (c : Int) (w : World) : Calls Tryz.prog 77 #[.int .i64 c] w fun e w' => e = .returned (refX c ⟨#[]⟩) ∧ w' = w := by
  unfold refX
  go_enter Tryz.func77, Tryz.ntmps77
  go_wp2_with fail
  go_ret3
  exact ⟨rfl, rfl⟩
set_option maxRecDepth 100000 in
set_option maxHeartbeats 1000000 in
theorem at_bad (g : Nat) (a : Option Addr) (l c : Nat) (n : Int) (w : World) (h0 : w.cell? ⟨g, 0, none⟩ = some (.iface 81 (.slice a l c))) (h1 : w.cell? ⟨g, 1, none⟩ = some (.iface 83 (.int .i64 n))) (hn : n < 0 ∨ (l : Int) ≤ n) : Calls Tryz.prog 41 #[.slice (some ⟨g, 0, none⟩) 2 2] w fun e w' => e = .returned (refX 23 ⟨#[]⟩) ∧ w' = w := by
  have HI := hid (items0_any g 2 (by decide) a l c w h0)
  have HN := hid (number1_any g 2 (by decide) n w h1)
  have HR := hid (lref_any 23 w)
  unfold refX at HR ⊢
  clear h0 h1
  by_cases hb : n < 0
  · clear hn
    go_enter Tryz.func41, Tryz.ntmps41
    go_wp2_with fail
    refine HI.out.mono ?_
    rintro e w1 ⟨rfl, hw1⟩
    rw [hw1]
    clear hw1 w1
    go_wp2_with fail
    refine HN.out.mono ?_
    rintro e w1 ⟨rfl, hw1⟩
    rw [hw1]
    clear hw1 w1
    go_wp2_with fail
    refine HR.out.mono ?_
    rintro e w1 ⟨rfl, hw1⟩
    rw [hw1]
    clear hw1 w1
    go_wp2_with fail
    go_ret3
    exact ⟨rfl, rfl⟩
  · have hb2 : (l : Int) ≤ n := by omega
    have hb3 : ¬ n < (l : Int) := by omega
    clear hn
    go_enter Tryz.func41, Tryz.ntmps41
    go_wp2_with fail
    refine HI.out.mono ?_
    rintro e w1 ⟨rfl, hw1⟩
    rw [hw1]
    clear hw1 w1
    go_wp2_with fail
    refine HN.out.mono ?_
    rintro e w1 ⟨rfl, hw1⟩
    rw [hw1]
    clear hw1 w1
    go_wp2_with fail
    refine HR.out.mono ?_
    rintro e w1 ⟨rfl, hw1⟩
    rw [hw1]
    clear hw1 w1
    go_wp2_with fail
    go_ret3
    exact ⟨rfl, rfl⟩
set_option maxRecDepth 100000 in
set_option maxHeartbeats 1000000 in
theorem count_low (g : Nat) (n : Int) (w : World) (h0 : w.cell? ⟨g, 0, none⟩ = some (.iface 83 (.int .i64 n))) (hn : n < 0) : Calls Tryz.prog 46 #[.slice (some ⟨g, 0, none⟩) 1 1] w fun e w' => e = .returned (refX 23 ⟨#[]⟩) ∧ w' = w := by
  have HN := hid (number0_any g 1 (by decide) n w h0)
  have HR := hid (lref_any 23 w)
  unfold refX at HR ⊢
  clear h0
  go_enter Tryz.func46, Tryz.ntmps46
  go_wp2_with fail
  refine HN.out.mono ?_
  rintro e w1 ⟨rfl, hw1⟩
  rw [hw1]
  clear hw1 w1
  go_wp2_with fail
  refine HR.out.mono ?_
  rintro e w1 ⟨rfl, hw1⟩
  rw [hw1]
  clear hw1 w1
  go_wp2_with fail
  go_ret3
  exact ⟨rfl, rfl⟩
set_option maxRecDepth 100000 in
set_option maxHeartbeats 1000000 in
theorem count_high (g : Nat) (n : Int) (w : World) (h0 : w.cell? ⟨g, 0, none⟩ = some (.iface 83 (.int .i64 n))) (hn : 65535 < n) : Calls Tryz.prog 46 #[.slice (some ⟨g, 0, none⟩) 1 1] w fun e w' => e = .returned (refX 2 ⟨#[]⟩) ∧ w' = w := by
  have HN := hid (number0_any g 1 (by decide) n w h0)
  have HR := hid (lref_any 2 w)
  unfold refX at HR ⊢
  have hn2 : ¬ n < 0 := by omega
  clear h0
  go_enter Tryz.func46, Tryz.ntmps46
  go_wp2_with fail
  refine HN.out.mono ?_
  rintro e w1 ⟨rfl, hw1⟩
  rw [hw1]
  clear hw1 w1
  go_wp2_with fail
  refine HR.out.mono ?_
  rintro e w1 ⟨rfl, hw1⟩
  rw [hw1]
  clear hw1 w1
  go_wp2_with fail
  go_ret3
  exact ⟨rfl, rfl⟩
/-- The numbers below, as a list of values in a block. -/
def NumsAt (w : World) (b m : Nat) : Prop := ∃ cs, w.heap[b]? = some (.cells cs 35) ∧ cs.size = m ∧ ∀ j, j < m → cs[j]? = some (.iface 83 (.int .i64 (j : Int)))
def CountR (w : World) (m : Nat) (e : Ending) (w' : World) : Prop := ∃ b, e = .returned (.tuple #[.iface 81 (.slice (some ⟨b, 0, none⟩) m m), .int .i64 0, .string ⟨#[]⟩]) ∧ NumsAt w' b m ∧ w.heap.size ≤ b ∧ Ext w w'
set_option maxRecDepth 100000 in
set_option maxHeartbeats 1000000 in
theorem count_ok (g m : Nat) (w : World) (h0 : w.cell? ⟨g, 0, none⟩ = some (.iface 83 (.int .i64 (m : Int)))) (hm : m ≤ 65535) : Calls Tryz.prog 46 #[.slice (some ⟨g, 0, none⟩) 1 1] w (CountR w m) := by
  have HN := hid (number0_any g 1 (by decide) (m : Int) w h0)
  have hm2 : ¬ (65535 : Int) < (m : Int) := by omega
  have hm3 : ¬ (m : Int) < 0 := by omega
  have hm4 : (m : Int) ≤ 65535 := by omega
  obtain ⟨ti, hi, hz0, hz1, hz2⟩ := info_parts valueInfoC
  obtain ⟨cz, hcz, hmk⟩ : ∃ cz : Array Value, cz.size = m ∧ ∀ w, (Instr.makeSlice 81 (.int .i64 (m : Int)) (.int .i64 (m : Int))).run Tryz.prog w = .ok (.slice (some ⟨w.heap.size, 0, none⟩) m m) (w.alloc (.cells cz 35)) := by
    refine ⟨madeCells (Value.nilIface).cells (m * 1), by rw [size_madeCells]; omega, fun w => ?_⟩
    have := run_make (P := Tryz.prog) w 81 35 ti _ Tryz.underlying81 hi hz0 .i64 .i64 m m (by omega) (Int.le_refl _) (by rw [hz2]; omega) (by omega)
    rw [hz1] at this
    simpa using this
  have HCZ := hid hcz
  clear hcz hi hz0 hz1 hz2 h0
  go_enter Tryz.func46, Tryz.ntmps46
  go_wp2_with fail
  refine HN.out.mono ?_
  rintro e w1 ⟨rfl, hw1⟩
  rw [hw1]
  clear hw1 w1
  go_wp2_with fail
  have HMK := hid hmk
  clear hmk
  go_loopw [28] (fun q28 wr => ∃ (j : Nat) (cs : Array Value), j ≤ m ∧ q28 = .int .i64 j ∧ wr.heap[w.heap.size]? = some (.cells cs 35) ∧ cs.size = m ∧ (∀ i, i < j → cs[i]? = some (.iface 83 (.int .i64 (i : Int)))) ∧ Ext w wr) (fun q28 _ => m - (intOf q28).toNat)
  case atStart => exact ⟨0, cz, Nat.zero_le _, rfl, blk0 _ _, HCZ.out, fun i h => absurd h (Nat.not_lt_zero _), Ext.alloc _ _⟩
  case round =>
    obtain ⟨j, cs, hj, rfl, hb, hcs, hall, hx⟩ := hrel
    have HB := hid hb
    have HCS := hid hcs
    have HALL := hid hall
    have HX := hid hx
    clear hb hcs hall hx
    by_cases hlt : j < m
    · have hlt' : (j : Int) < m := by omega
      have hf3 : wr.frozen? ⟨w.heap.size, j, none⟩ = false := frozen_of HB.out
      have hc3 : wr.cell? ⟨w.heap.size, j, none⟩ = some cs[j]! := cell_of HB.out (by
        have hs : j < cs.size := by rw [HCS.out]; exact hlt
        rw [Array.getElem?_eq_getElem hs, getElem!_pos cs j hs])
      go_wp2_with fail
      go_roundw
      case rel =>
        refine ⟨j + 1, cs.setIfInBounds j (.iface 83 (.int .i64 (j : Int))), by omega, by go_num, set_at HB.out j _, by rw [Array.size_setIfInBounds]; exact HCS.out, fun i hi => ?_, Kp.extOf HX.out (Kp.set wr _ j _ (fun h => h rfl)) (Nat.le_refl _)⟩
        by_cases e : i = j
        · subst e; exact set_get _ (by rw [HCS.out]; exact hlt)
        · rw [set_get_other _ e]; exact HALL.out i (by omega)
      case measure => simp [intOf]; omega
    · have hlt3 : ¬ (j : Int) < m := by omega
      have HJ := hid (show j = m by omega)
      go_wp2_with fail
      refine (lcame_any _ _).mono ?_
      rintro e w1 ⟨rfl, hw1⟩
      rw [hw1]
      clear hw1 w1
      go_wp2_with fail
      go_ret3
      exact ⟨_, rfl, ⟨cs, HB.out, HCS.out, fun i hi => HALL.out i (by have := HJ.out; omega)⟩, Nat.le_refl _, HX.out⟩
end Go.Proofs.YtaafcmmmkalgjaaGreatDoor
/-
  A block of rows, and one of texts, new and full.
-/
namespace Go.Proofs.YtaafcmmmkalgjaaGreatDoor
open Go.RowKit
/-- A block of rows, new and full. -/
theorem ritems_new {w : World} {base g n : Nat} {cur : Array Value} {acc : List Rw} (hn : acc.length = n) (hb : base ≤ g) (hg : w.heap[g]? = some (.cells cur 102)) (hs : cur.size = n * 6) (hlim : n ≤ 1000) (hall : ∀ j, (h : j < acc.length) → ∃ a c, RAt cur.toList (j * 6) acc[j] a c ∧ TB w a acc[j].abs) : RItems w base (.slice (some ⟨g, 0, none⟩) n n) acc := by
  subst hn
  refine ⟨cur.toList, ⟨by simpa using hs, .inr ⟨g, acc.length, cur, rfl, hb, hg, Nat.le_refl _, ?_, hs, ?_⟩⟩, hall⟩
  · unfold maxLen; omega
  · exact List.take_of_length_le (Nat.le_of_eq (by simpa using hs))
theorem tb_new {w : World} {g : Nat} {cur : Array Value} {xs : List ByteArray} (hb : w.heap[g]? = some (.cells cur 9)) (h : cur = (xs.map Value.string).toArray) : TB w (some ⟨g, 0, none⟩) xs := by
  subst h
  exact .inr ⟨g, _, rfl, hb, fun j hj => by simp [hj]⟩
end Go.Proofs.YtaafcmmmkalgjaaGreatDoor
