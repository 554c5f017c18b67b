/-
  The reader's next, take, digit, word, each by a contract.
-/
import Derived.Test.YtaafcmmmkalgjaaGreatDoorTFit
import Derived.Test.YtaafcmmmkalgjaaGreatDoorHolds
import Derived.Test.YtaafcmmmkalgjaaGreatDoorEqs
import Derived.Test.YtaafcmmmkalgjaaGreatDoorPTwin
namespace Go.Proofs.YtaafcmmmkalgjaaGreatDoor
open Go.RowKit
/-- The byte that stands there; 0 at the end. -/
def nxt (s : ByteArray) (i : Nat) : Nat := if h : i < s.size then s[i].toNat else 0
theorem nxt_lt {s : ByteArray} {i : Nat} (h : i < s.size) : nxt s i = s[i].toNat := dif_pos h
theorem nxt_end {s : ByteArray} {i : Nat} (h : ¬ i < s.size) : nxt s i = 0 := dif_neg h
theorem drewN_ext {w w' : World} (h : ∃ k, w' = w.drewN k) : Ext w w' := by
  obtain ⟨k, rfl⟩ := h
  exact (Ext.refl w).drewN k
end Go.Proofs.YtaafcmmmkalgjaaGreatDoor
/-
  The reader's word by a contract.
-/
namespace Go.Proofs.YtaafcmmmkalgjaaGreatDoor
open Go.RowKit
/-- How many bytes of a word stand there. -/
def wordK (s : ByteArray) : Nat → List UInt8 → Nat
  | _, [] => 0
  | i, c :: r => if nxt s i = c.toNat then 1 + wordK s (i + 1) r else 0
theorem wordK_of (s : ByteArray) : ∀ (l : List UInt8) (i j : Nat), j ≤ l.length → (∀ k, (h : k < l.length) → k < j → nxt s (i + k) = l[k].toNat) → (j = l.length ∨ ∃ h : j < l.length, nxt s (i + j) ≠ l[j].toNat) → wordK s i l = j
  | [], i, j, hj, _, _ => by simp at hj; subst hj; rfl
  | c :: r, i, j, hj, h1, h2 => by
    cases j with
    | zero =>
      rcases h2 with h2 | ⟨h, h2⟩
      · simp at h2
      · simp only [wordK]; rw [if_neg (by simpa using h2)]
    | succ j =>
      have h0 := h1 0 (by simp) (by omega)
      simp only [wordK]
      have e := wordK_of s r (i + 1) j (by simpa using hj) (fun k h hk => by
        have := h1 (k + 1) (by simpa using h) (by omega)
        rw [show i + 1 + k = i + (k + 1) by omega]
        simpa using this) (by
        rcases h2 with h2 | ⟨h, h2⟩
        · exact .inl (by simpa using h2)
        · exact .inr ⟨by simpa using h, by rw [show i + 1 + j = i + (j + 1) by omega]; simpa using h2⟩)
      rw [if_pos (by simpa using h0), e]
      omega
/-- What word answers. -/
def wordV (W m : Nat) (v : Value) : Value := if W = m then .tuple #[v, .int .i64 0] else .tuple #[.nilIface, .int .i64 5]
end Go.Proofs.YtaafcmmmkalgjaaGreatDoor
/-
  Plain and Is of the statements' own, each by a contract: of values that are not too great.
-/
namespace Go.Proofs.YtaafcmmmkalgjaaGreatDoor
open Go.RowKit
def PlainR (w : World) (d : Nat) (t : T) (e : Ending) (w' : World) : Prop := Ext w w' ∧ ∃ u0 u1 u2 u3, e = .returned (.tuple #[.agg #[u0, u1, u2, u3], .bool true]) ∧ Rd (fun x => w.heap.size ≤ x) w' d (.agg #[u0, u1, u2, u3]) t
set_option maxRecDepth 100000 in
set_option maxHeartbeats 4000000 in
theorem Plain_any {K : Nat → Prop} {d : Nat} {v : Value} {t : T} (w : World) (hr : VRd K w d v t) (hn : t.nodes ≤ 70000) (hd : t.deep ≤ 70) : Calls Tryz.prog 28 #[v] w (PlainR w d t) := by
  obtain ⟨τ, p, rfl⟩ := hr.iface
  have HR := hid hr.low
  have HN := hid hn
  have HD := hid hd
  clear hr hn hd
  go_enter Tryz.func28, Tryz.ntmps28
  go_wp2_with fail
  have hx2 : Ext w ((w.alloc (.cells #[.int .i64 0, .int .i64 0, .string ⟨#[]⟩, .slice none 0 0] 30)).alloc (.cells #[.int .i64 0] 3)) := Ext.alloc2 _ _ _
  have hb1 : ((w.alloc (.cells #[.int .i64 0, .int .i64 0, .string ⟨#[]⟩, .slice none 0 0] 30)).alloc (.cells #[.int .i64 0] 3)).heap[w.heap.size]? = some (.cells #[.int .i64 0, .int .i64 0, .string ⟨#[]⟩, .slice none 0 0] 30) := blkOld _ (blk0 w _)
  have hb2 : ((w.alloc (.cells #[.int .i64 0, .int .i64 0, .string ⟨#[]⟩, .slice none 0 0] 30)).alloc (.cells #[.int .i64 0] 3)).heap[w.heap.size + 1]? = some (.cells #[.int .i64 (0 : Nat)] 3) := blk1 w _ _
  have hs2 : ((w.alloc (.cells #[.int .i64 0, .int .i64 0, .string ⟨#[]⟩, .slice none 0 0] 30)).alloc (.cells #[.int .i64 0] 3)).heap.size = w.heap.size + 2 := by rw [blkS, blkS]
  generalize ((w.alloc (.cells #[.int .i64 0, .int .i64 0, .string ⟨#[]⟩, .slice none 0 0] 30)).alloc (.cells #[.int .i64 0] 3)) = V at hx2 hb1 hb2 hs2 ⊢
  refine (pln_any d (.iface τ p) t (· < w.heap.size) V (w.heap.size + 1) 0 0 (HR.out.later hx2) (by omega) hb2 (by have := HN.out; omega) (by have := HD.out; omega)).mono ?_
  rintro e V2 ⟨hk, _, u0, u1, u2, u3, rfl, hrd⟩
  obtain ⟨k', n', x', a', c', rfl, rfl, rfl, rfl⟩ := hrd.shape
  have HRD := hid hrd
  generalize t.kids.length = lk at *
  have HX := hid (Kp.extOf hx2 hk (Nat.le_succ _))
  have HB := hid (hk.block' hb1 (by show w.heap.size ≠ w.heap.size + 1; omega))
  have HS := hid hs2
  obtain ⟨r0, r1, r2, r3⟩ := four_of HB.out
  have f0 := frozen_of (i := 0) HB.out
  have f1 := frozen_of (i := 1) HB.out
  have f2 := frozen_of (i := 2) HB.out
  have f3 := frozen_of (i := 3) HB.out
  clear hk hrd hx2 hb1 hb2 hs2
  go_wp2_with fail
  have hb5 := set4_block HB.out 0 (.int .i64 k') (.int .i64 n') (.string x') (.slice a' lk c')
  have hk2 := Kp.set4 V2 w.heap.size 0 (.int .i64 k') (.int .i64 n') (.string x') (.slice a' lk c')
  have hX2 := Kp.extOf HX.out hk2 (Nat.le_refl _)
  generalize ((((V2.setCell ⟨w.heap.size, 0, none⟩ (.int .i64 k')).setCell ⟨w.heap.size, 0 + 1, none⟩ (.int .i64 n')).setCell ⟨w.heap.size, 0 + 2, none⟩ (.string x')).setCell ⟨w.heap.size, 0 + 3, none⟩ (.slice a' lk c')) = W at hb5 hk2 hX2 ⊢
  have z0 : W.cell? ⟨w.heap.size, 0, none⟩ = some (.int .i64 k') := cell_of hb5 (by simp [set4A])
  have z1 : W.cell? ⟨w.heap.size, 1, none⟩ = some (.int .i64 n') := cell_of hb5 (by simp [set4A])
  have z2 : W.cell? ⟨w.heap.size, 2, none⟩ = some (.string x') := cell_of hb5 (by simp [set4A])
  have z3 : W.cell? ⟨w.heap.size, 3, none⟩ = some (.slice a' lk c') := cell_of hb5 (by simp [set4A])
  refine bodyPost_ret (v := .tuple #[.agg #[.int .i64 k', .int .i64 n', .string x', .slice a' lk c'], .bool true]) (by simp [results, Tryz.results28, go_sem, z0, z1, z2, z3]) rfl ?_
  refine ⟨hX2, _, _, _, _, rfl, ?_⟩
  have hq := HRD.out.keep (hk2.mono (fun q _ hq e => by have e' : q = w.heap.size := e; have := HS.out; have hq' : V.heap.size ≤ q := hq; omega))
  exact hq.mono (fun q _ hq => by have := HS.out; have hq' : V.heap.size ≤ q := hq; show w.heap.size ≤ q; omega)
set_option maxRecDepth 100000 in
set_option maxHeartbeats 4000000 in
theorem is_any {K K' : Nat → Prop} {d d' : Nat} {v v' : Value} {t t' : T} (w : World) (hr : VRd K w d v t) (hr' : Rd K' w d' v' t') (hn : t.nodes ≤ 70000) (hd : t.deep ≤ 70) : Calls Tryz.prog 11 #[v, v'] w fun e w' => e = .returned (.bool (T.beq t t')) ∧ Ext w w' := by
  obtain ⟨τ, p, rfl⟩ := hr.iface
  obtain ⟨u0, u1, u2, u3, rfl⟩ := hr'.agg
  obtain ⟨k1, n1, x1, a1, c1, rfl, rfl, rfl, rfl⟩ := hr'.shape
  have HR := hid hr
  have HR' := hid hr'
  generalize t'.kids.length = l1 at *
  have HN := hid hn
  have HD := hid hd
  clear hr hn hd hr'
  go_enter Tryz.func11, Tryz.ntmps11
  go_wp2_with fail
  refine (Plain_any (w.alloc _) (HR.out.later (Ext.alloc w _)) HN.out HD.out).mono ?_
  rintro e V ⟨hx, u0, u1, u2, u3, rfl, hrd⟩
  obtain ⟨k', n', x', a', c', rfl, rfl, rfl, rfl⟩ := hrd.shape
  have HRD := hid hrd
  generalize t.kids.length = lk at *
  have HX := hid ((Ext.alloc w _).trans hx)
  obtain ⟨m0, m1, m2, m3⟩ := four_of (hx.block (blk0 w _))
  have HRV := hid (HR'.out.later HX.out)
  have hwl : w.heap.size < V.heap.size := lt_of_cell m0
  clear hx hrd
  go_wp2_with fail
  refine (eq_any d _ _ t t' _ _ _ d' (HRD.out.later (Ext.alloc V _)) (HRV.out.later (Ext.alloc V _))).mono ?_
  rintro e V2 ⟨rfl, hx2⟩
  have HX2 := hid (HX.out.trans ((Ext.alloc V _).trans hx2))
  clear hx2
  go_wp2_with fail
  go_ret
  exact ⟨rfl, HX2.out⟩
end Go.Proofs.YtaafcmmmkalgjaaGreatDoor
/-
  Fits of the statements, by contracts: none beside an error; the value that was asked for.
-/
namespace Go.Proofs.YtaafcmmmkalgjaaGreatDoor
open Go.RowKit
theorem eq_nil_nil (w : World) : (binOp .eql 35 .nilIface .nilIface).run Tryz.prog w = .ok (.bool true) w := by kernel_rfl
attribute [local go_sem] eq_nil_nil
set_option maxRecDepth 100000 in
theorem fits_err (e : Int) (he : e ≠ 0) (p : Value) (hp : ∃ k n x a l c, p = .agg #[.int .i64 k, .int .i64 n, .string x, .slice a l c]) (w : World) : Calls Tryz.prog 26 #[.nilIface, .int .i64 e, p, .int .i64 e] w fun r w' => r = .returned (.bool true) ∧ Ext w w' := by
  obtain ⟨k, n, x, a, l, c, rfl⟩ := hp
  have he1 : (e == 0) = false := by simpa using he
  go_enter Tryz.func26, Tryz.ntmps26
  go_wp2_with fail
  go_ret
  exact ⟨rfl, Ext.alloc _ _⟩
set_option maxRecDepth 100000 in
theorem fits_ok {K K' : Nat → Prop} {d d' : Nat} {v v' : Value} {t : T} (w : World) (hr : VRd K w d v t) (hr' : Rd K' w d' v' t) (hm : t.may) : Calls Tryz.prog 26 #[v, .int .i64 0, v', .int .i64 0] w fun r w' => r = .returned (.bool true) ∧ Ext w w' := by
  obtain ⟨τ, q, rfl⟩ := hr.iface
  obtain ⟨u0, u1, u2, u3, rfl⟩ := hr'.agg
  obtain ⟨k, n, x, a, c, rfl, rfl, rfl, rfl⟩ := hr'.shape
  have HI := hid (show ∀ W', Ext w W' → Calls Tryz.prog 11 #[.iface τ q, .agg #[.int .i64 k, .int .i64 n, .string x, .slice a t.kids.length c]] W' fun r w' => r = .returned (.bool true) ∧ Ext W' w' from fun W' hx => by
    have e := is_any W' (hr.later hx) (hr'.later hx) (Nat.le_trans (T.nodes_size _) (Nat.le_trans hm.2.1 (by decide))) (Nat.le_trans hm.2.2 (by decide))
    rw [(T.beq_eq _ _).2 rfl] at e
    exact e)
  clear hr hr'
  generalize (T.kids t).length = kt at *
  go_enter Tryz.func26, Tryz.ntmps26
  go_wp2_with fail
  refine (HI.out _ (Ext.alloc _ _)).mono ?_
  rintro e w1 ⟨rfl, hx1⟩
  have HX1 := hid ((Ext.alloc w _).trans hx1)
  clear hx1
  go_wp2_with fail
  go_ret
  exact ⟨rfl, HX1.out⟩
end Go.Proofs.YtaafcmmmkalgjaaGreatDoor
/-
  Join by a contract: of a list of plain values in memory.
-/
namespace Go.Proofs.YtaafcmmmkalgjaaGreatDoor
open Go.RowKit
/-- What Join answers. -/
def JoinR (w : World) (d : Nat) (ks : List T) (e : Ending) (w' : World) : Prop := Ext w w' ∧
  ((∃ t ∈ ks, ¬ t.may) ∧ e = .returned (.tuple #[.nilIface, .int .i64 1]) ∨
   (∀ t ∈ ks, t.may) ∧ ¬ (T.node 5 0 ⟨#[]⟩ ks).may ∧ e = .returned (.tuple #[.nilIface, .int .i64 2]) ∨
   (∀ t ∈ ks, t.may) ∧ (T.node 5 0 ⟨#[]⟩ ks).may ∧ ∃ u bs, e = .returned (.tuple #[u, .int .i64 0]) ∧ VOwn w' d u (.node 5 0 ⟨#[]⟩ ks) bs ∧ (∀ b ∈ bs, w.heap.size ≤ b) ∧ bs.Nodup)
theorem RdL.node {K : Nat → Prop} {w : World} {d : Nat} {a : Option Addr} {ks : List T} (c : Nat) (h : RdL K w d a ks) : Rd K w (d + 1) (.agg #[.int .i64 5, .int .i64 0, .string ⟨#[]⟩, .slice a ks.length c]) (.node 5 0 ⟨#[]⟩ ks) :=
  ⟨a, c, rfl, by decide, h.1, h.2⟩
set_option maxRecDepth 100000 in
set_option maxHeartbeats 4000000 in
theorem join_any {K : Nat → Prop} {d : Nat} {a : Option Addr} {c : Nat} {ks : List T} (w : World) (h : RdL K w d a ks) : Calls Tryz.prog 50 #[.slice a ks.length c] w (JoinR w (d + 1) ks) := by
  have HA := hid h
  have hl : (ks.length : Int) ≤ 140737488355328 := by have := h.1; omega
  clear h
  go_enter Tryz.func50, Tryz.ntmps50
  go_wp2_with fail
  go_loopw [9] (fun i wr => ∃ j : Nat, j ≤ ks.length ∧ i = .int .i64 j ∧ Ext w wr ∧ (∀ t ∈ ks.take j, t.may)) (fun i _ => ks.length - (intOf i).toNat)
  case atStart => exact ⟨0, Nat.zero_le _, rfl, Ext.refl _, by simp⟩
  case round =>
    obtain ⟨j, hj, rfl, hx, hall⟩ := hrel
    have HX := hid hx
    have HALL := hid hall
    clear hx hall
    by_cases hlt : j < ks.length
    · have hlt' : (j : Int) < ks.length := by omega
      obtain ⟨g, off, k', n', x', a', l', c', rfl, hg, h4, hrd⟩ := HA.out.kid hlt
      obtain ⟨m0, m1, m2, m3⟩ := h4.keep (HX.out.kp K) hg
      have HR := hid (hrd.later HX.out)
      have HT := hid (T.take_succ' ks j hlt)
      clear h4 hg hrd
      by_cases hm : ks[j].may
      · have HM := hid (may_to HR.out true (decide_eq_true hm))
        have HMM := hid hm
        clear hm
        go_wp2_with fail
        refine (HM.out _ (Ext.alloc _ _)).mono ?_
        rintro e w1 ⟨rfl, hx1⟩
        have HX1 := hid (HX.out.trans ((Ext.alloc wr _).trans hx1))
        clear hx1 m0 m1 m2 m3
        go_wp2_with fail
        go_roundw
        case rel =>
          refine ⟨j + 1, hlt, by go_num, HX1.out, fun t ht => ?_⟩
          rw [HT.out] at ht
          rcases List.mem_append.1 ht with h | h
          · exact HALL.out t h
          · rw [List.mem_singleton.1 h]; exact HMM.out
        case measure => simp [intOf]; omega
      · have HM := hid (may_to HR.out false (decide_eq_false hm))
        have HMM := hid hm
        clear hm
        go_wp2_with fail
        refine (HM.out _ (Ext.alloc _ _)).mono ?_
        rintro e w1 ⟨rfl, hx1⟩
        have HX1 := hid (HX.out.trans ((Ext.alloc wr _).trans hx1))
        clear hx1 m0 m1 m2 m3
        go_wp2_with fail
        go_ret2
        exact ⟨HX1.out, .inl ⟨⟨ks[j], List.getElem_mem hlt, HMM.out⟩, rfl⟩⟩
    · have hje : j = ks.length := by omega
      have HALL' := hid (show ∀ t ∈ ks, t.may by have := HALL.out; rw [hje, List.take_length] at this; exact this)
      have HR := hid (RdL.node c (HA.out.keep (HX.out.kp K)))
      by_cases hm : (T.node 5 0 ⟨#[]⟩ ks).may
      · have HM := hid (may_to HR.out true (decide_eq_true hm))
        have HG := hid hm
        clear hm hje
        go_wp2_with fail
        refine (HM.out _ (Ext.alloc _ _)).mono ?_
        rintro e w1 ⟨rfl, hx1⟩
        obtain ⟨p0, p1, p2, p3⟩ := four_of (hx1.block (blk0 wr _))
        have HX1 := hid ((Ext.alloc wr _).trans hx1)
        clear hx1
        go_wp2_with fail
        refine (value_any (d + 1) _ _ K w1 (HR.out.later HX1.out) HG.out.1).mono ?_
        rintro e w2 ⟨u, bs, rfl, hx2, ho, hge, hnd⟩
        obtain ⟨τ, p, rfl⟩ := ho.rd.iface
        clear p0 p1 p2 p3
        have HO := hid ho
        have HX2 := hid (HX.out.trans (HX1.out.trans hx2))
        have HGE := hid hge
        clear ho hx2 hge
        go_wp2_with fail
        go_ret2
        exact ⟨HX2.out, .inr (.inr ⟨HALL'.out, HG.out, _, bs, rfl, HO.out, fun b hb => Nat.le_trans (HX.out.trans HX1.out).size (HGE.out b hb), hnd⟩)⟩
      · have HM := hid (may_to HR.out false (decide_eq_false hm))
        have HG := hid hm
        clear hm hje
        go_wp2_with fail
        refine (HM.out _ (Ext.alloc _ _)).mono ?_
        rintro e w1 ⟨rfl, hx1⟩
        have HX1 := hid (HX.out.trans ((Ext.alloc wr _).trans hx1))
        clear hx1
        go_wp2_with fail
        go_ret2
        exact ⟨HX1.out, .inr (.inl ⟨HALL'.out, HG.out, rfl⟩)⟩
end Go.Proofs.YtaafcmmmkalgjaaGreatDoor
/-
  Two slices that are being made: values that were answered, and plain values; what lies elsewhere is kept.
-/
namespace Go.Proofs.YtaafcmmmkalgjaaGreatDoor
open Go.RowKit
/-- The slice qv holds values as acc tells; its row lies in a block of O, what is read lies in blocks of R. -/
def VQ (w : World) (base : Nat) (O R : Nat → Prop) (qv : Value) (acc : List T) : Prop := ∃ us : List Value, w.ownsRow base 35 1 qv acc.length us ∧ (∀ q, qv.ownBlock = some q → O q) ∧
  ∀ j, (h : j < acc.length) → ∃ u d, us[j]? = some u ∧ VRd R w d u acc[j]
/-- The slice wv holds plain values as acc tells; its row lies in a block of O, what is read lies in blocks of R. -/
def PQ (w : World) (base : Nat) (O R : Nat → Prop) (wv : Value) (acc : List T) : Prop := ∃ us : List Value, w.ownsRow base 30 4 wv acc.length us ∧ (∀ q, wv.ownBlock = some q → O q) ∧
  ∀ j, (h : j < acc.length) → ∃ u0 u1 u2 u3 d, us[j * 4]? = some u0 ∧ us[j * 4 + 1]? = some u1 ∧ us[j * 4 + 2]? = some u2 ∧ us[j * 4 + 3]? = some u3 ∧ Rd R w d (.agg #[u0, u1, u2, u3]) acc[j]
theorem VQ.nil {w : World} (base : Nat) (O R : Nat → Prop) : VQ w base O R (.slice none 0 0) [] :=
  ⟨[], World.ownsRow_nil _ _ _ _, fun q h => by simp [Value.ownBlock] at h, fun j h => absurd h (Nat.not_lt_zero _)⟩
theorem PQ.nil {w : World} (base : Nat) (O R : Nat → Prop) : PQ w base O R (.slice none 0 0) [] :=
  ⟨[], World.ownsRow_nil _ _ _ _, fun q h => by simp [Value.ownBlock] at h, fun j h => absurd h (Nat.not_lt_zero _)⟩
theorem VQ.shape {w : World} {base : Nat} {O R : Nat → Prop} {qv : Value} {acc : List T} (h : VQ w base O R qv acc) : ∃ ao c, qv = .slice ao acc.length c := by
  obtain ⟨us, ho, _⟩ := h
  rcases ho.2 with ⟨hv, h0⟩ | ⟨g, cap, cur, hv, _⟩
  · exact ⟨none, 0, by rw [hv, h0]⟩
  · exact ⟨_, _, hv⟩
theorem PQ.shape {w : World} {base : Nat} {O R : Nat → Prop} {qv : Value} {acc : List T} (h : PQ w base O R qv acc) : ∃ ao c, qv = .slice ao acc.length c := by
  obtain ⟨us, ho, _⟩ := h
  rcases ho.2 with ⟨hv, h0⟩ | ⟨g, cap, cur, hv, _⟩
  · exact ⟨none, 0, by rw [hv, h0]⟩
  · exact ⟨_, _, hv⟩
theorem VQ.own {w : World} {base : Nat} {O R : Nat → Prop} {qv : Value} {acc : List T} (h : VQ w base O R qv acc) {q : Nat} (hq : qv.ownBlock = some q) : base ≤ q ∧ O q ∧ ∃ cur, w.heap[q]? = some (.cells cur 35) := by
  obtain ⟨us, ho, hO, _⟩ := h
  refine ⟨(World.ownsRow.lt ho q hq).1, hO q hq, ?_⟩
  rcases ho.2 with ⟨hv, _⟩ | ⟨g, cap, cur, hv, _, hb, _⟩
  · rw [hv] at hq; simp [Value.ownBlock] at hq
  · rw [hv] at hq; simp [Value.ownBlock] at hq; subst hq; exact ⟨cur, hb⟩
theorem PQ.own {w : World} {base : Nat} {O R : Nat → Prop} {qv : Value} {acc : List T} (h : PQ w base O R qv acc) {q : Nat} (hq : qv.ownBlock = some q) : base ≤ q ∧ O q ∧ ∃ cur, w.heap[q]? = some (.cells cur 30) := by
  obtain ⟨us, ho, hO, _⟩ := h
  refine ⟨(World.ownsRow.lt ho q hq).1, hO q hq, ?_⟩
  rcases ho.2 with ⟨hv, _⟩ | ⟨g, cap, cur, hv, _, hb, _⟩
  · rw [hv] at hq; simp [Value.ownBlock] at hq
  · rw [hv] at hq; simp [Value.ownBlock] at hq; subst hq; exact ⟨cur, hb⟩
theorem VQ.keep' {w w' : World} {base : Nat} {O R L : Nat → Prop} {qv : Value} {acc : List T} (h : VQ w base O R qv acc) (hk : Kp L w w') (hO : ∀ q, qv.ownBlock = some q → L q) (hR : ∀ q, q < w.heap.size → R q → L q) : VQ w' base O R qv acc := by
  obtain ⟨us, ho, hq, hi⟩ := h
  refine ⟨us, ⟨ho.1, ?_⟩, hq, fun j hj => ?_⟩
  · rcases ho.2 with h | ⟨g, cap, cur, hv, hg, hb, hr⟩
    · exact .inl h
    · exact .inr ⟨g, cap, cur, hv, hg, hk.block' hb (hO g (by rw [hv]; rfl)), hr⟩
  · obtain ⟨u, d, h1, h2⟩ := hi j hj
    exact ⟨u, d, h1, h2.keep (hk.mono hR)⟩
theorem PQ.keep' {w w' : World} {base : Nat} {O R L : Nat → Prop} {qv : Value} {acc : List T} (h : PQ w base O R qv acc) (hk : Kp L w w') (hO : ∀ q, qv.ownBlock = some q → L q) (hR : ∀ q, q < w.heap.size → R q → L q) : PQ w' base O R qv acc := by
  obtain ⟨us, ho, hq, hi⟩ := h
  refine ⟨us, ⟨ho.1, ?_⟩, hq, fun j hj => ?_⟩
  · rcases ho.2 with h | ⟨g, cap, cur, hv, hg, hb, hr⟩
    · exact .inl h
    · exact .inr ⟨g, cap, cur, hv, hg, hk.block' hb (hO g (by rw [hv]; rfl)), hr⟩
  · obtain ⟨u0, u1, u2, u3, d, h0, h1, h2, h3, hr⟩ := hi j hj
    exact ⟨u0, u1, u2, u3, d, h0, h1, h2, h3, hr.keep (hk.mono hR)⟩
theorem VQ.mono {w : World} {base : Nat} {O R O' R' : Nat → Prop} {qv : Value} {acc : List T} (h : VQ w base O R qv acc) (hO : ∀ q, q < w.heap.size → O q → O' q) (hR : ∀ q, q < w.heap.size → R q → R' q) : VQ w base O' R' qv acc := by
  have hlt : ∀ q, qv.ownBlock = some q → q < w.heap.size := fun q hq => by obtain ⟨_, _, cur, hc⟩ := h.own hq; exact lt_of_block hc
  obtain ⟨us, ho, hq, hi⟩ := h
  refine ⟨us, ho, fun q hqq => hO q (hlt q hqq) (hq q hqq), fun j hj => ?_⟩
  obtain ⟨u, d, h1, h2⟩ := hi j hj
  exact ⟨u, d, h1, h2.mono hR⟩
theorem PQ.mono {w : World} {base : Nat} {O R O' R' : Nat → Prop} {qv : Value} {acc : List T} (h : PQ w base O R qv acc) (hO : ∀ q, q < w.heap.size → O q → O' q) (hR : ∀ q, q < w.heap.size → R q → R' q) : PQ w base O' R' qv acc := by
  have hlt : ∀ q, qv.ownBlock = some q → q < w.heap.size := fun q hq => by obtain ⟨_, _, cur, hc⟩ := h.own hq; exact lt_of_block hc
  obtain ⟨us, ho, hq, hi⟩ := h
  refine ⟨us, ho, fun q hqq => hO q (hlt q hqq) (hq q hqq), fun j hj => ?_⟩
  obtain ⟨u0, u1, u2, u3, d, h0, h1, h2, h3, hr⟩ := hi j hj
  exact ⟨u0, u1, u2, u3, d, h0, h1, h2, h3, hr.mono hR⟩
theorem VQ.later {w w' : World} {base : Nat} {O R : Nat → Prop} {qv : Value} {acc : List T} (h : VQ w base O R qv acc) (hx : Ext w w') : VQ w' base O R qv acc := h.keep' (hx.kp (fun _ => True)) (fun _ _ => trivial) (fun _ _ _ => trivial)
theorem PQ.later {w w' : World} {base : Nat} {O R : Nat → Prop} {qv : Value} {acc : List T} (h : PQ w base O R qv acc) (hx : Ext w w') : PQ w' base O R qv acc := h.keep' (hx.kp (fun _ => True)) (fun _ _ => trivial) (fun _ _ _ => trivial)
theorem VQ.at {w : World} {base : Nat} {O R : Nat → Prop} {ao : Option Addr} {m c : Nat} {acc : List T} (h : VQ w base O R (.slice ao m c) acc) {j : Nat} (hj : j < acc.length) : ∃ g τ p d, ao = some ⟨g, 0, none⟩ ∧ w.cell? ⟨g, j, none⟩ = some (.iface τ p) ∧ VRd R w d (.iface τ p) acc[j] := by
  obtain ⟨us, ho, _, hi⟩ := h
  obtain ⟨u, d, h1, h2⟩ := hi j hj
  obtain ⟨τ, p, rfl⟩ := h2.iface
  rcases ho.2 with ⟨_, h0⟩ | ⟨g, cap, cur, e0, hb, hc, h4, h5, h6, h7⟩
  · omega
  · cases e0
    rw [← h7, List.getElem?_take_of_lt (by omega)] at h1
    exact ⟨g, τ, p, d, rfl, cell_of hc (by simpa using h1), h2⟩
theorem PQ.at {w : World} {base : Nat} {O R : Nat → Prop} {ao : Option Addr} {m c : Nat} {acc : List T} (h : PQ w base O R (.slice ao m c) acc) {j : Nat} (hj : j < acc.length) : ∃ g k n x a l c' d, ao = some ⟨g, 0, none⟩ ∧ Four w g (j * 4) (.int .i64 k) (.int .i64 n) (.string x) (.slice a l c') ∧ Rd R w d (.agg #[.int .i64 k, .int .i64 n, .string x, .slice a l c']) acc[j] := by
  obtain ⟨us, ho, _, hi⟩ := h
  obtain ⟨u0, u1, u2, u3, d, q0, q1, q2, q3, hr⟩ := hi j hj
  obtain ⟨k, n, x, a, c', rfl, rfl, rfl, rfl⟩ := hr.shape
  rcases ho.2 with ⟨_, h0⟩ | ⟨g, cap, cur, e0, hb, hc, h4, h5, h6, h7⟩
  · omega
  · cases e0
    have key : ∀ i u, i < acc.length * 4 → us[i]? = some u → w.cell? ⟨g, i, none⟩ = some u := fun i u hi hu => by
      rw [← h7, List.getElem?_take_of_lt hi] at hu
      exact cell_of hc (by simpa using hu)
    exact ⟨g, k, n, x, a, _, c', d, rfl, ⟨key _ _ (by omega) q0, key _ _ (by omega) q1, key _ _ (by omega) q2, key _ _ (by omega) q3⟩, hr⟩
/-- What an append onto one of the two leaves of the other one's rows and of what is read. -/
theorem rows_ne {w : World} {base base' : Nat} {O R O' R' : Nat → Prop} {qv wv : Value} {acc acc' : List T} (h : VQ w base O R qv acc) (h' : PQ w base' O' R' wv acc') {q : Nat} (hq : qv.ownBlock = some q) : wv.ownBlock ≠ some q := fun e => by
  obtain ⟨_, _, cur, hc⟩ := h.own hq
  obtain ⟨_, _, cur', hc'⟩ := h'.own e
  rw [hc] at hc'
  injection hc' with hc'
  injection hc' with _ e2
  exact absurd e2 (by decide)
theorem run_vq {w : World} {ty : TypeId} (base : Nat) (O R : Nat → Prop) (qv wv : Value) (acc acc' : List T) (τ : TypeId) (p : Value) (t : T) (d : Nat) (hB : base ≤ w.heap.size) (hq : VQ w base O R qv acc) (hw : PQ w base O R wv acc') (hrd : VRd R w d (.iface τ p) t)
    (hOR : ∀ q, O q → ¬ R q) (hnew : ∀ q, w.heap.size ≤ q → O q) (hlim : acc.length ≤ 2000000) :
    ∃ ao c w', (Builtin.append_ #[24, 24] 24 #[qv, .slice (some ⟨w.heap.size, 0, none⟩) 1 1]).run Tryz.prog (w.alloc (.cells #[.iface τ p] ty)) = .ok (.slice ao (acc ++ [t]).length c) w' ∧ VQ w' base O R (.slice ao (acc ++ [t]).length c) (acc ++ [t]) ∧ PQ w' base O R wv acc' ∧ Kp (fun q => ¬ O q) w w' := by
  have hne := fun q (e : qv.ownBlock = some q) => rows_ne hq hw e
  obtain ⟨us, ho, hO, hi⟩ := hq
  obtain ⟨ii, hii, hz0, hz1, hz2⟩ := info_parts valueInfo
  have hrow : (w.alloc (.cells #[.iface τ p] ty)).ownsRow base 35 1 qv acc.length us := World.ownsRow.alloc ho _
  obtain ⟨v', w', hr, ho2, hg, _, hat⟩ := run_append_own_at (P := Tryz.prog) (w.alloc (.cells #[.iface τ p] ty)) base 24 24 35 ii .nilIface 1 16 Tryz.underlying24 hii hz0 hz1 hz2 rfl (by decide) qv acc.length us hrow ⟨w.heap.size, 0, none⟩ 1 1 [.iface τ p] rfl (cell_one_new _ _ _) (fun u hu => by simp at hu; subst hu; rfl) (by unfold maxLen; omega) (by omega) (by rw [blkS]; omega)
  have hkp : Kp (fun k => qv.ownBlock ≠ some k) w w' := ((Ext.alloc w _).kp _).trans (grown_kp hg)
  have hRk : ∀ q, R q → qv.ownBlock ≠ some q := fun q hR e => hOR q (hO q e) hR
  have hI : VQ w' base O R v' (acc ++ [t]) := by
    refine ⟨us ++ [.iface τ p], by rw [List.length_append]; exact ho2, fun q hq => ?_, fun j hj => ?_⟩
    · rcases hat with e | e
      · rw [e] at hq; exact hO q hq
      · rw [e, blkS] at hq; injection hq with hq; exact hnew q (by omega)
    · have hul : us.length = acc.length := by have := ho.1; omega
      by_cases hj' : j < acc.length
      · obtain ⟨u, d', h1, h3⟩ := hi j hj'
        refine ⟨u, d', by rw [List.getElem?_append_left (by omega)]; exact h1, ?_⟩
        rw [List.getElem_append_left hj']
        exact h3.keep (hkp.mono (fun k _ hk => hRk k hk))
      · have hje : j = acc.length := by simp at hj; omega
        subst hje
        refine ⟨.iface τ p, d, by rw [← hul]; simp, ?_⟩
        simp only [List.getElem_append_right (Nat.le_refl _), Nat.sub_self, List.getElem_cons_zero]
        exact hrd.keep (hkp.mono (fun k _ hk => hRk k hk))
  obtain ⟨ao, c, rfl⟩ := hI.shape
  exact ⟨ao, c, w', hr, hI, hw.keep' hkp (fun q e e' => hne q e' e) (fun q _ hq => hRk q hq), hkp.mono (fun q _ hq e => hq (hO q e))⟩
theorem run_pq {w : World} {ty : TypeId} (base : Nat) (O R : Nat → Prop) (qv wv : Value) (acc acc' : List T) (k n : Int) (x : ByteArray) (a : Option Addr) (l c : Nat) (t : T) (d : Nat) (hB : base ≤ w.heap.size) (hq : VQ w base O R qv acc) (hw : PQ w base O R wv acc') (hrd : Rd R w d (.agg #[.int .i64 k, .int .i64 n, .string x, .slice a l c]) t)
    (hOR : ∀ q, O q → ¬ R q) (hnew : ∀ q, w.heap.size ≤ q → O q) (hlim : acc'.length ≤ 2000000) :
    ∃ ao c' w', (Builtin.append_ #[25, 25] 25 #[wv, .slice (some ⟨w.heap.size, 0, none⟩) 1 1]).run Tryz.prog (w.alloc (.cells #[.int .i64 k, .int .i64 n, .string x, .slice a l c] ty)) = .ok (.slice ao (acc' ++ [t]).length c') w' ∧ PQ w' base O R (.slice ao (acc' ++ [t]).length c') (acc' ++ [t]) ∧ VQ w' base O R qv acc ∧ Kp (fun q => ¬ O q) w w' := by
  have hne := fun q (e : qv.ownBlock = some q) => rows_ne hq hw e
  obtain ⟨us, ho, hO, hi⟩ := hw
  obtain ⟨ii, hii, hz0, hz1, hz2⟩ := info_parts plainInfo
  have hrow : (w.alloc (.cells #[.int .i64 k, .int .i64 n, .string x, .slice a l c] ty)).ownsRow base 30 4 wv acc'.length us := World.ownsRow.alloc ho _
  have hnews : ∀ (j : Nat) (u : Value), [Value.int .i64 k, .int .i64 n, .string x, .slice a l c][j]? = some u → (w.alloc (.cells #[.int .i64 k, .int .i64 n, .string x, .slice a l c] ty)).cell? (Addr.add ⟨w.heap.size, 0, none⟩ j) = some u := by
    intro j u hu
    have e : Addr.add ⟨w.heap.size, 0, none⟩ j = ⟨w.heap.size, j, none⟩ := by
      by_cases hj : j = 0
      · subst hj; simp [Addr.add]
      · simp [Addr.add, hj]
    rw [e]
    exact cell_of (blk0 w _) (by simpa using hu)
  obtain ⟨v', w', hr, ho2, hg, _, hat⟩ := run_append_own_at (P := Tryz.prog) (w.alloc (.cells #[.int .i64 k, .int .i64 n, .string x, .slice a l c] ty)) base 25 25 30 ii _ 4 56 Tryz.underlying25 hii hz0 hz1 hz2 rfl (by decide) wv acc'.length us hrow ⟨w.heap.size, 0, none⟩ 1 1 [.int .i64 k, .int .i64 n, .string x, .slice a l c] rfl hnews (fun u hu => by simp at hu; rcases hu with rfl | rfl | rfl | rfl <;> rfl) (by unfold maxLen; omega) (by omega) (by rw [blkS]; omega)
  have hkp : Kp (fun k => wv.ownBlock ≠ some k) w w' := ((Ext.alloc w _).kp _).trans (grown_kp hg)
  have hRk : ∀ q, R q → wv.ownBlock ≠ some q := fun q hR e => hOR q (hO q e) hR
  have hI : PQ w' base O R v' (acc' ++ [t]) := by
    refine ⟨us ++ [.int .i64 k, .int .i64 n, .string x, .slice a l c], by rw [List.length_append]; exact ho2, fun q hq => ?_, fun j hj => ?_⟩
    · rcases hat with e | e
      · rw [e] at hq; exact hO q hq
      · rw [e, blkS] at hq; injection hq with hq; exact hnew q (by omega)
    · have hul : us.length = acc'.length * 4 := ho.1
      by_cases hj' : j < acc'.length
      · obtain ⟨u0, u1, u2, u3, d', h0, h1, h2, h3, hr3⟩ := hi j hj'
        refine ⟨u0, u1, u2, u3, d', by rw [List.getElem?_append_left (by omega)]; exact h0, by rw [List.getElem?_append_left (by omega)]; exact h1, by rw [List.getElem?_append_left (by omega)]; exact h2, by rw [List.getElem?_append_left (by omega)]; exact h3, ?_⟩
        rw [List.getElem_append_left hj']
        exact hr3.keep (hkp.mono (fun k _ hk => hRk k hk))
      · have hje : j = acc'.length := by simp at hj; omega
        subst hje
        refine ⟨.int .i64 k, .int .i64 n, .string x, .slice a l c, d, by rw [← hul]; simp, by rw [← hul]; simp, by rw [← hul]; simp, by rw [← hul]; simp, ?_⟩
        simp only [List.getElem_append_right (Nat.le_refl _), Nat.sub_self, List.getElem_cons_zero]
        exact hrd.keep (hkp.mono (fun k _ hk => hRk k hk))
  obtain ⟨ao, c', rfl⟩ := hI.shape
  exact ⟨ao, c', w', hr, hI, hq.keep' hkp (fun q e e' => hne q e e') (fun q _ hq => hRk q hq), hkp.mono (fun q _ hq e => hq (hO q e))⟩
theorem app_vq {ops : Array Oper} {rest : List Oper} {o : Oper} {a : Act} {Q : Exit → Act → World → Prop} {w : World} {ty : TypeId} (hgd : o.guard = none) (s x : Operand)
    (ho : o.op = .call { callee := .builtin .append, args := #[s, x], argTypes := #[24, 24] }) (hty : o.type = 24) (base : Nat) (O R : Nat → Prop) (qv wv : Value) (acc acc' : List T) (τ : TypeId) (p : Value) (t : T) (d : Nat) (hs : a.eval s = qv) (hx : a.eval x = .slice (some ⟨w.heap.size, 0, none⟩) 1 1)
    (hB : base ≤ w.heap.size) (hq : VQ w base O R qv acc) (hw : PQ w base O R wv acc') (hrd : VRd R w d (.iface τ p) t) (hOR : ∀ q, O q → ¬ R q) (hnew : ∀ q, w.heap.size ≤ q → O q) (hlim : acc.length ≤ 2000000)
    (h : ∀ ao c w', VQ w' base O R (.slice ao (acc.length + 1) c) (acc ++ [t]) → PQ w' base O R wv acc' → Kp (fun q => ¬ O q) w w' → wpList Tryz.prog ops Q rest (a.put o.dst (.slice ao (acc.length + 1) c)) w') : wpList Tryz.prog ops Q (o :: rest) a (w.alloc (.cells #[.iface τ p] ty)) := by
  refine wpList_plain hgd fun K hK => ?_
  obtain ⟨ao, c, w', hr, h2, h3, h4⟩ := run_vq (ty := ty) base O R qv wv acc acc' τ p t d hB hq hw hrd hOR hnew hlim
  unfold Oper.wp execOp
  rw [List.length_append] at hr h2
  simp only [ho, hty, resolve, invoke, builtin, Sem.run_bind, Sem.run_pure, Result.andThen_ok, List.map_toArray, List.map_cons, List.map_nil, hs, hx, hr]
  exact hK _ _ (h ao c w' h2 h3 h4)
theorem app_pq {ops : Array Oper} {rest : List Oper} {o : Oper} {ac : Act} {Q : Exit → Act → World → Prop} {w : World} {ty : TypeId} (hgd : o.guard = none) (s y : Operand)
    (ho : o.op = .call { callee := .builtin .append, args := #[s, y], argTypes := #[25, 25] }) (hty : o.type = 25) (base : Nat) (O R : Nat → Prop) (qv wv : Value) (acc acc' : List T) (k n : Int) (x : ByteArray) (a : Option Addr) (l c : Nat) (t : T) (d : Nat) (hs : ac.eval s = wv) (hx : ac.eval y = .slice (some ⟨w.heap.size, 0, none⟩) 1 1)
    (hB : base ≤ w.heap.size) (hq : VQ w base O R qv acc) (hw : PQ w base O R wv acc') (hrd : Rd R w d (.agg #[.int .i64 k, .int .i64 n, .string x, .slice a l c]) t) (hOR : ∀ q, O q → ¬ R q) (hnew : ∀ q, w.heap.size ≤ q → O q) (hlim : acc'.length ≤ 2000000)
    (h : ∀ ao c' w', PQ w' base O R (.slice ao (acc'.length + 1) c') (acc' ++ [t]) → VQ w' base O R qv acc → Kp (fun q => ¬ O q) w w' → wpList Tryz.prog ops Q rest (ac.put o.dst (.slice ao (acc'.length + 1) c')) w') : wpList Tryz.prog ops Q (o :: rest) ac (w.alloc (.cells #[.int .i64 k, .int .i64 n, .string x, .slice a l c] ty)) := by
  refine wpList_plain hgd fun K hK => ?_
  obtain ⟨ao, c', w', hr, h2, h3, h4⟩ := run_pq (ty := ty) base O R qv wv acc acc' k n x a l c t d hB hq hw hrd hOR hnew hlim
  unfold Oper.wp execOp
  rw [List.length_append] at hr h2
  simp only [ho, hty, resolve, invoke, builtin, Sem.run_bind, Sem.run_pure, Result.andThen_ok, List.map_toArray, List.map_cons, List.map_nil, hs, hx, hr]
  exact hK _ _ (h ao c' w' h2 h3 h4)
end Go.Proofs.YtaafcmmmkalgjaaGreatDoor
/-
  marks and Kept of the statements, by contracts: of a plain value whose marks stand, and which reads as the other one.
-/
namespace Go.Proofs.YtaafcmmmkalgjaaGreatDoor
open Go.RowKit
set_option maxRecDepth 100000 in
set_option maxHeartbeats 2000000 in
theorem marks_any : ∀ (d : Nat) (v : Value) (t : T) (K : Nat → Prop) (w : World), MRd K w d v t →
    Calls Tryz.prog 53 #[v] w fun e w' => e = .returned (.bool true) ∧ Ext w w' := by
  intro d
  induction d with
  | zero => intro v t K w h; exact h.elim
  | succ d ih =>
    intro v t K w hr
    obtain ⟨k, n, x, ks⟩ := t
    obtain ⟨a, c, rfl, hx, hl, hm⟩ := hr
    have HIH := hid ih
    have hl' : (ks.length : Int) ≤ 140737488355328 := by omega
    clear ih hx
    rcases hm with ⟨rfl, rfl⟩ | ⟨g, off, rfl, hg, _, hc, ⟨m1, m2, m3, hm⟩, hks⟩
    · go_enter Tryz.func53, Tryz.ntmps53
      go_wp2_with fail
      go_loopw [4] (fun i wr => i = .int .i64 0 ∧ Ext w wr) (fun _ _ => 0)
      case atStart => exact ⟨rfl, Ext.alloc _ _⟩
      case round =>
        obtain ⟨rfl, hx⟩ := hrel
        have HX := hid hx
        clear hx
        go_wp2_with fail
        go_ret
        exact ⟨rfl, HX.out⟩
    · have HKS := hid hks
      have hc' : (ks.length : Int) < c := by omega
      have hc1 : (ks.length : Int) + 1 ≤ c := by omega
      obtain ⟨q0, q1, q2, q3⟩ := hm.keep ((Ext.alloc w (.cells #[.int .i64 k, .int .i64 n, .string x, .slice (some ⟨g, off, none⟩) ks.length c] 30)).kp K) hg
      have HG := hid hg
      have hgl := lt_of_cell q0
      clear hm hks hg
      have hle : decide ((c : Int) ≤ ks.length) = false := decide_eq_false (by omega)
      go_enter Tryz.func53, Tryz.ntmps53
      go_wp2_with fail
      go_loopw [4] (fun i wr => ∃ j : Nat, j ≤ ks.length ∧ i = .int .i64 j ∧ wr.heap[w.heap.size]? = some (.cells #[.int .i64 k, .int .i64 n, .string x, .slice (some ⟨g, off, none⟩) ks.length c] 30) ∧ Ext w wr) (fun i _ => ks.length - (intOf i).toNat)
      case atStart => exact ⟨0, Nat.zero_le _, rfl, blk0 _ _, Ext.alloc _ _⟩
      case round =>
        obtain ⟨j, hj, rfl, hbt, hx⟩ := hrel
        have HX := hid hx
        have HBT := hid hbt
        obtain ⟨t0, t1, t2, t3⟩ := four_of hbt
        clear hx hbt
        by_cases hlt : j < ks.length
        · have hlt' : (j : Int) < ks.length := by omega
          obtain ⟨u0, u1, u2, u3, h4, hrd⟩ := HKS.out j hlt
          obtain ⟨k', n', x', a', c', rfl, rfl, rfl, rfl⟩ := hrd.rd.shape
          obtain ⟨o0, o1, o2, o3⟩ := h4.keep (HX.out.kp K) HG.out
          have HC := hid (HIH.out _ ks[j] K wr (hrd.later HX.out))
          generalize (T.kids ks[j]).length = kl at *
          clear h4 hrd q0 q1 q2 q3
          go_wp2_with fail
          refine HC.out.mono ?_
          rintro e w2 ⟨rfl, hy⟩
          have HY := hid hy
          clear hy HC t0 t1 t2 t3 o0 o1 o2 o3
          go_wp2_with fail
          go_roundw
          case rel => exact ⟨j + 1, hlt, by go_num, HY.out.block HBT.out, HX.out.trans HY.out⟩
          case measure => simp [intOf]; omega
        · clear q0 q1 q2 q3
          go_wp2_with fail
          go_ret
          exact ⟨rfl, HX.out⟩
set_option maxRecDepth 100000 in
theorem kept_any {K K' : Nat → Prop} {d d' : Nat} {v v' : Value} {t : T} (w : World) (hr : MRd K w d v t) (hr' : Rd K' w d' v' t) :
    Calls Tryz.prog 27 #[v, v'] w fun e w' => e = .returned (.bool true) ∧ Ext w w' := by
  obtain ⟨u0, u1, u2, u3, rfl⟩ := hr.rd.agg
  obtain ⟨k, n, x, a, c, rfl, rfl, rfl, rfl⟩ := hr.rd.shape
  obtain ⟨u0, u1, u2, u3, rfl⟩ := hr'.agg
  obtain ⟨k', n', x', a', c', rfl, rfl, rfl, rfl⟩ := hr'.shape
  have C1 := hid (fun w1 (h : Ext w w1) => eq_any d _ _ t t K K' w1 d' (hr.rd.later h) (hr'.later h))
  have C2 := hid (fun w1 (h : Ext w w1) => marks_any d _ t K w1 (hr.later h))
  have HB := hid ((T.beq_eq t t).2 rfl)
  rw [HB.out] at C1
  clear hr hr'
  generalize (T.kids t).length = kt at *
  go_enter Tryz.func27, Tryz.ntmps27
  go_wp2_with fail
  refine (C1.out _ (Ext.alloc2 _ _ _)).mono ?_
  rintro e w1 ⟨rfl, hx1⟩
  obtain ⟨p0, p1, p2, p3⟩ := four_of (hx1.block (blkOld _ (blk0 w _)))
  have hX1 := (Ext.alloc2 w _ _).trans hx1
  clear hx1
  go_wp2_with fail
  refine (C2.out _ hX1).mono ?_
  rintro e w2 ⟨rfl, hx2⟩
  have HX2 := hid (hX1.trans hx2)
  clear hx2 p0 p1 p2 p3
  go_wp2_with fail
  go_ret
  exact ⟨rfl, HX2.out⟩
end Go.Proofs.YtaafcmmmkalgjaaGreatDoor
/-
  Light of the statements: whether a plain value is so small that it is played; by a contract.
-/
namespace Go.Proofs.YtaafcmmmkalgjaaGreatDoor
open Go.RowKit
mutual
/-- What is left of a number behind a plain value. -/
def lightN (n : Int) (dp : Nat) : T → Int
  | .node _ _ x ks => if 70 < dp then -1 else lightL (n - 1 - (x.size / 4 : Nat)) (dp + 1) ks
def lightL (n : Int) (dp : Nat) : List T → Int
  | [] => n
  | t :: r => if 0 ≤ n then lightL (lightN n dp t) dp r else n
end
def lightB (t : T) : Bool := decide (0 ≤ lightN 70000 0 t)
theorem lightL_neg {n : Int} (h : ¬ 0 ≤ n) (dp : Nat) (l : List T) : lightL n dp l = n := by
  cases l with
  | nil => simp only [lightL]
  | cons t r => simp only [lightL]; rw [if_neg h]
theorem lightL_step {n : Int} (h : 0 ≤ n) (dp : Nat) (l : List T) (j : Nat) (hj : j < l.length) : lightL n dp (l.drop j) = lightL (lightN n dp l[j]) dp (l.drop (j + 1)) := by
  rw [List.drop_eq_getElem_cons hj]
  simp only [lightL]
  rw [if_pos h]
theorem lightL_end (n : Int) (dp : Nat) (l : List T) (j : Nat) (hj : ¬ j < l.length) : lightL n dp (l.drop j) = n := by
  rw [List.drop_eq_nil_of_le (by omega)]
  simp only [lightL]
def LightR (w : World) (n : Int) (dp : Nat) (t : T) (e : Ending) (w' : World) : Prop := ∃ m : Int, e = .returned (.int .i64 m) ∧ m = lightN n dp t ∧ -35184372087810 ≤ m ∧ m ≤ 70000 ∧ Ext w w'
set_option maxRecDepth 100000 in
set_option maxHeartbeats 2000000 in
theorem light_any : ∀ (d : Nat) (v : Value) (t : T) (K : Nat → Prop) (w : World) (n : Int) (dp : Nat), Rd K w d v t → 0 ≤ n → n ≤ 70000 → dp ≤ 71 →
    Calls Tryz.prog 34 #[v, .int .i64 n, .int .i64 dp] w (LightR w n dp t) := by
  intro d
  induction d with
  | zero => intro v t K w n dp h; exact h.elim
  | succ d ih =>
    intro v t K w n dp hr hn0 hn1 hdp
    obtain ⟨k, m, x, ks⟩ := t
    have hxs : x.size ≤ 140737488351232 := by obtain ⟨_, _, _, h2, _⟩ := hr; exact h2
    obtain ⟨a, c, rfl, hkl⟩ := hr.kidsL
    have HK := hid hkl
    have HIH := hid ih
    have hl' : (ks.length : Int) ≤ 140737488355328 := by have := hkl.1; omega
    have hdq : (x.size : Int).tdiv 4 = ((x.size / 4 : Nat) : Int) := by rw [Int.tdiv_eq_ediv_of_nonneg (by omega)]; rfl
    have HD := hid (show lightN n dp (.node k m x ks) = if 70 < dp then -1 else lightL (n - 1 - (x.size / 4 : Nat)) (dp + 1) ks by simp only [lightN])
    have hq : x.size / 4 ≤ 35184372087808 := by omega
    clear hr hkl ih
    generalize x.size / 4 = q at *
    have hq' : (q : Int) ≤ 35184372087808 := by omega
    have hxs' : (x.size : Int) ≤ 140737488351232 := by omega
    have hq0 : 0 ≤ (q : Int) := by omega
    by_cases h70 : 70 < dp
    · have h70' : (70 : Int) < dp := by omega
      have HR := hid (show lightN n dp (.node k m x ks) = -1 by rw [HD.out, if_pos h70])
      clear h70 HD
      go_enter Tryz.func34, Tryz.ntmps34
      go_wp2_with fail
      go_ret
      exact ⟨-1, rfl, HR.out.symm, by decide, by decide, Ext.alloc _ _⟩
    · have h70' : ¬ (70 : Int) < dp := by omega
      have HR := hid (show lightN n dp (.node k m x ks) = lightL (n - 1 - (q : Int)) (dp + 1) (ks.drop 0) by rw [HD.out, if_neg h70, List.drop_zero])
      have hdp' : (dp : Int) ≤ 70 := by omega
      have hdp2 : dp + 1 ≤ 71 := by omega
      have hdc : (dp : Int) + 1 = ((dp + 1 : Nat) : Int) := by omega
      have HDP := hid hdc
      clear h70 HD hdc
      go_enter Tryz.func34, Tryz.ntmps34
      go_wp2_with fail
      go_loopw [1, 7] (fun q1 i wr => ∃ (j : Nat) (nn : Int), j ≤ ks.length ∧ i = .int .i64 j ∧ q1 = .int .i64 nn ∧ lightN n dp (.node k m x ks) = lightL nn (dp + 1) (ks.drop j) ∧ -35184372087810 ≤ nn ∧ nn ≤ 70000 ∧ wr.heap[w.heap.size]? = some (.cells #[.int .i64 k, .int .i64 m, .string x, .slice a ks.length c] 30) ∧ Ext w wr) (fun _ i _ => ks.length - (intOf i).toNat)
      case atStart => exact ⟨0, _, Nat.zero_le _, rfl, rfl, HR.out, by omega, by omega, blk0 _ _, Ext.alloc _ _⟩
      case round =>
        obtain ⟨j, nn, hj, rfl, rfl, hrec, hb1, hb2, hbt, hx⟩ := hrel
        have HX := hid hx
        have HBT := hid hbt
        have HREC := hid hrec
        obtain ⟨t0, t1, t2, t3⟩ := four_of hbt
        clear hx hbt hrec
        by_cases hlt : j < ks.length
        · have hlt' : (j : Int) < ks.length := by omega
          by_cases h0 : 0 ≤ nn
          · obtain ⟨g, off, k', n', x', a', l', c', rfl, hg, h4, hrd⟩ := HK.out.kid hlt
            obtain ⟨o0, o1, o2, o3⟩ := Four.keep h4 (HX.out.kp K) hg
            have hgl := lt_of_cell o0
            have HC := hid (HIH.out _ ks[j] K wr nn (dp + 1) (hrd.later HX.out) h0 hb2 hdp2)
            rw [← HDP.out] at HC
            clear h4 hrd
            have HREC2 := hid (HREC.out.trans (lightL_step h0 (dp + 1) ks j hlt))
            go_wp2_with fail
            refine HC.out.mono ?_
            rintro e w2 ⟨m2, rfl, hm2, hb3, hb4, hy⟩
            have HM2 := hid hm2
            have HY := hid hy
            clear hy hm2 HC t0 t1 t2 t3 o0 o1 o2 o3
            go_wp2_with fail
            go_roundw
            case rel => exact ⟨j + 1, m2, hlt, by go_num, rfl, by rw [HREC2.out, HM2.out], hb3, hb4, HY.out.block HBT.out, HX.out.trans HY.out⟩
            case measure => simp [intOf]; omega
          · have HF := hid (HREC.out.trans (lightL_neg h0 _ _))
            have h0' : decide (0 ≤ nn) = false := decide_eq_false h0
            go_wp2_with fail
            go_ret
            exact ⟨nn, rfl, HF.out.symm, hb1, hb2, HX.out⟩
        · have HF := hid (HREC.out.trans (lightL_end _ _ _ _ hlt))
          have hlt' : ¬ (j : Int) < ks.length := by omega
          go_wp2_with fail
          go_ret
          exact ⟨nn, rfl, HF.out.symm, hb1, hb2, HX.out⟩
set_option maxRecDepth 100000 in
theorem Light_any {K : Nat → Prop} {d : Nat} {v : Value} {t : T} (w : World) (hr : Rd K w d v t) : Calls Tryz.prog 18 #[v] w fun e w' => e = .returned (.bool (lightB t)) ∧ Ext w w' := by
  obtain ⟨u0, u1, u2, u3, rfl⟩ := hr.agg
  obtain ⟨k, n, x, a, c, rfl, rfl, rfl, rfl⟩ := hr.shape
  have HC := hid (fun w1 (h : Ext w w1) => light_any d _ t K w1 70000 0 (hr.later h) (by decide) (by decide) (by decide))
  have HB := hid (show lightB t = decide (0 ≤ lightN 70000 0 t) from rfl)
  clear hr
  generalize (T.kids t).length = kt at *
  go_enter Tryz.func18, Tryz.ntmps18
  go_wp2_with fail
  refine (HC.out _ (Ext.alloc _ _)).mono ?_
  rintro e w2 ⟨m2, rfl, hm2, hb3, hb4, hy⟩
  have HY := hid ((Ext.alloc w _).trans hy)
  have HM2 := hid hm2
  clear hy hm2 HC
  go_wp2_with fail
  go_ret
  exact ⟨by rw [HB.out, HM2.out]; rfl, HY.out⟩
end Go.Proofs.YtaafcmmmkalgjaaGreatDoor
/-
  A list of twins that is being made; by laws.
-/
namespace Go.Proofs.YtaafcmmmkalgjaaGreatDoor
open Go.RowKit
/-- What a twin reads as: the value; of a light one, a mark stands behind each list. -/
def EL (K : Nat → Prop) (w : World) (d : Nat) (u : Value) (t : T) : Prop := Rd K w d u t ∧ (lightB t = true → MRd K w d u t)
theorem EL.keep {K : Nat → Prop} {w w' : World} {d : Nat} {u : Value} {t : T} (h : EL K w d u t) (hk : Kp K w w') : EL K w' d u t := ⟨h.1.keep hk, fun e => (h.2 e).keep hk⟩
theorem EL.mono {K L : Nat → Prop} {w : World} {d : Nat} {u : Value} {t : T} (h : EL K w d u t) (hl : ∀ k, k < w.heap.size → K k → L k) : EL L w d u t := ⟨h.1.mono hl, fun e => (h.2 e).mono hl⟩
theorem EL.later {K : Nat → Prop} {w w' : World} {d : Nat} {u : Value} {t : T} (h : EL K w d u t) (hx : Ext w w') : EL K w' d u t := h.keep (hx.kp K)
/-- A list of twins that is being made. -/
def TItems (w : World) (base d : Nat) (lv : Value) (acc : List T) : Prop := ∃ (us : List Value), w.ownsRow base 30 4 lv acc.length us ∧
  ∀ j, (h : j < acc.length) → ∃ u0 u1 u2 u3, us[j * 4]? = some u0 ∧ us[j * 4 + 1]? = some u1 ∧ us[j * 4 + 2]? = some u2 ∧ us[j * 4 + 3]? = some u3 ∧ EL (fun x => lv.ownBlock ≠ some x) w d (.agg #[u0, u1, u2, u3]) acc[j]
theorem TItems.nil {w : World} (base d : Nat) : TItems w base d (.slice none 0 0) [] := ⟨[], World.ownsRow_nil _ _ _ _, fun _ h => absurd h (Nat.not_lt_zero _)⟩
theorem TItems.keep {w w' : World} {base d : Nat} {lv : Value} {acc : List T} {K : Nat → Prop} (h : TItems w base d lv acc) (hk : Kp K w w') (hK : ∀ k, k < w.heap.size → K k) : TItems w' base d lv acc := by
  obtain ⟨us, ho, hi⟩ := h
  refine ⟨us, ⟨ho.1, ?_⟩, fun j hj => ?_⟩
  · rcases ho.2 with h | ⟨g, cap, cur, hv, hg, hb, hr⟩
    · exact .inl h
    · exact .inr ⟨g, cap, cur, hv, hg, hk.block' hb (hK g (lt_of_block hb)), hr⟩
  · obtain ⟨u0, u1, u2, u3, h0, h1, h2, h3, hr⟩ := hi j hj
    exact ⟨u0, u1, u2, u3, h0, h1, h2, h3, ((hr.mono (L := fun x => lv.ownBlock ≠ some x ∧ x < w.heap.size) (fun k hk h => ⟨h, hk⟩)).keep (hk.mono (fun k h1 h2 => hK k h2.2))).mono (fun _ _ h => h.1)⟩
theorem TItems.shape {w : World} {base d : Nat} {lv : Value} {acc : List T} (h : TItems w base d lv acc) : ∃ ao c, lv = .slice ao acc.length c := by
  obtain ⟨us, ho, _⟩ := h
  rcases ho.2 with ⟨hv, h0⟩ | ⟨g, cap, cur, hv, _⟩
  · exact ⟨none, 0, by rw [hv, h0]⟩
  · exact ⟨_, _, hv⟩
theorem TItems.own {w : World} {base d : Nat} {lv : Value} {acc : List T} (h : TItems w base d lv acc) {g : Nat} (e : lv.ownBlock = some g) : base ≤ g ∧ g < w.heap.size := by
  obtain ⟨us, ho, _⟩ := h
  exact World.ownsRow.lt ho g e
theorem run_titem {w : World} {ty : TypeId} (base d : Nat) (lv : Value) (acc : List T) (k n : Int) (x : ByteArray) (a : Option Addr) (l c : Nat) (t : T) (hB : base ≤ w.heap.size) (hit : TItems w base d lv acc) (hrd : EL (fun x => lv.ownBlock ≠ some x) w d (.agg #[.int .i64 k, .int .i64 n, .string x, .slice a l c]) t) (hlim : (acc.length + 1) * 56 ≤ 140737488351232) :
    ∃ ao c' w', (Builtin.append_ #[25, 25] 25 #[lv, .slice (some ⟨w.heap.size, 0, none⟩) 1 1]).run Tryz.prog (w.alloc (.cells #[.int .i64 k, .int .i64 n, .string x, .slice a l c] ty)) = .ok (.slice ao (acc ++ [t]).length c') w' ∧ TItems w' base d (.slice ao (acc ++ [t]).length c') (acc ++ [t]) ∧ Below base w w' := by
  have hit0 := hit
  obtain ⟨us, ho, hi⟩ := hit
  obtain ⟨ii, hii, hz0, hz1, hz2⟩ := info_parts plainInfo
  have hrow : (w.alloc (.cells #[.int .i64 k, .int .i64 n, .string x, .slice a l c] ty)).ownsRow base 30 4 lv acc.length us := World.ownsRow.alloc ho _
  have hnews : ∀ (j : Nat) (u : Value), [Value.int .i64 k, .int .i64 n, .string x, .slice a l c][j]? = some u → (w.alloc (.cells #[.int .i64 k, .int .i64 n, .string x, .slice a l c] ty)).cell? (Addr.add ⟨w.heap.size, 0, none⟩ j) = some u := by
    intro j u hu
    have e : Addr.add ⟨w.heap.size, 0, none⟩ j = ⟨w.heap.size, j, none⟩ := by
      by_cases hj : j = 0
      · subst hj; simp [Addr.add]
      · simp [Addr.add, hj]
    rw [e]
    exact cell_of (blk0 w _) (by simpa using hu)
  obtain ⟨v', w', hr, ho2, hg, _, hat⟩ := run_append_own_at (P := Tryz.prog) (w.alloc (.cells #[.int .i64 k, .int .i64 n, .string x, .slice a l c] ty)) base 25 25 30 ii _ 4 56 Tryz.underlying25 hii hz0 hz1 hz2 rfl (by decide) lv acc.length us hrow ⟨w.heap.size, 0, none⟩ 1 1 [.int .i64 k, .int .i64 n, .string x, .slice a l c] rfl hnews (fun u hu => by simp at hu; rcases hu with rfl | rfl | rfl | rfl <;> rfl) (by unfold maxLen; omega) (by omega) (by rw [blkS]; omega)
  have hkp := grown_kp hg
  have hsz : w.heap.size + 1 ≤ w'.heap.size := by have := hg.size; rw [blkS] at this; exact this
  have hold : ∀ (x : Nat), x < w.heap.size → lv.ownBlock ≠ some x → v'.ownBlock ≠ some x := fun x hx hne => by
    rcases hat with e | e
    · rw [e]; exact hne
    · rw [e, blkS]; intro h; injection h with h; omega
  have hul : us.length = acc.length * 4 := ho.1
  have hmv : ∀ u t, EL (fun x => lv.ownBlock ≠ some x) w d u t → EL (fun x => v'.ownBlock ≠ some x) w' d u t := fun u t h =>
    (((h.mono (L := fun x => lv.ownBlock ≠ some x ∧ x < w.heap.size) (fun k hk h => ⟨h, hk⟩)).later (Ext.alloc _ _)).keep (hkp.mono (fun k _ hk => hk.1))).mono (fun q _ hq => hold q hq.2 hq.1)
  have hI : TItems w' base d v' (acc ++ [t]) := by
    refine ⟨us ++ [.int .i64 k, .int .i64 n, .string x, .slice a l c], by rw [List.length_append]; exact ho2, fun j hj => ?_⟩
    by_cases hj' : j < acc.length
    · obtain ⟨u0, u1, u2, u3, h0, h1, h2, h3, hr3⟩ := hi j hj'
      refine ⟨u0, u1, u2, u3, by rw [List.getElem?_append_left (by omega)]; exact h0, by rw [List.getElem?_append_left (by omega)]; exact h1, by rw [List.getElem?_append_left (by omega)]; exact h2, by rw [List.getElem?_append_left (by omega)]; exact h3, ?_⟩
      rw [List.getElem_append_left hj']
      exact hmv _ _ hr3
    · have hje : j = acc.length := by simp at hj; omega
      subst hje
      refine ⟨.int .i64 k, .int .i64 n, .string x, .slice a l c, by rw [← hul]; simp, by rw [← hul]; simp, by rw [← hul]; simp, by rw [← hul]; simp, ?_⟩
      simp only [List.getElem_append_right (Nat.le_refl _), Nat.sub_self, List.getElem_cons_zero]
      exact hmv _ _ hrd
  obtain ⟨ao, c', rfl⟩ := hI.shape
  exact ⟨ao, c', w', hr, hI, Below.grown ((Below.refl base w).alloc hB _) hg (by rw [blkS]; omega) (fun k hk => (World.ownsRow.lt ho k hk).1)⟩
theorem app_titem {ops : Array Oper} {rest : List Oper} {o : Oper} {ac : Act} {Q : Exit → Act → World → Prop} {w : World} {ty : TypeId} (hgd : o.guard = none) (s y : Operand)
    (ho : o.op = .call { callee := .builtin .append, args := #[s, y], argTypes := #[25, 25] }) (hty : o.type = 25) (base d : Nat) (lv : Value) (acc : List T) (k n : Int) (x : ByteArray) (a : Option Addr) (l c : Nat) (t : T) (hs : ac.eval s = lv) (hx : ac.eval y = .slice (some ⟨w.heap.size, 0, none⟩) 1 1)
    (hB : base ≤ w.heap.size) (hit : TItems w base d lv acc) (hrd : EL (fun x => lv.ownBlock ≠ some x) w d (.agg #[.int .i64 k, .int .i64 n, .string x, .slice a l c]) t) (hlim : (acc.length + 1) * 56 ≤ 140737488351232)
    (h : ∀ ao c' w', TItems w' base d (.slice ao (acc.length + 1) c') (acc ++ [t]) → Below base w w' → wpList Tryz.prog ops Q rest (ac.put o.dst (.slice ao (acc.length + 1) c')) w') : wpList Tryz.prog ops Q (o :: rest) ac (w.alloc (.cells #[.int .i64 k, .int .i64 n, .string x, .slice a l c] ty)) := by
  refine wpList_plain hgd fun K hK => ?_
  obtain ⟨ao, c', w', hr, h2, h3⟩ := run_titem (ty := ty) base d lv acc k n x a l c t hB hit hrd hlim
  unfold Oper.wp execOp
  rw [List.length_append] at hr h2
  simp only [ho, hty, resolve, invoke, builtin, Sem.run_bind, Sem.run_pure, Result.andThen_ok, List.map_toArray, List.map_cons, List.map_nil, hs, hx, hr]
  exact hK _ _ (h ao c' w' h2 h3)
theorem TItems.at {w : World} {base d m c : Nat} {ao : Option Addr} {acc : List T} (h : TItems w base d (.slice ao m c) acc) (j : Nat) (hj : j < acc.length) : ∃ g u0 u1 u2 u3, ao = some ⟨g, 0, none⟩ ∧ Four w g (j * 4) u0 u1 u2 u3 ∧ EL (fun _ => True) w d (.agg #[u0, u1, u2, u3]) acc[j] := by
  obtain ⟨us, ho, hi⟩ := h
  rcases ho.2 with ⟨hv, h1⟩ | ⟨g, cap, cur, hv, hbg, hbk, h3, h4, h5, h6⟩
  · omega
  · injection hv with e1 e2 e3
    subst e1; subst e2; subst e3
    obtain ⟨u0, u1, u2, u3, q0, q1, q2, q3, hr⟩ := hi j hj
    have key : ∀ i u, i < acc.length * 4 → us[i]? = some u → w.cell? ⟨g, i, none⟩ = some u := fun i u hi hu => by
      rw [← h6, List.getElem?_take_of_lt hi] at hu
      exact cell_of hbk (by simpa using hu)
    exact ⟨g, u0, u1, u2, u3, rfl, ⟨key _ _ (by omega) q0, key _ _ (by omega) q1, key _ _ (by omega) q2, key _ _ (by omega) q3⟩, hr.mono (fun _ _ _ => trivial)⟩
end Go.Proofs.YtaafcmmmkalgjaaGreatDoor
