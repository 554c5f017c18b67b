/-
  (*measure).plain by a contract: the tree of a node that lies in memory, in memory of its own, or that it is too great.
-/
import Derived.Test.YtdikcdefpoolfaaCopied
import Derived.Test.YtdikcdefpoolfaaNFrames
import Derived.Deep.CutBlock
import Derived.Deep.Cut
namespace Go.Proofs.Ytdikcdefpoolfaa
open Go.RowKit
theorem bKind (b : Nat) (k : ByteArray) (w : World) (h : w.cell? ⟨b, 0, none⟩ = some (.string k)) : Calls Try.prog 97 #[.pointer (some ⟨b, 0, none⟩)] w fun e w' => e = .returned (.string k) ∧ w' = w := by
  go_enter Try.func97, Try.ntmps97
  go_wp2
  go_ret
  exact ⟨rfl, rfl⟩
theorem bNum (b : Nat) (n : Int) (w : World) (h : w.cell? ⟨b, 1, none⟩ = some (.int .i64 n)) : Calls Try.prog 59 #[.pointer (some ⟨b, 0, none⟩)] w fun e w' => e = .returned (.int .i64 n) ∧ w' = w := by
  go_enter Try.func59, Try.ntmps59
  go_wp2
  go_ret
  exact ⟨rfl, rfl⟩
theorem bText (b : Nat) (x : ByteArray) (w : World) (h : w.cell? ⟨b, 2, none⟩ = some (.string x)) : Calls Try.prog 61 #[.pointer (some ⟨b, 0, none⟩)] w fun e w' => e = .returned (.string x) ∧ w' = w := by
  go_enter Try.func61, Try.ntmps61
  go_wp2
  go_ret
  exact ⟨rfl, rfl⟩
theorem bKid (b g off m c j : Nat) (u : Value) (w : World) (h : w.cell? ⟨b, 3, none⟩ = some (.slice (some ⟨g, off, none⟩) m c)) (hj : j < m) (hu : w.cell? ⟨g, off + j, none⟩ = some u) : Calls Try.prog 96 #[.pointer (some ⟨b, 0, none⟩), .int .i64 j] w fun e w' => e = .returned u ∧ w' = w := by
  have h1 : (j : Int) < m := by omega
  have h2 : ¬ ((j : Int) < 0) := by omega
  have h3 : ¬ ((m : Int) ≤ j) := by omega
  go_enter Try.func96, Try.ntmps96
  go_wp2
  go_ret
  exact ⟨rfl, rfl⟩
/-- The five methods of a node of type ty at the block p, whose first cell is c0, are those of the base at the block b. -/
structure Via (ty : TypeId) (p : Nat) (c0 : Value) (b : Nat) : Prop where
  kind : ∀ W : World, W.cell? ⟨p, 0, none⟩ = some c0 → (method 312 ty (.pointer (some ⟨p, 0, none⟩)) "Kind").run Try.prog W = .ok (97, .pointer (some ⟨b, 0, none⟩)) W
  num : ∀ W : World, W.cell? ⟨p, 0, none⟩ = some c0 → (method 312 ty (.pointer (some ⟨p, 0, none⟩)) "Num").run Try.prog W = .ok (59, .pointer (some ⟨b, 0, none⟩)) W
  text : ∀ W : World, W.cell? ⟨p, 0, none⟩ = some c0 → (method 312 ty (.pointer (some ⟨p, 0, none⟩)) "Text").run Try.prog W = .ok (61, .pointer (some ⟨b, 0, none⟩)) W
  len : ∀ W : World, W.cell? ⟨p, 0, none⟩ = some c0 → (method 312 ty (.pointer (some ⟨p, 0, none⟩)) "Len").run Try.prog W = .ok (98, .pointer (some ⟨b, 0, none⟩)) W
  kid : ∀ W : World, W.cell? ⟨p, 0, none⟩ = some c0 → (method 312 ty (.pointer (some ⟨p, 0, none⟩)) "Kid").run Try.prog W = .ok (96, .pointer (some ⟨b, 0, none⟩)) W
/-- The node v lies in memory, in blocks of K, and is the tree t, so deep. -/
def Nd (K : Nat → Prop) (w : World) : Nat → Value → T → Prop
  | 0, _, _ => False
  | d + 1, v, .node k n x ks => ∃ ty p c0 b a c, v = .iface ty (.pointer (some ⟨p, 0, none⟩)) ∧ Via ty p c0 b ∧ K p ∧ K b ∧ w.cell? ⟨p, 0, none⟩ = some c0 ∧ w.cell? ⟨b, 0, none⟩ = some (.string k) ∧ w.cell? ⟨b, 1, none⟩ = some (.int .i64 n) ∧ w.cell? ⟨b, 2, none⟩ = some (.string x) ∧ w.cell? ⟨b, 3, none⟩ = some (.slice a ks.length c) ∧
      k.size ≤ 140737488351232 ∧ x.size ≤ 140737488351232 ∧ ks.length ≤ 1000000 ∧
      (ks = [] ∨ ∃ g off, a = some ⟨g, off, none⟩ ∧ K g ∧ ∀ j, (h : j < ks.length) → ∃ u, w.cell? ⟨g, off + j, none⟩ = some u ∧ Nd K w d u ks[j])
theorem Nd.keep {K : Nat → Prop} {w w' : World} (hk : Kp K w w') : ∀ {d : Nat} {v : Value} {t : T}, Nd K w d v t → Nd K w' d v t
  | 0, _, _, h => h
  | d + 1, v, .node k n x ks, ⟨ty, p, c0, b, a, c, h1, h2, h3, h4, h5, h6, h7, h8, h9, h10, h11, h12, h13⟩ =>
    ⟨ty, p, c0, b, a, c, h1, h2, h3, h4, hk.cell h5 h3, hk.cell h6 h4, hk.cell h7 h4, hk.cell h8 h4, hk.cell h9 h4, h10, h11, h12, by
      rcases h13 with h | ⟨g, off, ha, hg, hc⟩
      · exact .inl h
      · refine .inr ⟨g, off, ha, hg, fun j hj => ?_⟩
        obtain ⟨u, hu, hn⟩ := hc j hj
        exact ⟨u, hk.cell hu hg, Nd.keep hk hn⟩⟩
theorem Nd.mono {K L : Nat → Prop} {w : World} (hl : ∀ k, k < w.heap.size → K k → L k) : ∀ {d : Nat} {v : Value} {t : T}, Nd K w d v t → Nd L w d v t
  | 0, _, _, h => h
  | d + 1, v, .node k n x ks, ⟨ty, p, c0, b, a, c, h1, h2, h3, h4, h5, h6, h7, h8, h9, h10, h11, h12, h13⟩ =>
    ⟨ty, p, c0, b, a, c, h1, h2, hl p (lt_of_cell h5) h3, hl b (lt_of_cell h6) h4, h5, h6, h7, h8, h9, h10, h11, h12, by
      rcases h13 with h | ⟨g, off, ha, hg, hc⟩
      · exact .inl h
      · rcases Nat.eq_zero_or_pos ks.length with h0 | h0
        · exact .inl (List.eq_nil_of_length_eq_zero h0)
        · refine .inr ⟨g, off, ha, ?_, fun j hj => ?_⟩
          · obtain ⟨u, hu, _⟩ := hc 0 h0
            exact hl g (lt_of_cell hu) hg
          · obtain ⟨u, hu, hn⟩ := hc j hj
            exact ⟨u, hu, Nd.mono hl hn⟩⟩
/-- The tree with nothing in it. -/
abbrev zTree : Value := .agg #[.string ⟨#[]⟩, .int .i64 0, .string ⟨#[]⟩, .slice none 0 0]
/-- What plain answers. -/
def PlR (w : World) (m N B dep d : Nat) (t : T) (e : Ending) (w' : World) : Prop := Kp (· ≠ m) w w' ∧
  ((T.ok N B dep t ∧ ∃ v' bs, e = .returned (.tuple #[v', .bool true]) ∧ Own w' d v' t bs ∧ (∀ b ∈ bs, w.heap.size ≤ b) ∧ bs.Nodup ∧ w'.heap[m]? = some (.cells #[.int .i64 (N + t.size : Nat), .int .i64 (B + t.bytes : Nat)] 93)) ∨
   (¬ T.ok N B dep t ∧ e = .returned (.tuple #[zTree, .bool false])))
/-- What was turned lies in one block of our own. -/
theorem Kp.own {w w1 w' : World} {m r : Nat} (h : Kp (· ≠ m) w w1) (hk : Kp (· ≠ r) w1 w') (hr : w.heap.size ≤ r) : Kp (· ≠ m) w w' :=
  h.trans' (L := fun _ => False) (hk.mono (fun q _ hq e => hq.elim (fun h => by have e' : q = r := e; omega) id)) (Nat.le_refl _)
theorem two_of {w : World} {b : Nat} {v0 v1 : Value} {t : TypeId} (h : w.heap[b]? = some (.cells #[v0, v1] t)) : w.cell? ⟨b, 0, none⟩ = some v0 ∧ w.cell? ⟨b, 1, none⟩ = some v1 := ⟨cell_of h rfl, cell_of h rfl⟩
set_option maxRecDepth 100000 in
set_option maxHeartbeats 4000000 in
theorem plain_any : ∀ (d : Nat) (v : Value) (t : T) (K : Nat → Prop) (w : World) (m N B dep : Nat), Nd K w d v t → ¬ K m → w.heap[m]? = some (.cells #[.int .i64 N, .int .i64 B] 93) → N ≤ 1024 → B ≤ 16384 → 1 ≤ dep → dep ≤ 65 →
    Calls Try.prog 22 #[.pointer (some ⟨m, 0, none⟩), v, .int .i64 dep] w (PlR w m N B dep d t) := by
  intro d
  induction d with
  | zero => intro v t K w m N B dep h; exact h.elim
  | succ d ih =>
    intro v t K w m N B dep hr hb hm hN hB hd1 hd2
    obtain ⟨k, n, x, ks⟩ := t
    obtain ⟨ty, p, c0, b, a, c, rfl, hvia, hKp, hKb, q0, p0, p1, p2, p3, hk, hx, hl, hks⟩ := hr
    have HB := hid hb
    have HKS := hid hks
    have HIH := hid ih
    have HM := hid hm
    have HKK := hid (And.intro hk (And.intro hx hl))
    have hpm : p ≠ m := fun e => hb (e ▸ hKp)
    have hbm : b ≠ m := fun e => hb (e ▸ hKb)
    have HNE := hid (And.intro hpm hbm)
    have HCE := hid (And.intro q0 (And.intro p0 (And.intro p1 (And.intro p2 p3))))
    have vk := hvia.kind
    have vn := hvia.num
    have vt := hvia.text
    have vl := hvia.len
    have vd := hvia.kid
    have hx' : (x.size : Int) ≤ 140737488355328 := by omega
    have hl' : (ks.length : Int) ≤ 1000000 := by omega
    clear hb hks ih hm hvia hKp hKb hk hx hl
    obtain ⟨m0, m1⟩ := two_of HM.out
    have hml : m < w.heap.size := lt_of_block HM.out
    have hpl : p < w.heap.size := lt_of_cell q0
    have hbl : b < w.heap.size := lt_of_cell p0
    have f0 := frozen_of (i := 0) HM.out
    have f1 := frozen_of (i := 1) HM.out
    have hwr : IntKind.i64.wrap ((B : Int) + (x.size : Int)) = (B : Int) + (x.size : Int) := IntWalk.i64_in _ (by omega)
    go_enter Try.func22, Try.ntmps22
    go_upto_region 2 with fail
    go_cut [] from 12 (fun wx => Kp (· ≠ m) w wx ∧ wx.heap[m]? = some (.cells #[.int .i64 (N + 1 : Nat), .int .i64 (B + x.size : Nat)] 93) ∧ wx.heap[w.heap.size]? = some (.cells #[.string ⟨#[]⟩, .int .i64 0, .string ⟨#[]⟩, .slice none 0 0] 30) ∧ w.heap.size < wx.heap.size)
    case first =>
      go_region_with (go_at_call 61; refine (bText b x _ ?_).mono ?_; go_simp; rintro e w' ⟨rfl, rfl⟩)
      all_goals
        go_wp2_with fail
        go_meet
        case rel =>
          refine ⟨?_, ?_, ?_, ?_⟩
          · repeat (first | with_reducible exact Kp.refl _ _ | with_reducible refine Kp.drew ?_ | with_reducible refine Kp.trans ?_ (Kp.set _ _ _ _ (fun h => absurd rfl h)) | with_reducible refine Kp.alloc ?_ _)
          · refine (blkOld _ (set_at (set_at HM.out 0 _) 1 _)).trans ?_
            simp
          · exact blkN (by rw [size_set, size_set])
          · simp
    case rest =>
      obtain ⟨hkp, hbk, hbr, hlt⟩ := hcut
      have HKP := hid hkp
      have HBM := hid hbk
      have HBR := hid hbr
      have HLT := hid hlt
      have HWR := hid hwr
      have q0' := hkp.cell q0 HNE.out.1
      have p0' := hkp.cell p0 HNE.out.2
      have p1' := hkp.cell p1 HNE.out.2
      have p2' := hkp.cell p2 HNE.out.2
      have p3' := hkp.cell p3 HNE.out.2
      clear q0 p0 p1 p2 p3 m0 m1 f0 f1 hwr
      obtain ⟨m0, m1⟩ := two_of hbk
      obtain ⟨r0, r1, r2, r3⟩ := four_of hbr
      have s0 := frozen_of (i := 0) hbr
      have s1 := frozen_of (i := 1) hbr
      have s2 := frozen_of (i := 2) hbr
      have s3 := frozen_of (i := 3) hbr
      have hml' : m < wc.heap.size := Nat.lt_trans hml hlt
      have hpl' : p < wc.heap.size := Nat.lt_trans hpl hlt
      have hbl' : b < wc.heap.size := Nat.lt_trans hbl hlt
      clear hkp hbk hbr
      have HLEN := hid (T.sizeL_len ks)
      have hwr : IntKind.i64.wrap ((N : Int) + 1 + (ks.length : Int)) = (N : Int) + 1 + (ks.length : Int) := IntWalk.i64_in _ (by omega)
      have FAILS := hid (show ¬ T.ok N B dep (.node k n x ks) → ∀ wz : World, Kp (· ≠ w.heap.size) wc wz → PlR w m N B dep (d + 1) (.node k n x ks) (.returned (.tuple #[zTree, .bool false])) wz from fun h wz hz => ⟨Kp.own HKP.out hz (Nat.le_refl _), .inr ⟨h, rfl⟩⟩)
      go_upto_region 3 with fail
      by_cases g1 : 1024 < N + 1 + ks.length
      · have q1 : decide ((1024 : Int) < (N : Int) + 1 + (ks.length : Int)) = true := decide_eq_true (by omega)
        have NOK := hid (show ¬ T.ok N B dep (.node k n x ks) from fun h => by have := HLEN.out; have := h.1; simp only [T.size] at this; omega)
        go_quiet (first | (go_at_call 98; exact Calls.quiet_of_same (len_of b a ks.length c _ (by go_simp))))
        go_wp2
        obtain ⟨z0, z1, z2, z3⟩ := four_of (four_set0 (u0 := .string ⟨#[]⟩) (u1 := .int .i64 0) (u2 := .string ⟨#[]⟩) (u3 := .slice none 0 0) (show (wc.drewN nq).heap[w.heap.size]? = _ from HBR.out))
        refine bodyPost_ret (v := .tuple #[zTree, .bool false]) (by simp [results, Try.results22, go_sem, z0, z1, z2, z3]) rfl ?_
        exact FAILS.out NOK.out _ ((((Ext.refl wc).drewN nq).kp _).trans (Kp.set4 _ w.heap.size 0 (.string ⟨#[]⟩) (.int .i64 0) (.string ⟨#[]⟩) (.slice none 0 0)))
      have q1 : decide ((1024 : Int) < (N : Int) + 1 + (ks.length : Int)) = false := decide_eq_false (by omega)
      by_cases g2 : 64 < dep
      · have q2 : decide ((64 : Int) < (dep : Int)) = true := decide_eq_true (by omega)
        have NOK := hid (show ¬ T.ok N B dep (.node k n x ks) from fun h => by have := h.2.1; simp only [T.height] at this; omega)
        go_quiet (first | (go_at_call 98; exact Calls.quiet_of_same (len_of b a ks.length c _ (by go_simp))))
        go_wp2
        obtain ⟨z0, z1, z2, z3⟩ := four_of (four_set0 (u0 := .string ⟨#[]⟩) (u1 := .int .i64 0) (u2 := .string ⟨#[]⟩) (u3 := .slice none 0 0) (show (wc.drewN nq).heap[w.heap.size]? = _ from HBR.out))
        refine bodyPost_ret (v := .tuple #[zTree, .bool false]) (by simp [results, Try.results22, go_sem, z0, z1, z2, z3]) rfl ?_
        exact FAILS.out NOK.out _ ((((Ext.refl wc).drewN nq).kp _).trans (Kp.set4 _ w.heap.size 0 (.string ⟨#[]⟩) (.int .i64 0) (.string ⟨#[]⟩) (.slice none 0 0)))
      have q2 : decide ((64 : Int) < (dep : Int)) = false := decide_eq_false (by omega)
      by_cases g3 : 16384 < B + x.size
      · have q3 : decide ((16384 : Int) < (B : Int) + (x.size : Int)) = true := decide_eq_true (by omega)
        have NOK := hid (show ¬ T.ok N B dep (.node k n x ks) from fun h => by have := h.2.2; simp only [T.bytes] at this; omega)
        go_quiet (first | (go_at_call 98; exact Calls.quiet_of_same (len_of b a ks.length c _ (by go_simp))))
        go_wp2
        obtain ⟨z0, z1, z2, z3⟩ := four_of (four_set0 (u0 := .string ⟨#[]⟩) (u1 := .int .i64 0) (u2 := .string ⟨#[]⟩) (u3 := .slice none 0 0) (show (wc.drewN nq).heap[w.heap.size]? = _ from HBR.out))
        refine bodyPost_ret (v := .tuple #[zTree, .bool false]) (by simp [results, Try.results22, go_sem, z0, z1, z2, z3]) rfl ?_
        exact FAILS.out NOK.out _ ((((Ext.refl wc).drewN nq).kp _).trans (Kp.set4 _ w.heap.size 0 (.string ⟨#[]⟩) (.int .i64 0) (.string ⟨#[]⟩) (.slice none 0 0)))
      have q3 : decide ((16384 : Int) < (B : Int) + (x.size : Int)) = false := decide_eq_false (by omega)
      go_quiet (first | (go_at_call 98; exact Calls.quiet_of_same (len_of b a ks.length c _ (by go_simp))))
      obtain ⟨W, hW⟩ : ∃ W, wc.drewN nq = W := ⟨_, rfl⟩
      rw [hW]
      have HKW := hid (show Kp (· ≠ m) w W from hW ▸ HKP.out.drewN nq)
      have HBMW := hid (show W.heap[m]? = _ from hW ▸ ((Ext.refl wc).drewN nq).block HBM.out)
      have HBRW := hid (show W.heap[w.heap.size]? = _ from hW ▸ ((Ext.refl wc).drewN nq).block HBR.out)
      have HLTW := hid (show w.heap.size < W.heap.size from hW ▸ Nat.lt_of_lt_of_le HLT.out ((Ext.refl wc).drewN nq).size)
      have HTWO := hid (show ∀ wz : World, Kp (· ≠ w.heap.size) W wz → Kp (· ≠ m) w wz from fun wz hz => Kp.own HKW.out hz (Nat.le_refl _))
      clear hW q0' p0' p1' p2' p3' m0 m1 r0 r1 r2 r3 s0 s1 s2 s3 hml' hpl' hbl' HKP HBM HBR FAILS HLT hlt HWR hwr q1 q2 q3
      have q0 := HKW.out.cell HCE.out.1 HNE.out.1
      have p0 := HKW.out.cell HCE.out.2.1 HNE.out.2
      have p1 := HKW.out.cell HCE.out.2.2.1 HNE.out.2
      have p2 := HKW.out.cell HCE.out.2.2.2.1 HNE.out.2
      have p3 := HKW.out.cell HCE.out.2.2.2.2 HNE.out.2
      have hltW : w.heap.size < W.heap.size := HLTW.out
      have hplW : p < W.heap.size := Nat.lt_trans hpl hltW
      have hblW : b < W.heap.size := Nat.lt_trans hbl hltW
      by_cases h0 : ks.length = 0
      · have e0 : ks = [] := List.eq_nil_of_length_eq_zero h0
        subst e0
        obtain ⟨r0, r1, r2, r3⟩ := four_of HBRW.out
        have s0 := frozen_of (i := 0) HBRW.out
        have s1 := frozen_of (i := 1) HBRW.out
        have s2 := frozen_of (i := 2) HBRW.out
        have s3 := frozen_of (i := 3) HBRW.out
        go_wp2_with fail
        go_at_call 97
        refine (bKind b k W p0).mono ?_
        rintro e w' ⟨rfl, hw'⟩
        rw [hw']
        clear hw' w'
        go_wp2_with fail
        go_at_call 59
        refine (bNum b n W p1).mono ?_
        rintro e w' ⟨rfl, hw'⟩
        rw [hw']
        clear hw' w'
        go_wp2_with fail
        go_at_call 61
        refine (bText b x W p2).mono ?_
        rintro e w' ⟨rfl, hw'⟩
        rw [hw']
        clear hw' w'
        go_wp2_with fail
        go_at_call 98
        refine (len_of b a 0 c _ (by go_simp)).mono ?_
        rintro e w' ⟨rfl, hw'⟩
        rw [hw']
        clear hw' w'
        go_wp2_with fail
        refine wp_loop_rounds 1 ?_
        rw [rounds_succ]
        go_wp2_with fail
        have hk4 := Kp.set4 W w.heap.size 0 (.string k) (.int .i64 n) (.string x) (.slice none 0 0)
        obtain ⟨z0, z1, z2, z3⟩ := four_of (blkOld (.cells #[.string k, .int .i64 n, .string x, .slice none 0 0] 30) (four_set0 (u0 := .string k) (u1 := .int .i64 n) (u2 := .string x) (u3 := .slice none 0 0) HBRW.out))
        refine bodyPost_ret (v := .tuple #[.agg #[.string k, .int .i64 n, .string x, .slice none 0 0], .bool true]) (by simp [results, Try.results22, go_sem, z0, z1, z2, z3]) rfl ?_
        refine ⟨HTWO.out _ (hk4.alloc _), .inl ⟨⟨by simp [T.size, T.sizeL]; omega, by simp [T.height, T.heightL]; omega, by simp [T.bytes, T.bytesL]; omega⟩, _, [], rfl, ⟨none, rfl, HKK.out.1, HKK.out.2.1, by simp, .inl ⟨rfl, rfl, rfl⟩⟩, fun b h => (by cases h), List.nodup_nil, ?_⟩⟩
        refine (blkOld _ (hk4.block' HBMW.out (by show m ≠ _; omega))).trans ?_
        simp [T.size, T.sizeL, T.bytes, T.bytesL]
      · have h0' : (0 : Int) < (ks.length : Int) := by omega
        have h0n : 0 < ks.length := by omega
        have hl24 : ks.length ≤ 1024 := by omega
        rcases HKS.out with e0 | ⟨g, off, rfl, hg, hcells⟩
        · rw [e0] at h0n; exact absurd h0n (Nat.not_lt_zero _)
        have HG := hid hg
        have HCL := hid hcells
        have HLN := hid hl24
        clear hg hcells HKS
        obtain ⟨ti, hi, hz0, hz1, hz2⟩ := info_parts treeInfo
        obtain ⟨cz, hcz, hmk⟩ : ∃ cz : Array Value, cz.size = ks.length * 4 ∧ ∀ w, (Instr.makeSlice 28 (.int .i64 (ks.length : Int)) (.int .i64 (ks.length : Int))).run Try.prog w = .ok (.slice (some ⟨w.heap.size, 0, none⟩) ks.length ks.length) (w.alloc (.cells cz 30)) := by
          refine ⟨madeCells (Value.agg #[.string ⟨#[]⟩, .int .i64 0, .string ⟨#[]⟩, .slice none 0 0]).cells (ks.length * 4), size_madeCells _ _, fun w => ?_⟩
          have := run_make (P := Try.prog) w 28 30 ti _ Try.underlying28 hi hz0 .i64 .i64 ks.length ks.length (by omega) (Int.le_refl _) (by rw [hz2]; omega) (by omega)
          rw [hz1] at this
          simpa using this
        have HCZ := hid hcz
        clear hcz hi hz0 hz1 hz2 h0
        go_wp2_with fail
        go_at_call 97
        refine (bKind b k W p0).mono ?_
        rintro e w' ⟨rfl, hw'⟩
        rw [hw']
        clear hw' w'
        go_wp2_with fail
        go_at_call 59
        refine (bNum b n W p1).mono ?_
        rintro e w' ⟨rfl, hw'⟩
        rw [hw']
        clear hw' w'
        go_wp2_with fail
        go_at_call 61
        refine (bText b x W p2).mono ?_
        rintro e w' ⟨rfl, hw'⟩
        rw [hw']
        clear hw' w'
        go_wp2_with fail
        go_at_call 98
        refine (len_of b (some ⟨g, off, none⟩) ks.length c _ (by go_simp)).mono ?_
        rintro e w' ⟨rfl, hw'⟩
        rw [hw']
        clear hw' w'
        go_wp2_with fail
        go_at_call 98
        refine (len_of b (some ⟨g, off, none⟩) ks.length c _ (by go_simp)).mono ?_
        rintro e w' ⟨rfl, hw'⟩
        rw [hw']
        clear hw' w'
        go_wp2_with fail
        have HMK := hid hmk
        clear hmk
        have HWS := hid (Nat.lt_irrefl 0)
        go_loopw [66] (fun i wr => ∃ (j : Nat) (cs : Array Value) (bss : List (List Nat)), j ≤ ks.length ∧ i = .int .i64 j ∧ Kp (· ≠ m) w wr ∧ wr.heap[w.heap.size]? = some (.cells #[.string ⟨#[]⟩, .int .i64 0, .string ⟨#[]⟩, .slice none 0 0] 30) ∧
            wr.heap[W.heap.size]? = some (.cells #[.string k, .int .i64 n, .string x, .slice (some ⟨W.heap.size + 1, 0, none⟩) ks.length ks.length] 30) ∧ wr.heap[W.heap.size + 1]? = some (.cells cs 30) ∧ cs.size = ks.length * 4 ∧ bss.length = j ∧
            (∀ i, (h : i < ks.length) → i < j → ∃ u0 u1 u2 u3 b, cs[i * 4]? = some u0 ∧ cs[i * 4 + 1]? = some u1 ∧ cs[i * 4 + 2]? = some u2 ∧ cs[i * 4 + 3]? = some u3 ∧ bss[i]? = some b ∧ Own wr d (.agg #[u0, u1, u2, u3]) ks[i] b) ∧
            (∀ b ∈ bss.flatten, W.heap.size + 1 < b ∧ b < wr.heap.size) ∧ bss.flatten.Nodup ∧ (N + 1 + T.sizeL (ks.take j) ≤ 1024 ∧ dep + T.heightL (ks.take j) ≤ 64 ∧ B + x.size + T.bytesL (ks.take j) ≤ 16384) ∧
            wr.heap[m]? = some (.cells #[.int .i64 (N + 1 + T.sizeL (ks.take j) : Nat), .int .i64 (B + x.size + T.bytesL (ks.take j) : Nat)] 93)) (fun i _ => ks.length - (intOf i).toNat)
        case atStart => exact ⟨0, cz, [], Nat.zero_le _, rfl, (HKW.out.alloc _).alloc _, blkOld _ (blkOld _ HBRW.out), blkOld _ (blk0 _ _), blk1 _ _ _, HCZ.out, rfl, fun i _ h => absurd h (Nat.not_lt_zero _), fun b h => (by cases h), List.nodup_nil, ⟨by simp [T.sizeL]; omega, by simp [T.heightL]; omega, by simp [T.bytesL]; omega⟩, by simpa [T.sizeL, T.bytesL] using (blkOld _ (blkOld _ HBMW.out))⟩
        case round =>
          obtain ⟨j, cs, bss, hj, rfl, hkr, hb1, hb2, hb3, hcs, hbl, hall, hbb, hnd, hle, hbm⟩ := hrel
          have HKR := hid hkr
          have HB1 := hid hb1
          have HB2 := hid hb2
          have HB3 := hid hb3
          have HCS := hid hcs
          have HBL := hid hbl
          have HALL := hid hall
          have HBB := hid hbb
          have HND := hid hnd
          have HLE := hid hle
          have HBM := hid hbm
          have hlr1 : W.heap.size < wr.heap.size := lt_of_block hb2
          have hlr2 : W.heap.size + 1 < wr.heap.size := lt_of_block hb3
          clear hkr hb1 hb2 hb3 hcs hbl hall hbb hnd hle hbm q0 p0 p1 p2 p3
          by_cases hlt : j < ks.length
          · have hlt' : (j : Int) < ks.length := by omega
            obtain ⟨u, hu, hnu⟩ := HCL.out j hlt
            have HNU := hid (hnu.keep (HKR.out.mono (fun q _ hq e => HB.out (e ▸ hq))))
            have hgm : g ≠ m := fun e => HB.out (e ▸ HG.out)
            have hur := HKR.out.cell hu hgm
            have q0 := HKR.out.cell HCE.out.1 HNE.out.1
            have p3 := HKR.out.cell HCE.out.2.2.2.2 HNE.out.2
            clear hu hnu hgm
            go_wp2_with fail
            go_at_call 96
            refine (bKid b g off ks.length c j u wr p3 hlt hur).mono ?_
            rintro e w' ⟨rfl, hw'⟩
            rw [hw']
            clear hw' w' hur p3 q0
            go_wp2_with fail
            go_at_call 22
            refine (HIH.out u ks[j] K wr m (N + 1 + T.sizeL (ks.take j)) (B + x.size + T.bytesL (ks.take j)) (dep + 1) HNU.out HB.out HBM.out HLE.out.1 HLE.out.2.2 (by omega) (by omega)).mono ?_
            rintro e w2 ⟨hk2, hcase⟩
            have HK3 := hid (show Kp (· ≠ m) w w2 from HKR.out.trans hk2)
            have HK2 := hid hk2
            have s1 := T.sizeL_take ks j hlt
            have s2 := T.heightL_take ks j hlt
            have s3 := T.bytesL_take ks j hlt
            have s4 := T.sizeL_split ks (j + 1)
            have s5 := T.heightL_split ks (j + 1)
            have s6 := T.bytesL_split ks (j + 1)
            have HS := hid (And.intro s1 (And.intro s2 (And.intro s3 (And.intro s4 (And.intro s5 s6)))))
            have HSZ := hid hk2.size
            clear s1 s2 s3 s4 s5 s6 hk2
            have hb1 := HK2.out.block' HB1.out (by show w.heap.size ≠ m; omega)
            have hb2 := HK2.out.block' HB2.out (by show W.heap.size ≠ m; omega)
            have hb3 := HK2.out.block' HB3.out (by show W.heap.size + 1 ≠ m; omega)
            have HR1 := hid hb1
            have HR2 := hid hb2
            have HR3 := hid hb3
            have hl1 : w.heap.size < w2.heap.size := lt_of_block hb1
            have hl2 : W.heap.size < w2.heap.size := lt_of_block hb2
            have hl3 : W.heap.size + 1 < w2.heap.size := lt_of_block hb3
            clear hlr1 hlr2
            rcases hcase with ⟨hok, v', bs, rfl, hown, hge, hnd, hb4⟩ | ⟨hno, rfl⟩
            · obtain ⟨u0, u1, u2, u3, rfl⟩ := hown.rd.agg
              obtain ⟨k2, n2, x2, a2, c2, rfl, rfl, rfl, rfl⟩ := hown.rd.shape
              have HOK := hid hok
              have HOWN := hid hown
              have HGE := hid hge
              have HN2 := hid hnd
              have HM4 := hid hb4
              have hsz : j * 4 + 3 < cs.size := by rw [HCS.out]; omega
              have d0 := cell_of (i := j * 4) hb3 (Array.getElem?_eq_getElem (by omega))
              have d1 := cell_of (i := j * 4 + 1) hb3 (Array.getElem?_eq_getElem (by omega))
              have d2 := cell_of (i := j * 4 + 2) hb3 (Array.getElem?_eq_getElem (by omega))
              have d3 := cell_of (i := j * 4 + 3) hb3 (Array.getElem?_eq_getElem (by omega))
              have f0 := frozen_of (i := j * 4) hb3
              have f1 := frozen_of (i := j * 4 + 1) hb3
              have f2 := frozen_of (i := j * 4 + 2) hb3
              have f3 := frozen_of (i := j * 4 + 3) hb3
              obtain ⟨t0, t1, t2, t3⟩ := four_of hb2
              generalize hkm : ks[j].kids.length = km at HOWN
              clear hok hown hge hnd hb4 hb1 hb2 hb3
              go_wp2_with fail
              go_roundw
              case rel =>
                obtain ⟨s1, s2, s3, s4, s5, s6⟩ := HS.out
                obtain ⟨o1, o2, o3⟩ := HOK.out
                obtain ⟨e1, e2, e3⟩ := HLE.out
                have hp := T.height_pos ks[j]
                have hk4 := Kp.set4 w2 (W.heap.size + 1) (j * 4) (.string k2) (.int .i64 n2) (.string x2) (.slice a2 km c2)
                have hb4 := set4_block HR3.out (j * 4) (.string k2) (.int .i64 n2) (.string x2) (.slice a2 km c2)
                generalize hW4 : ((((w2.setCell ⟨W.heap.size + 1, j * 4, none⟩ (.string k2)).setCell ⟨W.heap.size + 1, j * 4 + 1, none⟩ (.int .i64 n2)).setCell ⟨W.heap.size + 1, j * 4 + 2, none⟩ (.string x2)).setCell ⟨W.heap.size + 1, j * 4 + 3, none⟩ (.slice a2 km c2)) = W4 at hk4 hb4 ⊢
                have hs4 : w2.heap.size = W4.heap.size := by rw [← hW4]; simp
                have hsz2 := HSZ.out
                have hl4 : W.heap.size + 1 < wr.heap.size := lt_of_block HB3.out
                have hgw : ∀ b ∈ bs, W.heap.size + 1 < b ∧ b < W4.heap.size := fun b hb => ⟨by have := HGE.out b hb; omega, by rw [← hs4]; exact HOWN.out.lt b hb⟩
                refine ⟨j + 1, set4A cs (j * 4) (.string k2) (.int .i64 n2) (.string x2) (.slice a2 km c2), bss ++ [bs], hlt, by go_num, (Kp.own HK3.out hk4 (by omega)).alloc _, blkOld _ (hk4.block' HR1.out (by show w.heap.size ≠ _; omega)), blkOld _ (hk4.block' HR2.out (by show W.heap.size ≠ _; omega)), blkOld _ hb4, by rw [set4A_size]; exact HCS.out, by rw [List.length_append, HBL.out]; rfl, fun i h hi => ?_, fun b hb => ?_, ?_, ⟨by omega, by omega, by omega⟩, ?_⟩
                · by_cases e : i < j
                  · obtain ⟨u0, u1, u2, u3, b, c0, c1, c2', c3, hb, ho⟩ := HALL.out i h e
                    refine ⟨u0, u1, u2, u3, b, by rw [set4A_other _ _ _ _ (by omega)]; exact c0, by rw [set4A_other _ _ _ _ (by omega)]; exact c1, by rw [set4A_other _ _ _ _ (by omega)]; exact c2', by rw [set4A_other _ _ _ _ (by omega)]; exact c3, ?_, ?_⟩
                    · rw [List.getElem?_append_left (by rw [HBL.out]; exact e)]; exact hb
                    · refine ho.keep (((HK2.out.mono (fun q _ hq e => ?_)).trans (hk4.mono (fun q _ hq e => ?_))).alloc _)
                      · have := (HBB.out q (List.mem_flatten.2 ⟨b, List.mem_of_getElem? hb, hq⟩)).1; have e' : q = m := e; omega
                      · have := (HBB.out q (List.mem_flatten.2 ⟨b, List.mem_of_getElem? hb, hq⟩)).1; have e' : q = W.heap.size + 1 := e; omega
                  · obtain rfl : i = j := by omega
                    obtain ⟨c0, c1, c2', c3⟩ := set4A_get (.string k2) (.int .i64 n2) (.string x2) (.slice a2 km c2) hsz
                    refine ⟨_, _, _, _, bs, c0, c1, c2', c3, ?_, HOWN.out.keep ((hk4.mono (fun q _ hq e => by have := (hgw q hq).1; have e' : q = W.heap.size + 1 := e; omega)).alloc _)⟩
                    rw [List.getElem?_append_right (by rw [HBL.out]; exact Nat.le_refl _), HBL.out]
                    simp
                · rw [List.flatten_append, List.mem_append] at hb
                  have hal := (Ext.alloc W4 (.cells #[.string k2, .int .i64 n2, .string x2, .slice a2 km c2] 30)).size
                  rcases hb with hb | hb
                  · exact ⟨(HBB.out b hb).1, by have := (HBB.out b hb).2; omega⟩
                  · have := hgw b (by simpa using hb)
                    exact ⟨this.1, by omega⟩
                · rw [List.flatten_append, List.nodup_append]
                  refine ⟨HND.out, by simpa using HN2.out, fun p hp q hq e => ?_⟩
                  have h1 := (HBB.out p hp).2
                  have h2 := HGE.out q (by simpa using hq)
                  omega
                · refine (blkOld _ (hk4.block' HM4.out (by show m ≠ _; omega))).trans ?_
                  rw [show N + 1 + T.sizeL (ks.take (j + 1)) = N + 1 + T.sizeL (ks.take j) + ks[j].size by omega, show B + x.size + T.bytesL (ks.take (j + 1)) = B + x.size + T.bytesL (ks.take j) + ks[j].bytes by omega]
              case measure => simp [intOf]; omega
            · have HNO := hid hno
              obtain ⟨r0, r1, r2, r3⟩ := four_of hb1
              have s0 := frozen_of (i := 0) hb1
              have s1 := frozen_of (i := 1) hb1
              have s2 := frozen_of (i := 2) hb1
              have s3 := frozen_of (i := 3) hb1
              clear hb1 hb2 hb3 hno
              go_wp2_with fail
              obtain ⟨z0, z1, z2, z3⟩ := four_of (blkOld (.cells #[.string ⟨#[]⟩, .int .i64 0, .string ⟨#[]⟩, .slice none 0 0] 30) (four_set0 (u0 := .string ⟨#[]⟩) (u1 := .int .i64 0) (u2 := .string ⟨#[]⟩) (u3 := .slice none 0 0) HR1.out))
              refine bodyPost_ret (v := .tuple #[zTree, .bool false]) (by simp [results, Try.results22, go_sem, z0, z1, z2, z3]) rfl ?_
              refine ⟨(Kp.own HK3.out (Kp.set4 _ w.heap.size 0 (.string ⟨#[]⟩) (.int .i64 0) (.string ⟨#[]⟩) (.slice none 0 0)) (Nat.le_refl _)).alloc _, .inr ⟨fun h => HNO.out ?_, rfl⟩⟩
              obtain ⟨s1, s2, s3, s4, s5, s6⟩ := HS.out
              obtain ⟨o1, o2, o3⟩ := h
              simp only [T.size, T.height, T.bytes] at o1 o2 o3
              exact ⟨by omega, by omega, by omega⟩
          · have hje : j = ks.length := by omega
            have HJE := hid hje
            obtain ⟨t0, t1, t2, t3⟩ := four_of HB2.out
            obtain ⟨r0, r1, r2, r3⟩ := four_of HB1.out
            have s0 := frozen_of (i := 0) HB1.out
            have s1 := frozen_of (i := 1) HB1.out
            have s2 := frozen_of (i := 2) HB1.out
            have s3 := frozen_of (i := 3) HB1.out
            clear hje
            go_wp2_with fail
            have hk4 := Kp.set4 wr w.heap.size 0 (.string k) (.int .i64 n) (.string x) (.slice (some ⟨W.heap.size + 1, 0, none⟩) ks.length ks.length)
            obtain ⟨z0, z1, z2, z3⟩ := four_of (four_set0 (u0 := .string k) (u1 := .int .i64 n) (u2 := .string x) (u3 := .slice (some ⟨W.heap.size + 1, 0, none⟩) ks.length ks.length) HB1.out)
            refine bodyPost_ret (v := .tuple #[.agg #[.string k, .int .i64 n, .string x, .slice (some ⟨W.heap.size + 1, 0, none⟩) ks.length ks.length], .bool true]) (by simp [results, Try.results22, go_sem, z0, z1, z2, z3]) rfl ?_
            have htk : ks.take j = ks := by rw [HJE.out, List.take_length]
            obtain ⟨e1, e2, e3⟩ := HLE.out
            have hb6 := HBM.out
            rw [htk] at e1 e2 e3 hb6
            have hln := HLN.out
            refine ⟨Kp.own HKR.out hk4 (Nat.le_refl _), .inl ⟨⟨by simp only [T.size]; omega, by simp only [T.height]; omega, by simp only [T.bytes]; omega⟩, _, (W.heap.size + 1) :: bss.flatten, rfl, ⟨some ⟨W.heap.size + 1, 0, none⟩, rfl, HKK.out.1, HKK.out.2.1, by omega, .inr ⟨W.heap.size + 1, cs, bss, rfl, h0n, hk4.block' HB3.out (by show W.heap.size + 1 ≠ _; omega), HCS.out, rfl, by rw [HBL.out, HJE.out], fun i h => ?_⟩⟩, fun b hb => ?_, ?_, ?_⟩⟩
            · obtain ⟨u0, u1, u2, u3, b, c0, c1, c2', c3, hb, ho⟩ := HALL.out i h (by have := HJE.out; omega)
              exact ⟨u0, u1, u2, u3, b, c0, c1, c2', c3, hb, ho.keep (hk4.mono (fun q _ hq e => by have := (HBB.out q (List.mem_flatten.2 ⟨b, List.mem_of_getElem? hb, hq⟩)).1; have e' : q = w.heap.size := e; omega))⟩
            · rcases List.mem_cons.1 hb with rfl | hb
              · omega
              · have := (HBB.out b hb).1; omega
            · exact List.nodup_cons.2 ⟨fun h => by have := (HBB.out _ h).1; omega, HND.out⟩
            · refine (hk4.block' hb6 (by show m ≠ _; omega)).trans ?_
              simp only [T.size, T.bytes]
              rw [show N + (1 + T.sizeL ks) = N + 1 + T.sizeL ks by omega, show B + (x.size + T.bytesL ks) = B + x.size + T.bytesL ks by omega]
end Go.Proofs.Ytdikcdefpoolfaa
