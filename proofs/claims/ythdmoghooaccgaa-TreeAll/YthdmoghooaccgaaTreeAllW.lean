/-
  The walk of espalierlaw4.TreeAll: it returns true, whatever the calls.
-/
import Derived.Test.YthdmoghooaccgaaPlaysF
import Derived.Test.YthdmoghooaccgaaOpsIn
import Derived.Test.YthdmoghooaccgaaMarks
import Derived.Test.YthdmoghooaccgaaLight
import Derived.Test.YthdmoghooaccgaaBegun
import Derived.Deep.Cut
import Derived.Deep.CutRange
namespace Go.Proofs.Ythdmoghooaccgaa
open Go.RowKit
theorem wpList_append_ints {ops : Array Oper} {rest : List Oper} {o : Oper} {ac : Act} {Q : Exit → Act → World → Prop} {w : World} (hgd : o.guard = none) (x : Operand)
    (ho : o.op = .call { callee := .builtin .append, args := #[.const (.slice none 0 0), x], argTypes := #[27, 27] }) (hty : o.type = 27)
    (a : Option Addr) (n c : Nat) (xs : List Int) (hx : ac.eval x = .slice a n c) (hb : xs.length * 8 ≤ 140737488355328) (hI : Ints w (.slice a n c) xs)
    (h : ∀ a' c' w', w'.ownsRow w.heap.size 3 1 (.slice a' xs.length c') xs.length (xs.map (Value.int .i64)) → Ext w w' → wpList Try.prog ops Q rest (ac.put o.dst (.slice a' xs.length c')) w') : wpList Try.prog ops Q (o :: rest) ac w := by
  refine wpList_plain hgd fun K hK => ?_
  obtain ⟨a', c', w', hr, h2, h3⟩ := append_ints a n c xs w hb hI
  unfold Oper.wp execOp
  have hs : ac.eval (.const (.slice none 0 0)) = .slice none 0 0 := rfl
  simp only [ho, hty, resolve, invoke, builtin, Sem.run_bind, Sem.run_pure, Result.andThen_ok, List.map_toArray, List.map_cons, List.map_nil, hs, hx, hr]
  exact hK _ _ (h a' c' w' h2 h3)
theorem row_cap {w : World} {base : Nat} {e : TypeId} {a : Option Addr} {n c : Nat} {xs : List Value} (h : w.ownsRow base e 1 (.slice a n c) n xs) : n ≤ c := by
  rcases h.2 with ⟨h, h0⟩ | ⟨g, cap, cur, h, _, _, h1, _⟩
  · omega
  · simp only [Value.slice.injEq] at h; omega
set_option maxRecDepth 100000 in
set_option maxHeartbeats 4000000 in
theorem all_true (a : Option Addr) (n c : Nat) (w : World) (hS : Ops w a n) : Calls Try.prog 3 #[.slice a n c] w fun e w' => e = .returned (.bool true) ∧ Ext w w' := by
  have HS := hid hS
  clear hS
  go_enter Try.func3, Try.ntmps3
  go_wp2_with fail
  refine (callsIn_wide.1 (begun_true _)).mono ?_
  rintro e V0 ⟨rfl, hx0⟩
  have HX0 := hid hx0
  clear hx0
  go_wp2_with fail
  go_loopw [3] (fun i wr => ∃ j : Nat, j ≤ n ∧ i = .int .i64 j ∧ Ext w wr) (fun i _ => n - (intOf i).toNat)
  case atStart => exact ⟨0, Nat.zero_le _, rfl, HX0.out⟩
  case round =>
    obtain ⟨j, hj, rfl, hx⟩ := hrel
    have HX := hid hx
    clear hx
    by_cases hlt : j < n
    · have hlt' : (j : Int) < n := by omega
      by_cases h5 : (j : Int) < 500
      · obtain ⟨g, off, rfl, kd, k, nn, x, aa, kl, cc, k', n', x', a', kl', c', pa, pc, st, m, m', t, u, p, ⟨d0, d1, d2, d3, d4, d5, d6, d7, d8, d9, d10⟩, hrt, hru, hI, hpl⟩ := HS.out j hlt
        have HRT := hid (hrt.later HX.out)
        have HRU := hid (hru.later HX.out)
        have HI := hid (hI.later HX.out)
        have HPL := hid hpl
        have e0 := (HX.out.kp (fun _ => True)).cell d0 trivial
        have e1 := (HX.out.kp (fun _ => True)).cell d1 trivial
        have e2 := (HX.out.kp (fun _ => True)).cell d2 trivial
        have e3 := (HX.out.kp (fun _ => True)).cell d3 trivial
        have e4 := (HX.out.kp (fun _ => True)).cell d4 trivial
        have e5 := (HX.out.kp (fun _ => True)).cell d5 trivial
        have e6 := (HX.out.kp (fun _ => True)).cell d6 trivial
        have e7 := (HX.out.kp (fun _ => True)).cell d7 trivial
        have e8 := (HX.out.kp (fun _ => True)).cell d8 trivial
        have e9 := (HX.out.kp (fun _ => True)).cell d9 trivial
        have e10 := (HX.out.kp (fun _ => True)).cell d10 trivial
        have hgl := lt_of_cell e0
        clear d0 d1 d2 d3 d4 d5 d6 d7 d8 d9 d10 hrt hru hI hpl
        have HEL := hid (show ∀ W', Ext wr W' → W'.cell? ⟨g, off + j * 11 + 1, none⟩ = some (.string k) ∧ W'.cell? ⟨g, off + j * 11 + 2, none⟩ = some (.int .i64 nn) ∧ W'.cell? ⟨g, off + j * 11 + 3, none⟩ = some (.string x) ∧ W'.cell? ⟨g, off + j * 11 + 4, none⟩ = some (.slice aa kl cc) ∧ W'.cell? ⟨g, off + j * 11 + 5, none⟩ = some (.string k') ∧ W'.cell? ⟨g, off + j * 11 + 6, none⟩ = some (.int .i64 n') ∧ W'.cell? ⟨g, off + j * 11 + 7, none⟩ = some (.string x') ∧ W'.cell? ⟨g, off + j * 11 + 8, none⟩ = some (.slice a' kl' c') ∧ W'.cell? ⟨g, off + j * 11 + 9, none⟩ = some (.slice pa p.length pc) from fun W' Y => ⟨(Y.kp (fun _ => True)).cell e1 trivial, (Y.kp (fun _ => True)).cell e2 trivial, (Y.kp (fun _ => True)).cell e3 trivial, (Y.kp (fun _ => True)).cell e4 trivial, (Y.kp (fun _ => True)).cell e5 trivial, (Y.kp (fun _ => True)).cell e6 trivial, (Y.kp (fun _ => True)).cell e7 trivial, (Y.kp (fun _ => True)).cell e8 trivial, (Y.kp (fun _ => True)).cell e9 trivial⟩)
        obtain ⟨M, hM⟩ : ∃ M, wr.alloc (.cells (opV kd k nn x aa kl cc k' n' x' a' kl' c' (.slice pa p.length pc) st) 29) = M := ⟨_, rfl⟩
        have HXM := hid (show Ext wr M from hM ▸ Ext.alloc _ _)
        have HB := hid (show M.heap[wr.heap.size]? = some (.cells (opV kd k nn x aa kl cc k' n' x' a' kl' c' (.slice pa p.length pc) st) 29) from hM ▸ blk0 _ _)
        have hsM : M.heap.size = wr.heap.size + 1 := by rw [← hM]; simp
        obtain ⟨b0, b1, b2, b3, b4, b5, b6, b7, b8, b9, b10⟩ := op_of HB.out
        have HSK := hid (show ∀ W', Ext M W' → W'.cell? ⟨wr.heap.size, 1, none⟩ = some (.string k) ∧ W'.cell? ⟨wr.heap.size, 2, none⟩ = some (.int .i64 nn) ∧ W'.cell? ⟨wr.heap.size, 3, none⟩ = some (.string x) ∧ W'.cell? ⟨wr.heap.size, 4, none⟩ = some (.slice aa kl cc) ∧ W'.cell? ⟨wr.heap.size, 5, none⟩ = some (.string k') ∧ W'.cell? ⟨wr.heap.size, 6, none⟩ = some (.int .i64 n') ∧ W'.cell? ⟨wr.heap.size, 7, none⟩ = some (.string x') ∧ W'.cell? ⟨wr.heap.size, 8, none⟩ = some (.slice a' kl' c') from fun W' Y => by
          obtain ⟨_, s1, s2, s3, s4, s5, s6, s7, s8, _⟩ := op_of (Y.block HB.out)
          exact ⟨s1, s2, s3, s4, s5, s6, s7, s8⟩)
        obtain ⟨A, hA⟩ : ∃ A, decide (0 ≤ lightN t 3000) = A := ⟨_, rfl⟩
        obtain ⟨B, hB⟩ : ∃ B, decide (0 ≤ lightN u 3000) = B := ⟨_, rfl⟩
        have CT := hid (fun W' (Y : Ext M W') => light_ok W' (HRT.out.later (HXM.out.trans Y)))
        have CU := hid (fun W' (Y : Ext M W') => light_ok W' (HRU.out.later (HXM.out.trans Y)))
        rw [hA] at CT
        rw [hB] at CU
        clear hA hB
        go_wp2_with fail
        go_cut [5, 6] from 9 to 82 (fun s5 s6 wx => s5 = .bool A ∧ s6 = .bool B ∧ Ext M wx)
        case first =>
          go_region_held3 (fun W' => W'.cell? ⟨wr.heap.size, 1, none⟩ = some (.string k) ∧ W'.cell? ⟨wr.heap.size, 2, none⟩ = some (.int .i64 nn) ∧ W'.cell? ⟨wr.heap.size, 3, none⟩ = some (.string x) ∧ W'.cell? ⟨wr.heap.size, 4, none⟩ = some (.slice aa kl cc) ∧ W'.cell? ⟨wr.heap.size, 5, none⟩ = some (.string k') ∧ W'.cell? ⟨wr.heap.size, 6, none⟩ = some (.int .i64 n') ∧ W'.cell? ⟨wr.heap.size, 7, none⟩ = some (.string x') ∧ W'.cell? ⟨wr.heap.size, 8, none⟩ = some (.slice a' kl' c'))
            (first | exact SK2 | exact SK1 | exact ⟨b1, b2, b3, b4, b5, b6, b7, b8⟩ | go_keep)
            (first
              | (go_at_call 9; refine (CT.out _ (by repeat (first | with_reducible exact Ext.refl _ | with_reducible refine Ext.drew ?_))).mono ?_; rintro e w1 ⟨rfl, hx1⟩; have Z1 : Ext M w1 := Ext.trans (by repeat (first | with_reducible exact Ext.refl _ | with_reducible refine Ext.drew ?_)) hx1; have SK1 := HSK.out w1 Z1)
              | (go_at_call 9; refine (CU.out _ (by repeat (first | with_reducible exact Z1 | with_reducible refine Ext.drew ?_))).mono ?_; rintro e w2 ⟨rfl, hx2⟩; have Z2 : Ext M w2 := Ext.trans (by repeat (first | with_reducible exact Z1 | with_reducible refine Ext.drew ?_)) hx2; have SK2 := HSK.out w2 Z2))
          all_goals
            go_wp2_with fail
            go_meet
            case rel => exact ⟨rfl, rfl, Z2⟩
        case rest =>
          obtain ⟨rfl, rfl, hxc⟩ := hcut
          obtain ⟨V, rfl⟩ : ∃ V, V = wc := ⟨wc, rfl⟩
          have XV := hid hxc
          have HBV := hid (hxc.block HB.out)
          have hsV := hxc.size
          clear hxc hM HB HSK CT CU b0 b1 b2 b3 b4 b5 b6 b7 b8 b9 b10 e0 e1 e2 e3 e4 e5 e6 e7 e8 e9 e10
          go_upto_if 29 with fail
          go_cut [] from 9 to 82 (fun wx => ∃ k1 n1 x1 a1 kl1 c1, wx.heap[wr.heap.size]? = some (.cells (opV kd k1 n1 x1 a1 kl1 c1 k' n' x' a' kl' c' (.slice pa p.length pc) st) 29) ∧ Rd (fun q => q ≠ wr.heap.size) wx m (.agg #[.string k1, .int .i64 n1, .string x1, .slice a1 kl1 c1]) t ∧ (A = true → MRd (fun q => wr.heap.size < q) wx m (.agg #[.string k1, .int .i64 n1, .string x1, .slice a1 kl1 c1]) t) ∧ Kp (· ≠ wr.heap.size) V wx)
          case first =>
            cases A with
            | true =>
              obtain ⟨b0, b1, b2, b3, b4, b5, b6, b7, b8, b9, b10⟩ := op_of HBV.out
              go_wp2_with fail
              refine (twin_any m _ t _ V (HRT.out.later (HXM.out.trans XV.out))).mono ?_
              rintro e w1 ⟨v1, rfl, hm1, hx1⟩
              obtain ⟨y0, y1, y2, y3, rfl⟩ := hm1.rd.agg
              obtain ⟨k1, n1, x1, a1, c1, rfl, rfl, rfl, rfl⟩ := hm1.rd.shape
              generalize (T.kids t).length = kl1 at hm1
              have HM1 := hid hm1
              have X1 := hid hx1
              clear b0 b1 b2 b3 b4 b5 b6 b7 b8 b9 b10
              have hb1 := hx1.block HBV.out
              have HB1 := hid hb1
              obtain ⟨b0, b1, b2, b3, b4, b5, b6, b7, b8, b9, b10⟩ := op_of hb1
              have f1 := frozen_of (i := 1) hb1
              have f2 := frozen_of (i := 2) hb1
              have f3 := frozen_of (i := 3) hb1
              have f4 := frozen_of (i := 4) hb1
              clear hm1 hx1 hb1
              go_wp2_with fail
              go_meet
              case rel =>
                have k4 := Kp.set4 w1 wr.heap.size 1 (.string k1) (.int .i64 n1) (.string x1) (.slice a1 kl1 c1)
                have hm2 := (HM1.out.keep (k4.mono (fun q _ hq e => by have hq' : V.heap.size ≤ q := hq; have e' : q = _ := e; omega))).mono (L := fun q => wr.heap.size < q) (fun q _ hq => by have hq' : V.heap.size ≤ q := hq; show wr.heap.size < q; omega)
                exact ⟨k1, n1, x1, a1, kl1, c1, set4_block HB1.out 1 (.string k1) (.int .i64 n1) (.string x1) (.slice a1 kl1 c1), hm2.rd.mono (fun q _ hq => by have hq' : wr.heap.size < q := hq; show q ≠ _; omega), fun _ => hm2, (X1.out.kp _).trans k4⟩
            | false =>
              go_wp2_with fail
              go_meet
              case rel => exact ⟨k, nn, x, aa, kl, cc, HBV.out, (HRT.out.low.later (HXM.out.trans XV.out)).mono (fun q _ hq => by have hq' : q < wr.heap.size := hq; show q ≠ _; omega), (fun h => by cases h), Kp.refl _ _⟩
          case rest =>
          obtain ⟨k1, n1, x1, a1, kl1, c1, hb1, hr1, hm1, hk1⟩ := hcut
          obtain ⟨V1, rfl⟩ : ∃ V1, V1 = wc := ⟨wc, rfl⟩
          have HB1 := hid hb1
          have HR1 := hid hr1
          have HM1 := hid hm1
          have HK1 := hid hk1
          have hsV1 := hk1.size
          have X1 := hid (show Ext wr V1 from Kp.extOf (HXM.out.trans XV.out) hk1 (Nat.le_refl _))
          clear hb1 hr1 hm1 hk1
          go_upto_if 34 with fail
          go_cut [] from 9 to 82 (fun wx => ∃ k2 n2 x2 a2 kl2 c2, wx.heap[wr.heap.size]? = some (.cells (opV kd k1 n1 x1 a1 kl1 c1 k2 n2 x2 a2 kl2 c2 (.slice pa p.length pc) st) 29) ∧ Rd (fun q => q ≠ wr.heap.size) wx m' (.agg #[.string k2, .int .i64 n2, .string x2, .slice a2 kl2 c2]) u ∧ (B = true → MRd (fun q => wr.heap.size < q) wx m' (.agg #[.string k2, .int .i64 n2, .string x2, .slice a2 kl2 c2]) u) ∧ Kp (· ≠ wr.heap.size) V1 wx)
          case first =>
            cases B with
            | true =>
              obtain ⟨b0, b1, b2, b3, b4, b5, b6, b7, b8, b9, b10⟩ := op_of HB1.out
              go_wp2_with fail
              refine (twin_any m' _ u _ V1 (HRU.out.later X1.out)).mono ?_
              rintro e w1 ⟨v1, rfl, hm1, hx1⟩
              obtain ⟨y0, y1, y2, y3, rfl⟩ := hm1.rd.agg
              obtain ⟨k2, n2, x2, a2, c2, rfl, rfl, rfl, rfl⟩ := hm1.rd.shape
              generalize (T.kids u).length = kl2 at hm1
              have HM2 := hid hm1
              have X2 := hid hx1
              clear b0 b1 b2 b3 b4 b5 b6 b7 b8 b9 b10
              have hb1 := hx1.block HB1.out
              have HB2 := hid hb1
              obtain ⟨b0, b1, b2, b3, b4, b5, b6, b7, b8, b9, b10⟩ := op_of hb1
              have f1 := frozen_of (i := 5) hb1
              have f2 := frozen_of (i := 6) hb1
              have f3 := frozen_of (i := 7) hb1
              have f4 := frozen_of (i := 8) hb1
              clear hm1 hx1 hb1
              go_wp2_with fail
              go_meet
              case rel =>
                have k4 := Kp.set4 w1 wr.heap.size 5 (.string k2) (.int .i64 n2) (.string x2) (.slice a2 kl2 c2)
                have hm2 := (HM2.out.keep (k4.mono (fun q _ hq e => by have hq' : V1.heap.size ≤ q := hq; have e' : q = _ := e; omega))).mono (L := fun q => wr.heap.size < q) (fun q _ hq => by have hq' : V1.heap.size ≤ q := hq; show wr.heap.size < q; omega)
                exact ⟨k2, n2, x2, a2, kl2, c2, set4_block HB2.out 5 (.string k2) (.int .i64 n2) (.string x2) (.slice a2 kl2 c2), hm2.rd.mono (fun q _ hq => by have hq' : wr.heap.size < q := hq; show q ≠ _; omega), fun _ => hm2, (X2.out.kp _).trans k4⟩
            | false =>
              go_wp2_with fail
              go_meet
              case rel => exact ⟨k', n', x', a', kl', c', HB1.out, (HRU.out.low.later X1.out).mono (fun q _ hq => by have hq' : q < wr.heap.size := hq; show q ≠ _; omega), (fun h => by cases h), Kp.refl _ _⟩
          case rest =>
          obtain ⟨k2, n2, x2, a2, kl2, c2, hb2, hr2, hm2, hk2⟩ := hcut
          obtain ⟨V2, rfl⟩ : ∃ V2, V2 = wc := ⟨wc, rfl⟩
          have HB2 := hid hb2
          have HR2 := hid hr2
          have HM2 := hid hm2
          have HT2 := hid (And.intro (HR1.out.keep hk2) (fun h => (HM1.out h).keep (hk2.mono (fun q _ hq e => by have hq' : wr.heap.size < q := hq; have e' : q = _ := e; omega))))
          have hsV2 := hk2.size
          have X2 := hid (show Ext wr V2 from Kp.extOf X1.out hk2 (Nat.le_refl _))
          clear hb2 hr2 hm2 hk2 HB1 HR1 HM1 HK1
          obtain ⟨b0, b1, b2, b3, b4, b5, b6, b7, b8, b9, b10⟩ := op_of HB2.out
          have HKB := hid (show ∀ w', Ext V2 w' → w'.cell? ⟨wr.heap.size, 9, none⟩ = some (.slice pa p.length pc) ∧ w'.frozen? ⟨wr.heap.size, 9, none⟩ = false from fun w' Y => ⟨cell_of (Y.block HB2.out) rfl, frozen_of (Y.block HB2.out)⟩)
          go_upto_region 13 with (at_builtin; refine wpList_append_ints rfl _ rfl rfl pa p.length pc p rfl (by have := HPL.out; omega) (HI.out.later X2.out) ?_; intro pa9 pc9 w9 ho9 hx9; obtain ⟨h91, h92⟩ := HKB.out w9 hx9)
          obtain ⟨V3, hV3⟩ : ∃ V3, w9.setCell ⟨wr.heap.size, 9, none⟩ (.slice pa9 p.length pc9) = V3 := ⟨_, rfl⟩
          rw [hV3]
          have k39 : Kp (· ≠ wr.heap.size) w9 V3 := hV3 ▸ Kp.set _ _ _ _ (fun h => h rfl)
          have k3 : Kp (· ≠ wr.heap.size) V2 V3 := (hx9.kp _).trans k39
          have HB3 := hid (show V3.heap[wr.heap.size]? = some (.cells (opV kd k1 n1 x1 a1 kl1 c1 k2 n2 x2 a2 kl2 c2 (.slice pa9 p.length pc9) st) 29) from hV3 ▸ set_at (hx9.block HB2.out) 9 (.slice pa9 p.length pc9))
          have HT3 := hid (And.intro (HT2.out.1.keep k3) (fun h => (HT2.out.2 h).keep (k3.mono (fun q _ hq e => by have hq' : wr.heap.size < q := hq; have e' : q = _ := e; omega))))
          have HU3 := hid (And.intro (HR2.out.keep k3) (fun h => (HM2.out h).keep (k3.mono (fun q _ hq e => by have hq' : wr.heap.size < q := hq; have e' : q = _ := e; omega))))
          have HI3 := hid (Ints.own rfl (ownsRow_keep ho9 k39 (fun b hb e => by have h1 := (ho9.lt b hb).1; have e' : b = _ := e; omega)))
          have HCAP := hid (row_cap ho9)
          have X3 := hid (show Ext wr V3 from Kp.extOf X2.out k3 (Nat.le_refl _))
          clear hV3 k39 k3 ho9 hx9 h91 h92 b0 b1 b2 b3 b4 b5 b6 b7 b8 b9 b10 HKB HB2 HR2 HM2 HT2
          have HSP := hid (show ∀ W', Ext V3 W' → W'.cell? ⟨wr.heap.size, 0, none⟩ = some (.int .i64 kd) ∧ W'.cell? ⟨wr.heap.size, 1, none⟩ = some (.string k1) ∧ W'.cell? ⟨wr.heap.size, 2, none⟩ = some (.int .i64 n1) ∧ W'.cell? ⟨wr.heap.size, 3, none⟩ = some (.string x1) ∧ W'.cell? ⟨wr.heap.size, 4, none⟩ = some (.slice a1 kl1 c1) ∧ W'.cell? ⟨wr.heap.size, 5, none⟩ = some (.string k2) ∧ W'.cell? ⟨wr.heap.size, 6, none⟩ = some (.int .i64 n2) ∧ W'.cell? ⟨wr.heap.size, 7, none⟩ = some (.string x2) ∧ W'.cell? ⟨wr.heap.size, 8, none⟩ = some (.slice a2 kl2 c2) ∧ W'.cell? ⟨wr.heap.size, 9, none⟩ = some (.slice pa9 p.length pc9) ∧ W'.cell? ⟨wr.heap.size, 10, none⟩ = some (.int .i64 st) ∧ W'.cell? ⟨g, off + j * 11 + 9, none⟩ = some (.slice pa p.length pc) from fun W' Y => by
            obtain ⟨s0, s1, s2, s3, s4, s5, s6, s7, s8, s9, s10⟩ := op_of (Y.block HB3.out)
            obtain ⟨_, _, _, _, _, _, _, _, q9⟩ := HEL.out W' (X3.out.trans Y)
            exact ⟨s0, s1, s2, s3, s4, s5, s6, s7, s8, s9, s10, q9⟩)
          have HSQ := hid (show ∀ W', Ext V3 W' → W'.cell? ⟨wr.heap.size, 1, none⟩ = some (.string k1) ∧ W'.cell? ⟨wr.heap.size, 2, none⟩ = some (.int .i64 n1) ∧ W'.cell? ⟨wr.heap.size, 3, none⟩ = some (.string x1) ∧ W'.cell? ⟨wr.heap.size, 4, none⟩ = some (.slice a1 kl1 c1) ∧ W'.cell? ⟨wr.heap.size, 5, none⟩ = some (.string k2) ∧ W'.cell? ⟨wr.heap.size, 6, none⟩ = some (.int .i64 n2) ∧ W'.cell? ⟨wr.heap.size, 7, none⟩ = some (.string x2) ∧ W'.cell? ⟨wr.heap.size, 8, none⟩ = some (.slice a2 kl2 c2) ∧ W'.cell? ⟨g, off + j * 11 + 1, none⟩ = some (.string k) ∧ W'.cell? ⟨g, off + j * 11 + 2, none⟩ = some (.int .i64 nn) ∧ W'.cell? ⟨g, off + j * 11 + 3, none⟩ = some (.string x) ∧ W'.cell? ⟨g, off + j * 11 + 4, none⟩ = some (.slice aa kl cc) ∧ W'.cell? ⟨g, off + j * 11 + 5, none⟩ = some (.string k') ∧ W'.cell? ⟨g, off + j * 11 + 6, none⟩ = some (.int .i64 n') ∧ W'.cell? ⟨g, off + j * 11 + 7, none⟩ = some (.string x') ∧ W'.cell? ⟨g, off + j * 11 + 8, none⟩ = some (.slice a' kl' c') from fun W' Y => by
            obtain ⟨s0, s1, s2, s3, s4, s5, s6, s7, s8, s9, s10⟩ := op_of (Y.block HB3.out)
            obtain ⟨q1, q2, q3, q4, q5, q6, q7, q8, q9⟩ := HEL.out W' (X3.out.trans Y)
            exact ⟨s1, s2, s3, s4, s5, s6, s7, s8, q1, q2, q3, q4, q5, q6, q7, q8⟩)
          have C1 := hid (fun W' (Y : Ext V3 W') => plays_any W' kd k1 n1 x1 a1 kl1 c1 k2 n2 x2 a2 kl2 c2 pa9 pc9 p st (HT3.out.1.later Y) (HU3.out.1.later Y) (HI3.out.later Y) (by have := HPL.out; omega) HCAP.out)
          have C2 := hid (fun W' (Y : Ext V3 W') => eqPath_any pa9 pa pc9 pc p p W' (by have := HPL.out; omega) (by have := HPL.out; omega) (HI3.out.later Y) (HI.out.later (X3.out.trans Y)))
          simp only [decide_true] at C2
          go_cut [56] from 9 to 82 (fun s56 wx => s56 = .bool false ∧ Ext V3 wx)
          case first =>
            have HS0 := HSP.out V3 (Ext.refl V3)
            go_region_held3 (fun W' => W'.cell? ⟨wr.heap.size, 0, none⟩ = some (.int .i64 kd) ∧ W'.cell? ⟨wr.heap.size, 1, none⟩ = some (.string k1) ∧ W'.cell? ⟨wr.heap.size, 2, none⟩ = some (.int .i64 n1) ∧ W'.cell? ⟨wr.heap.size, 3, none⟩ = some (.string x1) ∧ W'.cell? ⟨wr.heap.size, 4, none⟩ = some (.slice a1 kl1 c1) ∧ W'.cell? ⟨wr.heap.size, 5, none⟩ = some (.string k2) ∧ W'.cell? ⟨wr.heap.size, 6, none⟩ = some (.int .i64 n2) ∧ W'.cell? ⟨wr.heap.size, 7, none⟩ = some (.string x2) ∧ W'.cell? ⟨wr.heap.size, 8, none⟩ = some (.slice a2 kl2 c2) ∧ W'.cell? ⟨wr.heap.size, 9, none⟩ = some (.slice pa9 p.length pc9) ∧ W'.cell? ⟨wr.heap.size, 10, none⟩ = some (.int .i64 st) ∧ W'.cell? ⟨g, off + j * 11 + 9, none⟩ = some (.slice pa p.length pc))
              (first | exact SK2 | exact SK1 | exact HS0 | (refine HSP.out _ ?_; (repeat (first | with_reducible exact Ext.refl _ | with_reducible refine Ext.drew ?_)); done) | go_keep)
              (first
                | (go_at_call 11; refine (C1.out _ (by repeat (first | with_reducible exact Ext.refl _ | with_reducible refine Ext.drew ?_))).mono ?_; rintro e w1 ⟨rfl, hx1⟩; have Z1 : Ext V3 w1 := Ext.trans (by repeat (first | with_reducible exact Ext.refl _ | with_reducible refine Ext.drew ?_)) hx1; have SK1 := HSP.out w1 Z1)
                | (go_at_call 12; refine (C2.out _ (by repeat (first | with_reducible exact Z1 | with_reducible refine Ext.drew ?_))).mono ?_; rintro e w2 ⟨rfl, hx2⟩; have Z2 : Ext V3 w2 := Ext.trans (by repeat (first | with_reducible exact Z1 | with_reducible refine Ext.drew ?_)) hx2; have SK2 := HSP.out w2 Z2))
            all_goals
              go_wp2_with fail
              go_meet
              case rel => exact ⟨rfl, Z2⟩
          case rest =>
          obtain ⟨rfl, hxc⟩ := hcut
          obtain ⟨V4, rfl⟩ : ∃ V4, V4 = wc := ⟨wc, rfl⟩
          have X4 := hid hxc
          clear hxc HSP C1 C2
          have C1 := hid (fun (h : A = true) W' (Y : Ext V3 W') => kept_any W' ((HT3.out.2 h).later Y) (HRT.out.later (X3.out.trans Y)))
          have C2 := hid (fun (h : B = true) W' (Y : Ext V3 W') => kept_any W' ((HU3.out.2 h).later Y) (HRU.out.later (X3.out.trans Y)))
          go_upto_region 15 with fail
          go_cut [82] from 9 to 82 (fun s82 wx => s82 = .bool false ∧ Ext V3 wx)
          case first =>
            have HS0 := HSQ.out V4 X4.out
            have Z0 := X4.out
            cases A with
            | true =>
              have D1 := hid (C1.out rfl)
              cases B with
              | true =>
                have D2 := hid (C2.out rfl)
                refine wp_region_held_drew (S := fun W' => W'.cell? ⟨wr.heap.size, 1, none⟩ = some (.string k1) ∧ W'.cell? ⟨wr.heap.size, 2, none⟩ = some (.int .i64 n1) ∧ W'.cell? ⟨wr.heap.size, 3, none⟩ = some (.string x1) ∧ W'.cell? ⟨wr.heap.size, 4, none⟩ = some (.slice a1 kl1 c1) ∧ W'.cell? ⟨wr.heap.size, 5, none⟩ = some (.string k2) ∧ W'.cell? ⟨wr.heap.size, 6, none⟩ = some (.int .i64 n2) ∧ W'.cell? ⟨wr.heap.size, 7, none⟩ = some (.string x2) ∧ W'.cell? ⟨wr.heap.size, 8, none⟩ = some (.slice a2 kl2 c2) ∧ W'.cell? ⟨g, off + j * 11 + 1, none⟩ = some (.string k) ∧ W'.cell? ⟨g, off + j * 11 + 2, none⟩ = some (.int .i64 nn) ∧ W'.cell? ⟨g, off + j * 11 + 3, none⟩ = some (.string x) ∧ W'.cell? ⟨g, off + j * 11 + 4, none⟩ = some (.slice aa kl cc) ∧ W'.cell? ⟨g, off + j * 11 + 5, none⟩ = some (.string k') ∧ W'.cell? ⟨g, off + j * 11 + 6, none⟩ = some (.int .i64 n') ∧ W'.cell? ⟨g, off + j * 11 + 7, none⟩ = some (.string x') ∧ W'.cell? ⟨g, off + j * 11 + 8, none⟩ = some (.slice a' kl' c')) (by kernel_rfl) (HSQ.out _ Z0.drew) (fun hHeld => ?_)
                refine wpAnyH_take (i := 0) (v := .bool true) rfl (by kernel_rfl) (by kernel_rfl) (by kernel_rfl) (fun _ _ _ h => h) (Or.inl ⟨by kernel_rfl, ?hax0⟩) (by assumption) ?rax0
                case hax0 => (intro w hSw; (try dsimp only at hSw); go_simp; try with_reducible rfl)
                try simp only [Act.put, List.getElem_toArray, List.getElem_cons_zero, List.setIfInBounds_toArray, List.set_cons_zero, List.set_cons_succ]
                refine wpAnyH_take (i := 1) (v := .bool true) rfl (by kernel_rfl) (by kernel_rfl) (by kernel_rfl) (fun _ _ _ h => h) (Or.inl ⟨by kernel_rfl, ?hax1⟩) (by assumption) ?rax1
                case hax1 => (intro w hSw; (try dsimp only at hSw); go_simp; try with_reducible rfl)
                try simp only [Act.put, List.getElem_toArray, List.getElem_cons_zero, List.getElem_cons_succ, List.setIfInBounds_toArray, List.set_cons_zero, List.set_cons_succ]
                refine wpAnyH_take (i := 2) (v := ?vax2) rfl (by kernel_rfl) (by kernel_rfl) (by kernel_rfl) (fun _ _ _ h => h) (Or.inl ⟨by kernel_rfl, ?hax2⟩) (by assumption) ?rax2
                case hax2 => (intro w hSw; (try dsimp only at hSw); go_simp; try with_reducible rfl)
                try simp only [Act.put, List.getElem_toArray, List.getElem_cons_zero, List.getElem_cons_succ, List.setIfInBounds_toArray, List.set_cons_zero, List.set_cons_succ]
                refine wpAnyH_take (i := 3) (v := ?vax3) rfl (by kernel_rfl) (by kernel_rfl) (by kernel_rfl) (fun _ _ _ h => h) (Or.inl ⟨by kernel_rfl, ?hax3⟩) (by assumption) ?rax3
                case hax3 => (intro w hSw; (try dsimp only at hSw); go_simp; try with_reducible rfl)
                try simp only [Act.put, List.getElem_toArray, List.getElem_cons_zero, List.getElem_cons_succ, List.setIfInBounds_toArray, List.set_cons_zero, List.set_cons_succ]
                refine wpAnyH_take (i := 4) (v := ?vax4) rfl (by kernel_rfl) (by kernel_rfl) (by kernel_rfl) (fun _ _ _ h => h) (Or.inl ⟨by kernel_rfl, ?hax4⟩) (by assumption) ?rax4
                case hax4 => (intro w hSw; (try dsimp only at hSw); go_simp; try with_reducible rfl)
                try simp only [Act.put, List.getElem_toArray, List.getElem_cons_zero, List.getElem_cons_succ, List.setIfInBounds_toArray, List.set_cons_zero, List.set_cons_succ]
                refine wpAnyH_take (i := 5) (v := ?vax5) rfl (by kernel_rfl) (by kernel_rfl) (by kernel_rfl) (fun _ _ _ h => h) (Or.inl ⟨by kernel_rfl, ?hax5⟩) (by assumption) ?rax5
                case hax5 => (intro w hSw; (try dsimp only at hSw); go_simp; try with_reducible rfl)
                try simp only [Act.put, List.getElem_toArray, List.getElem_cons_zero, List.getElem_cons_succ, List.setIfInBounds_toArray, List.set_cons_zero, List.set_cons_succ]
                refine wpAnyH_take (i := 6) (v := ?vax6) rfl (by kernel_rfl) (by kernel_rfl) (by kernel_rfl) (fun _ _ _ h => h) (Or.inl ⟨by kernel_rfl, ?hax6⟩) (by assumption) ?rax6
                case hax6 => (intro w hSw; (try dsimp only at hSw); go_simp; try with_reducible rfl)
                try simp only [Act.put, List.getElem_toArray, List.getElem_cons_zero, List.getElem_cons_succ, List.setIfInBounds_toArray, List.set_cons_zero, List.set_cons_succ]
                refine wpAnyH_take (i := 7) (v := ?vax7) rfl (by kernel_rfl) (by kernel_rfl) (by kernel_rfl) (fun _ _ _ h => h) (Or.inl ⟨by kernel_rfl, ?hax7⟩) (by assumption) ?rax7
                case hax7 => (intro w hSw; (try dsimp only at hSw); go_simp; try with_reducible rfl)
                try simp only [Act.put, List.getElem_toArray, List.getElem_cons_zero, List.getElem_cons_succ, List.setIfInBounds_toArray, List.set_cons_zero, List.set_cons_succ]
                refine wpAnyH_take (i := 8) (v := ?vax8) rfl (by kernel_rfl) (by kernel_rfl) (by kernel_rfl) (fun _ _ _ h => h) (Or.inl ⟨by kernel_rfl, ?hax8⟩) (by assumption) ?rax8
                case hax8 => (intro w hSw; (try dsimp only at hSw); go_simp; try with_reducible rfl)
                try simp only [Act.put, List.getElem_toArray, List.getElem_cons_zero, List.getElem_cons_succ, List.setIfInBounds_toArray, List.set_cons_zero, List.set_cons_succ]
                refine wpAnyH_ready (rs := [9]) (by kernel_rfl) (by simp) ?_
                refine AllReadyH.cons rfl (fun K hK => ?_) AllReadyH.nil
                go_simp
                refine (D1.out _ Z0.drew).mono ?_
                rintro e w1 ⟨rfl, hx1⟩
                have Z1 : Ext V3 w1 := Ext.trans Z0.drew hx1
                show K _ _
                refine hK.out _ _ (HSQ.out _ Z1) (fun hHeld1 => ?_)
                clear hK K
                try simp only [Act.put, List.getElem_toArray, List.getElem_cons_zero, List.getElem_cons_succ, List.setIfInBounds_toArray, List.set_cons_zero, List.set_cons_succ]
                refine wpAnyH_take (i := 10) (v := .bool false) rfl (by kernel_rfl) (by kernel_rfl) (by kernel_rfl) (fun _ _ _ h => h) (Or.inl ⟨by kernel_rfl, ?hax10⟩) (by assumption) ?rax10
                case hax10 => (intro w hSw; (try dsimp only at hSw); go_simp; try with_reducible rfl)
                try simp only [Act.put, List.getElem_toArray, List.getElem_cons_zero, List.getElem_cons_succ, List.setIfInBounds_toArray, List.set_cons_zero, List.set_cons_succ]
                refine wpAnyH_take (i := 11) (v := .bool false) rfl (by kernel_rfl) (by kernel_rfl) (by kernel_rfl) (fun _ _ _ h => h) (Or.inl ⟨by kernel_rfl, ?hax11⟩) (by assumption) ?rax11
                case hax11 => (intro w hSw; (try dsimp only at hSw); go_simp; try with_reducible rfl)
                try simp only [Act.put, List.getElem_toArray, List.getElem_cons_zero, List.getElem_cons_succ, List.setIfInBounds_toArray, List.set_cons_zero, List.set_cons_succ]
                refine wpAnyH_take (i := 12) (v := .bool false) rfl (by kernel_rfl) (by kernel_rfl) (by kernel_rfl) (fun _ _ _ h => h) (Or.inl ⟨by kernel_rfl, ?hax12⟩) (by assumption) ?rax12
                case hax12 => (intro w hSw; (try dsimp only at hSw); go_simp; try with_reducible rfl)
                try simp only [Act.put, List.getElem_toArray, List.getElem_cons_zero, List.getElem_cons_succ, List.setIfInBounds_toArray, List.set_cons_zero, List.set_cons_succ]
                refine wpAnyH_take (i := 13) (v := .bool true) rfl (by kernel_rfl) (by kernel_rfl) (by kernel_rfl) (fun _ _ _ h => h) (Or.inl ⟨by kernel_rfl, ?hax13⟩) (by assumption) ?rax13
                case hax13 => (intro w hSw; (try dsimp only at hSw); go_simp; try with_reducible rfl)
                try simp only [Act.put, List.getElem_toArray, List.getElem_cons_zero, List.getElem_cons_succ, List.setIfInBounds_toArray, List.set_cons_zero, List.set_cons_succ]
                refine wpAnyH_take (i := 14) (v := .bool true) rfl (by kernel_rfl) (by kernel_rfl) (by kernel_rfl) (fun _ _ _ h => h) (Or.inl ⟨by kernel_rfl, ?hax14⟩) (by assumption) ?rax14
                case hax14 => (intro w hSw; (try dsimp only at hSw); go_simp; try with_reducible rfl)
                try simp only [Act.put, List.getElem_toArray, List.getElem_cons_zero, List.getElem_cons_succ, List.setIfInBounds_toArray, List.set_cons_zero, List.set_cons_succ]
                refine wpAnyH_take (i := 15) (v := ?vax15) rfl (by kernel_rfl) (by kernel_rfl) (by kernel_rfl) (fun _ _ _ h => h) (Or.inl ⟨by kernel_rfl, ?hax15⟩) (by assumption) ?rax15
                case hax15 => (intro w hSw; (try dsimp only at hSw); go_simp; try with_reducible rfl)
                try simp only [Act.put, List.getElem_toArray, List.getElem_cons_zero, List.getElem_cons_succ, List.setIfInBounds_toArray, List.set_cons_zero, List.set_cons_succ]
                refine wpAnyH_take (i := 16) (v := ?vax16) rfl (by kernel_rfl) (by kernel_rfl) (by kernel_rfl) (fun _ _ _ h => h) (Or.inl ⟨by kernel_rfl, ?hax16⟩) (by assumption) ?rax16
                case hax16 => (intro w hSw; (try dsimp only at hSw); go_simp; try with_reducible rfl)
                try simp only [Act.put, List.getElem_toArray, List.getElem_cons_zero, List.getElem_cons_succ, List.setIfInBounds_toArray, List.set_cons_zero, List.set_cons_succ]
                refine wpAnyH_take (i := 17) (v := ?vax17) rfl (by kernel_rfl) (by kernel_rfl) (by kernel_rfl) (fun _ _ _ h => h) (Or.inl ⟨by kernel_rfl, ?hax17⟩) (by assumption) ?rax17
                case hax17 => (intro w hSw; (try dsimp only at hSw); go_simp; try with_reducible rfl)
                try simp only [Act.put, List.getElem_toArray, List.getElem_cons_zero, List.getElem_cons_succ, List.setIfInBounds_toArray, List.set_cons_zero, List.set_cons_succ]
                refine wpAnyH_take (i := 18) (v := ?vax18) rfl (by kernel_rfl) (by kernel_rfl) (by kernel_rfl) (fun _ _ _ h => h) (Or.inl ⟨by kernel_rfl, ?hax18⟩) (by assumption) ?rax18
                case hax18 => (intro w hSw; (try dsimp only at hSw); go_simp; try with_reducible rfl)
                try simp only [Act.put, List.getElem_toArray, List.getElem_cons_zero, List.getElem_cons_succ, List.setIfInBounds_toArray, List.set_cons_zero, List.set_cons_succ]
                refine wpAnyH_take (i := 19) (v := ?vax19) rfl (by kernel_rfl) (by kernel_rfl) (by kernel_rfl) (fun _ _ _ h => h) (Or.inl ⟨by kernel_rfl, ?hax19⟩) (by assumption) ?rax19
                case hax19 => (intro w hSw; (try dsimp only at hSw); go_simp; try with_reducible rfl)
                try simp only [Act.put, List.getElem_toArray, List.getElem_cons_zero, List.getElem_cons_succ, List.setIfInBounds_toArray, List.set_cons_zero, List.set_cons_succ]
                refine wpAnyH_take (i := 20) (v := ?vax20) rfl (by kernel_rfl) (by kernel_rfl) (by kernel_rfl) (fun _ _ _ h => h) (Or.inl ⟨by kernel_rfl, ?hax20⟩) (by assumption) ?rax20
                case hax20 => (intro w hSw; (try dsimp only at hSw); go_simp; try with_reducible rfl)
                try simp only [Act.put, List.getElem_toArray, List.getElem_cons_zero, List.getElem_cons_succ, List.setIfInBounds_toArray, List.set_cons_zero, List.set_cons_succ]
                refine wpAnyH_take (i := 21) (v := ?vax21) rfl (by kernel_rfl) (by kernel_rfl) (by kernel_rfl) (fun _ _ _ h => h) (Or.inl ⟨by kernel_rfl, ?hax21⟩) (by assumption) ?rax21
                case hax21 => (intro w hSw; (try dsimp only at hSw); go_simp; try with_reducible rfl)
                try simp only [Act.put, List.getElem_toArray, List.getElem_cons_zero, List.getElem_cons_succ, List.setIfInBounds_toArray, List.set_cons_zero, List.set_cons_succ]
                refine wpAnyH_ready (rs := [22]) (by kernel_rfl) (by simp) ?_
                refine AllReadyH.cons rfl (fun K hK => ?_) AllReadyH.nil
                go_simp
                refine (D2.out _ Z1).mono ?_
                rintro e w2 ⟨rfl, hx2⟩
                have Z2 : Ext V3 w2 := Ext.trans Z1 hx2
                show K _ _
                refine hK.out _ _ (HSQ.out _ Z2) (fun hHeld2 => ?_)
                clear hK K
                try simp only [Act.put, List.getElem_toArray, List.getElem_cons_zero, List.getElem_cons_succ, List.setIfInBounds_toArray, List.set_cons_zero, List.set_cons_succ]
                refine wpAnyH_take (i := 23) (v := .bool false) rfl (by kernel_rfl) (by kernel_rfl) (by kernel_rfl) (fun _ _ _ h => h) (Or.inl ⟨by kernel_rfl, ?hax23⟩) (by assumption) ?rax23
                case hax23 => (intro w hSw; (try dsimp only at hSw); go_simp; try with_reducible rfl)
                try simp only [Act.put, List.getElem_toArray, List.getElem_cons_zero, List.getElem_cons_succ, List.setIfInBounds_toArray, List.set_cons_zero, List.set_cons_succ]
                refine wpAnyH_take (i := 24) (v := .bool false) rfl (by kernel_rfl) (by kernel_rfl) (by kernel_rfl) (fun _ _ _ h => h) (Or.inl ⟨by kernel_rfl, ?hax24⟩) (by assumption) ?rax24
                case hax24 => (intro w hSw; (try dsimp only at hSw); go_simp; try with_reducible rfl)
                try simp only [Act.put, List.getElem_toArray, List.getElem_cons_zero, List.getElem_cons_succ, List.setIfInBounds_toArray, List.set_cons_zero, List.set_cons_succ]
                refine wpAnyH_take (i := 25) (v := .bool false) rfl (by kernel_rfl) (by kernel_rfl) (by kernel_rfl) (fun _ _ _ h => h) (Or.inl ⟨by kernel_rfl, ?hax25⟩) (by assumption) ?rax25
                case hax25 => (intro w hSw; (try dsimp only at hSw); go_simp; try with_reducible rfl)
                try simp only [Act.put, List.getElem_toArray, List.getElem_cons_zero, List.getElem_cons_succ, List.setIfInBounds_toArray, List.set_cons_zero, List.set_cons_succ]
                refine wpAnyH_done (by kernel_rfl) ?_ _
                go_wp2_with fail
                go_meet
                case rel => exact ⟨rfl, Z2⟩
              | false =>
                refine wp_region_held_drew (S := fun W' => W'.cell? ⟨wr.heap.size, 1, none⟩ = some (.string k1) ∧ W'.cell? ⟨wr.heap.size, 2, none⟩ = some (.int .i64 n1) ∧ W'.cell? ⟨wr.heap.size, 3, none⟩ = some (.string x1) ∧ W'.cell? ⟨wr.heap.size, 4, none⟩ = some (.slice a1 kl1 c1) ∧ W'.cell? ⟨wr.heap.size, 5, none⟩ = some (.string k2) ∧ W'.cell? ⟨wr.heap.size, 6, none⟩ = some (.int .i64 n2) ∧ W'.cell? ⟨wr.heap.size, 7, none⟩ = some (.string x2) ∧ W'.cell? ⟨wr.heap.size, 8, none⟩ = some (.slice a2 kl2 c2) ∧ W'.cell? ⟨g, off + j * 11 + 1, none⟩ = some (.string k) ∧ W'.cell? ⟨g, off + j * 11 + 2, none⟩ = some (.int .i64 nn) ∧ W'.cell? ⟨g, off + j * 11 + 3, none⟩ = some (.string x) ∧ W'.cell? ⟨g, off + j * 11 + 4, none⟩ = some (.slice aa kl cc) ∧ W'.cell? ⟨g, off + j * 11 + 5, none⟩ = some (.string k') ∧ W'.cell? ⟨g, off + j * 11 + 6, none⟩ = some (.int .i64 n') ∧ W'.cell? ⟨g, off + j * 11 + 7, none⟩ = some (.string x') ∧ W'.cell? ⟨g, off + j * 11 + 8, none⟩ = some (.slice a' kl' c')) (by kernel_rfl) (HSQ.out _ Z0.drew) (fun hHeld => ?_)
                refine wpAnyH_take (i := 0) (v := .bool true) rfl (by kernel_rfl) (by kernel_rfl) (by kernel_rfl) (fun _ _ _ h => h) (Or.inl ⟨by kernel_rfl, ?hbx0⟩) (by assumption) ?rbx0
                case hbx0 => (intro w hSw; (try dsimp only at hSw); go_simp; try with_reducible rfl)
                try simp only [Act.put, List.getElem_toArray, List.getElem_cons_zero, List.setIfInBounds_toArray, List.set_cons_zero, List.set_cons_succ]
                refine wpAnyH_take (i := 1) (v := .bool true) rfl (by kernel_rfl) (by kernel_rfl) (by kernel_rfl) (fun _ _ _ h => h) (Or.inl ⟨by kernel_rfl, ?hbx1⟩) (by assumption) ?rbx1
                case hbx1 => (intro w hSw; (try dsimp only at hSw); go_simp; try with_reducible rfl)
                try simp only [Act.put, List.getElem_toArray, List.getElem_cons_zero, List.getElem_cons_succ, List.setIfInBounds_toArray, List.set_cons_zero, List.set_cons_succ]
                refine wpAnyH_take (i := 2) (v := ?vbx2) rfl (by kernel_rfl) (by kernel_rfl) (by kernel_rfl) (fun _ _ _ h => h) (Or.inl ⟨by kernel_rfl, ?hbx2⟩) (by assumption) ?rbx2
                case hbx2 => (intro w hSw; (try dsimp only at hSw); go_simp; try with_reducible rfl)
                try simp only [Act.put, List.getElem_toArray, List.getElem_cons_zero, List.getElem_cons_succ, List.setIfInBounds_toArray, List.set_cons_zero, List.set_cons_succ]
                refine wpAnyH_take (i := 3) (v := ?vbx3) rfl (by kernel_rfl) (by kernel_rfl) (by kernel_rfl) (fun _ _ _ h => h) (Or.inl ⟨by kernel_rfl, ?hbx3⟩) (by assumption) ?rbx3
                case hbx3 => (intro w hSw; (try dsimp only at hSw); go_simp; try with_reducible rfl)
                try simp only [Act.put, List.getElem_toArray, List.getElem_cons_zero, List.getElem_cons_succ, List.setIfInBounds_toArray, List.set_cons_zero, List.set_cons_succ]
                refine wpAnyH_take (i := 4) (v := ?vbx4) rfl (by kernel_rfl) (by kernel_rfl) (by kernel_rfl) (fun _ _ _ h => h) (Or.inl ⟨by kernel_rfl, ?hbx4⟩) (by assumption) ?rbx4
                case hbx4 => (intro w hSw; (try dsimp only at hSw); go_simp; try with_reducible rfl)
                try simp only [Act.put, List.getElem_toArray, List.getElem_cons_zero, List.getElem_cons_succ, List.setIfInBounds_toArray, List.set_cons_zero, List.set_cons_succ]
                refine wpAnyH_take (i := 5) (v := ?vbx5) rfl (by kernel_rfl) (by kernel_rfl) (by kernel_rfl) (fun _ _ _ h => h) (Or.inl ⟨by kernel_rfl, ?hbx5⟩) (by assumption) ?rbx5
                case hbx5 => (intro w hSw; (try dsimp only at hSw); go_simp; try with_reducible rfl)
                try simp only [Act.put, List.getElem_toArray, List.getElem_cons_zero, List.getElem_cons_succ, List.setIfInBounds_toArray, List.set_cons_zero, List.set_cons_succ]
                refine wpAnyH_take (i := 6) (v := ?vbx6) rfl (by kernel_rfl) (by kernel_rfl) (by kernel_rfl) (fun _ _ _ h => h) (Or.inl ⟨by kernel_rfl, ?hbx6⟩) (by assumption) ?rbx6
                case hbx6 => (intro w hSw; (try dsimp only at hSw); go_simp; try with_reducible rfl)
                try simp only [Act.put, List.getElem_toArray, List.getElem_cons_zero, List.getElem_cons_succ, List.setIfInBounds_toArray, List.set_cons_zero, List.set_cons_succ]
                refine wpAnyH_take (i := 7) (v := ?vbx7) rfl (by kernel_rfl) (by kernel_rfl) (by kernel_rfl) (fun _ _ _ h => h) (Or.inl ⟨by kernel_rfl, ?hbx7⟩) (by assumption) ?rbx7
                case hbx7 => (intro w hSw; (try dsimp only at hSw); go_simp; try with_reducible rfl)
                try simp only [Act.put, List.getElem_toArray, List.getElem_cons_zero, List.getElem_cons_succ, List.setIfInBounds_toArray, List.set_cons_zero, List.set_cons_succ]
                refine wpAnyH_take (i := 8) (v := ?vbx8) rfl (by kernel_rfl) (by kernel_rfl) (by kernel_rfl) (fun _ _ _ h => h) (Or.inl ⟨by kernel_rfl, ?hbx8⟩) (by assumption) ?rbx8
                case hbx8 => (intro w hSw; (try dsimp only at hSw); go_simp; try with_reducible rfl)
                try simp only [Act.put, List.getElem_toArray, List.getElem_cons_zero, List.getElem_cons_succ, List.setIfInBounds_toArray, List.set_cons_zero, List.set_cons_succ]
                refine wpAnyH_ready (rs := [9]) (by kernel_rfl) (by simp) ?_
                refine AllReadyH.cons rfl (fun K hK => ?_) AllReadyH.nil
                go_simp
                refine (D1.out _ Z0.drew).mono ?_
                rintro e w1 ⟨rfl, hx1⟩
                have Z1 : Ext V3 w1 := Ext.trans Z0.drew hx1
                show K _ _
                refine hK.out _ _ (HSQ.out _ Z1) (fun hHeld1 => ?_)
                clear hK K
                try simp only [Act.put, List.getElem_toArray, List.getElem_cons_zero, List.getElem_cons_succ, List.setIfInBounds_toArray, List.set_cons_zero, List.set_cons_succ]
                refine wpAnyH_take (i := 10) (v := .bool false) rfl (by kernel_rfl) (by kernel_rfl) (by kernel_rfl) (fun _ _ _ h => h) (Or.inl ⟨by kernel_rfl, ?hbx10⟩) (by assumption) ?rbx10
                case hbx10 => (intro w hSw; (try dsimp only at hSw); go_simp; try with_reducible rfl)
                try simp only [Act.put, List.getElem_toArray, List.getElem_cons_zero, List.getElem_cons_succ, List.setIfInBounds_toArray, List.set_cons_zero, List.set_cons_succ]
                refine wpAnyH_take (i := 11) (v := .bool false) rfl (by kernel_rfl) (by kernel_rfl) (by kernel_rfl) (fun _ _ _ h => h) (Or.inl ⟨by kernel_rfl, ?hbx11⟩) (by assumption) ?rbx11
                case hbx11 => (intro w hSw; (try dsimp only at hSw); go_simp; try with_reducible rfl)
                try simp only [Act.put, List.getElem_toArray, List.getElem_cons_zero, List.getElem_cons_succ, List.setIfInBounds_toArray, List.set_cons_zero, List.set_cons_succ]
                refine wpAnyH_take (i := 12) (v := .bool false) rfl (by kernel_rfl) (by kernel_rfl) (by kernel_rfl) (fun _ _ _ h => h) (Or.inl ⟨by kernel_rfl, ?hbx12⟩) (by assumption) ?rbx12
                case hbx12 => (intro w hSw; (try dsimp only at hSw); go_simp; try with_reducible rfl)
                try simp only [Act.put, List.getElem_toArray, List.getElem_cons_zero, List.getElem_cons_succ, List.setIfInBounds_toArray, List.set_cons_zero, List.set_cons_succ]
                refine wpAnyH_take (i := 13) (v := .bool false) rfl (by kernel_rfl) (by kernel_rfl) (by kernel_rfl) (fun _ _ _ h => h) (Or.inl ⟨by kernel_rfl, ?hbx13⟩) (by assumption) ?rbx13
                case hbx13 => (intro w hSw; (try dsimp only at hSw); go_simp; try with_reducible rfl)
                try simp only [Act.put, List.getElem_toArray, List.getElem_cons_zero, List.getElem_cons_succ, List.setIfInBounds_toArray, List.set_cons_zero, List.set_cons_succ]
                refine wpAnyH_take (i := 14) (v := .bool false) rfl (by kernel_rfl) (by kernel_rfl) (by kernel_rfl) (fun _ _ _ h => h) (Or.inl ⟨by kernel_rfl, ?hbx14⟩) (by assumption) ?rbx14
                case hbx14 => (intro w hSw; (try dsimp only at hSw); go_simp; try with_reducible rfl)
                try simp only [Act.put, List.getElem_toArray, List.getElem_cons_zero, List.getElem_cons_succ, List.setIfInBounds_toArray, List.set_cons_zero, List.set_cons_succ]
                refine wpAnyH_take (i := 15) (v := undef) rfl (by kernel_rfl) (by kernel_rfl) (by kernel_rfl) (fun _ _ _ h => h) (Or.inr ⟨by kernel_rfl, rfl⟩) (by assumption) ?rbx15
                try simp only [Act.put, List.getElem_toArray, List.getElem_cons_zero, List.getElem_cons_succ, List.setIfInBounds_toArray, List.set_cons_zero, List.set_cons_succ]
                refine wpAnyH_take (i := 16) (v := undef) rfl (by kernel_rfl) (by kernel_rfl) (by kernel_rfl) (fun _ _ _ h => h) (Or.inr ⟨by kernel_rfl, rfl⟩) (by assumption) ?rbx16
                try simp only [Act.put, List.getElem_toArray, List.getElem_cons_zero, List.getElem_cons_succ, List.setIfInBounds_toArray, List.set_cons_zero, List.set_cons_succ]
                refine wpAnyH_take (i := 17) (v := undef) rfl (by kernel_rfl) (by kernel_rfl) (by kernel_rfl) (fun _ _ _ h => h) (Or.inr ⟨by kernel_rfl, rfl⟩) (by assumption) ?rbx17
                try simp only [Act.put, List.getElem_toArray, List.getElem_cons_zero, List.getElem_cons_succ, List.setIfInBounds_toArray, List.set_cons_zero, List.set_cons_succ]
                refine wpAnyH_take (i := 18) (v := undef) rfl (by kernel_rfl) (by kernel_rfl) (by kernel_rfl) (fun _ _ _ h => h) (Or.inr ⟨by kernel_rfl, rfl⟩) (by assumption) ?rbx18
                try simp only [Act.put, List.getElem_toArray, List.getElem_cons_zero, List.getElem_cons_succ, List.setIfInBounds_toArray, List.set_cons_zero, List.set_cons_succ]
                refine wpAnyH_take (i := 19) (v := undef) rfl (by kernel_rfl) (by kernel_rfl) (by kernel_rfl) (fun _ _ _ h => h) (Or.inr ⟨by kernel_rfl, rfl⟩) (by assumption) ?rbx19
                try simp only [Act.put, List.getElem_toArray, List.getElem_cons_zero, List.getElem_cons_succ, List.setIfInBounds_toArray, List.set_cons_zero, List.set_cons_succ]
                refine wpAnyH_take (i := 20) (v := undef) rfl (by kernel_rfl) (by kernel_rfl) (by kernel_rfl) (fun _ _ _ h => h) (Or.inr ⟨by kernel_rfl, rfl⟩) (by assumption) ?rbx20
                try simp only [Act.put, List.getElem_toArray, List.getElem_cons_zero, List.getElem_cons_succ, List.setIfInBounds_toArray, List.set_cons_zero, List.set_cons_succ]
                refine wpAnyH_take (i := 21) (v := undef) rfl (by kernel_rfl) (by kernel_rfl) (by kernel_rfl) (fun _ _ _ h => h) (Or.inr ⟨by kernel_rfl, rfl⟩) (by assumption) ?rbx21
                try simp only [Act.put, List.getElem_toArray, List.getElem_cons_zero, List.getElem_cons_succ, List.setIfInBounds_toArray, List.set_cons_zero, List.set_cons_succ]
                refine wpAnyH_take (i := 22) (v := undef) rfl (by kernel_rfl) (by kernel_rfl) (by kernel_rfl) (fun _ _ _ h => h) (Or.inr ⟨by kernel_rfl, rfl⟩) (by assumption) ?rbx22
                try simp only [Act.put, List.getElem_toArray, List.getElem_cons_zero, List.getElem_cons_succ, List.setIfInBounds_toArray, List.set_cons_zero, List.set_cons_succ]
                refine wpAnyH_take (i := 23) (v := undef) rfl (by kernel_rfl) (by kernel_rfl) (by kernel_rfl) (fun _ _ _ h => h) (Or.inr ⟨by kernel_rfl, rfl⟩) (by assumption) ?rbx23
                try simp only [Act.put, List.getElem_toArray, List.getElem_cons_zero, List.getElem_cons_succ, List.setIfInBounds_toArray, List.set_cons_zero, List.set_cons_succ]
                refine wpAnyH_take (i := 24) (v := .bool false) rfl (by kernel_rfl) (by kernel_rfl) (by kernel_rfl) (fun _ _ _ h => h) (Or.inl ⟨by kernel_rfl, ?hbx24⟩) (by assumption) ?rbx24
                case hbx24 => (intro w hSw; (try dsimp only at hSw); go_simp; try with_reducible rfl)
                try simp only [Act.put, List.getElem_toArray, List.getElem_cons_zero, List.getElem_cons_succ, List.setIfInBounds_toArray, List.set_cons_zero, List.set_cons_succ]
                refine wpAnyH_take (i := 25) (v := .bool false) rfl (by kernel_rfl) (by kernel_rfl) (by kernel_rfl) (fun _ _ _ h => h) (Or.inl ⟨by kernel_rfl, ?hbx25⟩) (by assumption) ?rbx25
                case hbx25 => (intro w hSw; (try dsimp only at hSw); go_simp; try with_reducible rfl)
                try simp only [Act.put, List.getElem_toArray, List.getElem_cons_zero, List.getElem_cons_succ, List.setIfInBounds_toArray, List.set_cons_zero, List.set_cons_succ]
                refine wpAnyH_done (by kernel_rfl) ?_ _
                go_wp2_with fail
                go_meet
                case rel => exact ⟨rfl, Z1⟩
            | false =>
              cases B with
              | true =>
                have D2 := hid (C2.out rfl)
                refine wp_region_held_drew (S := fun W' => W'.cell? ⟨wr.heap.size, 1, none⟩ = some (.string k1) ∧ W'.cell? ⟨wr.heap.size, 2, none⟩ = some (.int .i64 n1) ∧ W'.cell? ⟨wr.heap.size, 3, none⟩ = some (.string x1) ∧ W'.cell? ⟨wr.heap.size, 4, none⟩ = some (.slice a1 kl1 c1) ∧ W'.cell? ⟨wr.heap.size, 5, none⟩ = some (.string k2) ∧ W'.cell? ⟨wr.heap.size, 6, none⟩ = some (.int .i64 n2) ∧ W'.cell? ⟨wr.heap.size, 7, none⟩ = some (.string x2) ∧ W'.cell? ⟨wr.heap.size, 8, none⟩ = some (.slice a2 kl2 c2) ∧ W'.cell? ⟨g, off + j * 11 + 1, none⟩ = some (.string k) ∧ W'.cell? ⟨g, off + j * 11 + 2, none⟩ = some (.int .i64 nn) ∧ W'.cell? ⟨g, off + j * 11 + 3, none⟩ = some (.string x) ∧ W'.cell? ⟨g, off + j * 11 + 4, none⟩ = some (.slice aa kl cc) ∧ W'.cell? ⟨g, off + j * 11 + 5, none⟩ = some (.string k') ∧ W'.cell? ⟨g, off + j * 11 + 6, none⟩ = some (.int .i64 n') ∧ W'.cell? ⟨g, off + j * 11 + 7, none⟩ = some (.string x') ∧ W'.cell? ⟨g, off + j * 11 + 8, none⟩ = some (.slice a' kl' c')) (by kernel_rfl) (HSQ.out _ Z0.drew) (fun hHeld => ?_)
                refine wpAnyH_take (i := 0) (v := .bool false) rfl (by kernel_rfl) (by kernel_rfl) (by kernel_rfl) (fun _ _ _ h => h) (Or.inl ⟨by kernel_rfl, ?hcx0⟩) (by assumption) ?rcx0
                case hcx0 => (intro w hSw; (try dsimp only at hSw); go_simp; try with_reducible rfl)
                try simp only [Act.put, List.getElem_toArray, List.getElem_cons_zero, List.setIfInBounds_toArray, List.set_cons_zero, List.set_cons_succ]
                refine wpAnyH_take (i := 1) (v := .bool false) rfl (by kernel_rfl) (by kernel_rfl) (by kernel_rfl) (fun _ _ _ h => h) (Or.inl ⟨by kernel_rfl, ?hcx1⟩) (by assumption) ?rcx1
                case hcx1 => (intro w hSw; (try dsimp only at hSw); go_simp; try with_reducible rfl)
                try simp only [Act.put, List.getElem_toArray, List.getElem_cons_zero, List.getElem_cons_succ, List.setIfInBounds_toArray, List.set_cons_zero, List.set_cons_succ]
                refine wpAnyH_take (i := 2) (v := undef) rfl (by kernel_rfl) (by kernel_rfl) (by kernel_rfl) (fun _ _ _ h => h) (Or.inr ⟨by kernel_rfl, rfl⟩) (by assumption) ?rcx2
                try simp only [Act.put, List.getElem_toArray, List.getElem_cons_zero, List.getElem_cons_succ, List.setIfInBounds_toArray, List.set_cons_zero, List.set_cons_succ]
                refine wpAnyH_take (i := 3) (v := undef) rfl (by kernel_rfl) (by kernel_rfl) (by kernel_rfl) (fun _ _ _ h => h) (Or.inr ⟨by kernel_rfl, rfl⟩) (by assumption) ?rcx3
                try simp only [Act.put, List.getElem_toArray, List.getElem_cons_zero, List.getElem_cons_succ, List.setIfInBounds_toArray, List.set_cons_zero, List.set_cons_succ]
                refine wpAnyH_take (i := 4) (v := undef) rfl (by kernel_rfl) (by kernel_rfl) (by kernel_rfl) (fun _ _ _ h => h) (Or.inr ⟨by kernel_rfl, rfl⟩) (by assumption) ?rcx4
                try simp only [Act.put, List.getElem_toArray, List.getElem_cons_zero, List.getElem_cons_succ, List.setIfInBounds_toArray, List.set_cons_zero, List.set_cons_succ]
                refine wpAnyH_take (i := 5) (v := undef) rfl (by kernel_rfl) (by kernel_rfl) (by kernel_rfl) (fun _ _ _ h => h) (Or.inr ⟨by kernel_rfl, rfl⟩) (by assumption) ?rcx5
                try simp only [Act.put, List.getElem_toArray, List.getElem_cons_zero, List.getElem_cons_succ, List.setIfInBounds_toArray, List.set_cons_zero, List.set_cons_succ]
                refine wpAnyH_take (i := 6) (v := undef) rfl (by kernel_rfl) (by kernel_rfl) (by kernel_rfl) (fun _ _ _ h => h) (Or.inr ⟨by kernel_rfl, rfl⟩) (by assumption) ?rcx6
                try simp only [Act.put, List.getElem_toArray, List.getElem_cons_zero, List.getElem_cons_succ, List.setIfInBounds_toArray, List.set_cons_zero, List.set_cons_succ]
                refine wpAnyH_take (i := 7) (v := undef) rfl (by kernel_rfl) (by kernel_rfl) (by kernel_rfl) (fun _ _ _ h => h) (Or.inr ⟨by kernel_rfl, rfl⟩) (by assumption) ?rcx7
                try simp only [Act.put, List.getElem_toArray, List.getElem_cons_zero, List.getElem_cons_succ, List.setIfInBounds_toArray, List.set_cons_zero, List.set_cons_succ]
                refine wpAnyH_take (i := 8) (v := undef) rfl (by kernel_rfl) (by kernel_rfl) (by kernel_rfl) (fun _ _ _ h => h) (Or.inr ⟨by kernel_rfl, rfl⟩) (by assumption) ?rcx8
                try simp only [Act.put, List.getElem_toArray, List.getElem_cons_zero, List.getElem_cons_succ, List.setIfInBounds_toArray, List.set_cons_zero, List.set_cons_succ]
                refine wpAnyH_take (i := 9) (v := undef) rfl (by kernel_rfl) (by kernel_rfl) (by kernel_rfl) (fun _ _ _ h => h) (Or.inr ⟨by kernel_rfl, rfl⟩) (by assumption) ?rcx9
                try simp only [Act.put, List.getElem_toArray, List.getElem_cons_zero, List.getElem_cons_succ, List.setIfInBounds_toArray, List.set_cons_zero, List.set_cons_succ]
                refine wpAnyH_take (i := 10) (v := undef) rfl (by kernel_rfl) (by kernel_rfl) (by kernel_rfl) (fun _ _ _ h => h) (Or.inr ⟨by kernel_rfl, rfl⟩) (by assumption) ?rcx10
                try simp only [Act.put, List.getElem_toArray, List.getElem_cons_zero, List.getElem_cons_succ, List.setIfInBounds_toArray, List.set_cons_zero, List.set_cons_succ]
                refine wpAnyH_take (i := 11) (v := .bool false) rfl (by kernel_rfl) (by kernel_rfl) (by kernel_rfl) (fun _ _ _ h => h) (Or.inl ⟨by kernel_rfl, ?hcx11⟩) (by assumption) ?rcx11
                case hcx11 => (intro w hSw; (try dsimp only at hSw); go_simp; try with_reducible rfl)
                try simp only [Act.put, List.getElem_toArray, List.getElem_cons_zero, List.getElem_cons_succ, List.setIfInBounds_toArray, List.set_cons_zero, List.set_cons_succ]
                refine wpAnyH_take (i := 12) (v := .bool false) rfl (by kernel_rfl) (by kernel_rfl) (by kernel_rfl) (fun _ _ _ h => h) (Or.inl ⟨by kernel_rfl, ?hcx12⟩) (by assumption) ?rcx12
                case hcx12 => (intro w hSw; (try dsimp only at hSw); go_simp; try with_reducible rfl)
                try simp only [Act.put, List.getElem_toArray, List.getElem_cons_zero, List.getElem_cons_succ, List.setIfInBounds_toArray, List.set_cons_zero, List.set_cons_succ]
                refine wpAnyH_take (i := 13) (v := .bool true) rfl (by kernel_rfl) (by kernel_rfl) (by kernel_rfl) (fun _ _ _ h => h) (Or.inl ⟨by kernel_rfl, ?hcx13⟩) (by assumption) ?rcx13
                case hcx13 => (intro w hSw; (try dsimp only at hSw); go_simp; try with_reducible rfl)
                try simp only [Act.put, List.getElem_toArray, List.getElem_cons_zero, List.getElem_cons_succ, List.setIfInBounds_toArray, List.set_cons_zero, List.set_cons_succ]
                refine wpAnyH_take (i := 14) (v := .bool true) rfl (by kernel_rfl) (by kernel_rfl) (by kernel_rfl) (fun _ _ _ h => h) (Or.inl ⟨by kernel_rfl, ?hcx14⟩) (by assumption) ?rcx14
                case hcx14 => (intro w hSw; (try dsimp only at hSw); go_simp; try with_reducible rfl)
                try simp only [Act.put, List.getElem_toArray, List.getElem_cons_zero, List.getElem_cons_succ, List.setIfInBounds_toArray, List.set_cons_zero, List.set_cons_succ]
                refine wpAnyH_take (i := 15) (v := ?vcx15) rfl (by kernel_rfl) (by kernel_rfl) (by kernel_rfl) (fun _ _ _ h => h) (Or.inl ⟨by kernel_rfl, ?hcx15⟩) (by assumption) ?rcx15
                case hcx15 => (intro w hSw; (try dsimp only at hSw); go_simp; try with_reducible rfl)
                try simp only [Act.put, List.getElem_toArray, List.getElem_cons_zero, List.getElem_cons_succ, List.setIfInBounds_toArray, List.set_cons_zero, List.set_cons_succ]
                refine wpAnyH_take (i := 16) (v := ?vcx16) rfl (by kernel_rfl) (by kernel_rfl) (by kernel_rfl) (fun _ _ _ h => h) (Or.inl ⟨by kernel_rfl, ?hcx16⟩) (by assumption) ?rcx16
                case hcx16 => (intro w hSw; (try dsimp only at hSw); go_simp; try with_reducible rfl)
                try simp only [Act.put, List.getElem_toArray, List.getElem_cons_zero, List.getElem_cons_succ, List.setIfInBounds_toArray, List.set_cons_zero, List.set_cons_succ]
                refine wpAnyH_take (i := 17) (v := ?vcx17) rfl (by kernel_rfl) (by kernel_rfl) (by kernel_rfl) (fun _ _ _ h => h) (Or.inl ⟨by kernel_rfl, ?hcx17⟩) (by assumption) ?rcx17
                case hcx17 => (intro w hSw; (try dsimp only at hSw); go_simp; try with_reducible rfl)
                try simp only [Act.put, List.getElem_toArray, List.getElem_cons_zero, List.getElem_cons_succ, List.setIfInBounds_toArray, List.set_cons_zero, List.set_cons_succ]
                refine wpAnyH_take (i := 18) (v := ?vcx18) rfl (by kernel_rfl) (by kernel_rfl) (by kernel_rfl) (fun _ _ _ h => h) (Or.inl ⟨by kernel_rfl, ?hcx18⟩) (by assumption) ?rcx18
                case hcx18 => (intro w hSw; (try dsimp only at hSw); go_simp; try with_reducible rfl)
                try simp only [Act.put, List.getElem_toArray, List.getElem_cons_zero, List.getElem_cons_succ, List.setIfInBounds_toArray, List.set_cons_zero, List.set_cons_succ]
                refine wpAnyH_take (i := 19) (v := ?vcx19) rfl (by kernel_rfl) (by kernel_rfl) (by kernel_rfl) (fun _ _ _ h => h) (Or.inl ⟨by kernel_rfl, ?hcx19⟩) (by assumption) ?rcx19
                case hcx19 => (intro w hSw; (try dsimp only at hSw); go_simp; try with_reducible rfl)
                try simp only [Act.put, List.getElem_toArray, List.getElem_cons_zero, List.getElem_cons_succ, List.setIfInBounds_toArray, List.set_cons_zero, List.set_cons_succ]
                refine wpAnyH_take (i := 20) (v := ?vcx20) rfl (by kernel_rfl) (by kernel_rfl) (by kernel_rfl) (fun _ _ _ h => h) (Or.inl ⟨by kernel_rfl, ?hcx20⟩) (by assumption) ?rcx20
                case hcx20 => (intro w hSw; (try dsimp only at hSw); go_simp; try with_reducible rfl)
                try simp only [Act.put, List.getElem_toArray, List.getElem_cons_zero, List.getElem_cons_succ, List.setIfInBounds_toArray, List.set_cons_zero, List.set_cons_succ]
                refine wpAnyH_take (i := 21) (v := ?vcx21) rfl (by kernel_rfl) (by kernel_rfl) (by kernel_rfl) (fun _ _ _ h => h) (Or.inl ⟨by kernel_rfl, ?hcx21⟩) (by assumption) ?rcx21
                case hcx21 => (intro w hSw; (try dsimp only at hSw); go_simp; try with_reducible rfl)
                try simp only [Act.put, List.getElem_toArray, List.getElem_cons_zero, List.getElem_cons_succ, List.setIfInBounds_toArray, List.set_cons_zero, List.set_cons_succ]
                refine wpAnyH_ready (rs := [22]) (by kernel_rfl) (by simp) ?_
                refine AllReadyH.cons rfl (fun K hK => ?_) AllReadyH.nil
                go_simp
                refine (D2.out _ Z0.drew).mono ?_
                rintro e w2 ⟨rfl, hx2⟩
                have Z2 : Ext V3 w2 := Ext.trans Z0.drew hx2
                show K _ _
                refine hK.out _ _ (HSQ.out _ Z2) (fun hHeld2 => ?_)
                clear hK K
                try simp only [Act.put, List.getElem_toArray, List.getElem_cons_zero, List.getElem_cons_succ, List.setIfInBounds_toArray, List.set_cons_zero, List.set_cons_succ]
                refine wpAnyH_take (i := 23) (v := .bool false) rfl (by kernel_rfl) (by kernel_rfl) (by kernel_rfl) (fun _ _ _ h => h) (Or.inl ⟨by kernel_rfl, ?hcx23⟩) (by assumption) ?rcx23
                case hcx23 => (intro w hSw; (try dsimp only at hSw); go_simp; try with_reducible rfl)
                try simp only [Act.put, List.getElem_toArray, List.getElem_cons_zero, List.getElem_cons_succ, List.setIfInBounds_toArray, List.set_cons_zero, List.set_cons_succ]
                refine wpAnyH_take (i := 24) (v := .bool false) rfl (by kernel_rfl) (by kernel_rfl) (by kernel_rfl) (fun _ _ _ h => h) (Or.inl ⟨by kernel_rfl, ?hcx24⟩) (by assumption) ?rcx24
                case hcx24 => (intro w hSw; (try dsimp only at hSw); go_simp; try with_reducible rfl)
                try simp only [Act.put, List.getElem_toArray, List.getElem_cons_zero, List.getElem_cons_succ, List.setIfInBounds_toArray, List.set_cons_zero, List.set_cons_succ]
                refine wpAnyH_take (i := 25) (v := .bool false) rfl (by kernel_rfl) (by kernel_rfl) (by kernel_rfl) (fun _ _ _ h => h) (Or.inl ⟨by kernel_rfl, ?hcx25⟩) (by assumption) ?rcx25
                case hcx25 => (intro w hSw; (try dsimp only at hSw); go_simp; try with_reducible rfl)
                try simp only [Act.put, List.getElem_toArray, List.getElem_cons_zero, List.getElem_cons_succ, List.setIfInBounds_toArray, List.set_cons_zero, List.set_cons_succ]
                refine wpAnyH_done (by kernel_rfl) ?_ _
                go_wp2_with fail
                go_meet
                case rel => exact ⟨rfl, Z2⟩
              | false =>
                refine wp_region_held_drew (S := fun W' => W'.cell? ⟨wr.heap.size, 1, none⟩ = some (.string k1) ∧ W'.cell? ⟨wr.heap.size, 2, none⟩ = some (.int .i64 n1) ∧ W'.cell? ⟨wr.heap.size, 3, none⟩ = some (.string x1) ∧ W'.cell? ⟨wr.heap.size, 4, none⟩ = some (.slice a1 kl1 c1) ∧ W'.cell? ⟨wr.heap.size, 5, none⟩ = some (.string k2) ∧ W'.cell? ⟨wr.heap.size, 6, none⟩ = some (.int .i64 n2) ∧ W'.cell? ⟨wr.heap.size, 7, none⟩ = some (.string x2) ∧ W'.cell? ⟨wr.heap.size, 8, none⟩ = some (.slice a2 kl2 c2) ∧ W'.cell? ⟨g, off + j * 11 + 1, none⟩ = some (.string k) ∧ W'.cell? ⟨g, off + j * 11 + 2, none⟩ = some (.int .i64 nn) ∧ W'.cell? ⟨g, off + j * 11 + 3, none⟩ = some (.string x) ∧ W'.cell? ⟨g, off + j * 11 + 4, none⟩ = some (.slice aa kl cc) ∧ W'.cell? ⟨g, off + j * 11 + 5, none⟩ = some (.string k') ∧ W'.cell? ⟨g, off + j * 11 + 6, none⟩ = some (.int .i64 n') ∧ W'.cell? ⟨g, off + j * 11 + 7, none⟩ = some (.string x') ∧ W'.cell? ⟨g, off + j * 11 + 8, none⟩ = some (.slice a' kl' c')) (by kernel_rfl) (HSQ.out _ Z0.drew) (fun hHeld => ?_)
                refine wpAnyH_take (i := 0) (v := .bool false) rfl (by kernel_rfl) (by kernel_rfl) (by kernel_rfl) (fun _ _ _ h => h) (Or.inl ⟨by kernel_rfl, ?hdx0⟩) (by assumption) ?rdx0
                case hdx0 => (intro w hSw; (try dsimp only at hSw); go_simp; try with_reducible rfl)
                try simp only [Act.put, List.getElem_toArray, List.getElem_cons_zero, List.setIfInBounds_toArray, List.set_cons_zero, List.set_cons_succ]
                refine wpAnyH_take (i := 1) (v := .bool false) rfl (by kernel_rfl) (by kernel_rfl) (by kernel_rfl) (fun _ _ _ h => h) (Or.inl ⟨by kernel_rfl, ?hdx1⟩) (by assumption) ?rdx1
                case hdx1 => (intro w hSw; (try dsimp only at hSw); go_simp; try with_reducible rfl)
                try simp only [Act.put, List.getElem_toArray, List.getElem_cons_zero, List.getElem_cons_succ, List.setIfInBounds_toArray, List.set_cons_zero, List.set_cons_succ]
                refine wpAnyH_take (i := 2) (v := undef) rfl (by kernel_rfl) (by kernel_rfl) (by kernel_rfl) (fun _ _ _ h => h) (Or.inr ⟨by kernel_rfl, rfl⟩) (by assumption) ?rdx2
                try simp only [Act.put, List.getElem_toArray, List.getElem_cons_zero, List.getElem_cons_succ, List.setIfInBounds_toArray, List.set_cons_zero, List.set_cons_succ]
                refine wpAnyH_take (i := 3) (v := undef) rfl (by kernel_rfl) (by kernel_rfl) (by kernel_rfl) (fun _ _ _ h => h) (Or.inr ⟨by kernel_rfl, rfl⟩) (by assumption) ?rdx3
                try simp only [Act.put, List.getElem_toArray, List.getElem_cons_zero, List.getElem_cons_succ, List.setIfInBounds_toArray, List.set_cons_zero, List.set_cons_succ]
                refine wpAnyH_take (i := 4) (v := undef) rfl (by kernel_rfl) (by kernel_rfl) (by kernel_rfl) (fun _ _ _ h => h) (Or.inr ⟨by kernel_rfl, rfl⟩) (by assumption) ?rdx4
                try simp only [Act.put, List.getElem_toArray, List.getElem_cons_zero, List.getElem_cons_succ, List.setIfInBounds_toArray, List.set_cons_zero, List.set_cons_succ]
                refine wpAnyH_take (i := 5) (v := undef) rfl (by kernel_rfl) (by kernel_rfl) (by kernel_rfl) (fun _ _ _ h => h) (Or.inr ⟨by kernel_rfl, rfl⟩) (by assumption) ?rdx5
                try simp only [Act.put, List.getElem_toArray, List.getElem_cons_zero, List.getElem_cons_succ, List.setIfInBounds_toArray, List.set_cons_zero, List.set_cons_succ]
                refine wpAnyH_take (i := 6) (v := undef) rfl (by kernel_rfl) (by kernel_rfl) (by kernel_rfl) (fun _ _ _ h => h) (Or.inr ⟨by kernel_rfl, rfl⟩) (by assumption) ?rdx6
                try simp only [Act.put, List.getElem_toArray, List.getElem_cons_zero, List.getElem_cons_succ, List.setIfInBounds_toArray, List.set_cons_zero, List.set_cons_succ]
                refine wpAnyH_take (i := 7) (v := undef) rfl (by kernel_rfl) (by kernel_rfl) (by kernel_rfl) (fun _ _ _ h => h) (Or.inr ⟨by kernel_rfl, rfl⟩) (by assumption) ?rdx7
                try simp only [Act.put, List.getElem_toArray, List.getElem_cons_zero, List.getElem_cons_succ, List.setIfInBounds_toArray, List.set_cons_zero, List.set_cons_succ]
                refine wpAnyH_take (i := 8) (v := undef) rfl (by kernel_rfl) (by kernel_rfl) (by kernel_rfl) (fun _ _ _ h => h) (Or.inr ⟨by kernel_rfl, rfl⟩) (by assumption) ?rdx8
                try simp only [Act.put, List.getElem_toArray, List.getElem_cons_zero, List.getElem_cons_succ, List.setIfInBounds_toArray, List.set_cons_zero, List.set_cons_succ]
                refine wpAnyH_take (i := 9) (v := undef) rfl (by kernel_rfl) (by kernel_rfl) (by kernel_rfl) (fun _ _ _ h => h) (Or.inr ⟨by kernel_rfl, rfl⟩) (by assumption) ?rdx9
                try simp only [Act.put, List.getElem_toArray, List.getElem_cons_zero, List.getElem_cons_succ, List.setIfInBounds_toArray, List.set_cons_zero, List.set_cons_succ]
                refine wpAnyH_take (i := 10) (v := undef) rfl (by kernel_rfl) (by kernel_rfl) (by kernel_rfl) (fun _ _ _ h => h) (Or.inr ⟨by kernel_rfl, rfl⟩) (by assumption) ?rdx10
                try simp only [Act.put, List.getElem_toArray, List.getElem_cons_zero, List.getElem_cons_succ, List.setIfInBounds_toArray, List.set_cons_zero, List.set_cons_succ]
                refine wpAnyH_take (i := 11) (v := .bool false) rfl (by kernel_rfl) (by kernel_rfl) (by kernel_rfl) (fun _ _ _ h => h) (Or.inl ⟨by kernel_rfl, ?hdx11⟩) (by assumption) ?rdx11
                case hdx11 => (intro w hSw; (try dsimp only at hSw); go_simp; try with_reducible rfl)
                try simp only [Act.put, List.getElem_toArray, List.getElem_cons_zero, List.getElem_cons_succ, List.setIfInBounds_toArray, List.set_cons_zero, List.set_cons_succ]
                refine wpAnyH_take (i := 12) (v := .bool false) rfl (by kernel_rfl) (by kernel_rfl) (by kernel_rfl) (fun _ _ _ h => h) (Or.inl ⟨by kernel_rfl, ?hdx12⟩) (by assumption) ?rdx12
                case hdx12 => (intro w hSw; (try dsimp only at hSw); go_simp; try with_reducible rfl)
                try simp only [Act.put, List.getElem_toArray, List.getElem_cons_zero, List.getElem_cons_succ, List.setIfInBounds_toArray, List.set_cons_zero, List.set_cons_succ]
                refine wpAnyH_take (i := 13) (v := .bool false) rfl (by kernel_rfl) (by kernel_rfl) (by kernel_rfl) (fun _ _ _ h => h) (Or.inl ⟨by kernel_rfl, ?hdx13⟩) (by assumption) ?rdx13
                case hdx13 => (intro w hSw; (try dsimp only at hSw); go_simp; try with_reducible rfl)
                try simp only [Act.put, List.getElem_toArray, List.getElem_cons_zero, List.getElem_cons_succ, List.setIfInBounds_toArray, List.set_cons_zero, List.set_cons_succ]
                refine wpAnyH_take (i := 14) (v := .bool false) rfl (by kernel_rfl) (by kernel_rfl) (by kernel_rfl) (fun _ _ _ h => h) (Or.inl ⟨by kernel_rfl, ?hdx14⟩) (by assumption) ?rdx14
                case hdx14 => (intro w hSw; (try dsimp only at hSw); go_simp; try with_reducible rfl)
                try simp only [Act.put, List.getElem_toArray, List.getElem_cons_zero, List.getElem_cons_succ, List.setIfInBounds_toArray, List.set_cons_zero, List.set_cons_succ]
                refine wpAnyH_take (i := 15) (v := undef) rfl (by kernel_rfl) (by kernel_rfl) (by kernel_rfl) (fun _ _ _ h => h) (Or.inr ⟨by kernel_rfl, rfl⟩) (by assumption) ?rdx15
                try simp only [Act.put, List.getElem_toArray, List.getElem_cons_zero, List.getElem_cons_succ, List.setIfInBounds_toArray, List.set_cons_zero, List.set_cons_succ]
                refine wpAnyH_take (i := 16) (v := undef) rfl (by kernel_rfl) (by kernel_rfl) (by kernel_rfl) (fun _ _ _ h => h) (Or.inr ⟨by kernel_rfl, rfl⟩) (by assumption) ?rdx16
                try simp only [Act.put, List.getElem_toArray, List.getElem_cons_zero, List.getElem_cons_succ, List.setIfInBounds_toArray, List.set_cons_zero, List.set_cons_succ]
                refine wpAnyH_take (i := 17) (v := undef) rfl (by kernel_rfl) (by kernel_rfl) (by kernel_rfl) (fun _ _ _ h => h) (Or.inr ⟨by kernel_rfl, rfl⟩) (by assumption) ?rdx17
                try simp only [Act.put, List.getElem_toArray, List.getElem_cons_zero, List.getElem_cons_succ, List.setIfInBounds_toArray, List.set_cons_zero, List.set_cons_succ]
                refine wpAnyH_take (i := 18) (v := undef) rfl (by kernel_rfl) (by kernel_rfl) (by kernel_rfl) (fun _ _ _ h => h) (Or.inr ⟨by kernel_rfl, rfl⟩) (by assumption) ?rdx18
                try simp only [Act.put, List.getElem_toArray, List.getElem_cons_zero, List.getElem_cons_succ, List.setIfInBounds_toArray, List.set_cons_zero, List.set_cons_succ]
                refine wpAnyH_take (i := 19) (v := undef) rfl (by kernel_rfl) (by kernel_rfl) (by kernel_rfl) (fun _ _ _ h => h) (Or.inr ⟨by kernel_rfl, rfl⟩) (by assumption) ?rdx19
                try simp only [Act.put, List.getElem_toArray, List.getElem_cons_zero, List.getElem_cons_succ, List.setIfInBounds_toArray, List.set_cons_zero, List.set_cons_succ]
                refine wpAnyH_take (i := 20) (v := undef) rfl (by kernel_rfl) (by kernel_rfl) (by kernel_rfl) (fun _ _ _ h => h) (Or.inr ⟨by kernel_rfl, rfl⟩) (by assumption) ?rdx20
                try simp only [Act.put, List.getElem_toArray, List.getElem_cons_zero, List.getElem_cons_succ, List.setIfInBounds_toArray, List.set_cons_zero, List.set_cons_succ]
                refine wpAnyH_take (i := 21) (v := undef) rfl (by kernel_rfl) (by kernel_rfl) (by kernel_rfl) (fun _ _ _ h => h) (Or.inr ⟨by kernel_rfl, rfl⟩) (by assumption) ?rdx21
                try simp only [Act.put, List.getElem_toArray, List.getElem_cons_zero, List.getElem_cons_succ, List.setIfInBounds_toArray, List.set_cons_zero, List.set_cons_succ]
                refine wpAnyH_take (i := 22) (v := undef) rfl (by kernel_rfl) (by kernel_rfl) (by kernel_rfl) (fun _ _ _ h => h) (Or.inr ⟨by kernel_rfl, rfl⟩) (by assumption) ?rdx22
                try simp only [Act.put, List.getElem_toArray, List.getElem_cons_zero, List.getElem_cons_succ, List.setIfInBounds_toArray, List.set_cons_zero, List.set_cons_succ]
                refine wpAnyH_take (i := 23) (v := undef) rfl (by kernel_rfl) (by kernel_rfl) (by kernel_rfl) (fun _ _ _ h => h) (Or.inr ⟨by kernel_rfl, rfl⟩) (by assumption) ?rdx23
                try simp only [Act.put, List.getElem_toArray, List.getElem_cons_zero, List.getElem_cons_succ, List.setIfInBounds_toArray, List.set_cons_zero, List.set_cons_succ]
                refine wpAnyH_take (i := 24) (v := .bool false) rfl (by kernel_rfl) (by kernel_rfl) (by kernel_rfl) (fun _ _ _ h => h) (Or.inl ⟨by kernel_rfl, ?hdx24⟩) (by assumption) ?rdx24
                case hdx24 => (intro w hSw; (try dsimp only at hSw); go_simp; try with_reducible rfl)
                try simp only [Act.put, List.getElem_toArray, List.getElem_cons_zero, List.getElem_cons_succ, List.setIfInBounds_toArray, List.set_cons_zero, List.set_cons_succ]
                refine wpAnyH_take (i := 25) (v := .bool false) rfl (by kernel_rfl) (by kernel_rfl) (by kernel_rfl) (fun _ _ _ h => h) (Or.inl ⟨by kernel_rfl, ?hdx25⟩) (by assumption) ?rdx25
                case hdx25 => (intro w hSw; (try dsimp only at hSw); go_simp; try with_reducible rfl)
                try simp only [Act.put, List.getElem_toArray, List.getElem_cons_zero, List.getElem_cons_succ, List.setIfInBounds_toArray, List.set_cons_zero, List.set_cons_succ]
                refine wpAnyH_done (by kernel_rfl) ?_ _
                go_wp2_with fail
                go_meet
                case rel => exact ⟨rfl, Z0.drew⟩
          case rest =>
          obtain ⟨rfl, hxc⟩ := hcut
          obtain ⟨V5, rfl⟩ : ∃ V5, V5 = wc := ⟨wc, rfl⟩
          have X5 := hid (X3.out.trans hxc)
          clear hxc HSQ C1 C2
          go_wp2_with fail
          go_roundw
          case rel => exact ⟨j + 1, hlt, by go_num, HX.out.trans X5.out⟩
          case measure => simp [intOf]; omega
      · have h5' : decide ((j : Int) < 500) = false := decide_eq_false h5
        go_wp2_with fail
        go_ret
        exact ⟨rfl, HX.out⟩
    · have hlt' : decide ((j : Int) < n) = false := decide_eq_false (by omega)
      go_wp2_with fail
      go_ret
      exact ⟨rfl, HX.out⟩
end Go.Proofs.Ythdmoghooaccgaa
