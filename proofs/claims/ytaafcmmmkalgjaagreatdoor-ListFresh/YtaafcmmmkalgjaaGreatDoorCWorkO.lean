/-
  craft.Work by a contract, whatever the operations give; of a table no kind of which joins.
-/
import Derived.Test.YtaafcmmmkalgjaaGreatDoorKBlk
import Derived.Test.YtaafcmmmkalgjaaGreatDoorCWork
namespace Go.Proofs.YtaafcmmmkalgjaaGreatDoor
open Go.RowKit
/-- What Work answers; Q: of values that its function takes. -/
def WorkQ (ks : List Kd) (op : ByteArray) (ts : List T) (Q : World → Value → Prop) (w : World) (V : Value) : Prop :=
  match kdFind ks op with
  | none => V = refV 1
  | some k => match k.does with
    | none => V = refV 1
    | some _ => if cntOk k ts.length = false then V = refV 11 else if ∀ t ∈ ts, t.may then (if rightB k.signs.data.toList (ts.map T.kind) = true then Q w V else V = refV 20) else V = refV 1
set_option maxRecDepth 100000 in
set_option maxHeartbeats 4000000 in
theorem work_gen (ks : List Kd) (tb : Nat) (op : ByteArray) (a : Option Addr) (c : Nat) (ts : List T) (Q : World → Value → Prop) (w : World) (hl : ks.length ≤ 1000) (ht : TabAt w tb ks) (hm : MaxAt w) (hp : PRow w a ts) (hn : ts.length ≤ 1000000)
    (hj : ∀ k, kdFind ks op = some k → k.joins = false ∧ k.signs.size ≤ 4000)
    (hd : ∀ k f, kdFind ks op = some k → k.does = some f → cntOk k ts.length = true → (∀ t ∈ ts, t.may) → rightB k.signs.data.toList (ts.map T.kind) = true → ∀ w1 g, Ext w w1 → VCells w1 g ts → Calls Tryz.prog f #[.slice (some ⟨g, 0, none⟩) ts.length ts.length] w1 fun e w' => ∃ V, e = .returned V ∧ ResR Q w' V ∧ Ext w1 w')
    (he : ∀ k f, kdFind ks op = some k → k.does = some f → Enters f) :
    Calls Tryz.prog 24 #[.slice (some ⟨tb, 0, none⟩) ks.length ks.length, .string op, .slice a ts.length c] w fun e w' => ∃ V, e = .returned V ∧ WorkQ ks op ts Q w' V ∧ (∃ x y z, V = .tuple #[x, y, z]) ∧ Ext w w' := by
  have HF := hid (fun w1 (hx : Ext w w1) => find_any ks tb op w1 hl (ht.later hx))
  have HMX := hid hm
  have HP := hid hp
  have HD := hid hd
  have HJ := hid hj
  have HE := hid he
  have hn' : (ts.length : Int) ≤ 1000000 := by omega
  have hqn : ∀ w : World, (binOp .eql 74 .nilFunc .nilFunc).run Tryz.prog w = .ok (.bool true) w := fun _ => by kernel_rfl
  have hqf : ∀ (f : Nat) (w : World), (binOp .eql 74 (.func (.func f) #[] #[]) .nilFunc).run Tryz.prog w = .ok (.bool false) w := fun _ _ => by kernel_rfl
  clear hl ht hm hp hj hd he
  obtain ⟨kn, hkn⟩ : ∃ n, ks.length = n := ⟨_, rfl⟩
  rw [hkn] at HF ⊢
  clear hkn
  obtain ⟨o, ho⟩ : ∃ o, kdFind ks op = o := ⟨_, rfl⟩
  cases o with
  | none =>
    have HV := hid (show ∀ W, WorkQ ks op ts Q W (refV 1) by intro W; unfold WorkQ; rw [ho])
    rw [ho] at HF
    clear ho
    go_enter Tryz.func24, Tryz.ntmps24
    go_wp2_with fail
    refine (HF.out _ (Ext.refl _)).mono ?_
    rintro e w1 ⟨rfl, hx1⟩
    have X1 := hid hx1
    clear hx1
    unfold kdVal
    go_wp2_with fail
    go_ret3
    exact ⟨_, rfl, HV.out _, ⟨_, _, _, rfl⟩, X1.out.trans (Ext.alloc _ _)⟩
  | some k =>
    have HJK := hid (HJ.out k ho)
    have HEK := hid (fun f h => HE.out k f ho h)
    have HDK := hid (fun f h => HD.out k f ho h)
    have HW := hid (show ∀ W V, (match k.does with | none => V = refV 1 | some _ => if cntOk k ts.length = false then V = refV 11 else if ∀ t ∈ ts, t.may then (if rightB k.signs.data.toList (ts.map T.kind) = true then Q W V else V = refV 20) else V = refV 1) → WorkQ ks op ts Q W V by intro W V h; unfold WorkQ; rw [ho]; exact h)
    rw [ho] at HF
    have HDN := hid (fun f h g ks Q w h1 h2 h3 h4 h5 h6 => done_gen k f h h1 g ks Q w h2 h3 h4 h5 h6)
    have HCN := hid (show cntOk k ts.length = (decide (k.min ≤ ts.length) && (decide (k.max < 0) || decide ((ts.length : Int) ≤ k.max))) from rfl)
    clear ho HJ HE HD
    obtain ⟨k0, k1, k2, k3, k4, k5, k6, k7, k8⟩ := k
    obtain rfl : k8 = false := HJK.out.1
    dsimp only at HW HDK HEK HCN
    cases k7 with
    | none =>
      have HV := hid (show ∀ W, WorkQ ks op ts Q W (refV 1) from fun W => HW.out W _ rfl)
      go_enter Tryz.func24, Tryz.ntmps24
      go_wp2_with fail
      refine (HF.out _ (Ext.refl _)).mono ?_
      rintro e w1 ⟨rfl, hx1⟩
      have X1 := hid hx1
      clear hx1
      unfold kdVal Kd.val fnV
      dsimp only
      go_wp2_with fail
      go_ret3
      exact ⟨_, rfl, HV.out _, ⟨_, _, _, rfl⟩, X1.out.trans (Ext.alloc _ _)⟩
    | some f =>
      have HW' := hid (show ∀ W V, (if cntOk ⟨k0, k1, k2, k3, k4, k5, k6, some f, false⟩ ts.length = false then V = refV 11 else if ∀ t ∈ ts, t.may then (if rightB k5.data.toList (ts.map T.kind) = true then Q W V else V = refV 20) else V = refV 1) → WorkQ ks op ts Q W V from HW.out)
      clear HW
      obtain ⟨n, hne⟩ : ∃ n, ts.length = n := ⟨_, rfl⟩
      have HNE := hid hne
      rw [hne] at hn' ⊢
      clear hne
      rw [HNE.out] at HCN HW'
      obtain ⟨cb, hcb⟩ : ∃ b, cntOk ⟨k0, k1, k2, k3, k4, k5, k6, some f, false⟩ n = b := ⟨_, rfl⟩
      rw [hcb] at HW' HCN
      cases cb with
      | false =>
        have HV := hid (show ∀ W, WorkQ ks op ts Q W (refV 11) from fun W => HW'.out W _ rfl)
        have HCF := hid (show ¬ (k1 ≤ (n : Int) ∧ (k2 < 0 ∨ (n : Int) ≤ k2)) from fun h => by
          have := HCN.out
          simp only [Bool.false_eq, Bool.and_eq_false_iff, Bool.or_eq_false_iff, decide_eq_false_iff_not] at this
          omega)
        by_cases h1 : k1 ≤ (n : Int)
        · have h2 : 0 ≤ k2 := by have := HCF.out; omega
          have h3 : k2 < (n : Int) := by have := HCF.out; omega
          go_enter Tryz.func24, Tryz.ntmps24
          go_wp2_with fail
          refine (HF.out _ (Ext.refl _)).mono ?_
          rintro e w1 ⟨rfl, hx1⟩
          have X1 := hid hx1
          clear hx1
          unfold kdVal Kd.val fnV
          dsimp only
          go_wp2_with fail
          go_ret3
          exact ⟨_, rfl, HV.out _, ⟨_, _, _, rfl⟩, X1.out.trans (Ext.alloc _ _)⟩
        · go_enter Tryz.func24, Tryz.ntmps24
          go_wp2_with fail
          refine (HF.out _ (Ext.refl _)).mono ?_
          rintro e w1 ⟨rfl, hx1⟩
          have X1 := hid hx1
          clear hx1
          unfold kdVal Kd.val fnV
          dsimp only
          go_wp2_with fail
          go_ret3
          exact ⟨_, rfl, HV.out _, ⟨_, _, _, rfl⟩, X1.out.trans (Ext.alloc _ _)⟩
      | true =>
        have HV := hid (show ∀ W V, (if ∀ t ∈ ts, t.may then (if rightB k5.data.toList (ts.map T.kind) = true then Q W V else V = refV 20) else V = refV 1) → WorkQ ks op ts Q W V from HW'.out)
        have HCT := hid (show k1 ≤ (n : Int) ∧ (k2 < 0 ∨ (n : Int) ≤ k2) by
          have := HCN.out
          simp only [Bool.true_eq, Bool.and_eq_true, Bool.or_eq_true, decide_eq_true_eq] at this
          exact this)
        have h1 : k1 ≤ (n : Int) := HCT.out.1
        have HK2 := hid HCT.out.2
        clear HW' HCN HCT
        obtain ⟨ti, hi, hz0, hz1, hz2⟩ := info_parts valueInfoC
        obtain ⟨cz, hcz, hmk⟩ : ∃ cz : Array Value, cz.size = n ∧ ∀ w, (Instr.makeSlice 24 (.int .i64 (n : Int)) (.int .i64 (n : Int))).run Tryz.prog w = .ok (.slice (some ⟨w.heap.size, 0, none⟩) n n) (w.alloc (.cells cz 35)) := by
          refine ⟨madeCells (Value.nilIface).cells (n * 1), by rw [size_madeCells]; omega, fun w => ?_⟩
          have := run_make (P := Tryz.prog) w 24 35 ti _ Tryz.underlying24 hi hz0 .i64 .i64 n n (by omega) (Int.le_refl _) (by rw [hz2]; omega) (by omega)
          rw [hz1] at this
          simpa using this
        have HCZ := hid hcz
        clear hcz hi hz0 hz1 hz2
        by_cases hk2 : k2 < 0
        · go_enter Tryz.func24, Tryz.ntmps24
          go_wp2_with fail
          refine (HF.out _ (Ext.refl _)).mono ?_
          rintro e w1 ⟨rfl, hx1⟩
          have X1 := hid hx1
          clear hx1
          unfold kdVal Kd.val fnV
          dsimp only
          go_wp2_with fail
          have HMK := hid hmk
          clear hmk hqn hqf
          go_loopw [59] (fun q59 wr => ∃ (j : Nat) (cs : Array Value), j ≤ n ∧ q59 = .int .i64 j ∧ Ext w wr ∧ wr.heap[w1.heap.size]? = some (.cells #[.string k0, .int .i64 k1, .int .i64 k2, .int .i64 k3, .string k4, .string k5, .func (.func k6) #[] #[], .func (.func f) #[] #[], .bool false] 76) ∧ wr.heap[w1.heap.size + 1]? = some (.cells cs 35) ∧ cs.size = n ∧
              (∀ i, (h : i < ts.length) → i < j → ts[i].may ∧ ∃ d u, cs[i]? = some u ∧ VRd (fun q => w1.heap.size + 1 < q) wr d u ts[i])) (fun q59 _ => n - (intOf q59).toNat)
          case atStart => exact ⟨0, cz, Nat.zero_le _, rfl, X1.out.trans (Ext.alloc2 _ _ _), blkOld _ (blk0 _ _), blk1 _ _ _, HCZ.out, fun i _ h => absurd h (Nat.not_lt_zero _)⟩
          case round =>
            obtain ⟨j, cs, hj, rfl, hx, hb1, hb3, hcs, hall⟩ := hrel
            have HX := hid hx
            have HB1 := hid hb1
            have HB3 := hid hb3
            have HCS := hid hcs
            have HALL := hid hall
            clear hx hb1 hb3 hcs hall
            by_cases hlt : j < n
            · have hlt' : (j : Int) < n := by omega
              have hjt : j < ts.length := by rw [HNE.out]; exact hlt
              rcases HP.out with e0 | ⟨g, off, rfl, hcells⟩
              · rw [e0] at hjt; exact absurd hjt (Nat.not_lt_zero _)
              obtain ⟨K, d, u0, u1, u2, u3, h4, hrd⟩ := hcells j hjt
              obtain ⟨pk, pn, px, pa, pc, rfl, rfl, rfl, rfl⟩ := hrd.shape
              have HR := hid (fun o => hrd.later (HX.out.trans (Ext.alloc wr o)))
              obtain ⟨m0, m1, m2, m3⟩ := h4.later HX.out
              have hgl := lt_of_cell m0
              have HIN := hid (List.getElem_mem hjt)
              have HST := hid (show ts[j].may → ∀ (cs' : Array Value) (w' : World), (∀ i, i ≠ j → cs'[i]? = cs[i]?) → (∀ i d u, (h : i < ts.length) → VRd (fun q => w1.heap.size + 1 < q) wr d u ts[i] → VRd (fun q => w1.heap.size + 1 < q) w' d u ts[i]) → (∃ d u, cs'[j]? = some u ∧ VRd (fun q => w1.heap.size + 1 < q) w' d u ts[j]) → ∀ i, (h : i < ts.length) → i < j + 1 → ts[i].may ∧ ∃ d u, cs'[i]? = some u ∧ VRd (fun q => w1.heap.size + 1 < q) w' d u ts[i] from fun hm cs' w' h1 h2 h3 i hi hij => by
                by_cases e : i = j
                · subst e; exact ⟨hm, h3⟩
                · obtain ⟨hmi, d', u', hu', hv'⟩ := HALL.out i hi (by omega)
                  exact ⟨hmi, d', u', by rw [h1 i e]; exact hu', h2 i d' u' hi hv'⟩)
              clear hrd hcells h4
              generalize hkl : ts[j].kids.length = kl at m3 HR
              clear hkl
              generalize ts[j] = tj at HR HIN HST
              go_wp2_with fail
              refine (of_any _ (HR.out _)).mono ?_
              rintro e w2 ⟨hy, ⟨htm, u, bs, rfl, hown, hge, hnd⟩ | ⟨htm, rfl⟩⟩
              · obtain ⟨τ, p, rfl⟩ := hown.rd.iface
                have HY := hid ((Ext.alloc wr _).trans hy)
                have HO := hid (hown.rd.mono (L := fun q => w1.heap.size + 1 < q) (fun q _ hq => by
                  have h1 := hge q hq
                  have h2 := lt_of_block HB3.out
                  rw [blkS] at h1
                  omega))
                have HTM := hid htm
                clear hy hown hge hnd htm
                have hb3' := HY.out.block HB3.out
                have hf3 : w2.frozen? ⟨w1.heap.size + 1, j, none⟩ = false := frozen_of hb3'
                have hc3 : w2.cell? ⟨w1.heap.size + 1, j, none⟩ = some cs[j]! := cell_of hb3' (by
                  have hs : j < cs.size := by rw [HCS.out]; exact hlt
                  rw [Array.getElem?_eq_getElem hs, getElem!_pos cs j hs])
                clear hb3'
                go_wp2_with fail
                go_roundw
                case rel =>
                  have KS : Kp (· ≠ w1.heap.size + 1) w2 (w2.setCell ⟨w1.heap.size + 1, j, none⟩ (.iface τ p)) := Kp.set w2 _ j _ (fun h => h rfl)
                  have hle : w.heap.size ≤ w1.heap.size + 1 := Nat.le_succ_of_le X1.out.size
                  refine ⟨j + 1, cs.setIfInBounds j (.iface τ p), by omega, by go_num, Kp.extOf (HX.out.trans HY.out) KS hle, set_other (HY.out.block HB1.out) (by omega) _, set_at (HY.out.block HB3.out) j _, by rw [Array.size_setIfInBounds]; exact HCS.out, HST.out HTM.out _ _ (fun i hi => set_get_other _ hi) (fun i d' u' hi hv => (hv.later HY.out).keep (KS.mono (fun q _ hq => by omega))) ⟨_, _, set_get _ (by rw [HCS.out]; exact hlt), HO.out.keep (KS.mono (fun q _ hq => by omega))⟩⟩
                case measure => simp [intOf]; omega
              · have HV1 := hid (show ∀ W, WorkQ ks op ts Q W (refV 1) from fun W => HV.out W _ (by rw [if_neg (fun h => htm (h _ HIN.out))]))
                have HY := hid ((Ext.alloc wr _).trans hy)
                clear hy htm
                go_wp2_with fail
                go_ret3
                exact ⟨_, rfl, HV1.out _, ⟨_, _, _, rfl⟩, HX.out.trans HY.out⟩
            · have hje : j = n := by omega
              have hlt2 : decide ((j : Int) < n) = false := decide_eq_false (by omega)
              have hlt3 : ¬ (j : Int) < n := by omega
              have hmay : ∀ t ∈ ts, t.may := fun t htm => by
                obtain ⟨i, hi, rfl⟩ := List.getElem_of_mem htm
                exact (HALL.out i hi (by have := HNE.out; omega)).1
              have HV1 := hid (show ∀ W V, (if rightB k5.data.toList (ts.map T.kind) = true then Q W V else V = refV 20) → WorkQ ks op ts Q W V from fun W V h => HV.out W V (by rw [if_pos hmay]; exact h))
              have HVC := hid (show VCells wr (w1.heap.size + 1) ts from fun i hi => by
                obtain ⟨_, d', u', hu', hv'⟩ := HALL.out i hi (by have := HNE.out; omega)
                exact ⟨_, d', u', cell_of HB3.out hu', hv'⟩)
              have HDD := hid (HDN.out f rfl (w1.heap.size + 1) (ts.map T.kind) Q wr (HEK.out f rfl) HJK.out.2 (by rw [List.length_map, HNE.out]; omega) (HMX.out.later HX.out) HVC.out.row (fun hr => by
                have h2 := HDK.out f rfl (by rw [HNE.out]; exact hcb) hmay hr
                exact fun w3 hx3 => by rw [List.length_map]; exact h2 w3 _ (HX.out.trans hx3) (HVC.out.later hx3)))
              rw [List.length_map, HNE.out] at HDD
              unfold Kd.val fnV at HDD
              dsimp only at HDD
              obtain ⟨z0, z1, z2, z3, z4, z5, z6, z7, z8⟩ := nine_of HB1.out
              clear hje hmay
              go_wp2_with fail
              refine HDD.out.mono ?_
              rintro e w2 ⟨V, rfl, hv, ⟨x, y, z, rfl⟩, hy⟩
              have HY := hid (HX.out.trans hy)
              have HVV := hid hv
              clear hy hv
              go_wp2_with fail
              go_ret3
              exact ⟨_, rfl, HV1.out _ _ HVV.out, ⟨_, _, _, rfl⟩, HY.out⟩
        · have hk3 : (n : Int) ≤ k2 := by have := HK2.out; omega
          go_enter Tryz.func24, Tryz.ntmps24
          go_wp2_with fail
          refine (HF.out _ (Ext.refl _)).mono ?_
          rintro e w1 ⟨rfl, hx1⟩
          have X1 := hid hx1
          clear hx1
          unfold kdVal Kd.val fnV
          dsimp only
          go_wp2_with fail
          have HMK := hid hmk
          clear hmk hqn hqf
          go_loopw [59] (fun q59 wr => ∃ (j : Nat) (cs : Array Value), j ≤ n ∧ q59 = .int .i64 j ∧ Ext w wr ∧ wr.heap[w1.heap.size]? = some (.cells #[.string k0, .int .i64 k1, .int .i64 k2, .int .i64 k3, .string k4, .string k5, .func (.func k6) #[] #[], .func (.func f) #[] #[], .bool false] 76) ∧ wr.heap[w1.heap.size + 1]? = some (.cells cs 35) ∧ cs.size = n ∧
              (∀ i, (h : i < ts.length) → i < j → ts[i].may ∧ ∃ d u, cs[i]? = some u ∧ VRd (fun q => w1.heap.size + 1 < q) wr d u ts[i])) (fun q59 _ => n - (intOf q59).toNat)
          case atStart => exact ⟨0, cz, Nat.zero_le _, rfl, X1.out.trans (Ext.alloc2 _ _ _), blkOld _ (blk0 _ _), blk1 _ _ _, HCZ.out, fun i _ h => absurd h (Nat.not_lt_zero _)⟩
          case round =>
            obtain ⟨j, cs, hj, rfl, hx, hb1, hb3, hcs, hall⟩ := hrel
            have HX := hid hx
            have HB1 := hid hb1
            have HB3 := hid hb3
            have HCS := hid hcs
            have HALL := hid hall
            clear hx hb1 hb3 hcs hall
            by_cases hlt : j < n
            · have hlt' : (j : Int) < n := by omega
              have hjt : j < ts.length := by rw [HNE.out]; exact hlt
              rcases HP.out with e0 | ⟨g, off, rfl, hcells⟩
              · rw [e0] at hjt; exact absurd hjt (Nat.not_lt_zero _)
              obtain ⟨K, d, u0, u1, u2, u3, h4, hrd⟩ := hcells j hjt
              obtain ⟨pk, pn, px, pa, pc, rfl, rfl, rfl, rfl⟩ := hrd.shape
              have HR := hid (fun o => hrd.later (HX.out.trans (Ext.alloc wr o)))
              obtain ⟨m0, m1, m2, m3⟩ := h4.later HX.out
              have hgl := lt_of_cell m0
              have HIN := hid (List.getElem_mem hjt)
              have HST := hid (show ts[j].may → ∀ (cs' : Array Value) (w' : World), (∀ i, i ≠ j → cs'[i]? = cs[i]?) → (∀ i d u, (h : i < ts.length) → VRd (fun q => w1.heap.size + 1 < q) wr d u ts[i] → VRd (fun q => w1.heap.size + 1 < q) w' d u ts[i]) → (∃ d u, cs'[j]? = some u ∧ VRd (fun q => w1.heap.size + 1 < q) w' d u ts[j]) → ∀ i, (h : i < ts.length) → i < j + 1 → ts[i].may ∧ ∃ d u, cs'[i]? = some u ∧ VRd (fun q => w1.heap.size + 1 < q) w' d u ts[i] from fun hm cs' w' h1 h2 h3 i hi hij => by
                by_cases e : i = j
                · subst e; exact ⟨hm, h3⟩
                · obtain ⟨hmi, d', u', hu', hv'⟩ := HALL.out i hi (by omega)
                  exact ⟨hmi, d', u', by rw [h1 i e]; exact hu', h2 i d' u' hi hv'⟩)
              clear hrd hcells h4
              generalize hkl : ts[j].kids.length = kl at m3 HR
              clear hkl
              generalize ts[j] = tj at HR HIN HST
              go_wp2_with fail
              refine (of_any _ (HR.out _)).mono ?_
              rintro e w2 ⟨hy, ⟨htm, u, bs, rfl, hown, hge, hnd⟩ | ⟨htm, rfl⟩⟩
              · obtain ⟨τ, p, rfl⟩ := hown.rd.iface
                have HY := hid ((Ext.alloc wr _).trans hy)
                have HO := hid (hown.rd.mono (L := fun q => w1.heap.size + 1 < q) (fun q _ hq => by
                  have h1 := hge q hq
                  have h2 := lt_of_block HB3.out
                  rw [blkS] at h1
                  omega))
                have HTM := hid htm
                clear hy hown hge hnd htm
                have hb3' := HY.out.block HB3.out
                have hf3 : w2.frozen? ⟨w1.heap.size + 1, j, none⟩ = false := frozen_of hb3'
                have hc3 : w2.cell? ⟨w1.heap.size + 1, j, none⟩ = some cs[j]! := cell_of hb3' (by
                  have hs : j < cs.size := by rw [HCS.out]; exact hlt
                  rw [Array.getElem?_eq_getElem hs, getElem!_pos cs j hs])
                clear hb3'
                go_wp2_with fail
                go_roundw
                case rel =>
                  have KS : Kp (· ≠ w1.heap.size + 1) w2 (w2.setCell ⟨w1.heap.size + 1, j, none⟩ (.iface τ p)) := Kp.set w2 _ j _ (fun h => h rfl)
                  have hle : w.heap.size ≤ w1.heap.size + 1 := Nat.le_succ_of_le X1.out.size
                  refine ⟨j + 1, cs.setIfInBounds j (.iface τ p), by omega, by go_num, Kp.extOf (HX.out.trans HY.out) KS hle, set_other (HY.out.block HB1.out) (by omega) _, set_at (HY.out.block HB3.out) j _, by rw [Array.size_setIfInBounds]; exact HCS.out, HST.out HTM.out _ _ (fun i hi => set_get_other _ hi) (fun i d' u' hi hv => (hv.later HY.out).keep (KS.mono (fun q _ hq => by omega))) ⟨_, _, set_get _ (by rw [HCS.out]; exact hlt), HO.out.keep (KS.mono (fun q _ hq => by omega))⟩⟩
                case measure => simp [intOf]; omega
              · have HV1 := hid (show ∀ W, WorkQ ks op ts Q W (refV 1) from fun W => HV.out W _ (by rw [if_neg (fun h => htm (h _ HIN.out))]))
                have HY := hid ((Ext.alloc wr _).trans hy)
                clear hy htm
                go_wp2_with fail
                go_ret3
                exact ⟨_, rfl, HV1.out _, ⟨_, _, _, rfl⟩, HX.out.trans HY.out⟩
            · have hje : j = n := by omega
              have hlt2 : decide ((j : Int) < n) = false := decide_eq_false (by omega)
              have hlt3 : ¬ (j : Int) < n := by omega
              have hmay : ∀ t ∈ ts, t.may := fun t htm => by
                obtain ⟨i, hi, rfl⟩ := List.getElem_of_mem htm
                exact (HALL.out i hi (by have := HNE.out; omega)).1
              have HV1 := hid (show ∀ W V, (if rightB k5.data.toList (ts.map T.kind) = true then Q W V else V = refV 20) → WorkQ ks op ts Q W V from fun W V h => HV.out W V (by rw [if_pos hmay]; exact h))
              have HVC := hid (show VCells wr (w1.heap.size + 1) ts from fun i hi => by
                obtain ⟨_, d', u', hu', hv'⟩ := HALL.out i hi (by have := HNE.out; omega)
                exact ⟨_, d', u', cell_of HB3.out hu', hv'⟩)
              have HDD := hid (HDN.out f rfl (w1.heap.size + 1) (ts.map T.kind) Q wr (HEK.out f rfl) HJK.out.2 (by rw [List.length_map, HNE.out]; omega) (HMX.out.later HX.out) HVC.out.row (fun hr => by
                have h2 := HDK.out f rfl (by rw [HNE.out]; exact hcb) hmay hr
                exact fun w3 hx3 => by rw [List.length_map]; exact h2 w3 _ (HX.out.trans hx3) (HVC.out.later hx3)))
              rw [List.length_map, HNE.out] at HDD
              unfold Kd.val fnV at HDD
              dsimp only at HDD
              obtain ⟨z0, z1, z2, z3, z4, z5, z6, z7, z8⟩ := nine_of HB1.out
              clear hje hmay
              go_wp2_with fail
              refine HDD.out.mono ?_
              rintro e w2 ⟨V, rfl, hv, ⟨x, y, z, rfl⟩, hy⟩
              have HY := hid (HX.out.trans hy)
              have HVV := hid hv
              clear hy hv
              go_wp2_with fail
              go_ret3
              exact ⟨_, rfl, HV1.out _ _ HVV.out, ⟨_, _, _, rfl⟩, HY.out⟩
end Go.Proofs.YtaafcmmmkalgjaaGreatDoor
/-
  craft.Work by a contract, whatever the operations give, the values in memory of their own; of a table no kind of which joins.
-/
namespace Go.Proofs.YtaafcmmmkalgjaaGreatDoor
open Go.RowKit
/-- Values in a row, of these plain ones, each in memory of its own. -/
def VOCells (w : World) (g : Nat) (ts : List T) : Prop := ∀ j, (h : j < ts.length) → ∃ d v bs, w.cell? ⟨g, j, none⟩ = some v ∧ VOwn w d v ts[j] bs
theorem VOCells.later {w w' : World} {g : Nat} {ts : List T} (h : VOCells w g ts) (hx : Ext w w') : VOCells w' g ts := fun j hj => by
  obtain ⟨d, v, bs, h1, h2⟩ := h j hj
  exact ⟨d, v, bs, (Below.cell hx (lt_of_cell h1)).trans h1, h2.later hx⟩
theorem VOCells.row {w : World} {g : Nat} {ts : List T} (h : VOCells w g ts) : VRow w g (ts.map T.kind) := fun j hj => by
  obtain ⟨d, v, bs, h1, h2⟩ := h j (by simpa using hj)
  exact ⟨_, d, v, _, h1, h2.rd, by simp⟩
/-- A value in memory of its own behind the block B. -/
def VX (B : Nat) (w : World) (d : Nat) (u : Value) (t : T) : Prop := ∃ bs, VOwn w d u t bs ∧ ∀ b ∈ bs, B < b
theorem VX.later {B : Nat} {w w' : World} {d : Nat} {u : Value} {t : T} (h : VX B w d u t) (hx : Ext w w') : VX B w' d u t := by
  obtain ⟨bs, h1, h2⟩ := h
  exact ⟨bs, h1.later hx, h2⟩
theorem VX.keep {B : Nat} {w w' : World} {d : Nat} {u : Value} {t : T} (h : VX B w d u t) (hk : Kp (· ≠ B) w w') : VX B w' d u t := by
  obtain ⟨bs, h1, h2⟩ := h
  exact ⟨bs, h1.keep (hk.mono (fun k _ hk2 e => by have := h2 k hk2; omega)), h2⟩
set_option maxRecDepth 100000 in
set_option maxHeartbeats 4000000 in
theorem work_own (ks : List Kd) (tb : Nat) (op : ByteArray) (a : Option Addr) (c : Nat) (ts : List T) (Q : World → Value → Prop) (w : World) (hl : ks.length ≤ 1000) (ht : TabAt w tb ks) (hm : MaxAt w) (hp : PRow w a ts) (hn : ts.length ≤ 1000000)
    (hj : ∀ k, kdFind ks op = some k → k.joins = false ∧ k.signs.size ≤ 4000)
    (hd : ∀ k f, kdFind ks op = some k → k.does = some f → cntOk k ts.length = true → (∀ t ∈ ts, t.may) → rightB k.signs.data.toList (ts.map T.kind) = true → ∀ w1 g, Ext w w1 → VOCells w1 g ts → Calls Tryz.prog f #[.slice (some ⟨g, 0, none⟩) ts.length ts.length] w1 fun e w' => ∃ V, e = .returned V ∧ ResR Q w' V ∧ Ext w1 w')
    (he : ∀ k f, kdFind ks op = some k → k.does = some f → Enters f) :
    Calls Tryz.prog 24 #[.slice (some ⟨tb, 0, none⟩) ks.length ks.length, .string op, .slice a ts.length c] w fun e w' => ∃ V, e = .returned V ∧ WorkQ ks op ts Q w' V ∧ (∃ x y z, V = .tuple #[x, y, z]) ∧ Ext w w' := by
  have HF := hid (fun w1 (hx : Ext w w1) => find_any ks tb op w1 hl (ht.later hx))
  have HMX := hid hm
  have HP := hid hp
  have HD := hid hd
  have HJ := hid hj
  have HE := hid he
  have hn' : (ts.length : Int) ≤ 1000000 := by omega
  have hqn : ∀ w : World, (binOp .eql 74 .nilFunc .nilFunc).run Tryz.prog w = .ok (.bool true) w := fun _ => by kernel_rfl
  have hqf : ∀ (f : Nat) (w : World), (binOp .eql 74 (.func (.func f) #[] #[]) .nilFunc).run Tryz.prog w = .ok (.bool false) w := fun _ _ => by kernel_rfl
  clear hl ht hm hp hj hd he
  obtain ⟨kn, hkn⟩ : ∃ n, ks.length = n := ⟨_, rfl⟩
  rw [hkn] at HF ⊢
  clear hkn
  obtain ⟨o, ho⟩ : ∃ o, kdFind ks op = o := ⟨_, rfl⟩
  cases o with
  | none =>
    have HV := hid (show ∀ W, WorkQ ks op ts Q W (refV 1) by intro W; unfold WorkQ; rw [ho])
    rw [ho] at HF
    clear ho
    go_enter Tryz.func24, Tryz.ntmps24
    go_wp2_with fail
    refine (HF.out _ (Ext.refl _)).mono ?_
    rintro e w1 ⟨rfl, hx1⟩
    have X1 := hid hx1
    clear hx1
    unfold kdVal
    go_wp2_with fail
    go_ret3
    exact ⟨_, rfl, HV.out _, ⟨_, _, _, rfl⟩, X1.out.trans (Ext.alloc _ _)⟩
  | some k =>
    have HJK := hid (HJ.out k ho)
    have HEK := hid (fun f h => HE.out k f ho h)
    have HDK := hid (fun f h => HD.out k f ho h)
    have HW := hid (show ∀ W V, (match k.does with | none => V = refV 1 | some _ => if cntOk k ts.length = false then V = refV 11 else if ∀ t ∈ ts, t.may then (if rightB k.signs.data.toList (ts.map T.kind) = true then Q W V else V = refV 20) else V = refV 1) → WorkQ ks op ts Q W V by intro W V h; unfold WorkQ; rw [ho]; exact h)
    rw [ho] at HF
    have HDN := hid (fun f h g ks Q w h1 h2 h3 h4 h5 h6 => done_gen k f h h1 g ks Q w h2 h3 h4 h5 h6)
    have HCN := hid (show cntOk k ts.length = (decide (k.min ≤ ts.length) && (decide (k.max < 0) || decide ((ts.length : Int) ≤ k.max))) from rfl)
    clear ho HJ HE HD
    obtain ⟨k0, k1, k2, k3, k4, k5, k6, k7, k8⟩ := k
    obtain rfl : k8 = false := HJK.out.1
    dsimp only at HW HDK HEK HCN
    cases k7 with
    | none =>
      have HV := hid (show ∀ W, WorkQ ks op ts Q W (refV 1) from fun W => HW.out W _ rfl)
      go_enter Tryz.func24, Tryz.ntmps24
      go_wp2_with fail
      refine (HF.out _ (Ext.refl _)).mono ?_
      rintro e w1 ⟨rfl, hx1⟩
      have X1 := hid hx1
      clear hx1
      unfold kdVal Kd.val fnV
      dsimp only
      go_wp2_with fail
      go_ret3
      exact ⟨_, rfl, HV.out _, ⟨_, _, _, rfl⟩, X1.out.trans (Ext.alloc _ _)⟩
    | some f =>
      have HW' := hid (show ∀ W V, (if cntOk ⟨k0, k1, k2, k3, k4, k5, k6, some f, false⟩ ts.length = false then V = refV 11 else if ∀ t ∈ ts, t.may then (if rightB k5.data.toList (ts.map T.kind) = true then Q W V else V = refV 20) else V = refV 1) → WorkQ ks op ts Q W V from HW.out)
      clear HW
      obtain ⟨n, hne⟩ : ∃ n, ts.length = n := ⟨_, rfl⟩
      have HNE := hid hne
      rw [hne] at hn' ⊢
      clear hne
      rw [HNE.out] at HCN HW'
      obtain ⟨cb, hcb⟩ : ∃ b, cntOk ⟨k0, k1, k2, k3, k4, k5, k6, some f, false⟩ n = b := ⟨_, rfl⟩
      rw [hcb] at HW' HCN
      cases cb with
      | false =>
        have HV := hid (show ∀ W, WorkQ ks op ts Q W (refV 11) from fun W => HW'.out W _ rfl)
        have HCF := hid (show ¬ (k1 ≤ (n : Int) ∧ (k2 < 0 ∨ (n : Int) ≤ k2)) from fun h => by
          have := HCN.out
          simp only [Bool.false_eq, Bool.and_eq_false_iff, Bool.or_eq_false_iff, decide_eq_false_iff_not] at this
          omega)
        by_cases h1 : k1 ≤ (n : Int)
        · have h2 : 0 ≤ k2 := by have := HCF.out; omega
          have h3 : k2 < (n : Int) := by have := HCF.out; omega
          go_enter Tryz.func24, Tryz.ntmps24
          go_wp2_with fail
          refine (HF.out _ (Ext.refl _)).mono ?_
          rintro e w1 ⟨rfl, hx1⟩
          have X1 := hid hx1
          clear hx1
          unfold kdVal Kd.val fnV
          dsimp only
          go_wp2_with fail
          go_ret3
          exact ⟨_, rfl, HV.out _, ⟨_, _, _, rfl⟩, X1.out.trans (Ext.alloc _ _)⟩
        · go_enter Tryz.func24, Tryz.ntmps24
          go_wp2_with fail
          refine (HF.out _ (Ext.refl _)).mono ?_
          rintro e w1 ⟨rfl, hx1⟩
          have X1 := hid hx1
          clear hx1
          unfold kdVal Kd.val fnV
          dsimp only
          go_wp2_with fail
          go_ret3
          exact ⟨_, rfl, HV.out _, ⟨_, _, _, rfl⟩, X1.out.trans (Ext.alloc _ _)⟩
      | true =>
        have HV := hid (show ∀ W V, (if ∀ t ∈ ts, t.may then (if rightB k5.data.toList (ts.map T.kind) = true then Q W V else V = refV 20) else V = refV 1) → WorkQ ks op ts Q W V from HW'.out)
        have HCT := hid (show k1 ≤ (n : Int) ∧ (k2 < 0 ∨ (n : Int) ≤ k2) by
          have := HCN.out
          simp only [Bool.true_eq, Bool.and_eq_true, Bool.or_eq_true, decide_eq_true_eq] at this
          exact this)
        have h1 : k1 ≤ (n : Int) := HCT.out.1
        have HK2 := hid HCT.out.2
        clear HW' HCN HCT
        obtain ⟨ti, hi, hz0, hz1, hz2⟩ := info_parts valueInfoC
        obtain ⟨cz, hcz, hmk⟩ : ∃ cz : Array Value, cz.size = n ∧ ∀ w, (Instr.makeSlice 24 (.int .i64 (n : Int)) (.int .i64 (n : Int))).run Tryz.prog w = .ok (.slice (some ⟨w.heap.size, 0, none⟩) n n) (w.alloc (.cells cz 35)) := by
          refine ⟨madeCells (Value.nilIface).cells (n * 1), by rw [size_madeCells]; omega, fun w => ?_⟩
          have := run_make (P := Tryz.prog) w 24 35 ti _ Tryz.underlying24 hi hz0 .i64 .i64 n n (by omega) (Int.le_refl _) (by rw [hz2]; omega) (by omega)
          rw [hz1] at this
          simpa using this
        have HCZ := hid hcz
        clear hcz hi hz0 hz1 hz2
        by_cases hk2 : k2 < 0
        · go_enter Tryz.func24, Tryz.ntmps24
          go_wp2_with fail
          refine (HF.out _ (Ext.refl _)).mono ?_
          rintro e w1 ⟨rfl, hx1⟩
          have X1 := hid hx1
          clear hx1
          unfold kdVal Kd.val fnV
          dsimp only
          go_wp2_with fail
          have HMK := hid hmk
          clear hmk hqn hqf
          go_loopw [59] (fun q59 wr => ∃ (j : Nat) (cs : Array Value), j ≤ n ∧ q59 = .int .i64 j ∧ Ext w wr ∧ wr.heap[w1.heap.size]? = some (.cells #[.string k0, .int .i64 k1, .int .i64 k2, .int .i64 k3, .string k4, .string k5, .func (.func k6) #[] #[], .func (.func f) #[] #[], .bool false] 76) ∧ wr.heap[w1.heap.size + 1]? = some (.cells cs 35) ∧ cs.size = n ∧
              (∀ i, (h : i < ts.length) → i < j → ts[i].may ∧ ∃ d u, cs[i]? = some u ∧ VX (w1.heap.size + 1) wr d u ts[i])) (fun q59 _ => n - (intOf q59).toNat)
          case atStart => exact ⟨0, cz, Nat.zero_le _, rfl, X1.out.trans (Ext.alloc2 _ _ _), blkOld _ (blk0 _ _), blk1 _ _ _, HCZ.out, fun i _ h => absurd h (Nat.not_lt_zero _)⟩
          case round =>
            obtain ⟨j, cs, hj, rfl, hx, hb1, hb3, hcs, hall⟩ := hrel
            have HX := hid hx
            have HB1 := hid hb1
            have HB3 := hid hb3
            have HCS := hid hcs
            have HALL := hid hall
            clear hx hb1 hb3 hcs hall
            by_cases hlt : j < n
            · have hlt' : (j : Int) < n := by omega
              have hjt : j < ts.length := by rw [HNE.out]; exact hlt
              rcases HP.out with e0 | ⟨g, off, rfl, hcells⟩
              · rw [e0] at hjt; exact absurd hjt (Nat.not_lt_zero _)
              obtain ⟨K, d, u0, u1, u2, u3, h4, hrd⟩ := hcells j hjt
              obtain ⟨pk, pn, px, pa, pc, rfl, rfl, rfl, rfl⟩ := hrd.shape
              have HR := hid (fun o => hrd.later (HX.out.trans (Ext.alloc wr o)))
              obtain ⟨m0, m1, m2, m3⟩ := h4.later HX.out
              have hgl := lt_of_cell m0
              have HIN := hid (List.getElem_mem hjt)
              have HST := hid (show ts[j].may → ∀ (cs' : Array Value) (w' : World), (∀ i, i ≠ j → cs'[i]? = cs[i]?) → (∀ i d u, (h : i < ts.length) → VX (w1.heap.size + 1) wr d u ts[i] → VX (w1.heap.size + 1) w' d u ts[i]) → (∃ d u, cs'[j]? = some u ∧ VX (w1.heap.size + 1) w' d u ts[j]) → ∀ i, (h : i < ts.length) → i < j + 1 → ts[i].may ∧ ∃ d u, cs'[i]? = some u ∧ VX (w1.heap.size + 1) w' d u ts[i] from fun hm cs' w' h1 h2 h3 i hi hij => by
                by_cases e : i = j
                · subst e; exact ⟨hm, h3⟩
                · obtain ⟨hmi, d', u', hu', hv'⟩ := HALL.out i hi (by omega)
                  exact ⟨hmi, d', u', by rw [h1 i e]; exact hu', h2 i d' u' hi hv'⟩)
              clear hrd hcells h4
              generalize hkl : ts[j].kids.length = kl at m3 HR
              clear hkl
              generalize ts[j] = tj at HR HIN HST
              go_wp2_with fail
              refine (of_any _ (HR.out _)).mono ?_
              rintro e w2 ⟨hy, ⟨htm, u, bs, rfl, hown, hge, hnd⟩ | ⟨htm, rfl⟩⟩
              · obtain ⟨τ, p, rfl⟩ := hown.rd.iface
                have HY := hid ((Ext.alloc wr _).trans hy)
                have HO := hid (show VX (w1.heap.size + 1) w2 _ _ _ from ⟨_, hown, fun q hq => by
                  have h1 := hge q hq
                  have h2 := lt_of_block HB3.out
                  rw [blkS] at h1
                  omega⟩)
                have HTM := hid htm
                clear hy hown hge hnd htm
                have hb3' := HY.out.block HB3.out
                have hf3 : w2.frozen? ⟨w1.heap.size + 1, j, none⟩ = false := frozen_of hb3'
                have hc3 : w2.cell? ⟨w1.heap.size + 1, j, none⟩ = some cs[j]! := cell_of hb3' (by
                  have hs : j < cs.size := by rw [HCS.out]; exact hlt
                  rw [Array.getElem?_eq_getElem hs, getElem!_pos cs j hs])
                clear hb3'
                go_wp2_with fail
                go_roundw
                case rel =>
                  have KS : Kp (· ≠ w1.heap.size + 1) w2 (w2.setCell ⟨w1.heap.size + 1, j, none⟩ (.iface τ p)) := Kp.set w2 _ j _ (fun h => h rfl)
                  have hle : w.heap.size ≤ w1.heap.size + 1 := Nat.le_succ_of_le X1.out.size
                  refine ⟨j + 1, cs.setIfInBounds j (.iface τ p), by omega, by go_num, Kp.extOf (HX.out.trans HY.out) KS hle, set_other (HY.out.block HB1.out) (by omega) _, set_at (HY.out.block HB3.out) j _, by rw [Array.size_setIfInBounds]; exact HCS.out, HST.out HTM.out _ _ (fun i hi => set_get_other _ hi) (fun i d' u' hi hv => (hv.later HY.out).keep KS) ⟨_, _, set_get _ (by rw [HCS.out]; exact hlt), HO.out.keep KS⟩⟩
                case measure => simp [intOf]; omega
              · have HV1 := hid (show ∀ W, WorkQ ks op ts Q W (refV 1) from fun W => HV.out W _ (by rw [if_neg (fun h => htm (h _ HIN.out))]))
                have HY := hid ((Ext.alloc wr _).trans hy)
                clear hy htm
                go_wp2_with fail
                go_ret3
                exact ⟨_, rfl, HV1.out _, ⟨_, _, _, rfl⟩, HX.out.trans HY.out⟩
            · have hje : j = n := by omega
              have hlt2 : decide ((j : Int) < n) = false := decide_eq_false (by omega)
              have hlt3 : ¬ (j : Int) < n := by omega
              have hmay : ∀ t ∈ ts, t.may := fun t htm => by
                obtain ⟨i, hi, rfl⟩ := List.getElem_of_mem htm
                exact (HALL.out i hi (by have := HNE.out; omega)).1
              have HV1 := hid (show ∀ W V, (if rightB k5.data.toList (ts.map T.kind) = true then Q W V else V = refV 20) → WorkQ ks op ts Q W V from fun W V h => HV.out W V (by rw [if_pos hmay]; exact h))
              have HVC := hid (show VOCells wr (w1.heap.size + 1) ts from fun i hi => by
                obtain ⟨_, d', u', hu', hv'⟩ := HALL.out i hi (by have := HNE.out; omega)
                obtain ⟨bs', hv', _⟩ := hv'
                exact ⟨d', u', bs', cell_of HB3.out hu', hv'⟩)
              have HDD := hid (HDN.out f rfl (w1.heap.size + 1) (ts.map T.kind) Q wr (HEK.out f rfl) HJK.out.2 (by rw [List.length_map, HNE.out]; omega) (HMX.out.later HX.out) HVC.out.row (fun hr => by
                have h2 := HDK.out f rfl (by rw [HNE.out]; exact hcb) hmay hr
                exact fun w3 hx3 => by rw [List.length_map]; exact h2 w3 _ (HX.out.trans hx3) (HVC.out.later hx3)))
              rw [List.length_map, HNE.out] at HDD
              unfold Kd.val fnV at HDD
              dsimp only at HDD
              obtain ⟨z0, z1, z2, z3, z4, z5, z6, z7, z8⟩ := nine_of HB1.out
              clear hje hmay
              go_wp2_with fail
              refine HDD.out.mono ?_
              rintro e w2 ⟨V, rfl, hv, ⟨x, y, z, rfl⟩, hy⟩
              have HY := hid (HX.out.trans hy)
              have HVV := hid hv
              clear hy hv
              go_wp2_with fail
              go_ret3
              exact ⟨_, rfl, HV1.out _ _ HVV.out, ⟨_, _, _, rfl⟩, HY.out⟩
        · have hk3 : (n : Int) ≤ k2 := by have := HK2.out; omega
          go_enter Tryz.func24, Tryz.ntmps24
          go_wp2_with fail
          refine (HF.out _ (Ext.refl _)).mono ?_
          rintro e w1 ⟨rfl, hx1⟩
          have X1 := hid hx1
          clear hx1
          unfold kdVal Kd.val fnV
          dsimp only
          go_wp2_with fail
          have HMK := hid hmk
          clear hmk hqn hqf
          go_loopw [59] (fun q59 wr => ∃ (j : Nat) (cs : Array Value), j ≤ n ∧ q59 = .int .i64 j ∧ Ext w wr ∧ wr.heap[w1.heap.size]? = some (.cells #[.string k0, .int .i64 k1, .int .i64 k2, .int .i64 k3, .string k4, .string k5, .func (.func k6) #[] #[], .func (.func f) #[] #[], .bool false] 76) ∧ wr.heap[w1.heap.size + 1]? = some (.cells cs 35) ∧ cs.size = n ∧
              (∀ i, (h : i < ts.length) → i < j → ts[i].may ∧ ∃ d u, cs[i]? = some u ∧ VX (w1.heap.size + 1) wr d u ts[i])) (fun q59 _ => n - (intOf q59).toNat)
          case atStart => exact ⟨0, cz, Nat.zero_le _, rfl, X1.out.trans (Ext.alloc2 _ _ _), blkOld _ (blk0 _ _), blk1 _ _ _, HCZ.out, fun i _ h => absurd h (Nat.not_lt_zero _)⟩
          case round =>
            obtain ⟨j, cs, hj, rfl, hx, hb1, hb3, hcs, hall⟩ := hrel
            have HX := hid hx
            have HB1 := hid hb1
            have HB3 := hid hb3
            have HCS := hid hcs
            have HALL := hid hall
            clear hx hb1 hb3 hcs hall
            by_cases hlt : j < n
            · have hlt' : (j : Int) < n := by omega
              have hjt : j < ts.length := by rw [HNE.out]; exact hlt
              rcases HP.out with e0 | ⟨g, off, rfl, hcells⟩
              · rw [e0] at hjt; exact absurd hjt (Nat.not_lt_zero _)
              obtain ⟨K, d, u0, u1, u2, u3, h4, hrd⟩ := hcells j hjt
              obtain ⟨pk, pn, px, pa, pc, rfl, rfl, rfl, rfl⟩ := hrd.shape
              have HR := hid (fun o => hrd.later (HX.out.trans (Ext.alloc wr o)))
              obtain ⟨m0, m1, m2, m3⟩ := h4.later HX.out
              have hgl := lt_of_cell m0
              have HIN := hid (List.getElem_mem hjt)
              have HST := hid (show ts[j].may → ∀ (cs' : Array Value) (w' : World), (∀ i, i ≠ j → cs'[i]? = cs[i]?) → (∀ i d u, (h : i < ts.length) → VX (w1.heap.size + 1) wr d u ts[i] → VX (w1.heap.size + 1) w' d u ts[i]) → (∃ d u, cs'[j]? = some u ∧ VX (w1.heap.size + 1) w' d u ts[j]) → ∀ i, (h : i < ts.length) → i < j + 1 → ts[i].may ∧ ∃ d u, cs'[i]? = some u ∧ VX (w1.heap.size + 1) w' d u ts[i] from fun hm cs' w' h1 h2 h3 i hi hij => by
                by_cases e : i = j
                · subst e; exact ⟨hm, h3⟩
                · obtain ⟨hmi, d', u', hu', hv'⟩ := HALL.out i hi (by omega)
                  exact ⟨hmi, d', u', by rw [h1 i e]; exact hu', h2 i d' u' hi hv'⟩)
              clear hrd hcells h4
              generalize hkl : ts[j].kids.length = kl at m3 HR
              clear hkl
              generalize ts[j] = tj at HR HIN HST
              go_wp2_with fail
              refine (of_any _ (HR.out _)).mono ?_
              rintro e w2 ⟨hy, ⟨htm, u, bs, rfl, hown, hge, hnd⟩ | ⟨htm, rfl⟩⟩
              · obtain ⟨τ, p, rfl⟩ := hown.rd.iface
                have HY := hid ((Ext.alloc wr _).trans hy)
                have HO := hid (show VX (w1.heap.size + 1) w2 _ _ _ from ⟨_, hown, fun q hq => by
                  have h1 := hge q hq
                  have h2 := lt_of_block HB3.out
                  rw [blkS] at h1
                  omega⟩)
                have HTM := hid htm
                clear hy hown hge hnd htm
                have hb3' := HY.out.block HB3.out
                have hf3 : w2.frozen? ⟨w1.heap.size + 1, j, none⟩ = false := frozen_of hb3'
                have hc3 : w2.cell? ⟨w1.heap.size + 1, j, none⟩ = some cs[j]! := cell_of hb3' (by
                  have hs : j < cs.size := by rw [HCS.out]; exact hlt
                  rw [Array.getElem?_eq_getElem hs, getElem!_pos cs j hs])
                clear hb3'
                go_wp2_with fail
                go_roundw
                case rel =>
                  have KS : Kp (· ≠ w1.heap.size + 1) w2 (w2.setCell ⟨w1.heap.size + 1, j, none⟩ (.iface τ p)) := Kp.set w2 _ j _ (fun h => h rfl)
                  have hle : w.heap.size ≤ w1.heap.size + 1 := Nat.le_succ_of_le X1.out.size
                  refine ⟨j + 1, cs.setIfInBounds j (.iface τ p), by omega, by go_num, Kp.extOf (HX.out.trans HY.out) KS hle, set_other (HY.out.block HB1.out) (by omega) _, set_at (HY.out.block HB3.out) j _, by rw [Array.size_setIfInBounds]; exact HCS.out, HST.out HTM.out _ _ (fun i hi => set_get_other _ hi) (fun i d' u' hi hv => (hv.later HY.out).keep KS) ⟨_, _, set_get _ (by rw [HCS.out]; exact hlt), HO.out.keep KS⟩⟩
                case measure => simp [intOf]; omega
              · have HV1 := hid (show ∀ W, WorkQ ks op ts Q W (refV 1) from fun W => HV.out W _ (by rw [if_neg (fun h => htm (h _ HIN.out))]))
                have HY := hid ((Ext.alloc wr _).trans hy)
                clear hy htm
                go_wp2_with fail
                go_ret3
                exact ⟨_, rfl, HV1.out _, ⟨_, _, _, rfl⟩, HX.out.trans HY.out⟩
            · have hje : j = n := by omega
              have hlt2 : decide ((j : Int) < n) = false := decide_eq_false (by omega)
              have hlt3 : ¬ (j : Int) < n := by omega
              have hmay : ∀ t ∈ ts, t.may := fun t htm => by
                obtain ⟨i, hi, rfl⟩ := List.getElem_of_mem htm
                exact (HALL.out i hi (by have := HNE.out; omega)).1
              have HV1 := hid (show ∀ W V, (if rightB k5.data.toList (ts.map T.kind) = true then Q W V else V = refV 20) → WorkQ ks op ts Q W V from fun W V h => HV.out W V (by rw [if_pos hmay]; exact h))
              have HVC := hid (show VOCells wr (w1.heap.size + 1) ts from fun i hi => by
                obtain ⟨_, d', u', hu', hv'⟩ := HALL.out i hi (by have := HNE.out; omega)
                obtain ⟨bs', hv', _⟩ := hv'
                exact ⟨d', u', bs', cell_of HB3.out hu', hv'⟩)
              have HDD := hid (HDN.out f rfl (w1.heap.size + 1) (ts.map T.kind) Q wr (HEK.out f rfl) HJK.out.2 (by rw [List.length_map, HNE.out]; omega) (HMX.out.later HX.out) HVC.out.row (fun hr => by
                have h2 := HDK.out f rfl (by rw [HNE.out]; exact hcb) hmay hr
                exact fun w3 hx3 => by rw [List.length_map]; exact h2 w3 _ (HX.out.trans hx3) (HVC.out.later hx3)))
              rw [List.length_map, HNE.out] at HDD
              unfold Kd.val fnV at HDD
              dsimp only at HDD
              obtain ⟨z0, z1, z2, z3, z4, z5, z6, z7, z8⟩ := nine_of HB1.out
              clear hje hmay
              go_wp2_with fail
              refine HDD.out.mono ?_
              rintro e w2 ⟨V, rfl, hv, ⟨x, y, z, rfl⟩, hy⟩
              have HY := hid (HX.out.trans hy)
              have HVV := hid hv
              clear hy hv
              go_wp2_with fail
              go_ret3
              exact ⟨_, rfl, HV1.out _ _ HVV.out, ⟨_, _, _, rfl⟩, HY.out⟩
end Go.Proofs.YtaafcmmmkalgjaaGreatDoor
