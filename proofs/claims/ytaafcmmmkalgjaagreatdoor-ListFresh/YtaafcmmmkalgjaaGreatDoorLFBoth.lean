/-
  craft.Work by a contract, whatever the operations give, the values in memory of their own, no two sharing any; of a table no kind of which joins.
-/
import Derived.Test.YtaafcmmmkalgjaaGreatDoorLFOwn
namespace Go.Proofs.YtaafcmmmkalgjaaGreatDoor
open Go.RowKit
/-- Values in a row, of these plain ones, each in memory of its own behind g, no two sharing any. -/
def VOFCells (w : World) (g : Nat) (ts : List T) : Prop := ∃ us bss, OwnL w us ts bss ∧ bss.flatten.Nodup ∧ (∀ b ∈ bss.flatten, g < b) ∧ ∀ (j : Nat) (u : Value), us[j]? = some u → w.cell? ⟨g, j, none⟩ = some u
theorem VOFCells.later {w w' : World} {g : Nat} {ts : List T} (h : VOFCells w g ts) (hx : Ext w w') : VOFCells w' g ts := by
  obtain ⟨us, bss, h1, h2, h3, h4⟩ := h
  exact ⟨us, bss, h1.later hx, h2, h3, fun j u hu => (Below.cell hx (lt_of_cell (h4 j u hu))).trans (h4 j u hu)⟩
theorem VOFCells.row {w : World} {g : Nat} {ts : List T} (h : VOFCells w g ts) : VRow w g (ts.map T.kind) := fun j hj => by
  obtain ⟨us, bss, h1, _, _, h4⟩ := h
  obtain ⟨d, v, b, e1, _, e3⟩ := h1.2.2 j (by simpa using hj)
  exact ⟨_, d, v, _, h4 j v e1, e3.rd, by simp⟩
theorem VOFCells.oc {w : World} {g : Nat} {ts : List T} (h : VOFCells w g ts) : VOCells w g ts := fun j hj => by
  obtain ⟨us, bss, h1, _, _, h4⟩ := h
  obtain ⟨d, v, b, e1, _, e3⟩ := h1.2.2 j hj
  exact ⟨d, v, b, h4 j v e1, e3⟩
/-- The first j of them as they are being made, in a row of the block B. -/
def OwnC (B : Nat) (w : World) (cs : Array Value) (ts : List T) (j : Nat) : Prop := ∃ bss : List (List Nat), bss.length = j ∧ bss.flatten.Nodup ∧ (∀ b ∈ bss.flatten, B < b) ∧ ∀ i, (h : i < ts.length) → i < j → ts[i].may ∧ ∃ d u b, cs[i]? = some u ∧ bss[i]? = some b ∧ VOwn w d u ts[i] b
theorem OwnC.nil (B : Nat) (w : World) (cs : Array Value) (ts : List T) : OwnC B w cs ts 0 := ⟨[], rfl, List.nodup_nil, fun b hb => by simp at hb, fun i _ h => absurd h (Nat.not_lt_zero _)⟩
theorem OwnC.may {B : Nat} {w : World} {cs : Array Value} {ts : List T} {j : Nat} (h : OwnC B w cs ts j) (i : Nat) (hi : i < ts.length) (hij : i < j) : ts[i].may := by
  obtain ⟨_, _, _, _, h4⟩ := h
  exact (h4 i hi hij).1
theorem OwnC.step {B : Nat} {w : World} {cs : Array Value} {ts : List T} {j : Nat} (h : OwnC B w cs ts j) (hj : j < ts.length) (hm : ts[j].may) (hB : B < w.heap.size) (hs : j < cs.size) {w2 : World} {d : Nat} {u : Value} {bs : List Nat} (hx : Ext w w2) (ho : VOwn w2 d u ts[j] bs) (hge : ∀ b ∈ bs, w.heap.size ≤ b) (hnd : bs.Nodup) :
    OwnC B (w2.setCell ⟨B, j, none⟩ u) (cs.setIfInBounds j u) ts (j + 1) := by
  obtain ⟨bss, e1, e2, e3, e4⟩ := h
  have KS : Kp (· ≠ B) w2 (w2.setCell ⟨B, j, none⟩ u) := Kp.set w2 _ j _ (fun h => h rfl)
  have hlt : ∀ a ∈ bss.flatten, a < w.heap.size := fun a ha => by
    obtain ⟨l, hl, hal⟩ := List.mem_flatten.1 ha
    obtain ⟨i, hi, rfl⟩ := List.getElem_of_mem hl
    obtain ⟨_, d', u', b', _, h2, h3⟩ := e4 i (by omega) (by omega)
    rw [List.getElem?_eq_getElem hi] at h2
    cases h2
    exact h3.lt a hal
  refine ⟨bss ++ [bs], by rw [List.length_append, e1]; rfl, ?_, ?_, fun i hi hij => ?_⟩
  · rw [List.flatten_append, List.flatten_cons, List.flatten_nil, List.append_nil, List.nodup_append]
    exact ⟨e2, hnd, fun a ha b hb e => by have h1 := hlt a ha; have h2 := hge b hb; omega⟩
  · intro b hb
    rw [List.flatten_append, List.flatten_cons, List.flatten_nil, List.append_nil, List.mem_append] at hb
    rcases hb with hb | hb
    · exact e3 b hb
    · have := hge b hb; omega
  · by_cases e : i = j
    · subst e
      exact ⟨hm, d, u, bs, set_get _ hs, by rw [List.getElem?_append_right (by omega), e1, Nat.sub_self]; rfl, ho.keep (KS.mono fun k _ hk e => by have := hge k hk; omega)⟩
    · obtain ⟨hmi, d', u', b', h1, h2, h3⟩ := e4 i hi (by omega)
      refine ⟨hmi, d', u', b', by rw [set_get_other _ e]; exact h1, by rw [List.getElem?_append_left (by omega)]; exact h2, (h3.later hx).keep (KS.mono fun k _ hk e => ?_)⟩
      have := e3 k (List.mem_flatten.2 ⟨b', List.mem_of_getElem? h2, hk⟩)
      omega
theorem OwnC.cells {B : Nat} {w : World} {cs : Array Value} {ts : List T} {j : Nat} (h : OwnC B w cs ts j) (hj : j = ts.length) {ty : TypeId} (hb : w.heap[B]? = some (.cells cs ty)) (hs : cs.size = ts.length) : VOFCells w B ts := by
  obtain ⟨bss, e1, e2, e3, e4⟩ := h
  refine ⟨cs.toList, bss, ⟨by rw [Array.length_toList, hs], by omega, fun i hi => ?_⟩, e2, e3, fun i u hu => cell_of hb (by simpa using hu)⟩
  obtain ⟨_, d, u, b, h1, h2, h3⟩ := e4 i hi (by omega)
  exact ⟨d, u, b, by simpa using h1, h2, h3⟩
set_option maxRecDepth 100000 in
set_option maxHeartbeats 4000000 in
theorem workF_own (ks : List Kd) (tb : Nat) (op : ByteArray) (a : Option Addr) (c : Nat) (ts : List T) (Q : World → Value → Prop) (w : World) (hl : ks.length ≤ 1000) (ht : TabAt w tb ks) (hm : MaxAt w) (hp : PRow w a ts) (hn : ts.length ≤ 1000000)
    (hj : ∀ k, kdFind ks op = some k → k.joins = false ∧ k.signs.size ≤ 4000)
    (hd : ∀ k f, kdFind ks op = some k → k.does = some f → cntOk k ts.length = true → (∀ t ∈ ts, t.may) → rightB k.signs.data.toList (ts.map T.kind) = true → ∀ w1 g, Ext w w1 → w.heap.size ≤ g → VOFCells w1 g ts → Calls Tryz.prog f #[.slice (some ⟨g, 0, none⟩) ts.length ts.length] w1 fun e w' => ∃ V, e = .returned V ∧ ResR Q w' V ∧ Ext w1 w')
    (he : ∀ k f, kdFind ks op = some k → k.does = some f → Enters f) :
    Calls Tryz.prog 24 #[.slice (some ⟨tb, 0, none⟩) ks.length ks.length, .string op, .slice a ts.length c] w fun e w' => ∃ V, e = .returned V ∧ WorkQ ks op ts Q w' V ∧ (∃ x y z, V = .tuple #[x, y, z]) ∧ Ext w w' := by
  have HF := hid (fun w1 (hx : Ext w w1) => find_any ks tb op w1 hl (ht.later hx))
  have HMX := hid hm
  have HP := hid hp
  have HD := hid hd
  have HJ := hid hj
  have HE := hid he
  have hn' : (ts.length : Int) ≤ 1000000 := by omega
  have hqn : ∀ w : World, (binOp .eql 74 .nilFunc .nilFunc).run Tryz.prog w = .ok (.bool true) w := fun _ => by kernel_rfl
  have hqf : ∀ (f : Nat) (w : World), (binOp .eql 74 (.func (.func f) #[] #[]) .nilFunc).run Tryz.prog w = .ok (.bool false) w := fun _ _ => by kernel_rfl
  clear hl ht hm hp hj hd he
  obtain ⟨kn, hkn⟩ : ∃ n, ks.length = n := ⟨_, rfl⟩
  rw [hkn] at HF ⊢
  clear hkn
  obtain ⟨o, ho⟩ : ∃ o, kdFind ks op = o := ⟨_, rfl⟩
  cases o with
  | none =>
    have HV := hid (show ∀ W, WorkQ ks op ts Q W (refV 1) by intro W; unfold WorkQ; rw [ho])
    rw [ho] at HF
    clear ho
    go_enter Tryz.func24, Tryz.ntmps24
    go_wp2_with fail
    refine (HF.out _ (Ext.refl _)).mono ?_
    rintro e w1 ⟨rfl, hx1⟩
    have X1 := hid hx1
    clear hx1
    unfold kdVal
    go_wp2_with fail
    go_ret3
    exact ⟨_, rfl, HV.out _, ⟨_, _, _, rfl⟩, X1.out.trans (Ext.alloc _ _)⟩
  | some k =>
    have HJK := hid (HJ.out k ho)
    have HEK := hid (fun f h => HE.out k f ho h)
    have HDK := hid (fun f h => HD.out k f ho h)
    have HW := hid (show ∀ W V, (match k.does with | none => V = refV 1 | some _ => if cntOk k ts.length = false then V = refV 11 else if ∀ t ∈ ts, t.may then (if rightB k.signs.data.toList (ts.map T.kind) = true then Q W V else V = refV 20) else V = refV 1) → WorkQ ks op ts Q W V by intro W V h; unfold WorkQ; rw [ho]; exact h)
    rw [ho] at HF
    have HDN := hid (fun f h g ks Q w h1 h2 h3 h4 h5 h6 => done_gen k f h h1 g ks Q w h2 h3 h4 h5 h6)
    have HCN := hid (show cntOk k ts.length = (decide (k.min ≤ ts.length) && (decide (k.max < 0) || decide ((ts.length : Int) ≤ k.max))) from rfl)
    clear ho HJ HE HD
    obtain ⟨k0, k1, k2, k3, k4, k5, k6, k7, k8⟩ := k
    obtain rfl : k8 = false := HJK.out.1
    dsimp only at HW HDK HEK HCN
    cases k7 with
    | none =>
      have HV := hid (show ∀ W, WorkQ ks op ts Q W (refV 1) from fun W => HW.out W _ rfl)
      go_enter Tryz.func24, Tryz.ntmps24
      go_wp2_with fail
      refine (HF.out _ (Ext.refl _)).mono ?_
      rintro e w1 ⟨rfl, hx1⟩
      have X1 := hid hx1
      clear hx1
      unfold kdVal Kd.val fnV
      dsimp only
      go_wp2_with fail
      go_ret3
      exact ⟨_, rfl, HV.out _, ⟨_, _, _, rfl⟩, X1.out.trans (Ext.alloc _ _)⟩
    | some f =>
      have HW' := hid (show ∀ W V, (if cntOk ⟨k0, k1, k2, k3, k4, k5, k6, some f, false⟩ ts.length = false then V = refV 11 else if ∀ t ∈ ts, t.may then (if rightB k5.data.toList (ts.map T.kind) = true then Q W V else V = refV 20) else V = refV 1) → WorkQ ks op ts Q W V from HW.out)
      clear HW
      obtain ⟨n, hne⟩ : ∃ n, ts.length = n := ⟨_, rfl⟩
      have HNE := hid hne
      rw [hne] at hn' ⊢
      clear hne
      rw [HNE.out] at HCN HW'
      obtain ⟨cb, hcb⟩ : ∃ b, cntOk ⟨k0, k1, k2, k3, k4, k5, k6, some f, false⟩ n = b := ⟨_, rfl⟩
      rw [hcb] at HW' HCN
      cases cb with
      | false =>
        have HV := hid (show ∀ W, WorkQ ks op ts Q W (refV 11) from fun W => HW'.out W _ rfl)
        have HCF := hid (show ¬ (k1 ≤ (n : Int) ∧ (k2 < 0 ∨ (n : Int) ≤ k2)) from fun h => by
          have := HCN.out
          simp only [Bool.false_eq, Bool.and_eq_false_iff, Bool.or_eq_false_iff, decide_eq_false_iff_not] at this
          omega)
        by_cases h1 : k1 ≤ (n : Int)
        · have h2 : 0 ≤ k2 := by have := HCF.out; omega
          have h3 : k2 < (n : Int) := by have := HCF.out; omega
          go_enter Tryz.func24, Tryz.ntmps24
          go_wp2_with fail
          refine (HF.out _ (Ext.refl _)).mono ?_
          rintro e w1 ⟨rfl, hx1⟩
          have X1 := hid hx1
          clear hx1
          unfold kdVal Kd.val fnV
          dsimp only
          go_wp2_with fail
          go_ret3
          exact ⟨_, rfl, HV.out _, ⟨_, _, _, rfl⟩, X1.out.trans (Ext.alloc _ _)⟩
        · go_enter Tryz.func24, Tryz.ntmps24
          go_wp2_with fail
          refine (HF.out _ (Ext.refl _)).mono ?_
          rintro e w1 ⟨rfl, hx1⟩
          have X1 := hid hx1
          clear hx1
          unfold kdVal Kd.val fnV
          dsimp only
          go_wp2_with fail
          go_ret3
          exact ⟨_, rfl, HV.out _, ⟨_, _, _, rfl⟩, X1.out.trans (Ext.alloc _ _)⟩
      | true =>
        have HV := hid (show ∀ W V, (if ∀ t ∈ ts, t.may then (if rightB k5.data.toList (ts.map T.kind) = true then Q W V else V = refV 20) else V = refV 1) → WorkQ ks op ts Q W V from HW'.out)
        have HCT := hid (show k1 ≤ (n : Int) ∧ (k2 < 0 ∨ (n : Int) ≤ k2) by
          have := HCN.out
          simp only [Bool.true_eq, Bool.and_eq_true, Bool.or_eq_true, decide_eq_true_eq] at this
          exact this)
        have h1 : k1 ≤ (n : Int) := HCT.out.1
        have HK2 := hid HCT.out.2
        clear HW' HCN HCT
        obtain ⟨ti, hi, hz0, hz1, hz2⟩ := info_parts valueInfoC
        obtain ⟨cz, hcz, hmk⟩ : ∃ cz : Array Value, cz.size = n ∧ ∀ w, (Instr.makeSlice 24 (.int .i64 (n : Int)) (.int .i64 (n : Int))).run Tryz.prog w = .ok (.slice (some ⟨w.heap.size, 0, none⟩) n n) (w.alloc (.cells cz 35)) := by
          refine ⟨madeCells (Value.nilIface).cells (n * 1), by rw [size_madeCells]; omega, fun w => ?_⟩
          have := run_make (P := Tryz.prog) w 24 35 ti _ Tryz.underlying24 hi hz0 .i64 .i64 n n (by omega) (Int.le_refl _) (by rw [hz2]; omega) (by omega)
          rw [hz1] at this
          simpa using this
        have HCZ := hid hcz
        clear hcz hi hz0 hz1 hz2
        by_cases hk2 : k2 < 0
        · go_enter Tryz.func24, Tryz.ntmps24
          go_wp2_with fail
          refine (HF.out _ (Ext.refl _)).mono ?_
          rintro e w1 ⟨rfl, hx1⟩
          have X1 := hid hx1
          clear hx1
          unfold kdVal Kd.val fnV
          dsimp only
          go_wp2_with fail
          have HMK := hid hmk
          clear hmk hqn hqf
          go_loopw [59] (fun q59 wr => ∃ (j : Nat) (cs : Array Value), j ≤ n ∧ q59 = .int .i64 j ∧ Ext w wr ∧ wr.heap[w1.heap.size]? = some (.cells #[.string k0, .int .i64 k1, .int .i64 k2, .int .i64 k3, .string k4, .string k5, .func (.func k6) #[] #[], .func (.func f) #[] #[], .bool false] 76) ∧ wr.heap[w1.heap.size + 1]? = some (.cells cs 35) ∧ cs.size = n ∧
              OwnC (w1.heap.size + 1) wr cs ts j) (fun q59 _ => n - (intOf q59).toNat)
          case atStart => exact ⟨0, cz, Nat.zero_le _, rfl, X1.out.trans (Ext.alloc2 _ _ _), blkOld _ (blk0 _ _), blk1 _ _ _, HCZ.out, OwnC.nil _ _ _ _⟩
          case round =>
            obtain ⟨j, cs, hj, rfl, hx, hb1, hb3, hcs, hall⟩ := hrel
            have HX := hid hx
            have HB1 := hid hb1
            have HB3 := hid hb3
            have HCS := hid hcs
            have HALL := hid hall
            clear hx hb1 hb3 hcs hall
            by_cases hlt : j < n
            · have hlt' : (j : Int) < n := by omega
              have hjt : j < ts.length := by rw [HNE.out]; exact hlt
              rcases HP.out with e0 | ⟨g, off, rfl, hcells⟩
              · rw [e0] at hjt; exact absurd hjt (Nat.not_lt_zero _)
              obtain ⟨K, d, u0, u1, u2, u3, h4, hrd⟩ := hcells j hjt
              obtain ⟨pk, pn, px, pa, pc, rfl, rfl, rfl, rfl⟩ := hrd.shape
              have HR := hid (fun o => hrd.later (HX.out.trans (Ext.alloc wr o)))
              obtain ⟨m0, m1, m2, m3⟩ := h4.later HX.out
              have hgl := lt_of_cell m0
              have HIN := hid (List.getElem_mem hjt)
              have HST := hid (show ts[j].may → ∀ (w2 : World) (d : Nat) (u : Value) (bs : List Nat), Ext wr w2 → VOwn w2 d u ts[j] bs → (∀ b ∈ bs, wr.heap.size ≤ b) → bs.Nodup → OwnC (w1.heap.size + 1) (w2.setCell ⟨(w1.heap.size + 1), j, none⟩ u) (cs.setIfInBounds j u) ts (j + 1) from fun hm w2 d u bs hx ho hge hnd => HALL.out.step hjt hm (lt_of_block HB3.out) (by rw [HCS.out]; exact hlt) hx ho hge hnd)
              clear hrd hcells h4
              generalize hkl : ts[j].kids.length = kl at m3 HR
              clear hkl
              generalize ts[j] = tj at HR HIN HST
              go_wp2_with fail
              refine (of_any _ (HR.out _)).mono ?_
              rintro e w2 ⟨hy, ⟨htm, u, bs, rfl, hown, hge, hnd⟩ | ⟨htm, rfl⟩⟩
              · obtain ⟨τ, p, rfl⟩ := hown.rd.iface
                have HY := hid ((Ext.alloc wr _).trans hy)
                have HO := hid hown
                have HGE := hid hge
                have HND := hid hnd
                have HTM := hid htm
                clear hy hown hge hnd htm
                have hb3' := HY.out.block HB3.out
                have hf3 : w2.frozen? ⟨w1.heap.size + 1, j, none⟩ = false := frozen_of hb3'
                have hc3 : w2.cell? ⟨w1.heap.size + 1, j, none⟩ = some cs[j]! := cell_of hb3' (by
                  have hs : j < cs.size := by rw [HCS.out]; exact hlt
                  rw [Array.getElem?_eq_getElem hs, getElem!_pos cs j hs])
                clear hb3'
                go_wp2_with fail
                go_roundw
                case rel =>
                  have KS : Kp (· ≠ w1.heap.size + 1) w2 (w2.setCell ⟨w1.heap.size + 1, j, none⟩ (.iface τ p)) := Kp.set w2 _ j _ (fun h => h rfl)
                  have hle : w.heap.size ≤ w1.heap.size + 1 := Nat.le_succ_of_le X1.out.size
                  refine ⟨j + 1, cs.setIfInBounds j (.iface τ p), by omega, by go_num, Kp.extOf (HX.out.trans HY.out) KS hle, set_other (HY.out.block HB1.out) (by omega) _, set_at (HY.out.block HB3.out) j _, by rw [Array.size_setIfInBounds]; exact HCS.out, HST.out HTM.out _ _ _ _ HY.out HO.out (fun b hb => by have h1 := HGE.out b hb; rw [blkS] at h1; omega) HND.out⟩
                case measure => simp [intOf]; omega
              · have HV1 := hid (show ∀ W, WorkQ ks op ts Q W (refV 1) from fun W => HV.out W _ (by rw [if_neg (fun h => htm (h _ HIN.out))]))
                have HY := hid ((Ext.alloc wr _).trans hy)
                clear hy htm
                go_wp2_with fail
                go_ret3
                exact ⟨_, rfl, HV1.out _, ⟨_, _, _, rfl⟩, HX.out.trans HY.out⟩
            · have hje : j = n := by omega
              have hlt2 : decide ((j : Int) < n) = false := decide_eq_false (by omega)
              have hlt3 : ¬ (j : Int) < n := by omega
              have hmay : ∀ t ∈ ts, t.may := fun t htm => by
                obtain ⟨i, hi, rfl⟩ := List.getElem_of_mem htm
                exact HALL.out.may i hi (by have := HNE.out; omega)
              have HV1 := hid (show ∀ W V, (if rightB k5.data.toList (ts.map T.kind) = true then Q W V else V = refV 20) → WorkQ ks op ts Q W V from fun W V h => HV.out W V (by rw [if_pos hmay]; exact h))
              have HLE := hid (show w.heap.size ≤ (w1.heap.size + 1) from Nat.le_succ_of_le X1.out.size)
              have HVC := hid (show VOFCells wr (w1.heap.size + 1) ts from HALL.out.cells (by rw [HNE.out]; omega) HB3.out (by rw [HCS.out, HNE.out]))
              have HDD := hid (HDN.out f rfl (w1.heap.size + 1) (ts.map T.kind) Q wr (HEK.out f rfl) HJK.out.2 (by rw [List.length_map, HNE.out]; omega) (HMX.out.later HX.out) HVC.out.row (fun hr => by
                have h2 := HDK.out f rfl (by rw [HNE.out]; exact hcb) hmay hr
                exact fun w3 hx3 => by rw [List.length_map]; exact h2 w3 _ (HX.out.trans hx3) HLE.out (HVC.out.later hx3)))
              rw [List.length_map, HNE.out] at HDD
              unfold Kd.val fnV at HDD
              dsimp only at HDD
              obtain ⟨z0, z1, z2, z3, z4, z5, z6, z7, z8⟩ := nine_of HB1.out
              clear hje hmay
              go_wp2_with fail
              refine HDD.out.mono ?_
              rintro e w2 ⟨V, rfl, hv, ⟨x, y, z, rfl⟩, hy⟩
              have HY := hid (HX.out.trans hy)
              have HVV := hid hv
              clear hy hv
              go_wp2_with fail
              go_ret3
              exact ⟨_, rfl, HV1.out _ _ HVV.out, ⟨_, _, _, rfl⟩, HY.out⟩
        · have hk3 : (n : Int) ≤ k2 := by have := HK2.out; omega
          go_enter Tryz.func24, Tryz.ntmps24
          go_wp2_with fail
          refine (HF.out _ (Ext.refl _)).mono ?_
          rintro e w1 ⟨rfl, hx1⟩
          have X1 := hid hx1
          clear hx1
          unfold kdVal Kd.val fnV
          dsimp only
          go_wp2_with fail
          have HMK := hid hmk
          clear hmk hqn hqf
          go_loopw [59] (fun q59 wr => ∃ (j : Nat) (cs : Array Value), j ≤ n ∧ q59 = .int .i64 j ∧ Ext w wr ∧ wr.heap[w1.heap.size]? = some (.cells #[.string k0, .int .i64 k1, .int .i64 k2, .int .i64 k3, .string k4, .string k5, .func (.func k6) #[] #[], .func (.func f) #[] #[], .bool false] 76) ∧ wr.heap[w1.heap.size + 1]? = some (.cells cs 35) ∧ cs.size = n ∧
              OwnC (w1.heap.size + 1) wr cs ts j) (fun q59 _ => n - (intOf q59).toNat)
          case atStart => exact ⟨0, cz, Nat.zero_le _, rfl, X1.out.trans (Ext.alloc2 _ _ _), blkOld _ (blk0 _ _), blk1 _ _ _, HCZ.out, OwnC.nil _ _ _ _⟩
          case round =>
            obtain ⟨j, cs, hj, rfl, hx, hb1, hb3, hcs, hall⟩ := hrel
            have HX := hid hx
            have HB1 := hid hb1
            have HB3 := hid hb3
            have HCS := hid hcs
            have HALL := hid hall
            clear hx hb1 hb3 hcs hall
            by_cases hlt : j < n
            · have hlt' : (j : Int) < n := by omega
              have hjt : j < ts.length := by rw [HNE.out]; exact hlt
              rcases HP.out with e0 | ⟨g, off, rfl, hcells⟩
              · rw [e0] at hjt; exact absurd hjt (Nat.not_lt_zero _)
              obtain ⟨K, d, u0, u1, u2, u3, h4, hrd⟩ := hcells j hjt
              obtain ⟨pk, pn, px, pa, pc, rfl, rfl, rfl, rfl⟩ := hrd.shape
              have HR := hid (fun o => hrd.later (HX.out.trans (Ext.alloc wr o)))
              obtain ⟨m0, m1, m2, m3⟩ := h4.later HX.out
              have hgl := lt_of_cell m0
              have HIN := hid (List.getElem_mem hjt)
              have HST := hid (show ts[j].may → ∀ (w2 : World) (d : Nat) (u : Value) (bs : List Nat), Ext wr w2 → VOwn w2 d u ts[j] bs → (∀ b ∈ bs, wr.heap.size ≤ b) → bs.Nodup → OwnC (w1.heap.size + 1) (w2.setCell ⟨(w1.heap.size + 1), j, none⟩ u) (cs.setIfInBounds j u) ts (j + 1) from fun hm w2 d u bs hx ho hge hnd => HALL.out.step hjt hm (lt_of_block HB3.out) (by rw [HCS.out]; exact hlt) hx ho hge hnd)
              clear hrd hcells h4
              generalize hkl : ts[j].kids.length = kl at m3 HR
              clear hkl
              generalize ts[j] = tj at HR HIN HST
              go_wp2_with fail
              refine (of_any _ (HR.out _)).mono ?_
              rintro e w2 ⟨hy, ⟨htm, u, bs, rfl, hown, hge, hnd⟩ | ⟨htm, rfl⟩⟩
              · obtain ⟨τ, p, rfl⟩ := hown.rd.iface
                have HY := hid ((Ext.alloc wr _).trans hy)
                have HO := hid hown
                have HGE := hid hge
                have HND := hid hnd
                have HTM := hid htm
                clear hy hown hge hnd htm
                have hb3' := HY.out.block HB3.out
                have hf3 : w2.frozen? ⟨w1.heap.size + 1, j, none⟩ = false := frozen_of hb3'
                have hc3 : w2.cell? ⟨w1.heap.size + 1, j, none⟩ = some cs[j]! := cell_of hb3' (by
                  have hs : j < cs.size := by rw [HCS.out]; exact hlt
                  rw [Array.getElem?_eq_getElem hs, getElem!_pos cs j hs])
                clear hb3'
                go_wp2_with fail
                go_roundw
                case rel =>
                  have KS : Kp (· ≠ w1.heap.size + 1) w2 (w2.setCell ⟨w1.heap.size + 1, j, none⟩ (.iface τ p)) := Kp.set w2 _ j _ (fun h => h rfl)
                  have hle : w.heap.size ≤ w1.heap.size + 1 := Nat.le_succ_of_le X1.out.size
                  refine ⟨j + 1, cs.setIfInBounds j (.iface τ p), by omega, by go_num, Kp.extOf (HX.out.trans HY.out) KS hle, set_other (HY.out.block HB1.out) (by omega) _, set_at (HY.out.block HB3.out) j _, by rw [Array.size_setIfInBounds]; exact HCS.out, HST.out HTM.out _ _ _ _ HY.out HO.out (fun b hb => by have h1 := HGE.out b hb; rw [blkS] at h1; omega) HND.out⟩
                case measure => simp [intOf]; omega
              · have HV1 := hid (show ∀ W, WorkQ ks op ts Q W (refV 1) from fun W => HV.out W _ (by rw [if_neg (fun h => htm (h _ HIN.out))]))
                have HY := hid ((Ext.alloc wr _).trans hy)
                clear hy htm
                go_wp2_with fail
                go_ret3
                exact ⟨_, rfl, HV1.out _, ⟨_, _, _, rfl⟩, HX.out.trans HY.out⟩
            · have hje : j = n := by omega
              have hlt2 : decide ((j : Int) < n) = false := decide_eq_false (by omega)
              have hlt3 : ¬ (j : Int) < n := by omega
              have hmay : ∀ t ∈ ts, t.may := fun t htm => by
                obtain ⟨i, hi, rfl⟩ := List.getElem_of_mem htm
                exact HALL.out.may i hi (by have := HNE.out; omega)
              have HV1 := hid (show ∀ W V, (if rightB k5.data.toList (ts.map T.kind) = true then Q W V else V = refV 20) → WorkQ ks op ts Q W V from fun W V h => HV.out W V (by rw [if_pos hmay]; exact h))
              have HLE := hid (show w.heap.size ≤ (w1.heap.size + 1) from Nat.le_succ_of_le X1.out.size)
              have HVC := hid (show VOFCells wr (w1.heap.size + 1) ts from HALL.out.cells (by rw [HNE.out]; omega) HB3.out (by rw [HCS.out, HNE.out]))
              have HDD := hid (HDN.out f rfl (w1.heap.size + 1) (ts.map T.kind) Q wr (HEK.out f rfl) HJK.out.2 (by rw [List.length_map, HNE.out]; omega) (HMX.out.later HX.out) HVC.out.row (fun hr => by
                have h2 := HDK.out f rfl (by rw [HNE.out]; exact hcb) hmay hr
                exact fun w3 hx3 => by rw [List.length_map]; exact h2 w3 _ (HX.out.trans hx3) HLE.out (HVC.out.later hx3)))
              rw [List.length_map, HNE.out] at HDD
              unfold Kd.val fnV at HDD
              dsimp only at HDD
              obtain ⟨z0, z1, z2, z3, z4, z5, z6, z7, z8⟩ := nine_of HB1.out
              clear hje hmay
              go_wp2_with fail
              refine HDD.out.mono ?_
              rintro e w2 ⟨V, rfl, hv, ⟨x, y, z, rfl⟩, hy⟩
              have HY := hid (HX.out.trans hy)
              have HVV := hid hv
              clear hy hv
              go_wp2_with fail
              go_ret3
              exact ⟨_, rfl, HV1.out _ _ HVV.out, ⟨_, _, _, rfl⟩, HY.out⟩
end Go.Proofs.YtaafcmmmkalgjaaGreatDoor
/-
  craft.Work by a contract, whatever the operations give, the values in memory of their own, no two sharing any; of a kind that joins.
-/
namespace Go.Proofs.YtaafcmmmkalgjaaGreatDoor
open Go.RowKit
set_option maxRecDepth 100000 in
set_option maxHeartbeats 4000000 in
theorem workF_join (ks : List Kd) (tb : Nat) (op : ByteArray) (a : Option Addr) (c : Nat) (ts : List T) (Q : World → Value → Prop) (w : World) (hl : ks.length ≤ 1000) (ht : TabAt w tb ks) (hm : MaxAt w) (hp : PRow w a ts) (hn : ts.length ≤ 1000000)
    (k : Kd) (f : Nat) (ho : kdFind ks op = some k) (hdo : k.does = some f) (hct : k.min ≤ ts.length) (hcx : k.max < 0) (hj : k.joins = true ∧ k.signs.size ≤ 4000)
    (hd : (∀ t ∈ ts, t.may) → (T.node 5 0 ⟨#[]⟩ ts).may → rightB k.signs.data.toList (ts.map T.kind) = true → ∀ w1 g, Ext w w1 → w.heap.size ≤ g → VOFCells w1 g ts → Calls Tryz.prog f #[.slice (some ⟨g, 0, none⟩) ts.length ts.length] w1 fun e w' => ∃ V, e = .returned V ∧ ResR Q w' V ∧ Ext w1 w')
    (he : Enters f) :
    Calls Tryz.prog 24 #[.slice (some ⟨tb, 0, none⟩) ks.length ks.length, .string op, .slice a ts.length c] w fun e w' => ∃ V, e = .returned V ∧ JoinQ k.signs ts Q w' V ∧ (∃ x y z, V = .tuple #[x, y, z]) ∧ Ext w w' := by
  obtain ⟨dd, hrl⟩ := hp.rdl (by omega)
  have HJOIN := hid (fun w1 (hx : Ext w w1) => join_any (c := c) w1 (hrl.keep (hx.kp _)))
  clear hrl
  have HF := hid (fun w1 (hx : Ext w w1) => find_any ks tb op w1 hl (ht.later hx))
  rw [ho] at HF
  have HMX := hid hm
  have HP := hid hp
  have HDK := hid hd
  have HEK := hid he
  have hn' : (ts.length : Int) ≤ 1000000 := by omega
  have hqn : ∀ w : World, (binOp .eql 74 .nilFunc .nilFunc).run Tryz.prog w = .ok (.bool true) w := fun _ => by kernel_rfl
  have hqf : ∀ (f : Nat) (w : World), (binOp .eql 74 (.func (.func f) #[] #[]) .nilFunc).run Tryz.prog w = .ok (.bool false) w := fun _ _ => by kernel_rfl
  clear hl ht hm hp hd he
  obtain ⟨kn, hkn⟩ : ∃ n, ks.length = n := ⟨_, rfl⟩
  rw [hkn] at HF ⊢
  clear hkn ho
  have HDN := hid (fun g ks Q w h2 h3 h4 h5 h6 => done_gen k f hdo HEK.out g ks Q w h2 h3 h4 h5 h6)
  have HJS := hid hj.2
  obtain ⟨k0, k1, k2, k3, k4, k5, k6, k7, k8⟩ := k
  obtain rfl : k8 = true := hj.1
  obtain rfl : k7 = some f := hdo
  dsimp only at HJS HDK hct hcx
  clear hj
  obtain ⟨n, hne⟩ : ∃ n, ts.length = n := ⟨_, rfl⟩
  have HNE := hid hne
  rw [hne] at hn' hct HJOIN ⊢
  clear hne
  have h1 : k1 ≤ (n : Int) := hct
  have hk2 : k2 < 0 := hcx
  have HV := hid (show ∀ W V, JoinQ k5 ts Q W V → JoinQ (⟨k0, k1, k2, k3, k4, k5, k6, some f, true⟩ : Kd).signs ts Q W V from fun _ _ h => h)
  obtain ⟨ti, hi, hz0, hz1, hz2⟩ := info_parts valueInfoC
  obtain ⟨cz, hcz, hmk⟩ : ∃ cz : Array Value, cz.size = n ∧ ∀ w, (Instr.makeSlice 24 (.int .i64 (n : Int)) (.int .i64 (n : Int))).run Tryz.prog w = .ok (.slice (some ⟨w.heap.size, 0, none⟩) n n) (w.alloc (.cells cz 35)) := by
    refine ⟨madeCells (Value.nilIface).cells (n * 1), by rw [size_madeCells]; omega, fun w => ?_⟩
    have := run_make (P := Tryz.prog) w 24 35 ti _ Tryz.underlying24 hi hz0 .i64 .i64 n n (by omega) (Int.le_refl _) (by rw [hz2]; omega) (by omega)
    rw [hz1] at this
    simpa using this
  have HCZ := hid hcz
  clear hcz hi hz0 hz1 hz2
  go_enter Tryz.func24, Tryz.ntmps24
  go_wp2_with fail
  refine (HF.out _ (Ext.refl _)).mono ?_
  rintro e w1 ⟨rfl, hx1⟩
  have X1 := hid hx1
  clear hx1
  unfold kdVal Kd.val fnV
  dsimp only
  go_wp2_with fail
  refine (HJOIN.out _ (X1.out.trans (Ext.alloc _ _))).mono ?_
  rintro e wj ⟨hxj, hcase⟩
  have XJ := hid (X1.out.trans ((Ext.alloc w1 (.cells #[.string k0, .int .i64 k1, .int .i64 k2, .int .i64 k3, .string k4, .string k5, .func (.func k6) #[] #[], .func (.func f) #[] #[], .bool true] 76)).trans hxj))
  have HKB := hid (hxj.block (blk0 w1 (.cells #[.string k0, .int .i64 k1, .int .i64 k2, .int .i64 k3, .string k4, .string k5, .func (.func k6) #[] #[], .func (.func f) #[] #[], .bool true] 76)))
  clear hxj
  generalize w1.heap.size = kx at HKB
  rcases hcase with ⟨⟨t0, ht0, hno⟩, rfl⟩ | ⟨hmay, hno, rfl⟩ | ⟨hmay, hall0, u, bs, rfl, _⟩
  · have HVV := hid (show ∀ W, JoinQ k5 ts Q W (refV 1) from fun W => by unfold JoinQ; rw [if_neg (fun h => hno (h _ ht0))])
    clear hno ht0
    go_wp2_with fail
    go_ret3
    exact ⟨_, rfl, HVV.out _, ⟨_, _, _, rfl⟩, XJ.out⟩
  · have HVV := hid (show ∀ W, JoinQ k5 ts Q W (refV 2) from fun W => by unfold JoinQ; rw [if_pos hmay, if_neg hno])
    clear hno hmay
    go_wp2_with fail
    go_ret3
    exact ⟨_, rfl, HVV.out _, ⟨_, _, _, rfl⟩, XJ.out⟩
  have HMAY := hid hmay
  have HALL0 := hid hall0
  have HVV := hid (show ∀ W V, (if rightB k5.data.toList (ts.map T.kind) = true then Q W V else V = refV 20) → JoinQ k5 ts Q W V from fun W V h => by unfold JoinQ; rw [if_pos hmay, if_pos hall0]; exact h)
  clear hmay hall0
  obtain ⟨zz0, zz1, zz2, zz3, zz4, zz5, zz6, zz7, zz8⟩ := nine_of HKB.out
  have hkx := lt_of_cell zz0
  have HKX := hid hkx
  go_wp2_with fail
  clear zz0 zz1 zz2 zz3 zz4 zz5 zz6 zz7 zz8 hkx
  have HMK := hid hmk
  clear hmk hqn hqf
  go_loopw [59] (fun q59 wr => ∃ (j : Nat) (cs : Array Value), j ≤ n ∧ q59 = .int .i64 j ∧ Ext w wr ∧ wr.heap[kx]? = some (.cells #[.string k0, .int .i64 k1, .int .i64 k2, .int .i64 k3, .string k4, .string k5, .func (.func k6) #[] #[], .func (.func f) #[] #[], .bool true] 76) ∧ wr.heap[wj.heap.size]? = some (.cells cs 35) ∧ cs.size = n ∧
      OwnC (wj.heap.size) wr cs ts j) (fun q59 _ => n - (intOf q59).toNat)
  case atStart => exact ⟨0, cz, Nat.zero_le _, rfl, XJ.out.trans (Ext.alloc _ _), blkOld _ HKB.out, blk0 _ _, HCZ.out, OwnC.nil _ _ _ _⟩
  case round =>
    obtain ⟨j, cs, hj, rfl, hx, hb1, hb3, hcs, hall⟩ := hrel
    have HX := hid hx
    have HB1 := hid hb1
    have HB3 := hid hb3
    have HCS := hid hcs
    have HALL := hid hall
    clear hx hb1 hb3 hcs hall
    by_cases hlt : j < n
    · have hlt' : (j : Int) < n := by omega
      have hjt : j < ts.length := by rw [HNE.out]; exact hlt
      rcases HP.out with e0 | ⟨g, off, rfl, hcells⟩
      · rw [e0] at hjt; exact absurd hjt (Nat.not_lt_zero _)
      obtain ⟨K, d, u0, u1, u2, u3, h4, hrd⟩ := hcells j hjt
      obtain ⟨pk, pn, px, pa, pc, rfl, rfl, rfl, rfl⟩ := hrd.shape
      have HR := hid (fun o => hrd.later (HX.out.trans (Ext.alloc wr o)))
      obtain ⟨m0, m1, m2, m3⟩ := h4.later HX.out
      have hgl := lt_of_cell m0
      have HIN := hid (List.getElem_mem hjt)
      have HST := hid (show ts[j].may → ∀ (w2 : World) (d : Nat) (u : Value) (bs : List Nat), Ext wr w2 → VOwn w2 d u ts[j] bs → (∀ b ∈ bs, wr.heap.size ≤ b) → bs.Nodup → OwnC (wj.heap.size) (w2.setCell ⟨(wj.heap.size), j, none⟩ u) (cs.setIfInBounds j u) ts (j + 1) from fun hm w2 d u bs hx ho hge hnd => HALL.out.step hjt hm (lt_of_block HB3.out) (by rw [HCS.out]; exact hlt) hx ho hge hnd)
      clear hrd hcells h4
      generalize hkl : ts[j].kids.length = kl at m3 HR
      clear hkl
      generalize ts[j] = tj at HR HIN HST
      go_wp2_with fail
      refine (of_any _ (HR.out _)).mono ?_
      rintro e w2 ⟨hy, ⟨htm, u, bs, rfl, hown, hge, hnd⟩ | ⟨htm, rfl⟩⟩
      · obtain ⟨τ, p, rfl⟩ := hown.rd.iface
        have HY := hid ((Ext.alloc wr _).trans hy)
        have HO := hid hown
        have HGE := hid hge
        have HND := hid hnd
        have HTM := hid htm
        clear hy hown hge hnd htm
        have hb3' := HY.out.block HB3.out
        have hf3 : w2.frozen? ⟨wj.heap.size, j, none⟩ = false := frozen_of hb3'
        have hc3 : w2.cell? ⟨wj.heap.size, j, none⟩ = some cs[j]! := cell_of hb3' (by
          have hs : j < cs.size := by rw [HCS.out]; exact hlt
          rw [Array.getElem?_eq_getElem hs, getElem!_pos cs j hs])
        clear hb3'
        go_wp2_with fail
        go_roundw
        case rel =>
          have KS : Kp (· ≠ wj.heap.size) w2 (w2.setCell ⟨wj.heap.size, j, none⟩ (.iface τ p)) := Kp.set w2 _ j _ (fun h => h rfl)
          have hle : w.heap.size ≤ wj.heap.size := XJ.out.size
          refine ⟨j + 1, cs.setIfInBounds j (.iface τ p), by omega, by go_num, Kp.extOf (HX.out.trans HY.out) KS hle, set_other (HY.out.block HB1.out) (by have := HKX.out; omega) _, set_at (HY.out.block HB3.out) j _, by rw [Array.size_setIfInBounds]; exact HCS.out, HST.out HTM.out _ _ _ _ HY.out HO.out (fun b hb => by have h1 := HGE.out b hb; rw [blkS] at h1; omega) HND.out⟩
        case measure => simp [intOf]; omega
      · exact absurd (HMAY.out _ HIN.out) htm
    · have hje : j = n := by omega
      have hlt2 : decide ((j : Int) < n) = false := decide_eq_false (by omega)
      have hlt3 : ¬ (j : Int) < n := by omega
      have HLE := hid (show w.heap.size ≤ (wj.heap.size) from XJ.out.size)
      have HVC := hid (show VOFCells wr (wj.heap.size) ts from HALL.out.cells (by rw [HNE.out]; omega) HB3.out (by rw [HCS.out, HNE.out]))
      have HDD := hid (HDN.out (wj.heap.size) (ts.map T.kind) Q wr HJS.out (by rw [List.length_map, HNE.out]; omega) (HMX.out.later HX.out) HVC.out.row (fun hr => by
        have h2 := HDK.out HMAY.out HALL0.out hr
        exact fun w3 hx3 => by rw [List.length_map]; exact h2 w3 _ (HX.out.trans hx3) HLE.out (HVC.out.later hx3)))
      rw [List.length_map, HNE.out] at HDD
      unfold Kd.val fnV at HDD
      dsimp only at HDD
      obtain ⟨z0, z1, z2, z3, z4, z5, z6, z7, z8⟩ := nine_of HB1.out
      clear hje
      go_wp2_with fail
      refine HDD.out.mono ?_
      rintro e w2 ⟨V, rfl, hv, ⟨x, y, z, rfl⟩, hy⟩
      have HY := hid (HX.out.trans hy)
      have HVQ := hid hv
      clear hy hv
      go_wp2_with fail
      go_ret3
      exact ⟨_, rfl, HVV.out _ _ HVQ.out, ⟨_, _, _, rfl⟩, HY.out⟩
end Go.Proofs.YtaafcmmmkalgjaaGreatDoor
/-
  list.Work on any operation and any plain values: the answer as data, a value in memory of its own.
-/
namespace Go.Proofs.YtaafcmmmkalgjaaGreatDoor
open Go.RowKit
/-- The program's answer, in memory of its own that is not before M. -/
def AnsF (M : Nat) (r : Ans) (w : World) (V : Value) : Prop := match r with
  | .bad c x => (c == 0) = false ∧ V = refX c x
  | .good t => t.may ∧ ∃ d v bs, V = .tuple #[v, .int .i64 0, .string ⟨#[]⟩] ∧ VOwnE w d v t bs ∧ bs.Nodup ∧ ∀ b ∈ bs, M ≤ b
theorem AnsF.later {M : Nat} {r : Ans} {w w' : World} {V : Value} (h : AnsF M r w V) (hx : Ext w w') : AnsF M r w' V := by
  cases r with
  | bad c x => exact h
  | good t =>
    obtain ⟨hm, d, v, bs, e, h1, h2, h3⟩ := h
    exact ⟨hm, d, v, bs, e, h1.later hx, h2, h3⟩
theorem AnsF.ans {M : Nat} {r : Ans} {w : World} {V : Value} (h : AnsF M r w V) : AnsV r w V := by
  cases r with
  | bad c x => exact h
  | good t =>
    obtain ⟨hm, d, v, bs, e, h1, h2, h3⟩ := h
    obtain ⟨d', hr⟩ := h1.rd
    exact ⟨hm, _, d', v, e, hr⟩
theorem AnsF.one {M : Nat} {c : Int} (h : (c == 0) = false) (w : World) : AnsF M (Ans.one c) w (refV c) := ⟨h, rfl⟩
theorem ansF_of {M : Nat} {ks : List Kd} {op : ByteArray} {ts : List T} {fn : Ans} {w : World} {V : Value} (h : WorkQ ks op ts (AnsF M fn) w V) : AnsF M (ansOf ks op ts fn) w V := by
  unfold WorkQ at h
  unfold ansOf
  split at h
  · rename_i e; rw [e]; rw [h]; exact AnsF.one (by decide) w
  · rename_i k e
    rw [e]
    split at h
    · rename_i e2
      dsimp only
      rw [e2, h]; exact AnsF.one (by decide) w
    · rename_i e2
      dsimp only
      rw [e2]
      dsimp only
      split at h
      · rename_i h1
        rw [if_pos h1, h]; exact AnsF.one (by decide) w
      · rename_i h1
        rw [if_neg h1]
        split at h
        · rename_i h2
          rw [if_pos h2]
          split at h
          · rename_i h3; rw [if_pos h3]; exact h
          · rename_i h3; rw [if_neg h3, h]; exact AnsF.one (by decide) w
        · rename_i h2
          rw [if_neg h2, h]; exact AnsF.one (by decide) w
theorem resF_list {M : Nat} {w0 w : World} {xs : List Value} {ks : List T} {bss : List (List Nat)} {e : Ending} (h : ListR w0 xs e w) (hv : OwnL w0 xs ks bss) (hnd : bss.flatten.Nodup) (hlo : ∀ b ∈ bss.flatten, M ≤ b) (hM : M ≤ w0.heap.size) (hn : ks.length * 16 ≤ 140737488351232) : ∃ V, e = .returned V ∧ ResR (AnsF M (lonF ks)) w V ∧ Ext w0 w := by
  obtain ⟨v, rfl, ho, hx⟩ := h
  obtain ⟨d, bs, ho2, hnb, hlb⟩ := (hv.later hx).value hnd (fun b hb => ⟨hlo b hb, hv.lt b hb⟩) hM ho hn
  obtain ⟨d', hr⟩ := ho2.rd
  refine ⟨_, rfl, .inr ⟨_, _, decide (listT ks).may, rfl, fun w1 hx1 => cmay_any w1 (hr.later hx1), fun w1 hx1 => ?_⟩, hx⟩
  by_cases hm : (listT ks).may
  · rw [decide_eq_true hm, if_pos rfl, lonF_good hm]
    exact ⟨hm, d, _, bs, rfl, ho2.later hx1, hnb, hlb⟩
  · rw [decide_eq_false hm, lonF_two hm]
    exact AnsF.one (by decide) w1
theorem resF_one {M d : Nat} {w : World} {v : Value} {t : T} {bs : List Nat} (h : VOwn w d v t bs) (hn : bs.Nodup) (hlo : ∀ b ∈ bs, M ≤ b) (hm : t.may) : ResR (AnsF M (.good t)) w (.tuple #[v, .int .i64 0, .string ⟨#[]⟩]) := by
  obtain ⟨τ, p, rfl⟩ := h.rd.iface
  refine .inr ⟨_, _, decide t.may, rfl, fun w1 hx1 => cmay_any w1 (h.rd.later hx1), fun w1 hx1 => ?_⟩
  rw [decide_eq_true hm, if_pos rfl]
  exact ⟨hm, d, _, bs, rfl, .inl (h.later hx1), hn, hlo⟩
theorem resF_bad {M : Nat} {w : World} {c : Int} (hc : (c == 0) = false) : ResR (AnsF M (.one c)) w (refX c ⟨#[]⟩) := .inl ⟨c, ⟨#[]⟩, hc, rfl, fun _ _ => ⟨hc, rfl⟩⟩
theorem upT_own {w : World} {b m : Nat} (h : NumsAt w b m) (hm : m ≤ 65535) : VOwn w 2 (.iface 81 (.slice (some ⟨b, 0, none⟩) m m)) (upT m) [b] := by
  obtain ⟨cs, hb, hs, hc⟩ := h
  have hl : ((List.range m).map fun (i : Nat) => intT (i : Int)).length = m := by rw [List.length_map, List.length_range]
  refine .inr (.inr (.inr (.inr ⟨rfl, rfl, rfl, by rw [hl]; omega, b, m, cs, List.replicate m [], by rw [hl], by rw [hl]; exact Nat.le_refl _, hb, hs, by rw [List.flatten_replicate_nil], by rw [List.length_replicate, hl], fun j hj => ?_⟩)))
  rw [hl] at hj
  refine ⟨.iface 83 (.int .i64 (j : Int)), [], hc j hj, by rw [List.getElem?_replicate, if_pos hj], ?_⟩
  rw [List.getElem_map, List.getElem_range]
  exact .inr (.inr (.inl ⟨rfl, rfl, rfl, rfl, rfl⟩))
theorem argO {w : World} {g : Nat} {ts : List T} {us : List Value} {bss : List (List Nat)} (hol : OwnL w us ts bss) (hcl : ∀ (j : Nat) (u : Value), us[j]? = some u → w.cell? ⟨g, j, none⟩ = some u) {t : T} {j : Nat} (ht : ts[j]? = some t) : ∃ d v bs, w.cell? ⟨g, j, none⟩ = some v ∧ bss[j]? = some bs ∧ VOwn w d v t bs := by
  obtain ⟨hj, rfl⟩ := List.getElem?_eq_some_iff.1 ht
  obtain ⟨d, u, b, h1, h2, h3⟩ := hol.2.2 j hj
  exact ⟨d, u, b, hcl j u h1, h2, h3⟩
theorem argB {bss : List (List Nat)} {g M : Nat} (hlo : ∀ b ∈ bss.flatten, g < b) (hM : M ≤ g) {j : Nat} {bs : List Nat} (h : bss[j]? = some bs) : ∀ b ∈ bs, M ≤ b := fun b hb => by
  have := hlo b (List.mem_flatten.2 ⟨bs, List.mem_of_getElem? h, hb⟩)
  omega
/-- list.Work: the answer as data, a value in memory of its own. -/
theorem listWorkF_any (op : ByteArray) (ts : List T) (hlen : ts.length ≤ 1000000) (a : Option Addr) (c : Nat) (w : World) (hm : MaxAt w) (hp : PRow w a ts) : Calls Tryz.prog 8 #[.string op, .slice a ts.length c] w fun e w' => ∃ V, e = .returned V ∧ AnsF w.heap.size (ansOf listK op ts (listF op ts)) w' V ∧ Ext w w' := by
  refine workL_gen op a ts.length c w (AnsF w.heap.size (ansOf listK op ts (listF op ts))) fun w1 tb hx1 ht => ?_
  by_cases ho : op = nOf
  · subst ho
    refine (workF_join listK tb nOf a c ts (AnsF w.heap.size (listF nOf ts)) w1 (by rw [listLen]; decide) ht (hm.later hx1) (hp.later hx1) hlen listK[0] 38 listFind0 rfl (show (0 : Int) ≤ ts.length by omega) (show (-1 : Int) < 0 by decide) ⟨rfl, Nat.le_of_ble_eq_true rfl⟩ ?_ entOf).mono fun e w' ⟨V, he, hq, h3, hx⟩ => ⟨V, he, ?_, h3, hx⟩
    · intro h4 h5 _ w2 g hx2 hg hv
      have hMg : w.heap.size ≤ g := Nat.le_trans hx1.size hg
      have hM : w.heap.size ≤ w2.heap.size := (hx1.trans hx2).size
      obtain ⟨xs, bss, hol, hnd, hlo, hcl⟩ := hv
      have hvr := hol.vals
      have hcell : ∀ (j : Nat) (u : Value), xs[j]? = some u → w2.cell? ⟨g, 0 + j, none⟩ = some u := fun j u hu => by rw [Nat.zero_add]; exact hcl j u hu
      have h := lofV_any g 0 ts.length xs w2 (by rw [hvr.1]; omega) hvr.cells hcell
      rw [hvr.1] at h
      rw [listF_of]
      exact h.mono fun e w' h => resF_list h hol hnd (fun b hb => Nat.le_trans hMg (Nat.le_of_lt (hlo b hb))) hM (by omega)
    · refine ansF_of (ks := listK) ?_
      unfold WorkQ
      rw [listFind0]
      show if cntOk listK[0] ts.length = false then V = refV 11 else if ∀ t ∈ ts, t.may then (if rightB listK[0].signs.data.toList (ts.map T.kind) = true then AnsF w.heap.size (listF nOf ts) w' V else V = refV 20) else V = refV 1
      rw [if_neg (by rw [cntLOf]; decide)]
      unfold JoinQ at hq
      split at hq
      · rename_i hall
        rw [if_pos hall, if_pos (rightLOf _)]
        split at hq
        · rw [if_pos (rightLOf _)] at hq
          exact hq
        · rename_i hno
          rw [hq, listF_of, lonF_two hno]
          exact AnsF.one (by decide) w'
      · rename_i hno
        rw [if_neg hno]
        exact hq
  · refine (workF_own listK tb op a c ts (AnsF w.heap.size (listF op ts)) w1 (by rw [listLen]; decide) ht (hm.later hx1) (hp.later hx1) hlen ?_ ?_ ?_).mono fun e w' ⟨V, he, hq, h3, hx⟩ => ⟨V, he, ansF_of hq, h3, hx⟩
    · intro k hk
      have h1 := List.mem_of_find?_eq_some hk
      have h2 := List.find?_some hk
      obtain ⟨i, hi, rfl⟩ := List.getElem_of_mem h1
      have h3 := (of_decide_eq_true h2).symm
      rw [listLen] at hi
      match i, hi with
      | 0, _ => exact absurd h3 ho
      | 1, _ => exact ⟨rfl, Nat.le_of_ble_eq_true rfl⟩
      | 2, _ => exact ⟨rfl, Nat.le_of_ble_eq_true rfl⟩
      | 3, _ => exact ⟨rfl, Nat.le_of_ble_eq_true rfl⟩
      | 4, _ => exact ⟨rfl, Nat.le_of_ble_eq_true rfl⟩
      | 5, _ => exact ⟨rfl, Nat.le_of_ble_eq_true rfl⟩
      | 6, _ => exact ⟨rfl, Nat.le_of_ble_eq_true rfl⟩
      | 7, _ => exact ⟨rfl, Nat.le_of_ble_eq_true rfl⟩
      | 8, _ => exact ⟨rfl, Nat.le_of_ble_eq_true rfl⟩
      | 9, _ => exact ⟨rfl, Nat.le_of_ble_eq_true rfl⟩
      | n + 10, h => exact absurd h (by omega)
    · intro k f h1 h2 h3 h4 h5 w2 g hx2 hg hv
      have hMg : w.heap.size ≤ g := Nat.le_trans hx1.size hg
      have hM : w.heap.size ≤ w2.heap.size := (hx1.trans hx2).size
      obtain ⟨us, bss, hol, hnd, hlo, hcl⟩ := hv
      have hLO := fun {j : Nat} {bs : List Nat} (h : bss[j]? = some bs) => argB hlo hMg h
      have hND := fun {j : Nat} {bs : List Nat} (h : bss[j]? = some bs) => nodup_part hnd h
      rcases listAt8 h1 h2 with ⟨rfl, rfl, rfl⟩ | ⟨rfl, rfl, rfl⟩ | ⟨rfl, rfl, rfl⟩ | ⟨rfl, rfl, rfl⟩ | ⟨rfl, rfl, rfl⟩ | ⟨rfl, rfl, rfl⟩ | ⟨rfl, rfl, rfl⟩ | ⟨rfl, rfl, rfl⟩
      · exact absurd rfl ho
      · rw [cntLSize, decide_eq_true_eq] at h3
        obtain ⟨t, rfl⟩ := list_one h3
        have m0 := h4 t (by simp)
        rw [List.map_cons, List.map_nil, rightLSize _ (kind_five m0), decide_eq_true_eq] at h5
        obtain ⟨d, v, bs, c0, q0, o0⟩ := argO hol hcl (t := t) (j := 0) rfl
        obtain ⟨ks, g0, cp0, xs, css0, rfl, rfl, hlc, hn, eb0, ho0, hcell⟩ := o0.listO h5
        have hvr := ho0.vals
        have sb0 : ∀ b ∈ css0.flatten, b ∈ bs := fun b hb => by rw [eb0]; exact List.mem_cons_of_mem _ hb
        have nd0 : css0.flatten.Nodup := by
          have := hND q0
          rw [eb0] at this
          exact (List.nodup_cons.1 this).2
        have lo0 : ∀ b ∈ css0.flatten, w.heap.size ≤ b := fun b hb => hLO q0 b (sb0 b hb)
        rw [listF_size]
        refine (size_ok g (some ⟨g0, 0, none⟩) ks.length cp0 (by omega) w2 c0).mono fun e w' ⟨he, hw⟩ => ⟨_, he, resF_one (d := 1) (t := intT (ks.length : Int)) (bs := []) (.inr (.inr (.inl ⟨rfl, rfl, rfl, rfl, rfl⟩))) List.nodup_nil (fun b hb => by cases hb) (intT_may _), hw ▸ Ext.refl _⟩
      · rw [cntLAt, decide_eq_true_eq] at h3
        obtain ⟨t, u, rfl⟩ := list_two h3
        have m0 := h4 t (by simp)
        have m1 := h4 u (by simp)
        rw [List.map_cons, List.map_cons, List.map_nil, rightLAt _ _ (kind_five m0) (kind_five m1), Bool.and_eq_true, decide_eq_true_eq, decide_eq_true_eq] at h5
        obtain ⟨d, v, bs, c0, q0, o0⟩ := argO hol hcl (t := t) (j := 0) rfl
        obtain ⟨d1, v1, bs1, c1, q1, o1⟩ := argO hol hcl (t := u) (j := 1) rfl
        obtain ⟨i, rfl⟩ : ∃ i, u = intT i := ⟨_, lint_of m1 h5.2⟩
        rw [VRd.int (n := i) o1.rd] at c1
        obtain ⟨ks, g0, cp0, xs, css0, rfl, rfl, hlc, hn, eb0, ho0, hcell⟩ := o0.listO h5.1
        have hvr := ho0.vals
        have sb0 : ∀ b ∈ css0.flatten, b ∈ bs := fun b hb => by rw [eb0]; exact List.mem_cons_of_mem _ hb
        have nd0 : css0.flatten.Nodup := by
          have := hND q0
          rw [eb0] at this
          exact (List.nodup_cons.1 this).2
        have lo0 : ∀ b ∈ css0.flatten, w.heap.size ≤ b := fun b hb => hLO q0 b (sb0 b hb)
        rw [listF_at]
        have e1 : atF [listT ks, intT i] = if i < 0 ∨ (ks.length : Int) ≤ i then .one 23 else .good (ks.getD i.toNat unitT) := rfl
        rw [e1]
        by_cases hb : i < 0 ∨ (ks.length : Int) ≤ i
        · rw [if_pos hb]
          exact (at_bad g (some ⟨g0, 0, none⟩) ks.length cp0 i w2 c0 c1 hb).mono fun e w' ⟨he, hw⟩ => ⟨_, he, resF_bad (by decide), hw ▸ Ext.refl _⟩
        · rw [if_neg hb]
          obtain ⟨j, rfl⟩ : ∃ j : Nat, i = (j : Int) := ⟨i.toNat, by omega⟩
          have hj : j < ks.length := by omega
          obtain ⟨d2, u2, b2, hu2, hb2, hr2⟩ := ho0.2.2 j hj
          have e2 : ks.getD (j : Int).toNat unitT = ks[j] := by rw [Int.toNat_natCast, List.getD_eq_getElem?_getD, List.getElem?_eq_getElem hj]; rfl
          rw [e2]
          exact (at_ok g g0 0 ks.length cp0 j u2 w2 c0 c1 hj (by omega) (hcell j u2 hu2)).mono fun e w' ⟨he, hw⟩ => ⟨_, he, hw ▸ resF_one hr2 (nodup_part nd0 hb2) (fun b hb => lo0 b (List.mem_flatten.2 ⟨b2, List.mem_of_getElem? hb2, hb⟩)) (may_kid m0 hj), hw ▸ Ext.refl _⟩
      · rw [cntLJoin, decide_eq_true_eq] at h3
        obtain ⟨t, u, rfl⟩ := list_two h3
        have m0 := h4 t (by simp)
        have m1 := h4 u (by simp)
        rw [List.map_cons, List.map_cons, List.map_nil, rightLJoin _ _ (kind_five m0) (kind_five m1), Bool.and_eq_true, decide_eq_true_eq, decide_eq_true_eq] at h5
        obtain ⟨d, v, bs, c0, q0, o0⟩ := argO hol hcl (t := t) (j := 0) rfl
        obtain ⟨d1, v1, bs1, c1, q1, o1⟩ := argO hol hcl (t := u) (j := 1) rfl
        obtain ⟨ks, g0, cp0, xs, css0, rfl, rfl, hlc, hn, eb0, ho0, hcell⟩ := o0.listO h5.1
        have hvr := ho0.vals
        have sb0 : ∀ b ∈ css0.flatten, b ∈ bs := fun b hb => by rw [eb0]; exact List.mem_cons_of_mem _ hb
        have nd0 : css0.flatten.Nodup := by
          have := hND q0
          rw [eb0] at this
          exact (List.nodup_cons.1 this).2
        have lo0 : ∀ b ∈ css0.flatten, w.heap.size ≤ b := fun b hb => hLO q0 b (sb0 b hb)
        obtain ⟨ks1, g1, cp1, xs1, css1, rfl, rfl, hlc1, hn1, eb1, ho1, hcell1⟩ := o1.listO h5.2
        have hvr1 := ho1.vals
        have sb1 : ∀ b ∈ css1.flatten, b ∈ bs1 := fun b hb => by rw [eb1]; exact List.mem_cons_of_mem _ hb
        have nd1 : css1.flatten.Nodup := by
          have := hND q1
          rw [eb1] at this
          exact (List.nodup_cons.1 this).2
        have lo1 : ∀ b ∈ css1.flatten, w.heap.size ≤ b := fun b hb => hLO q1 b (sb1 b hb)
        have b0 := len_may m0
        have b1 := len_may m1
        rw [listF_join]
        exact (join_ok g g0 0 cp0 g1 0 cp1 ks.length ks1.length xs xs1 w2 c0 c1 hvr.1 hvr1.1 (by omega) hvr.cells hvr1.cells hcell hcell1).mono fun e w' h => resF_list h (ks := ks ++ ks1) (ho0.append ho1) (by
          rw [List.flatten_append, List.nodup_append]
          exact ⟨nd0, nd1, fun a ha b hb e => nodup_two hnd (i := 0) (j := 1) (by decide) q0 q1 a (sb0 a ha) (e ▸ sb1 b hb)⟩) (fun b hb => by
          rw [List.flatten_append, List.mem_append] at hb
          exact hb.elim (lo0 b) (lo1 b)) hM (by rw [List.length_append]; omega)
      · rw [cntLAdd, decide_eq_true_eq] at h3
        obtain ⟨t, u, rfl⟩ := list_two h3
        have m0 := h4 t (by simp)
        have m1 := h4 u (by simp)
        rw [List.map_cons, List.map_cons, List.map_nil, rightLAdd _ _ (kind_five m0) (kind_five m1), decide_eq_true_eq] at h5
        obtain ⟨d, v, bs, c0, q0, o0⟩ := argO hol hcl (t := t) (j := 0) rfl
        obtain ⟨d1, v1, bs1, c1, q1, o1⟩ := argO hol hcl (t := u) (j := 1) rfl
        obtain ⟨ks, g0, cp0, xs, css0, rfl, rfl, hlc, hn, eb0, ho0, hcell⟩ := o0.listO h5
        have hvr := ho0.vals
        have sb0 : ∀ b ∈ css0.flatten, b ∈ bs := fun b hb => by rw [eb0]; exact List.mem_cons_of_mem _ hb
        have nd0 : css0.flatten.Nodup := by
          have := hND q0
          rw [eb0] at this
          exact (List.nodup_cons.1 this).2
        have lo0 : ∀ b ∈ css0.flatten, w.heap.size ≤ b := fun b hb => hLO q0 b (sb0 b hb)
        have b0 := len_may m0
        have hv1 := ValsR.one o1.rd
        rw [listF_add]
        exact (add_ok g g0 0 cp0 ks.length xs v1 w2 c0 c1 hvr.1 (by omega) hvr.cells (hv1.cells v1 (by simp)) hcell).mono fun e w' h => resF_list h (ks := ks ++ [u]) (ho0.append (OwnL.one o1)) (by
          rw [List.flatten_append, List.nodup_append, List.flatten_cons, List.flatten_nil, List.append_nil]
          exact ⟨nd0, hND q1, fun a ha b hb e => nodup_two hnd (i := 0) (j := 1) (by decide) q0 q1 a (sb0 a ha) (e ▸ hb)⟩) (fun b hb => by
          rw [List.flatten_append, List.mem_append, List.flatten_cons, List.flatten_nil, List.append_nil] at hb
          exact hb.elim (lo0 b) (hLO q1 b)) hM (by rw [List.length_append]; simp only [List.length_cons, List.length_nil]; omega)
      · rw [cntLCut, decide_eq_true_eq] at h3
        obtain ⟨t, u, x, rfl⟩ := list_three h3
        have m0 := h4 t (by simp)
        have m1 := h4 u (by simp)
        have m2 := h4 x (by simp)
        rw [List.map_cons, List.map_cons, List.map_cons, List.map_nil, rightLCut _ _ _ (kind_five m0) (kind_five m1) (kind_five m2), Bool.and_eq_true, Bool.and_eq_true, decide_eq_true_eq, decide_eq_true_eq, decide_eq_true_eq] at h5
        obtain ⟨d, v, bs, c0, q0, o0⟩ := argO hol hcl (t := t) (j := 0) rfl
        obtain ⟨d1, v1, bs1, c1, q1, o1⟩ := argO hol hcl (t := u) (j := 1) rfl
        obtain ⟨d2, v2, bs2, c2, q2, o2⟩ := argO hol hcl (t := x) (j := 2) rfl
        obtain ⟨i, rfl⟩ : ∃ i, u = intT i := ⟨_, lint_of m1 h5.1.2⟩
        obtain ⟨k, rfl⟩ : ∃ k, x = intT k := ⟨_, lint_of m2 h5.2⟩
        rw [VRd.int (n := i) o1.rd] at c1
        rw [VRd.int (n := k) o2.rd] at c2
        obtain ⟨ks, g0, cp0, xs, css0, rfl, rfl, hlc, hn, eb0, ho0, hcell⟩ := o0.listO h5.1.1
        have hvr := ho0.vals
        have sb0 : ∀ b ∈ css0.flatten, b ∈ bs := fun b hb => by rw [eb0]; exact List.mem_cons_of_mem _ hb
        have nd0 : css0.flatten.Nodup := by
          have := hND q0
          rw [eb0] at this
          exact (List.nodup_cons.1 this).2
        have lo0 : ∀ b ∈ css0.flatten, w.heap.size ≤ b := fun b hb => hLO q0 b (sb0 b hb)
        have b0 := len_may m0
        rw [listF_cut]
        have e1 : cutF [listT ks, intT i, intT k] = if i < 0 ∨ k < i ∨ (ks.length : Int) < k then .one 23 else lonF ((ks.take k.toNat).drop i.toNat) := rfl
        rw [e1]
        by_cases hb : i < 0 ∨ k < i ∨ (ks.length : Int) < k
        · rw [if_pos hb]
          exact (cut_bad g (some ⟨g0, 0, none⟩) ks.length cp0 i k w2 c0 c1 c2 hb).mono fun e w' ⟨he, hw⟩ => ⟨_, he, resF_bad (by decide), hw ▸ Ext.refl _⟩
        · rw [if_neg hb]
          obtain ⟨i, rfl⟩ : ∃ j : Nat, i = (j : Int) := ⟨i.toNat, by omega⟩
          obtain ⟨k, rfl⟩ : ∃ j : Nat, k = (j : Int) := ⟨k.toNat, by omega⟩
          rw [Int.toNat_natCast, Int.toNat_natCast]
          have hs := hvr.slice i k
          exact (cut_ok g g0 0 ks.length cp0 i k ((xs.take k).drop i) w2 c0 c1 c2 (by omega) (by omega) hlc (by omega) (by rw [List.length_drop, List.length_take, hvr.1]; omega) hs.cells (fun j u hu => by
            have hj := (List.getElem?_eq_some_iff.1 hu).1
            rw [List.length_drop, List.length_take] at hj
            rw [List.getElem?_drop, List.getElem?_take_of_lt (by omega)] at hu
            rw [Nat.add_assoc]
            exact hcell (i + j) u hu)).mono fun e w' h => resF_list h (ho0.slice i k) (nodup_slice nd0 i k) (fun b hb => lo0 b ((flat_sub ((List.drop_sublist i _).trans (List.take_sublist k css0))).subset hb)) hM (by rw [List.length_drop, List.length_take]; omega)
      · rw [cntLTurn, decide_eq_true_eq] at h3
        obtain ⟨t, rfl⟩ := list_one h3
        have m0 := h4 t (by simp)
        rw [List.map_cons, List.map_nil, rightLTurn _ (kind_five m0), decide_eq_true_eq] at h5
        obtain ⟨d, v, bs, c0, q0, o0⟩ := argO hol hcl (t := t) (j := 0) rfl
        obtain ⟨ks, g0, cp0, xs, css0, rfl, rfl, hlc, hn, eb0, ho0, hcell⟩ := o0.listO h5
        have hvr := ho0.vals
        have sb0 : ∀ b ∈ css0.flatten, b ∈ bs := fun b hb => by rw [eb0]; exact List.mem_cons_of_mem _ hb
        have nd0 : css0.flatten.Nodup := by
          have := hND q0
          rw [eb0] at this
          exact (List.nodup_cons.1 this).2
        have lo0 : ∀ b ∈ css0.flatten, w.heap.size ≤ b := fun b hb => hLO q0 b (sb0 b hb)
        have b0 := len_may m0
        rw [listF_turn]
        rcases Nat.eq_zero_or_pos ks.length with hz | hpos
        · obtain rfl := List.eq_nil_of_length_eq_zero hz
          exact (turn_zero g g0 0 cp0 w2 c0).mono fun e w' h => resF_list h (OwnL.nil w2) (by simp) (fun b hb => by simp at hb) hM (by decide)
        · obtain ⟨ps, hps, rfl⟩ := hvr.pairs
          refine (turn_ok g g0 0 cp0 ks.length ps w2 hps hpos (by omega) c0 (fun j p hp => hcell j (encV p) (by rw [List.getElem?_map, hp]; rfl))).mono fun e w' h => resF_list h (ks := ks.reverse) (bss := css0.reverse) ?_ (nodup_reverse nd0) (fun b hb => lo0 b (((List.reverse_perm css0).flatten).subset hb)) hM (by rw [List.length_reverse]; exact hn)
          rw [List.map_reverse]
          exact ho0.reverse
      · rw [cntLCount, decide_eq_true_eq] at h3
        obtain ⟨t, rfl⟩ := list_one h3
        have m0 := h4 t (by simp)
        rw [List.map_cons, List.map_nil, rightLCount _ (kind_five m0), decide_eq_true_eq] at h5
        obtain ⟨d, v, bs, c0, q0, o0⟩ := argO hol hcl (t := t) (j := 0) rfl
        obtain ⟨n, rfl⟩ : ∃ n, t = intT n := ⟨_, lint_of m0 h5⟩
        rw [VRd.int (n := n) o0.rd] at c0
        rw [listF_count]
        have e1 : countL [intT n] = countF n := rfl
        rw [e1]
        unfold countF
        by_cases hn : n < 0
        · rw [if_pos hn]
          exact (count_low g n w2 c0 hn).mono fun e w' ⟨he, hw⟩ => ⟨_, he, resF_bad (by decide), hw ▸ Ext.refl _⟩
        rw [if_neg hn]
        by_cases hb : 65535 < n
        · rw [if_pos hb]
          exact (count_high g n w2 c0 hb).mono fun e w' ⟨he, hw⟩ => ⟨_, he, resF_bad (by decide), hw ▸ Ext.refl _⟩
        rw [if_neg hb]
        obtain ⟨m, rfl⟩ : ∃ m : Nat, n = (m : Int) := ⟨n.toNat, by omega⟩
        have hm2 : m ≤ 65535 := by omega
        exact (count_ok g m w2 c0 hm2).mono fun e w' ⟨b, he, hN, hbb, hx⟩ => ⟨_, he, resF_one (upT_own hN hm2) (by simp) (fun q hq => by
          obtain rfl : q = b := by simpa using hq
          exact Nat.le_trans hM hbb) (upT_may hm2), hx⟩
    · intro k f h1 h2
      rcases listAt8 h1 h2 with ⟨_, _, rfl⟩ | ⟨_, _, rfl⟩ | ⟨_, _, rfl⟩ | ⟨_, _, rfl⟩ | ⟨_, _, rfl⟩ | ⟨_, _, rfl⟩ | ⟨_, _, rfl⟩ | ⟨_, _, rfl⟩
      · exact entOf
      · exact entSize
      · exact entAt
      · exact entJoin
      · exact entAdd
      · exact entCut
      · exact entTurn
      · exact entCount
end Go.Proofs.YtaafcmmmkalgjaaGreatDoor
