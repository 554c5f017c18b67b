/-
  WordsWork tells true, whatever the calls.
-/
import Derived.Test.YtecabbifkcnbeaaGreatDoorWBoth
import Derived.Test.YtecabbifkcnbeaaGreatDoorCWorked
import Derived.Test.YtecabbifkcnbeaaGreatDoorCIn
import Derived.Test.YtecabbifkcnbeaaGreatDoorWBeg
import Derived.Deep.RegionHeld3
import Derived.Deep.Cut
namespace Go.Proofs.YtecabbifkcnbeaaGreatDoor
open Go.RowKit
theorem CallAt.later {W W' : World} {g o : Nat} {op : ByteArray} {la : Option Addr} {lc m : Nat} {ks : List T} (h : CallAt W g o op la lc m ks) (hx : Ext W W') : CallAt W' g o op la lc m ks :=
  ⟨(hx.kp (fun _ => True)).cell h.1 trivial, (hx.kp (fun _ => True)).cell h.2.1 trivial, h.2.2.1.keep (hx.kp _), h.2.2.2⟩
def WwCut (w2 : World) (V : Value) (s8 s9 s10 : Value) (wx : World) : Prop := ∃ B k n x q c f, s8 = .pointer (some ⟨B, 0, none⟩) ∧ s9 = .int .i64 f ∧ s10 = .string ⟨#[]⟩ ∧ wx.heap[B]? = some (.cells #[.int .i64 k, .int .i64 n, .string x, .slice q 0 c] 34) ∧ RefOf V (.tuple #[.agg #[.int .i64 k, .int .i64 n, .string x, .slice q 0 c], .int .i64 f, .string ⟨#[]⟩]) ∧ Ext w2 wx
set_option maxRecDepth 100000 in
set_option maxHeartbeats 4000000 in
theorem wordsWork_true (a : Option Addr) (n c : Nat) (w : World) (hS : CallsIn w a n) (hn : n * 40 ≤ 140737488351232) (hm : WAt w) (hl : Laid w) : Calls Tryz.prog 3 #[.slice a n c] w fun e w' => e = .returned (.bool true) ∧ Ext w w' := by
  have HS := hid hS
  have HM := hid hm
  have HB := hid (begunW_any w hm hl)
  have hn' : (n : Int) ≤ 140737488351232 := by omega
  clear hS hm hl hn
  go_enter Tryz.func3, Tryz.ntmps3
  go_wp2_with fail
  refine HB.out.mono ?_
  rintro e V0 ⟨rfl, hx0⟩
  have HX0 := hid hx0
  clear hx0
  go_wp2_with fail
  go_loopw [3] (fun i wr => ∃ j : Nat, j ≤ n ∧ i = .int .i64 j ∧ Ext w wr) (fun i _ => n - (intOf i).toNat)
  case atStart => exact ⟨0, Nat.zero_le _, rfl, HX0.out⟩
  case round =>
    obtain ⟨j, hj, rfl, hx⟩ := hrel
    have HX := hid hx
    clear hx
    by_cases hlt : j < n
    · have hlt' : (j : Int) < n := by omega
      by_cases h5 : (j : Int) < 500
      · obtain ⟨g, off, op, la, lc, md, ks, rfl, hcall0⟩ := HS.out j hlt
        have HC := hid (hcall0.later HX.out)
        obtain ⟨V, hnres, hprog, href⟩ := bothW_all op ks (by have := hcall0.2.2.1.1; omega) hcall0.2.2.2.1
        have HP := hid hprog
        have HR := hid href
        have HTW := hid (twins_any (c := lc) wr HC.out.2.2.1)
        have e0 := HC.out.1
        have e1 := HC.out.2.1
        have hgl := lt_of_cell e0
        clear hcall0 hprog href
        obtain ⟨kn, hkn⟩ : ∃ kn, ks.length = kn := ⟨_, rfl⟩
        have HKN := hid hkn
        rw [hkn] at HP HR HTW e1
        clear hkn
        go_wp2_with fail
        refine HTW.out.mono ?_
        rintro e w1 ⟨ao, c1, he, hit, hx1⟩
        subst he
        rw [HKN.out] at hit ⊢
        have HIT := hid hit
        have HX1 := hid hx1
        have e0' := (hx1.kp (fun _ => True)).cell e0 trivial
        have e1' := (hx1.kp (fun _ => True)).cell e1 trivial
        have hgl' := lt_of_cell e0'
        have HP1 := hid (HP.out w1 ao c1 ((HM.out.later HX.out).later hx1) hit.prow)
        clear hit hx1 e0 e1 hgl HTW HP
        go_wp2_with fail
        refine HP1.out.mono ?_
        rintro e w2 ⟨rfl, hx2⟩
        obtain ⟨v, ec, hV⟩ : ∃ v ec, V = .tuple #[v, .int .i64 ec, .string ⟨#[]⟩] := by
          rcases hnres with ⟨_, rfl⟩ | ⟨_, rfl⟩ | ⟨_, _, rfl⟩ | ⟨_, _, rfl⟩ <;> exact ⟨_, _, rfl⟩
        subst hV
        have HX2 := hid (HX1.out.trans hx2)
        have HX12 := hid hx2
        have e0 := (hx2.kp (fun _ => True)).cell e0' trivial
        have e1 := (hx2.kp (fun _ => True)).cell e1' trivial
        have hgl := lt_of_cell e0
        have HCR := hid (fun W' (hx' : Ext w2 W') => HR.out _ md W' la lc ((HC.out.later (HX2.out.trans hx')).2.2.1))
        clear hx2 e0' e1' hgl' HP1 HR hnres
        have HSK := hid (show ∀ W', Ext w2 W' → W'.cell? ⟨g, off + j * 2, none⟩ = some (.string op) ∧ W'.cell? ⟨g, off + j * 2 + 1, none⟩ = some (.slice la kn lc) from fun W' Y => ⟨(Y.kp (fun _ => True)).cell e0 trivial, (Y.kp (fun _ => True)).cell e1 trivial⟩)
        have HST := hid (show ∀ (W' : World) (z : Nat) (v0 v1 v2 v3 : Value), Ext w2 W' → w2.heap.size ≤ z → ((((W'.setCell ⟨z, 0, none⟩ v0).setCell ⟨z, 1, none⟩ v1).setCell ⟨z, 2, none⟩ v2).setCell ⟨z, 3, none⟩ v3).cell? ⟨g, off + j * 2, none⟩ = some (.string op) ∧ ((((W'.setCell ⟨z, 0, none⟩ v0).setCell ⟨z, 1, none⟩ v1).setCell ⟨z, 2, none⟩ v2).setCell ⟨z, 3, none⟩ v3).cell? ⟨g, off + j * 2 + 1, none⟩ = some (.slice la kn lc) from fun W' z v0 v1 v2 v3 Y hz => by
          have hk : Kp (· < w2.heap.size) w2 ((((W'.setCell ⟨z, 0, none⟩ v0).setCell ⟨z, 1, none⟩ v1).setCell ⟨z, 2, none⟩ v2).setCell ⟨z, 3, none⟩ v3) := (Y.kp (· < w2.heap.size)).trans ((Kp.set4 W' z 0 v0 v1 v2 v3).mono (fun k _ (h : k < w2.heap.size) => by omega))
          exact ⟨hk.cell e0 hgl, hk.cell e1 hgl⟩)
        go_upto_region 8 with fail
        go_cut [8, 9, 10] from 40 to 54 (fun s8 s9 s10 wx => WwCut w2 (.tuple #[v, .int .i64 ec, .string ⟨#[]⟩]) s8 s9 s10 wx)
        case first =>
          go_region_held3 (fun W' => W'.cell? ⟨g, off + j * 2, none⟩ = some (.string op) ∧ W'.cell? ⟨g, off + j * 2 + 1, none⟩ = some (.slice la kn lc)) (first | exact SK | exact ⟨e0, e1⟩ | (with_reducible exact HST.out _ _ _ _ _ _ Y (Nat.le_refl _)) | (with_reducible exact HST.out _ _ _ _ _ _ Y (Nat.le_succ _)) | go_keep) (first | (go_at_call 9; refine (HCR.out _ (by repeat (first | with_reducible exact Ext.refl _ | with_reducible refine Ext.trans ?_ (Ext.alloc _ _) | with_reducible refine Ext.drew ?_))).mono ?_; rintro r v3 ⟨R3, rfl, href, hy⟩; obtain ⟨v', ec', p3, k3, n3, x3, qq3, cc3, f3, hVV, rfl, rfl, hwk⟩ := worked_any href; have Y : Ext w2 v3 := Ext.trans (by repeat (first | with_reducible exact Ext.refl _ | with_reducible refine Ext.trans ?_ (Ext.alloc _ _) | with_reducible refine Ext.drew ?_)) hy; have HRF := hid href; clear hVV hwk href; have SK := HSK.out v3 Y; (try (have ZB : v3.heap[w2.heap.size]? = some (.cells #[.int .i64 0, .int .i64 0, .string ⟨#[]⟩, .slice none 0 0] 34) := hy.block (blk0 _ _); obtain ⟨q0, q1, q2, q3⟩ := four_free ZB; obtain ⟨z0, z1, z2, z3⟩ := four_of ZB))))
          all_goals go_wp2_with fail
          · go_meet
            case rel => exact ⟨v3.heap.size, k3, n3, x3, qq3, cc3, f3, rfl, rfl, rfl, blk0 v3 _, HRF.out, Y.trans (Ext.alloc _ _)⟩
          · go_meet
            case rel => exact ⟨w2.heap.size, k3, n3, x3, qq3, cc3, f3, rfl, rfl, rfl, four_set ZB, HRF.out, Kp.extOf Y (Kp.set4 v3 w2.heap.size 0 _ _ _ _) (Nat.le_refl _)⟩
        case rest =>
          obtain ⟨B, k3, n3, x3, qq3, cc3, f3, rfl, rfl, rfl, hb3, href, hx3⟩ := hcut
          obtain ⟨v', ec', p', k', n', x', q', c', f', hVV, hRR, hpp, hwk⟩ := worked_any href
          simp only [Value.tuple.injEq, Array.mk.injEq, List.cons.injEq, Value.int.injEq, true_and, and_true] at hVV hRR
          obtain ⟨rfl, rfl⟩ := hVV
          obtain ⟨rfl, rfl⟩ := hRR
          have HWK := hid hwk
          have HX3 := hid (HX2.out.trans hx3)
          have HX13 := hid (HX12.out.trans hx3)
          have e0 := (hx3.kp (fun _ => True)).cell e0 trivial
          have e1 := (hx3.kp (fun _ => True)).cell e1 trivial
          obtain ⟨z0, z1, z2, z3⟩ := four_of hb3
          have hgl := lt_of_cell e0
          have hgl3 := lt_of_cell z0
          have HUN := hid (fun W' (hx' : Ext wc W') => untouched_any (c := lc) (m := kn) W' ((HC.out.later (HX3.out.trans hx')).2.2.1) (HIT.out.keep ((HX13.out.trans hx').kp (fun _ => True)) (fun _ _ => trivial)))
          rw [HKN.out] at HUN
          clear hb3 href hx3 hwk hpp HSK HST HCR
          go_wp2_with fail
          refine (HWK.out _).mono ?_
          rintro e w4 ⟨rfl, hx4⟩
          have HX4 := hid hx4
          have e0 := (hx4.kp (fun _ => True)).cell e0 trivial
          have e1 := (hx4.kp (fun _ => True)).cell e1 trivial
          have hgl := lt_of_cell e0
          clear hx4 z0 z1 z2 z3 hgl3
          go_wp2_with fail
          refine (HUN.out _ HX4.out).mono ?_
          rintro e w5 ⟨rfl, hx5⟩
          have HX5 := hid (HX.out.trans (HX3.out.trans (HX4.out.trans hx5)))
          clear hx5 e0 e1 hgl
          go_wp2_with fail
          go_roundw
          case rel => exact ⟨j + 1, hlt, by go_num, HX5.out⟩
          case measure => simp [intOf]; omega
      · go_wp2_with fail
        go_ret
        exact ⟨rfl, HX.out⟩
    · have hlt' : ¬ (j : Int) < n := by omega
      go_wp2_with fail
      go_ret
      exact ⟨rfl, HX.out⟩
end Go.Proofs.YtecabbifkcnbeaaGreatDoor
