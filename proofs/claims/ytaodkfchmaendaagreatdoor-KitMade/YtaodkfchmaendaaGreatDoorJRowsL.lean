/-
  node.Rows: the rows of the kit base; kit.Base: its kit; by contracts.
-/
import Derived.Test.YtaodkfchmaendaaGreatDoorJBase
import Derived.Test.YtaodkfchmaendaaGreatDoorKKit
import Derived.Test.YtaodkfchmaendaaGreatDoorKWide
import Derived.Deep.RegionHeld3
import Derived.Test.YtaodkfchmaendaaGreatDoorKNewG
namespace Go.Proofs.YtaodkfchmaendaaGreatDoor.Nd
open Go.RowKit
/-- What a kind can do, word by word. -/
def absL : Nat → List ByteArray
  | 0 => [⟨#[76, 105, 116, 101, 114, 97, 108]⟩, ⟨#[80, 117, 114, 101]⟩, ⟨#[84, 111, 116, 97, 108]⟩, ⟨#[83, 111, 114, 116, 101, 100]⟩]
  | 1 => [⟨#[76, 105, 116, 101, 114, 97, 108]⟩, ⟨#[80, 117, 114, 101]⟩, ⟨#[84, 111, 116, 97, 108]⟩, ⟨#[83, 111, 114, 116, 101, 100]⟩]
  | 2 => [⟨#[76, 105, 116, 101, 114, 97, 108]⟩, ⟨#[80, 117, 114, 101]⟩, ⟨#[84, 111, 116, 97, 108]⟩, ⟨#[83, 111, 114, 116, 101, 100]⟩]
  | 3 => [⟨#[76, 105, 116, 101, 114, 97, 108]⟩, ⟨#[80, 117, 114, 101]⟩, ⟨#[84, 111, 116, 97, 108]⟩, ⟨#[83, 111, 114, 116, 101, 100]⟩]
  | 4 => [⟨#[76, 105, 116, 101, 114, 97, 108]⟩, ⟨#[80, 117, 114, 101]⟩, ⟨#[84, 111, 116, 97, 108]⟩, ⟨#[83, 111, 114, 116, 101, 100]⟩]
  | 5 => [⟨#[85, 115, 101, 114]⟩, ⟨#[80, 117, 114, 101]⟩]
  | 6 => [⟨#[80, 117, 114, 101]⟩, ⟨#[84, 111, 116, 97, 108]⟩, ⟨#[70, 114, 97, 109, 101, 100]⟩]
  | _ => []
theorem absL_fields : ∀ j, j < 7 → (Lib.fields (hasK j).data.toList).map (fun l => (⟨l.toArray⟩ : ByteArray)) = absL j ∧ (hasK j).size ≤ 4000 ∧ (hasK j).data.toList.all (fun b => decide (b.toNat < 128)) = true
  | 0, _ => ⟨by kernel_rfl, by decide, by decide⟩
  | 1, _ => ⟨by kernel_rfl, by decide, by decide⟩
  | 2, _ => ⟨by kernel_rfl, by decide, by decide⟩
  | 3, _ => ⟨by kernel_rfl, by decide, by decide⟩
  | 4, _ => ⟨by kernel_rfl, by decide, by decide⟩
  | 5, _ => ⟨by kernel_rfl, by decide, by decide⟩
  | 6, _ => ⟨by kernel_rfl, by decide, by decide⟩
  | n + 7, h => absurd h (by omega)

/-- A row of the kit base. -/
def rowJ (j : Nat) : Rw := ⟨nmK j, minK j, maxK j, numK j, textK j, absL j⟩
def rowsK : List Rw := [rowJ 0, rowJ 1, rowJ 2, rowJ 3, rowJ 4, rowJ 5, rowJ 6]
theorem rowsK_at : ∀ j, (h : j < 7) → rowsK[j]? = some (rowJ j)
  | 0, _ => rfl
  | 1, _ => rfl
  | 2, _ => rfl
  | 3, _ => rfl
  | 4, _ => rfl
  | 5, _ => rfl
  | 6, _ => rfl
  | n + 7, h => absurd h (by omega)
set_option maxRecDepth 100000 in
set_option maxHeartbeats 400000 in
theorem krow_any (q j : Nat) (hj : j < 7) (w : World) (hL : Laid w) : Calls Tryz.prog 53 #[kdV q j] w fun e w' => ∃ a c, e = .returned ((rowJ j).val a c) ∧ TB w' a (rowJ j).abs ∧ Ext w w' := by
  obtain ⟨hf1, hf2, hf3⟩ := absL_fields j hj
  have HF := hid (fun (u : World) (hx : Ext w u) => fields_any (hasK j) (absL j) hf1 u hf2 hf3 (hL.later hx))
  have HF := hid (show ∀ (u : World), Ext w u → Calls Tryz.prog 91 #[.string (hasK j)] u fun e w' => ∃ g, e = .returned (.slice (some ⟨g, 0, none⟩) (absL j).length (absL j).length) ∧ TB w' (some ⟨g, 0, none⟩) (absL j) ∧ Ext u w' from fun u hx => (HF.out u hx).mono (fun e w' h => ⟨u.heap.size, h⟩))
  have HV := hid (show ∀ a c, (rowJ j).val a c = .agg #[.string (nmK j), .int .i64 (minK j), .int .i64 (maxK j), .bool (numK j), .int .i64 (textK j), .slice a (absL j).length c] from fun a c => rfl)
  have HAB := hid (show (rowJ j).abs = absL j from rfl)
  unfold kdV mkK
  rw [HAB.out]
  simp only [HV.out]
  clear hf1 hf2 hf3 hL HV HAB
  generalize nmK j = nj at *
  generalize minK j = mj at *
  generalize maxK j = xj at *
  generalize numK j = bj at *
  generalize textK j = tj at *
  generalize hasK j = hj' at *
  generalize fnK j = fj at *
  generalize hlj : (absL j).length = lj at *
  clear hlj
  generalize absL j = aj at *
  generalize (if capK j = true then #[Value.pointer (some ⟨q, 0, none⟩)] else #[]) = cj at *
  obtain ⟨V, hV⟩ : ∃ V, (w.alloc (.cells #[.string nj, .int .i64 mj, .int .i64 xj, .bool bj, .int .i64 tj, .string hj', .func (.func fj) #[] cj] 113)).alloc (.cells #[.string ⟨#[]⟩, .int .i64 0, .int .i64 0, .bool false, .int .i64 0, .slice none 0 0] 37) = V := ⟨_, rfl⟩
  have XV := hid (show Ext w V from hV ▸ Ext.alloc2 _ _ _)
  have HK := hid (show V.heap[w.heap.size]? = some (.cells #[.string nj, .int .i64 mj, .int .i64 xj, .bool bj, .int .i64 tj, .string hj', .func (.func fj) #[] cj] 113) from hV ▸ blkOld _ (blk0 _ _))
  have HR := hid (show V.heap[w.heap.size + 1]? = some (.cells #[.string ⟨#[]⟩, .int .i64 0, .int .i64 0, .bool false, .int .i64 0, .slice none 0 0] 37) from hV ▸ blk1 _ _ _)
  have HVS := hid (show V.heap.size = w.heap.size + 2 from hV ▸ (by simp))
  go_enter Tryz.func53, Tryz.ntmps53
  go_upto_region 1 with fail
  first | rw [hV] | skip
  clear hV
  obtain ⟨kb, rb, hkb, hrb⟩ : ∃ kb rb, w.heap.size = kb ∧ w.heap.size + 1 = rb := ⟨_, _, rfl, rfl⟩
  rw [hrb, hkb]
  rw [hrb] at HR
  rw [hkb] at HK
  have HKB := hid hkb
  have HRB := hid hrb
  have hne : kb ≠ rb := by omega
  have HSK := hid (show ∀ W', Ext V W' → (W'.cell? ⟨kb, 0, none⟩ = some (.string nj) ∧ W'.cell? ⟨kb, 1, none⟩ = some (.int .i64 mj) ∧ W'.cell? ⟨kb, 2, none⟩ = some (.int .i64 xj) ∧ W'.cell? ⟨kb, 3, none⟩ = some (.bool bj) ∧ W'.cell? ⟨kb, 4, none⟩ = some (.int .i64 tj) ∧ W'.cell? ⟨kb, 5, none⟩ = some (.string hj')) from fun W' X => by
    obtain ⟨s0, s1, s2, s3, s4, s5, _⟩ := seven_of (X.block HK.out)
    exact ⟨s0, s1, s2, s3, s4, s5⟩)
  have HST := hid (show ∀ (W' : World) (v0 v1 v2 v3 v4 v5 : Value), Ext V W' → ((fun W' => W'.cell? ⟨kb, 0, none⟩ = some (.string nj) ∧ W'.cell? ⟨kb, 1, none⟩ = some (.int .i64 mj) ∧ W'.cell? ⟨kb, 2, none⟩ = some (.int .i64 xj) ∧ W'.cell? ⟨kb, 3, none⟩ = some (.bool bj) ∧ W'.cell? ⟨kb, 4, none⟩ = some (.int .i64 tj) ∧ W'.cell? ⟨kb, 5, none⟩ = some (.string hj') : World → Prop) ((((((W'.setCell ⟨rb, 0, none⟩ v0).setCell ⟨rb, 1, none⟩ v1).setCell ⟨rb, 2, none⟩ v2).setCell ⟨rb, 3, none⟩ v3).setCell ⟨rb, 4, none⟩ v4).setCell ⟨rb, 5, none⟩ v5)) from fun W' v0 v1 v2 v3 v4 v5 X => by
    obtain ⟨s0, s1, s2, s3, s4, s5, _⟩ := seven_of ((Kp.jset6 W' rb v0 v1 v2 v3 v4 v5).block' (X.block HK.out) hne)
    exact ⟨s0, s1, s2, s3, s4, s5⟩)
  dsimp only at HST
  clear hkb hrb hne
  go_region_held3 (fun W' => W'.cell? ⟨kb, 0, none⟩ = some (.string nj) ∧ W'.cell? ⟨kb, 1, none⟩ = some (.int .i64 mj) ∧ W'.cell? ⟨kb, 2, none⟩ = some (.int .i64 xj) ∧ W'.cell? ⟨kb, 3, none⟩ = some (.bool bj) ∧ W'.cell? ⟨kb, 4, none⟩ = some (.int .i64 tj) ∧ W'.cell? ⟨kb, 5, none⟩ = some (.string hj'))
    (first | with_reducible exact HST.out _ _ _ _ _ _ _ Z1.out | with_reducible exact HSK.out _ (Ext.refl _).drew | with_reducible exact HSK.out _ Z1.out | with_reducible exact HSK.out _ Z1.out.drew)
    (first
      | (go_at_call 91; refine (HF.out _ (XV.out.trans (by repeat (first | with_reducible exact Ext.refl _ | with_reducible refine Ext.drew ?_)))).mono ?_; rintro r u1 ⟨gn, rfl, hgn, hy⟩; have Z1 := hid (show Ext V u1 from Ext.trans (by repeat (first | with_reducible exact Ext.refl _ | with_reducible refine Ext.drew ?_)) hy); have HG := hid hgn; have HZ := hid (Z1.out.block HR.out); clear hgn hy; skip)
      | (obtain ⟨c0, f0, c1, f1, c2, f2, c3, f3, c4, f4, c5, f5⟩ := jsix_steps HZ.out (.string nj) (.int .i64 mj) (.int .i64 xj) (.bool bj) (.int .i64 tj); simp only [c0, f0, c1, f1, c2, f2, c3, f3, c4, f4, c5, f5, Bool.false_eq_true, if_false, Result.andThen_ok]; clear c0 f0 c1 f1 c2 f2 c3 f3 c4 f4 c5 f5; go_simp))
  all_goals
    obtain ⟨z0, z1, z2, z3, z4, z5⟩ := jsix_of (jsix_set (u0 := .string nj) (u1 := .int .i64 mj) (u2 := .int .i64 xj) (u3 := .bool bj) (u4 := .int .i64 tj) (u5 := .slice (some ⟨gn, 0, none⟩) lj lj) HZ.out)
    have HKN := Kp.jset6 u1 rb (.string nj) (.int .i64 mj) (.int .i64 xj) (.bool bj) (.int .i64 tj) (.slice (some ⟨gn, 0, none⟩) lj lj)
    generalize ((((((u1.setCell ⟨rb, 0, none⟩ (.string nj)).setCell ⟨rb, 1, none⟩ (.int .i64 mj)).setCell ⟨rb, 2, none⟩ (.int .i64 xj)).setCell ⟨rb, 3, none⟩ (.bool bj)).setCell ⟨rb, 4, none⟩ (.int .i64 tj)).setCell ⟨rb, 5, none⟩ (.slice (some ⟨gn, 0, none⟩) lj lj)) = U at *
    have HKU := hid HKN
    clear HKN
    go_wp2_with fail
    refine bodyPost_ret (v := .agg #[.string nj, .int .i64 mj, .int .i64 xj, .bool bj, .int .i64 tj, .slice (some ⟨gn, 0, none⟩) lj lj]) (by simp [results, Tryz.results53, go_sem, z0, z1, z2, z3, z4, z5]) rfl ?_
    have := HVS.out
    have := HRB.out
    refine ⟨_, _, rfl, HG.out.keep HKU.out (fun q cur hq e => ?_), Kp.extOf (XV.out.trans Z1.out) HKU.out (by omega)⟩
    rw [e, HZ.out] at hq
    cases hq
theorem RItems.base {w : World} {B B' : Nat} {lv : Value} {acc : List Rw} (h : RItems w B lv acc) (hb : B' ≤ B) : RItems w B' lv acc := by
  obtain ⟨us, ho, hi⟩ := h
  refine ⟨us, ⟨ho.1, ?_⟩, hi⟩
  rcases ho.2 with h | ⟨g, cap, cur, hv, hg, hr⟩
  · exact .inl h
  · exact .inr ⟨g, cap, cur, hv, Nat.le_trans hb hg, hr⟩
theorem rowsK_take : ∀ j, j < 7 → rowsK.take j ++ [rowJ j] = rowsK.take (j + 1)
  | 0, _ => rfl
  | 1, _ => rfl
  | 2, _ => rfl
  | 3, _ => rfl
  | 4, _ => rfl
  | 5, _ => rfl
  | 6, _ => rfl
  | n + 7, h => absurd h (by omega)
set_option maxRecDepth 100000 in
set_option maxHeartbeats 2000000 in
theorem nodeRows_any (w : World) (hL : Laid w) : Calls Tryz.prog 26 #[] w (RowsR w rowsK) := by
  have HL := hid hL
  clear hL
  go_enter Tryz.func26, Tryz.ntmps26
  go_wp2_with fail
  refine (kinds_any w).mono ?_
  rintro e w1 ⟨rfl, hw1⟩
  have X1 := hid (show Ext w w1 from hw1 ▸ Ext.alloc2 _ _ _)
  have HA := hid (show w1.heap[w.heap.size + 1]? = some (.cells (kdC w.heap.size) 113) from hw1 ▸ blk1 _ _ _)
  clear hw1
  go_wp2_with fail
  go_loopw [1, 6] (fun q1 q6 wr => ∃ (j : Nat) (ao : Option Addr) (c : Nat), j ≤ 7 ∧ q6 = .int .i64 j ∧ q1 = .slice ao j c ∧ RowsLp w1 rowsK j ao c wr) (fun _ q6 _ => 7 - (intOf q6).toNat)
  case atStart => exact ⟨0, none, 0, Nat.zero_le _, rfl, rfl, RItems.nil _ _, Ext.refl _⟩
  case round =>
    obtain ⟨j, a2, c2, hj, rfl, rfl, hit, hx⟩ := hrel
    have HIT := hid hit
    have HX := hid hx
    clear hit hx
    by_cases hlt : j < 7
    · have hlt' : (j : Int) < 7 := by omega
      obtain ⟨a0, a1, a2', a3, a4, a5, a6⟩ := kd_at w.heap.size j hlt
      have HAB := HX.out.block HA.out
      have p0 : wr.cell? ⟨w.heap.size + 1, j * 7, none⟩ = some (.string (nmK j)) := cell_of HAB a0
      have p1 : wr.cell? ⟨w.heap.size + 1, j * 7 + 1, none⟩ = some (.int .i64 (minK j)) := cell_of HAB a1
      have p2 : wr.cell? ⟨w.heap.size + 1, j * 7 + 2, none⟩ = some (.int .i64 (maxK j)) := cell_of HAB a2'
      have p3 : wr.cell? ⟨w.heap.size + 1, j * 7 + 3, none⟩ = some (.bool (numK j)) := cell_of HAB a3
      have p4 : wr.cell? ⟨w.heap.size + 1, j * 7 + 4, none⟩ = some (.int .i64 (textK j)) := cell_of HAB a4
      have p5 : wr.cell? ⟨w.heap.size + 1, j * 7 + 5, none⟩ = some (.string (hasK j)) := cell_of HAB a5
      have p6 : wr.cell? ⟨w.heap.size + 1, j * 7 + 6, none⟩ = some (mkK w.heap.size j) := cell_of HAB a6
      have hgl := lt_of_cell p0
      have HKR := hid (fun w2 (h : Ext w w2) => krow_any w.heap.size j hlt w2 (HL.out.later h))
      have HV := hid (show kdV w.heap.size j = .agg #[.string (nmK j), .int .i64 (minK j), .int .i64 (maxK j), .bool (numK j), .int .i64 (textK j), .string (hasK j), mkK w.heap.size j] from rfl)
      have HTK := hid (rowsK_take j hlt)
      have HLJ := hid (show (rowsK.take j).length = j by rw [List.length_take]; show min j 7 = j; omega)
      unfold mkK at p6 HV
      rw [HV.out] at HKR
      clear a0 a1 a2' a3 a4 a5 a6 HAB HV
      generalize rowJ j = rj at *
      unfold Rw.val at HKR
      generalize nmK j = nj at *
      generalize minK j = mj at *
      generalize maxK j = xj at *
      generalize numK j = bj at *
      generalize textK j = tj at *
      generalize hasK j = hj' at *
      generalize fnK j = fj at *
      generalize (if capK j = true then #[Value.pointer (some ⟨w.heap.size, 0, none⟩)] else #[]) = cj at *
      obtain ⟨M, hM⟩ : ∃ M, wr.alloc (.cells #[.string nj, .int .i64 mj, .int .i64 xj, .bool bj, .int .i64 tj, .string hj', .func (.func fj) #[] cj] 113) = M := ⟨_, rfl⟩
      have XM := hid (show Ext wr M from hM ▸ Ext.alloc _ _)
      obtain ⟨z0, z1, z2, z3, z4, z5, z6⟩ := seven_of (show M.heap[wr.heap.size]? = some (.cells #[.string nj, .int .i64 mj, .int .i64 xj, .bool bj, .int .i64 tj, .string hj', .func (.func fj) #[] cj] 113) from hM ▸ blk0 _ _)
      go_wp2_with fail
      first | rw [hM] | skip
      clear hM
      refine (HKR.out _ (X1.out.trans (HX.out.trans XM.out))).mono ?_
      rintro e w2 ⟨a9, c9, rfl, htb9, hx9⟩
      have Z1 := hid (XM.out.trans hx9)
      have HTB9 := hid htb9
      clear hx9 htb9 z0 z1 z2 z3 z4 z5 z6
      go_wp2_with (at_builtin; refine app_ritem (ty := 37) _ rfl _ _ rfl rfl w1.heap.size w2.heap.size (.slice a2 j c2) (rowsK.take j) rj a9 c9 rfl rfl (Nat.le_trans HX.out.size (Nat.le_trans Z1.out.size (by rw [blkS]; omega))) (HIT.out.later (Z1.out.trans (Ext.alloc _ _))) (blk0 _ _) (HTB9.out.later (Ext.alloc _ _)) (by rw [HLJ.out]; omega) ?_; intro a5 c5 w5 hit5 hgr5; rw [HLJ.out] at hit5 ⊢; have HIT5 := hid hit5; have HG5 := hid (grown_kp hgr5); clear hit5 hgr5)
      go_roundw
      case rel =>
        refine ⟨j + 1, a5, c5, by omega, by go_num, rfl, ?_, ?_⟩
        · rw [← HTK.out]; exact HIT5.out
        · exact Below.trans ((HX.out.trans Z1.out).trans (Ext.alloc _ _)) (HG5.out.below (fun q hq e => by have := (HIT.out.block e).1; omega) (Nat.le_trans HX.out.size (Nat.le_trans Z1.out.size (by rw [blkS]; omega))))
      case measure => simp [intOf]; omega
    · have hje : j = 7 := by omega
      subst hje
      go_wp2_with fail
      go_ret
      exact ⟨a2, c2, rfl, RItems.base HIT.out X1.out.size, X1.out.trans HX.out⟩
def baseB : ByteArray := ⟨#[98, 97, 115, 101]⟩
theorem rowJ_good : ∀ j, j < 7 → GoodR [98, 97, 115, 101] (rowJ j)
  | 0, _ => ⟨⟨[117, 110, 105, 116], rfl, by kernel_rfl⟩, by decide, by kernel_rfl, by decide, by decide, by decide, by decide, by decide, by kernel_rfl, by decide⟩
  | 1, _ => ⟨⟨[121, 101, 115], rfl, by kernel_rfl⟩, by decide, by kernel_rfl, by decide, by decide, by decide, by decide, by decide, by kernel_rfl, by decide⟩
  | 2, _ => ⟨⟨[110, 111], rfl, by kernel_rfl⟩, by decide, by kernel_rfl, by decide, by decide, by decide, by decide, by decide, by kernel_rfl, by decide⟩
  | 3, _ => ⟨⟨[105, 110, 116], rfl, by kernel_rfl⟩, by decide, by kernel_rfl, by decide, by decide, by decide, by decide, by decide, by kernel_rfl, by decide⟩
  | 4, _ => ⟨⟨[116, 101, 120, 116], rfl, by kernel_rfl⟩, by decide, by kernel_rfl, by decide, by decide, by decide, by decide, by decide, by kernel_rfl, by decide⟩
  | 5, _ => ⟨⟨[118, 97, 114], rfl, by kernel_rfl⟩, by decide, by kernel_rfl, by decide, by decide, by decide, by decide, by decide, by kernel_rfl, by decide⟩
  | 6, _ => ⟨⟨[102, 114, 97, 109, 101], rfl, by kernel_rfl⟩, by decide, by kernel_rfl, by decide, by decide, by decide, by decide, by decide, by kernel_rfl, by decide⟩

  | n + 7, h => absurd h (by omega)
theorem rowsK_good : ∀ r ∈ rowsK, GoodR [98, 97, 115, 101] r := by
  intro r hr
  obtain ⟨j, hj, rfl⟩ := List.getElem_of_mem hr
  have hj7 : j < 7 := hj
  have e := rowsK_at j hj7
  rw [List.getElem?_eq_getElem hj] at e
  rw [Option.some.inj e]
  exact rowJ_good j hj7
theorem rowsK_nodup : (rowsK.map Rw.kind).Nodup := by decide
/-- What kit.Base answers. -/
def BaseR (w : World) (e : Ending) (w' : World) : Prop := ∃ B kb mb lv, e = .returned (.pointer (some ⟨kb, 0, none⟩)) ∧ KitM w' B kb mb baseB (.func (.func 35) #[] #[]) lv rowsK ∧ w.heap.size ≤ B ∧ Ext w w'
set_option maxRecDepth 100000 in
set_option maxHeartbeats 400000 in
theorem base_any (w : World) (hL : Laid w) : Calls Tryz.prog 11 #[] w (BaseR w) := by
  have HR := hid (nodeRows_any w hL)
  have HNEW := hid (fun lv base w1 h => new_good baseB rfl (by kernel_rfl) 35 #[] lv rowsK base w1 h (by decide) (by decide) rowsK_good rowsK_nodup)
  clear hL
  go_enter Tryz.func11, Tryz.ntmps11
  go_wp2_with fail
  refine HR.out.mono ?_
  rintro e w1 ⟨ao, c, rfl, hit, hx1⟩
  have HIT := hid hit
  have X1 := hid hx1
  clear hit hx1
  go_wp2_with fail
  refine (HNEW.out _ _ _ HIT.out).mono ?_
  rintro e w2 ⟨kb, mb, lv, rfl, hk, hx2⟩
  have HK := hid hk
  have X2 := hid (X1.out.trans hx2)
  clear hk hx2
  go_wp2_with fail
  go_ret
  exact ⟨_, kb, mb, lv, rfl, HK.out, X1.out.size, X2.out⟩
end Go.Proofs.YtaodkfchmaendaaGreatDoor.Nd
/-
  espalierlaw7.EqRow and rows of what is the same: true; by contracts.
-/
namespace Go.Proofs.YtaodkfchmaendaaGreatDoor.Nd
open Go.RowKit
set_option maxRecDepth 100000 in
set_option maxHeartbeats 2000000 in
theorem eqRow7_any (r : Rw) (a b : Option Addr) (c d : Nat) (w : World) (hn : r.abs.length ≤ 1000) (h1 : TRow w a r.abs) (h2 : TRow w b r.abs) : Calls Tryz.prog 25 #[r.val a c, r.val b d] w fun e w' => e = .returned (.bool true) ∧ Ext w w' := by
  have HE := hid (fun w1 (hx : Ext w w1) => eqNames_any a b c d r.abs w1 hn (h1.later hx) (h2.later hx))
  unfold Rw.val
  obtain ⟨k, mn, mx, nm, tx, abs⟩ := r
  dsimp only at *
  generalize abs.length = l at *
  clear h1 h2 hn
  have hse := str_eqb k k
  rw [decide_eq_true rfl] at hse
  obtain ⟨M, hM⟩ : ∃ M, (w.alloc (.cells #[.string k, .int .i64 mn, .int .i64 mx, .bool nm, .int .i64 tx, .slice a l c] 37)).alloc (.cells #[.string k, .int .i64 mn, .int .i64 mx, .bool nm, .int .i64 tx, .slice b l d] 37) = M := ⟨_, rfl⟩
  have XM := hid (show Ext w M from hM ▸ Ext.alloc2 _ _ _)
  obtain ⟨z0, z1, z2, z3, z4, z5⟩ := six_of (show M.heap[w.heap.size]? = some (.cells #[.string k, .int .i64 mn, .int .i64 mx, .bool nm, .int .i64 tx, .slice a l c] 37) from hM ▸ blkOld _ (blk0 _ _))
  obtain ⟨y0, y1, y2, y3, y4, y5⟩ := six_of (show M.heap[w.heap.size + 1]? = some (.cells #[.string k, .int .i64 mn, .int .i64 mx, .bool nm, .int .i64 tx, .slice b l d] 37) from hM ▸ blk1 _ _ _)
  go_enter Tryz.func25, Tryz.ntmps25
  go_wp2_with fail
  clear hM
  refine (HE.out _ XM.out).mono ?_
  rintro e w1 ⟨rfl, hx1⟩
  have X1 := hid (XM.out.trans hx1)
  clear hx1
  go_wp2_with fail
  go_ret
  exact ⟨rfl, X1.out⟩
set_option maxRecDepth 100000 in
set_option maxHeartbeats 4000000 in
theorem rows7_any {base base2 : Nat} {acc : List Rw} (ao bo : Option Addr) (ca cb : Nat) (w : World) (hlim : acc.length ≤ 1000) (hab : ∀ r ∈ acc, r.abs.length ≤ 100) (h1 : RItems w base (.slice ao acc.length ca) acc) (h2 : RItems w base2 (.slice bo acc.length cb) acc) : Calls Tryz.prog 22 #[.slice ao acc.length ca, .slice bo acc.length cb] w fun e w' => e = .returned (.bool true) ∧ Ext w w' := by
  have HIT := hid h1
  have HW := hid h2
  have HAB := hid hab
  obtain ⟨n, hne⟩ : ∃ n, acc.length = n := ⟨_, rfl⟩
  have HNE := hid hne
  have hlim' : (n : Int) ≤ 1000 := by omega
  rw [hne] at HW HIT ⊢
  clear h1 h2 hab hlim hne
  go_enter Tryz.func22, Tryz.ntmps22
  go_wp2_with fail
  go_loopw [5] (fun q5 wr => ∃ j : Nat, j ≤ n ∧ q5 = .int .i64 j ∧ Ext w wr) (fun q5 _ => n - (intOf q5).toNat)
  case atStart => exact ⟨0, Nat.zero_le _, rfl, Ext.refl _⟩
  case round =>
    obtain ⟨j, hj, rfl, hx⟩ := hrel
    have HX := hid hx
    clear hx
    by_cases hlt : j < n
    · have hlt' : (j : Int) < n := by omega
      have hjr : j < acc.length := by rw [HNE.out]; exact hlt
      have HRA := hid (HAB.out _ (List.getElem_mem hjr))
      obtain ⟨g, cap, a, c, hlv, hg6, htb⟩ := (HIT.out.later HX.out).read j hjr
      obtain ⟨g2, cap2, a2, c2, hlv2, hh6, htb2⟩ := (HW.out.later HX.out).read j hjr
      obtain ⟨rfl, hnn, rfl⟩ := Value.slice.inj hlv
      obtain ⟨rfl, hnn2, rfl⟩ := Value.slice.inj hlv2
      clear hnn hnn2 hlv hlv2
      have HT1 := hid htb
      have HT2 := hid htb2
      generalize acc[j] = rj at *
      clear htb htb2 hjr
      have HG6 := hid hg6
      have HH6 := hid hh6
      clear hg6 hh6
      have HE1 := hid (fun (W' : World) (X : Ext wr W') => eqRow7_any rj a a2 c c2 W' (by have := HRA.out; omega) (HT1.out.later X).row (HT2.out.later X).row)
      unfold Rw.val at HE1
      obtain ⟨k0, k1, k2, k3, k4, kabs⟩ := rj
      dsimp only at *
      generalize kabs.length = kl at *
      have HSK := hid (show ∀ W', Ext wr W' → (W'.cell? ⟨g, j * 6, none⟩ = some (.string k0) ∧ W'.cell? ⟨g, j * 6 + 1, none⟩ = some (.int .i64 k1) ∧ W'.cell? ⟨g, j * 6 + 2, none⟩ = some (.int .i64 k2) ∧ W'.cell? ⟨g, j * 6 + 3, none⟩ = some (.bool k3) ∧ W'.cell? ⟨g, j * 6 + 4, none⟩ = some (.int .i64 k4) ∧ W'.cell? ⟨g, j * 6 + 5, none⟩ = some (.slice a kl c) ∧ W'.cell? ⟨g2, j * 6, none⟩ = some (.string k0) ∧ W'.cell? ⟨g2, j * 6 + 1, none⟩ = some (.int .i64 k1) ∧ W'.cell? ⟨g2, j * 6 + 2, none⟩ = some (.int .i64 k2) ∧ W'.cell? ⟨g2, j * 6 + 3, none⟩ = some (.bool k3) ∧ W'.cell? ⟨g2, j * 6 + 4, none⟩ = some (.int .i64 k4) ∧ W'.cell? ⟨g2, j * 6 + 5, none⟩ = some (.slice a2 kl c2)) from fun W' X => by
        obtain ⟨p0, p1, p2, p3, p4, p5⟩ := HG6.out
        obtain ⟨q0, q1, q2, q3, q4, q5⟩ := HH6.out
        have Y : ∀ {x : Addr} {v : Value}, wr.cell? x = some v → W'.cell? x = some v := fun e => (Below.cell X (lt_of_cell e)).trans e
        exact ⟨Y p0, Y p1, Y p2, Y p3, Y p4, Y p5, Y q0, Y q1, Y q2, Y q3, Y q4, Y q5⟩)
      go_upto_region 6 with fail
      go_cut [26] from 11 to 26 (fun s26 wx => s26 = .bool false ∧ Ext wr wx)
      case first =>
        go_region_held3 (fun W' => W'.cell? ⟨g, j * 6, none⟩ = some (.string k0) ∧ W'.cell? ⟨g, j * 6 + 1, none⟩ = some (.int .i64 k1) ∧ W'.cell? ⟨g, j * 6 + 2, none⟩ = some (.int .i64 k2) ∧ W'.cell? ⟨g, j * 6 + 3, none⟩ = some (.bool k3) ∧ W'.cell? ⟨g, j * 6 + 4, none⟩ = some (.int .i64 k4) ∧ W'.cell? ⟨g, j * 6 + 5, none⟩ = some (.slice a kl c) ∧ W'.cell? ⟨g2, j * 6, none⟩ = some (.string k0) ∧ W'.cell? ⟨g2, j * 6 + 1, none⟩ = some (.int .i64 k1) ∧ W'.cell? ⟨g2, j * 6 + 2, none⟩ = some (.int .i64 k2) ∧ W'.cell? ⟨g2, j * 6 + 3, none⟩ = some (.bool k3) ∧ W'.cell? ⟨g2, j * 6 + 4, none⟩ = some (.int .i64 k4) ∧ W'.cell? ⟨g2, j * 6 + 5, none⟩ = some (.slice a2 kl c2))
          (first | with_reducible exact HSK.out _ (Ext.refl _) | with_reducible exact HSK.out _ (Ext.refl _).drew | with_reducible exact HSK.out _ Z1 | go_keep)
          (first
            | (go_at_call 25; with_reducible refine (HE1.out _ (by repeat (first | with_reducible exact Ext.refl _ | with_reducible refine Ext.drew ?_))).mono ?_; rintro r u1 ⟨rfl, hy⟩; have Z1 : Ext wr u1 := Ext.trans (by repeat (first | with_reducible exact Ext.refl _ | with_reducible refine Ext.drew ?_)) hy))
        all_goals
          go_wp2_with fail
          go_meet
          case rel => exact ⟨rfl, Z1⟩
      case rest =>
        obtain ⟨rfl, hxc⟩ := hcut
        have XC := hid hxc
        clear hxc
        go_wp2_with fail
        go_roundw
        case rel => exact ⟨j + 1, by omega, by go_num, HX.out.trans XC.out⟩
        case measure => simp [intOf]; omega
    · have hlt2 : decide ((j : Int) < n) = false := decide_eq_false (by omega)
      have hlt3 : ¬ (j : Int) < n := by omega
      go_wp2_with fail
      go_ret
      exact ⟨rfl, HX.out⟩

end Go.Proofs.YtaodkfchmaendaaGreatDoor.Nd
/-
  espalierlaw7.rows of two lists that lie anywhere and are the same: true; by a contract.
-/
namespace Go.Proofs.YtaodkfchmaendaaGreatDoor.Nd
open Go.RowKit
set_option maxRecDepth 100000 in
set_option maxHeartbeats 2000000 in
theorem eqNamesB (a b : Option Addr) (c d : Nat) (xs : List ByteArray) (w : World) (hn : xs.length ≤ 140737488351232) (h1 : TRow w a xs) (h2 : TRow w b xs) : Calls Tryz.prog 31 #[.slice a xs.length c, .slice b xs.length d] w fun e w' => e = .returned (.bool true) ∧ Ext w w' := by
  obtain ⟨n, hne⟩ : ∃ n, xs.length = n := ⟨_, rfl⟩
  have HNE := hid hne
  have H1 := hid h1
  have H2 := hid h2
  rw [hne] at hn ⊢
  have hn' : (n : Int) ≤ 140737488351232 := by omega
  clear h1 h2 hne
  go_enter Tryz.func31, Tryz.ntmps31
  go_wp2_with fail
  go_loopw [5] (fun q5 wr => ∃ j : Nat, j ≤ n ∧ q5 = .int .i64 j ∧ Ext w wr) (fun q5 _ => n - (intOf q5).toNat)
  case atStart => exact ⟨0, Nat.zero_le _, rfl, Ext.refl _⟩
  case round =>
    obtain ⟨j, hj, rfl, hx⟩ := hrel
    have HX := hid hx
    clear hx
    by_cases hlt : j < n
    · have hlt' : (j : Int) < n := by omega
      have hjx : j < xs.length := by rw [HNE.out]; exact hlt
      rcases H1.out.later HX.out with e0 | ⟨g1, o1, rfl, hc1⟩
      · rw [e0] at hjx; exact absurd hjx (Nat.not_lt_zero _)
      rcases H2.out.later HX.out with e0 | ⟨g2, o2, rfl, hc2⟩
      · rw [e0] at hjx; exact absurd hjx (Nat.not_lt_zero _)
      have p1 := hc1 j hjx
      have p2 := hc2 j hjx
      have hse := str_eqb xs[j] xs[j]
      rw [decide_eq_true rfl] at hse
      generalize xs[j] = x at *
      have hse2 : (x.toList != x.toList) = false := by unfold bne; rw [hse]; rfl
      clear hc1 hc2 hjx
      go_wp2_with fail
      go_region
      go_wp2_with fail
      go_roundw
      case rel => exact ⟨j + 1, by omega, by go_num, HX.out.drew⟩
      case measure => simp [intOf]; omega
    · have hlt2 : decide ((j : Int) < n) = false := decide_eq_false (by omega)
      have hlt3 : ¬ (j : Int) < n := by omega
      go_wp2_with fail
      go_ret
      exact ⟨rfl, HX.out⟩
set_option maxRecDepth 100000 in
set_option maxHeartbeats 2000000 in
theorem eqRow7B (r : Rw) (a b : Option Addr) (c d : Nat) (w : World) (hn : r.abs.length ≤ 140737488351232) (h1 : TRow w a r.abs) (h2 : TRow w b r.abs) : Calls Tryz.prog 25 #[r.val a c, r.val b d] w fun e w' => e = .returned (.bool true) ∧ Ext w w' := by
  have HE := hid (fun w1 (hx : Ext w w1) => eqNamesB a b c d r.abs w1 hn (h1.later hx) (h2.later hx))
  unfold Rw.val
  obtain ⟨k, mn, mx, nm, tx, abs⟩ := r
  dsimp only at *
  generalize abs.length = l at *
  clear h1 h2 hn
  have hse := str_eqb k k
  rw [decide_eq_true rfl] at hse
  obtain ⟨M, hM⟩ : ∃ M, (w.alloc (.cells #[.string k, .int .i64 mn, .int .i64 mx, .bool nm, .int .i64 tx, .slice a l c] 37)).alloc (.cells #[.string k, .int .i64 mn, .int .i64 mx, .bool nm, .int .i64 tx, .slice b l d] 37) = M := ⟨_, rfl⟩
  have XM := hid (show Ext w M from hM ▸ Ext.alloc2 _ _ _)
  obtain ⟨z0, z1, z2, z3, z4, z5⟩ := six_of (show M.heap[w.heap.size]? = some (.cells #[.string k, .int .i64 mn, .int .i64 mx, .bool nm, .int .i64 tx, .slice a l c] 37) from hM ▸ blkOld _ (blk0 _ _))
  obtain ⟨y0, y1, y2, y3, y4, y5⟩ := six_of (show M.heap[w.heap.size + 1]? = some (.cells #[.string k, .int .i64 mn, .int .i64 mx, .bool nm, .int .i64 tx, .slice b l d] 37) from hM ▸ blk1 _ _ _)
  go_enter Tryz.func25, Tryz.ntmps25
  go_wp2_with fail
  clear hM
  refine (HE.out _ XM.out).mono ?_
  rintro e w1 ⟨rfl, hx1⟩
  have X1 := hid (XM.out.trans hx1)
  clear hx1
  go_wp2_with fail
  go_ret
  exact ⟨rfl, X1.out⟩
set_option maxRecDepth 100000 in
set_option maxHeartbeats 4000000 in
theorem rows7L {acc : List Rw} (ao bo : Option Addr) (ca cb : Nat) (w : World) (hlim : acc.length ≤ 1954687338220) (hab : ∀ r ∈ acc, r.abs.length ≤ 140737488351232) (h1 : RowsLie w ao acc) (h2 : RowsLie w bo acc) : Calls Tryz.prog 22 #[.slice ao acc.length ca, .slice bo acc.length cb] w fun e w' => e = .returned (.bool true) ∧ Ext w w' := by
  have HIT := hid h1
  have HW := hid h2
  have HAB := hid hab
  obtain ⟨n, hne⟩ : ∃ n, acc.length = n := ⟨_, rfl⟩
  have HNE := hid hne
  have hlim' : (n : Int) ≤ 1954687338220 := by omega
  rw [hne]
  clear h1 h2 hab hlim hne
  go_enter Tryz.func22, Tryz.ntmps22
  go_wp2_with fail
  go_loopw [5] (fun q5 wr => ∃ j : Nat, j ≤ n ∧ q5 = .int .i64 j ∧ Ext w wr) (fun q5 _ => n - (intOf q5).toNat)
  case atStart => exact ⟨0, Nat.zero_le _, rfl, Ext.refl _⟩
  case round =>
    obtain ⟨j, hj, rfl, hx⟩ := hrel
    have HX := hid hx
    clear hx
    by_cases hlt : j < n
    · have hlt' : (j : Int) < n := by omega
      have hjr : j < acc.length := by rw [HNE.out]; exact hlt
      have HRA := hid (HAB.out _ (List.getElem_mem hjr))
      obtain ⟨g, o1, a, c, rfl, hg6, htb⟩ := (HIT.out.later HX.out) j hjr
      obtain ⟨g2, o2, a2, c2, rfl, hh6, htb2⟩ := (HW.out.later HX.out) j hjr
      have HT1 := hid htb
      have HT2 := hid htb2
      generalize acc[j] = rj at *
      clear htb htb2 hjr
      have HG6 := hid hg6
      have HH6 := hid hh6
      clear hg6 hh6
      have HE1 := hid (fun (W' : World) (X : Ext wr W') => eqRow7B rj a a2 c c2 W' HRA.out (HT1.out.later X) (HT2.out.later X))
      unfold Rw.val at HE1
      obtain ⟨k0, k1, k2, k3, k4, kabs⟩ := rj
      dsimp only at *
      generalize kabs.length = kl at *
      have HSK := hid (show ∀ W', Ext wr W' → (W'.cell? ⟨g, o1 + j * 6, none⟩ = some (.string k0) ∧ W'.cell? ⟨g, o1 + j * 6 + 1, none⟩ = some (.int .i64 k1) ∧ W'.cell? ⟨g, o1 + j * 6 + 2, none⟩ = some (.int .i64 k2) ∧ W'.cell? ⟨g, o1 + j * 6 + 3, none⟩ = some (.bool k3) ∧ W'.cell? ⟨g, o1 + j * 6 + 4, none⟩ = some (.int .i64 k4) ∧ W'.cell? ⟨g, o1 + j * 6 + 5, none⟩ = some (.slice a kl c) ∧ W'.cell? ⟨g2, o2 + j * 6, none⟩ = some (.string k0) ∧ W'.cell? ⟨g2, o2 + j * 6 + 1, none⟩ = some (.int .i64 k1) ∧ W'.cell? ⟨g2, o2 + j * 6 + 2, none⟩ = some (.int .i64 k2) ∧ W'.cell? ⟨g2, o2 + j * 6 + 3, none⟩ = some (.bool k3) ∧ W'.cell? ⟨g2, o2 + j * 6 + 4, none⟩ = some (.int .i64 k4) ∧ W'.cell? ⟨g2, o2 + j * 6 + 5, none⟩ = some (.slice a2 kl c2)) from fun W' X => by
        obtain ⟨p0, p1, p2, p3, p4, p5⟩ := HG6.out
        obtain ⟨q0, q1, q2, q3, q4, q5⟩ := HH6.out
        have Y : ∀ {x : Addr} {v : Value}, wr.cell? x = some v → W'.cell? x = some v := fun e => (Below.cell X (lt_of_cell e)).trans e
        exact ⟨Y p0, Y p1, Y p2, Y p3, Y p4, Y p5, Y q0, Y q1, Y q2, Y q3, Y q4, Y q5⟩)
      go_upto_region 6 with fail
      go_cut [26] from 11 to 26 (fun s26 wx => s26 = .bool false ∧ Ext wr wx)
      case first =>
        go_region_held3 (fun W' => W'.cell? ⟨g, o1 + j * 6, none⟩ = some (.string k0) ∧ W'.cell? ⟨g, o1 + j * 6 + 1, none⟩ = some (.int .i64 k1) ∧ W'.cell? ⟨g, o1 + j * 6 + 2, none⟩ = some (.int .i64 k2) ∧ W'.cell? ⟨g, o1 + j * 6 + 3, none⟩ = some (.bool k3) ∧ W'.cell? ⟨g, o1 + j * 6 + 4, none⟩ = some (.int .i64 k4) ∧ W'.cell? ⟨g, o1 + j * 6 + 5, none⟩ = some (.slice a kl c) ∧ W'.cell? ⟨g2, o2 + j * 6, none⟩ = some (.string k0) ∧ W'.cell? ⟨g2, o2 + j * 6 + 1, none⟩ = some (.int .i64 k1) ∧ W'.cell? ⟨g2, o2 + j * 6 + 2, none⟩ = some (.int .i64 k2) ∧ W'.cell? ⟨g2, o2 + j * 6 + 3, none⟩ = some (.bool k3) ∧ W'.cell? ⟨g2, o2 + j * 6 + 4, none⟩ = some (.int .i64 k4) ∧ W'.cell? ⟨g2, o2 + j * 6 + 5, none⟩ = some (.slice a2 kl c2))
          (first | with_reducible exact HSK.out _ (Ext.refl _) | with_reducible exact HSK.out _ (Ext.refl _).drew | with_reducible exact HSK.out _ Z1 | go_keep)
          (first
            | (go_at_call 25; with_reducible refine (HE1.out _ (by repeat (first | with_reducible exact Ext.refl _ | with_reducible refine Ext.drew ?_))).mono ?_; rintro r u1 ⟨rfl, hy⟩; have Z1 : Ext wr u1 := Ext.trans (by repeat (first | with_reducible exact Ext.refl _ | with_reducible refine Ext.drew ?_)) hy))
        all_goals
          go_wp2_with fail
          go_meet
          case rel => exact ⟨rfl, Z1⟩
      case rest =>
        obtain ⟨rfl, hxc⟩ := hcut
        have XC := hid hxc
        clear hxc
        go_wp2_with fail
        go_roundw
        case rel => exact ⟨j + 1, by omega, by go_num, HX.out.trans XC.out⟩
        case measure => simp [intOf]; omega
    · have hlt2 : decide ((j : Int) < n) = false := decide_eq_false (by omega)
      have hlt3 : ¬ (j : Int) < n := by omega
      go_wp2_with fail
      go_ret
      exact ⟨rfl, HX.out⟩

end Go.Proofs.YtaodkfchmaendaaGreatDoor.Nd
