/-
  espalierlaw8.begun by a contract: it tells true.
-/
import Derived.Test.YtnokajfhjmahpaaGreatDoorNKit
import Derived.Test.YtnokajfhjmahpaaGreatDoorNLaw
namespace Go.Proofs.YtnokajfhjmahpaaGreatDoor
open Go.RowKit
theorem find_sum : kdFind numK ⟨#[110, 117, 109, 46, 115, 117, 109]⟩ = some numK[12] := by kernel_rfl
theorem wk_sum (t : T) (a : Option Addr) (c : Nat) (w : World) (hm : MaxAt w) (hp : PRow w a [t]) : Calls Tryz.prog 13 #[.string ⟨#[110, 117, 109, 46, 115, 117, 109]⟩, .slice a 1 c] w fun e w' => e = .returned (refV 1) ∧ Ext w w' := by
  refine workN_of _ a 1 c w _ ⟨_, _, _, rfl⟩ fun w1 tb hx1 ht => ?_
  have hwk := work_any numK tb ⟨#[110, 117, 109, 46, 115, 117, 109]⟩ a c [t] (refV 1) w1 (by rw [numLen]; decide) ht (hm.later hx1) (hp.later hx1) (Nat.le_of_ble_eq_true rfl) numJ
    (fun k f h1 h2 _ _ _ => by
      rw [find_sum] at h1
      obtain rfl := Option.some.inj h1
      cases h2)
    (fun k f h1 h2 => by
      rw [find_sum] at h1
      obtain rfl := Option.some.inj h1
      cases h2)
  have hV : workV numK ⟨#[110, 117, 109, 46, 115, 117, 109]⟩ [t] (refV 1) = refV 1 := by
    unfold workV
    rw [find_sum]
    rfl
  rw [hV] at hwk
  exact hwk
theorem wk_bad (x : Int) (a : Option Addr) (c : Nat) (w : World) (hm : MaxAt w) (hp : PRow w a [intT x, unitT]) : Calls Tryz.prog 13 #[.string ⟨#[110, 117, 109, 46, 97, 100, 100]⟩, .slice a 2 c] w fun e w' => e = .returned (refV 20) ∧ Ext w w' := by
  refine workN_of _ a 2 c w _ ⟨_, _, _, rfl⟩ fun w1 tb hx1 ht => ?_
  have hno : rightB numK[0].signs.data.toList ([intT x, unitT].map T.kind) = false := by kernel_rfl
  have hwk := work_any numK tb ⟨#[110, 117, 109, 46, 97, 100, 100]⟩ a c [intT x, unitT] (refV 20) w1 (by rw [numLen]; decide) ht (hm.later hx1) (hp.later hx1) (Nat.le_of_ble_eq_true rfl) numJ
    (fun k f h1 h2 _ _ h3 => by
      rw [find_add] at h1
      obtain rfl := Option.some.inj h1
      rw [hno] at h3
      cases h3)
    (fun k f h1 h2 => by
      rw [find_add] at h1
      obtain rfl := Option.some.inj h1
      obtain rfl : 40 = f := Option.some.inj h2
      exact ent_add)
  have hV : workV numK ⟨#[110, 117, 109, 46, 97, 100, 100]⟩ [intT x, unitT] (refV 20) = refV 20 := by
    unfold workV
    rw [find_add]
    show (if cntOk numK[0] 2 = false then refV 11 else if ∀ t ∈ [intT x, unitT], t.may then (if rightB numK[0].signs.data.toList ([intT x, unitT].map T.kind) = true then refV 20 else refV 20) else refV 1) = _
    rw [if_neg (show ¬ cntOk numK[0] 2 = false by rw [show cntOk numK[0] 2 = true from by kernel_rfl]; decide), if_pos (by intro t ht; simp only [List.mem_cons, List.not_mem_nil, or_false] at ht; rcases ht with rfl | rfl; exact intT_may _; exact unitT_may), if_neg (by rw [hno]; decide)]
  rw [hV] at hwk
  exact hwk

/-- Two numbers in a block, as the statements hand them in. -/
theorem lw2 (op : ByteArray) (x y : Int) (g : Nat) (R : Value) (w : World) (hm : MaxAt w) (h : w.heap[g]? = some (.cells #[.int .i64 x, .int .i64 y] 2)) (hR : IRes R)
    (hwk : ∀ w1 a c, MaxAt w1 → PRow w1 a [intT x, intT y] → Calls Tryz.prog 13 #[.string op, .slice a 2 c] w1 fun e w' => e = .returned R ∧ Ext w1 w') :
    Calls Tryz.prog 17 #[.string op, .slice (some ⟨g, 0, none⟩) 2 2] w fun e w' => e = .returned (lawV R) ∧ Ext w w' :=
  lawWork op [x, y] g R w hm (by simp) (fun j hj => by
    match j, hj with
    | 0, _ => exact cell_of h rfl
    | 1, _ => exact cell_of h rfl
    | n + 2, h => exact absurd h (by simp)) hR hwk
theorem lw1 (op : ByteArray) (x : Int) (g : Nat) (R : Value) (w : World) (hm : MaxAt w) (h : w.heap[g]? = some (.cells #[.int .i64 x] 2)) (hR : IRes R)
    (hwk : ∀ w1 a c, MaxAt w1 → PRow w1 a [intT x] → Calls Tryz.prog 13 #[.string op, .slice a 1 c] w1 fun e w' => e = .returned R ∧ Ext w1 w') :
    Calls Tryz.prog 17 #[.string op, .slice (some ⟨g, 0, none⟩) 1 1] w fun e w' => e = .returned (lawV R) ∧ Ext w w' :=
  lawWork op [x] g R w hm (by simp) (fun j hj => by
    match j, hj with
    | 0, _ => exact cell_of h rfl
    | n + 1, h => exact absurd h (by simp)) hR hwk
theorem prow2 {w : World} {g : Nat} {k0 n0 k1 n1 : Int} {t0 t1 : T} (h : w.heap[g]? = some (.cells #[.int .i64 k0, .int .i64 n0, .string ⟨#[]⟩, .slice none 0 0, .int .i64 k1, .int .i64 n1, .string ⟨#[]⟩, .slice none 0 0] 39)) (h0 : t0 = .node k0 n0 ⟨#[]⟩ []) (h1 : t1 = .node k1 n1 ⟨#[]⟩ []) : PRow w (some ⟨g, 0, none⟩) [t0, t1] := by
  refine .inr ⟨g, 0, rfl, fun j hj => ?_⟩
  match j, hj with
  | 0, _ => exact ⟨fun _ => True, 1, _, _, _, _, ⟨cell_of h rfl, cell_of h rfl, cell_of h rfl, cell_of h rfl⟩, by subst h0; exact ⟨none, 0, rfl, by decide, by decide, .inl rfl⟩⟩
  | 1, _ => exact ⟨fun _ => True, 1, _, _, _, _, ⟨cell_of h rfl, cell_of h rfl, cell_of h rfl, cell_of h rfl⟩, by subst h1; exact ⟨none, 0, rfl, by decide, by decide, .inl rfl⟩⟩
  | n + 2, h => exact absurd h (by simp)
theorem prow1 {w : World} {g : Nat} {k0 n0 : Int} {t0 : T} (h : w.heap[g]? = some (.cells #[.int .i64 k0, .int .i64 n0, .string ⟨#[]⟩, .slice none 0 0] 39)) (h0 : t0 = .node k0 n0 ⟨#[]⟩ []) : PRow w (some ⟨g, 0, none⟩) [t0] := by
  refine .inr ⟨g, 0, rfl, fun j hj => ?_⟩
  match j, hj with
  | 0, _ => exact ⟨fun _ => True, 1, _, _, _, _, ⟨cell_of h rfl, cell_of h rfl, cell_of h rfl, cell_of h rfl⟩, by subst h0; exact ⟨none, 0, rfl, by decide, by decide, .inl rfl⟩⟩
  | n + 1, h => exact absurd h (by simp)
set_option maxRecDepth 100000 in
set_option maxHeartbeats 2000000 in
theorem begun_any (w : World) (hm : MaxAt w) (hl : Laid w) : Calls Tryz.prog 8 #[] w fun e w' => e = .returned (.bool true) ∧ Ext w w' := by
  have HM := hid hm
  have HL := hid hl
  have hqt : ∀ w : World, (binOp .eql 34 (.iface 54 (.bool true)) (.iface 54 (.bool true))).run Tryz.prog w = .ok (.bool true) w := fun _ => by kernel_rfl
  clear hm hl
  go_enter Tryz.func8, Tryz.ntmps8
  go_wp2_with fail
  refine (lw2 ⟨#[110, 117, 109, 46, 109, 111, 100]⟩ (-7) 2 _ (modW (-7) 2) _ (HM.out.later (Ext.alloc _ _)) (blk0 _ _) (.inl ⟨1, by kernel_rfl⟩) (fun w1 a c h1 h2 => wk_mod (-7) 2 (by unfold inR; decide) (by unfold inR; decide) a c w1 h1 h2)).mono ?_
  rintro e w1 ⟨rfl, hx1⟩
  rw [show lawV (modW (-7) 2) = .tuple #[.int .i64 1, .int .i64 0] from by kernel_rfl]
  have X1 := hid ((Ext.alloc _ _).trans hx1)
  clear hx1
  go_wp2_with fail
  refine (lw2 ⟨#[110, 117, 109, 46, 113, 117, 111]⟩ 1 0 _ (quoV 1 0) _ (HM.out.later (X1.out.trans (Ext.alloc _ _))) (blk0 _ _) (.inr ⟨22, by decide, by kernel_rfl⟩) (fun w1 a c h1 h2 => wk_quo 1 0 (by unfold inR; decide) (by unfold inR; decide) a c w1 h1 h2)).mono ?_
  rintro e w2 ⟨rfl, hx2⟩
  rw [show lawV (quoV 1 0) = .tuple #[.int .i64 0, .int .i64 22] from by kernel_rfl]
  have X2 := hid (X1.out.trans ((Ext.alloc _ _).trans hx2))
  clear hx2
  go_wp2_with fail
  refine (lw2 ⟨#[110, 117, 109, 46, 97, 100, 100]⟩ 9223372036854775807 1 _ (addV 9223372036854775807 1) _ (HM.out.later (X2.out.trans (Ext.alloc _ _))) (blk0 _ _) (.inr ⟨21, by decide, by kernel_rfl⟩) (fun w1 a c h1 h2 => wk_add 9223372036854775807 1 (by unfold inR; decide) (by unfold inR; decide) a c w1 h1 h2)).mono ?_
  rintro e w3 ⟨rfl, hx3⟩
  rw [show lawV (addV 9223372036854775807 1) = .tuple #[.int .i64 0, .int .i64 21] from by kernel_rfl]
  have X3 := hid (X2.out.trans ((Ext.alloc _ _).trans hx3))
  clear hx3
  go_wp2_with fail
  refine (lw2 ⟨#[110, 117, 109, 46, 112, 111, 119]⟩ (-2) 63 _ (powV (-2) 63) _ (HM.out.later (X3.out.trans (Ext.alloc _ _))) (blk0 _ _) (.inl ⟨-9223372036854775808, by kernel_rfl⟩) (fun w1 a c h1 h2 => wk_pow (-2) 63 (by unfold inR; decide) (by unfold inR; decide) a c w1 h1 h2)).mono ?_
  rintro e w4 ⟨rfl, hx4⟩
  rw [show lawV (powV (-2) 63) = .tuple #[.int .i64 (-9223372036854775808), .int .i64 0] from by kernel_rfl]
  have X4 := hid (X3.out.trans ((Ext.alloc _ _).trans hx4))
  clear hx4
  go_wp2_with fail
  refine (whole_any 1 _).mono ?_
  rintro e w5 ⟨rfl, hx5⟩
  go_wp2_with fail
  refine (whole_any 2 _).mono ?_
  rintro e w6 ⟨rfl, hx6⟩
  have X6 := hid (X4.out.trans (hx5.trans hx6))
  clear hx5 hx6
  go_wp2_with fail
  refine (wk_less 1 2 (by unfold inR; decide) (by unfold inR; decide) _ _ _ (HM.out.later (X6.out.trans (Ext.alloc _ _))) (prow2 (blk0 _ _) rfl rfl)).mono ?_
  rintro e w7 ⟨rfl, hx7⟩
  rw [show toldV (decide ((1 : Int) < 2)) = .tuple #[.iface 54 (.bool true), .int .i64 0, .string ⟨#[]⟩] from by kernel_rfl]
  have X7 := hid (X6.out.trans ((Ext.alloc _ _).trans hx7))
  clear hx7
  go_wp2_with fail
  refine (whole_any 1 _).mono ?_
  rintro e w8 ⟨rfl, hx8⟩
  have X8 := hid (X7.out.trans hx8)
  clear hx8
  go_wp2_with fail
  refine (wk_sum (intT 1) _ _ _ (HM.out.later (X8.out.trans (Ext.alloc _ _))) (prow1 (blk0 _ _) rfl)).mono ?_
  rintro e w9 ⟨rfl, hx9⟩
  unfold refV
  have X9 := hid (X8.out.trans ((Ext.alloc _ _).trans hx9))
  clear hx9
  go_wp2_with fail
  refine (whole_any 1 _).mono ?_
  rintro e wa ⟨rfl, hxa⟩
  have XA := hid (X9.out.trans hxa)
  clear hxa
  go_wp2_with fail
  refine (wk_bad 1 _ _ _ (HM.out.later (XA.out.trans (Ext.alloc _ _))) (prow2 (blk0 _ _) rfl rfl)).mono ?_
  rintro e wb ⟨rfl, hxb⟩
  unfold refV
  have XB := hid (XA.out.trans ((Ext.alloc _ _).trans hxb))
  clear hxb
  go_wp2_with fail
  refine (numKit_any _ (HL.out.later XB.out)).mono ?_
  rintro e wc ⟨base, kb, mb, lv', bx, rfl, hkm, hb, hxc⟩
  have HKM := hid hkm
  have XC := hid (XB.out.trans hxc)
  clear hkm hb hxc
  go_wp2_with fail
  refine (name_any HKM.out).mono ?_
  rintro e wd ⟨rfl, rfl⟩
  unfold numB
  go_wp2_with fail
  go_ret
  exact ⟨rfl, XC.out⟩
end Go.Proofs.YtnokajfhjmahpaaGreatDoor
