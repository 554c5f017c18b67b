/-
  Is at the number and the variable, by a contract.
-/
import Derived.Test.YtllbelglilkdpaaDoorSOfE
import Derived.Test.YtllbelglilkdpaaDoorSMeet
import Derived.Test.YtllbelglilkdpaaDoorSUni
import Derived.Test.YtllbelglilkdpaaDoorSOfF
import Derived.Test.YtllbelglilkdpaaDoorSThere
import Derived.Test.YtllbelglilkdpaaDoorHolds
namespace Go.Proofs.YtllbelglilkdpaaDoor
open Go.RowKit
set_option maxRecDepth 100000 in
set_option maxHeartbeats 1000000 in
theorem is_int (w : World) (HMAY : ∀ w1, Calls Tryd.prog 42 #[.agg #[.int .i64 3, .int .i64 0, .string ⟨#[]⟩, .slice none 0 0]] w1 fun e w' => e = .returned (.bool true) ∧ Ext w1 w')
    (HSF : ∀ w1, Calls Tryd.prog 32 #[.agg #[.string ⟨#[97]⟩, .slice none 0 0]] w1 fun e w' => e = .returned (.tuple #[shV (0, ⟨#[97]⟩), .int .i64 0]) ∧ Ext w1 w') :
    Calls Tryd.prog 18 #[.agg #[.int .i64 3, .int .i64 0, .string ⟨#[]⟩, .slice none 0 0], .agg #[.string ⟨#[97]⟩, .slice none 0 0]] w fun e w' => e = .returned (.bool true) ∧ Ext w w' := by
  have HM := hid HMAY
  have HF := hid HSF
  clear HMAY HSF
  obtain ⟨M, hM⟩ : ∃ M, (w.alloc (.cells #[.int .i64 3, .int .i64 0, .string ⟨#[]⟩, .slice none 0 0] 31)).alloc (.cells #[.string ⟨#[97]⟩, .slice none 0 0] 27) = M := ⟨_, rfl⟩
  have XM := hid (show Ext w M from hM ▸ Ext.alloc2 _ _ _)
  have HM0 := hid (show M.heap[w.heap.size]? = some (.cells #[.int .i64 3, .int .i64 0, .string ⟨#[]⟩, .slice none 0 0] 31) from hM ▸ blkOld _ (blk0 _ _))
  have HM1 := hid (show M.heap[w.heap.size + 1]? = some (.cells #[.string ⟨#[97]⟩, .slice none 0 0] 27) from hM ▸ blk1 _ _ _)
  obtain ⟨m0, m1⟩ := two_of HM1.out
  go_enter Tryd.func18, Tryd.ntmps18
  go_wp2_with fail
  go_at_call 32
  refine (HF.out _).mono ?_
  rintro e w1 ⟨rfl, hx1⟩
  clear hM m0 m1
  obtain ⟨V1, hV1⟩ : ∃ V1, w1.alloc (.cells #[.int .i64 0, .string ⟨#[97]⟩] 58) = V1 := ⟨_, rfl⟩
  have X1 := hid (show Ext M V1 from hV1 ▸ hx1.trans (Ext.alloc _ _))
  have HV1 := hid (show V1.heap[w1.heap.size]? = some (.cells #[.int .i64 0, .string ⟨#[97]⟩] 58) from hV1 ▸ blk0 _ _)
  clear hx1
  have HP1 := hid (X1.out.block HM0.out)
  have a0 : V1.cell? ⟨w.heap.size, 0, none⟩ = some (.int .i64 3) := cell_of HP1.out rfl
  have a1 : V1.cell? ⟨w.heap.size, 1, none⟩ = some (.int .i64 0) := cell_of HP1.out rfl
  have a2 : V1.cell? ⟨w.heap.size, 2, none⟩ = some (.string ⟨#[]⟩) := cell_of HP1.out rfl
  have a3 : V1.cell? ⟨w.heap.size, 3, none⟩ = some (.slice none 0 0) := cell_of HP1.out rfl
  go_wp2_with fail
  go_at_call 42
  refine (HM.out V1).mono ?_
  rintro e w2 ⟨rfl, hx2⟩
  have X2 := hid hx2
  clear hx2 hV1 a0 a1 a2 a3
  go_wp2_with fail
  go_at_call 39
  refine (newSolver_any w2).mono ?_
  rintro e w3 ⟨kb, mb, b1, b2, b3, b5, rfl, hx3, hs3⟩
  obtain ⟨V3, hV3⟩ : ∃ V3, w3.alloc (.cells #[meetF b3 b1, foundF b2, freshF b5] 72) = V3 := ⟨_, rfl⟩
  have X3 := hid (show Ext w2 V3 from hV3 ▸ hx3.trans (Ext.alloc _ _))
  have HS3 := hid (show Solv V3 w2.heap.size kb mb 0 b1 b2 b3 b5 0 (fun _ => none) from hs3.later (hV3 ▸ Ext.alloc _ _))
  have HV3 := hid (show V3.heap[w3.heap.size]? = some (.cells #[meetF b3 b1, foundF b2, freshF b5] 72) from hV3 ▸ blk0 _ _)
  clear hx3 hs3
  have s0 : V3.cell? ⟨w3.heap.size, 0, none⟩ = some (meetF b3 b1) := cell_of HV3.out rfl
  have s1 : V3.cell? ⟨w3.heap.size, 1, none⟩ = some (foundF b2) := cell_of HV3.out rfl
  have s2 : V3.cell? ⟨w3.heap.size, 2, none⟩ = some (freshF b5) := cell_of HV3.out rfl
  have HP3 := hid (X3.out.block (X2.out.block HP1.out))
  have a0 : V3.cell? ⟨w.heap.size, 0, none⟩ = some (.int .i64 3) := cell_of HP3.out rfl
  have a1 : V3.cell? ⟨w.heap.size, 1, none⟩ = some (.int .i64 0) := cell_of HP3.out rfl
  have a2 : V3.cell? ⟨w.heap.size, 2, none⟩ = some (.string ⟨#[]⟩) := cell_of HP3.out rfl
  have a3 : V3.cell? ⟨w.heap.size, 3, none⟩ = some (.slice none 0 0) := cell_of HP3.out rfl
  go_wp2_with fail
  go_at_call 43
  refine (of_leaf (meetF b3 b1) (foundF b2) (freshF b5) 3 0 ⟨#[]⟩ none 0 0 V3 ⟨⟨_, _, _, rfl⟩, ⟨_, _, _, rfl⟩, _, _, _, rfl⟩ (by decide)).mono ?_
  rintro e w4 ⟨rfl, hx4⟩
  clear hV3 s0 s1 s2 a0 a1 a2 a3
  rw [show nameB 3 = ⟨#[105, 110, 116]⟩ from rfl]
  obtain ⟨V4, hV4⟩ : ∃ V4, w4.alloc (.cells #[.int .i64 0, .string ⟨#[105, 110, 116]⟩] 58) = V4 := ⟨_, rfl⟩
  have X4 := hid (show Ext V3 V4 from hV4 ▸ hx4.trans (Ext.alloc _ _))
  have HV4 := hid (show V4.heap[w4.heap.size]? = some (.cells #[.int .i64 0, .string ⟨#[105, 110, 116]⟩] 58) from hV4 ▸ blk0 _ _)
  clear hx4
  have s0 : V4.cell? ⟨w3.heap.size, 0, none⟩ = some (meetF b3 b1) := cell_of (X4.out.block HV3.out) rfl
  obtain ⟨c0, c1⟩ := two_of HV4.out
  obtain ⟨d0, d1⟩ := two_of (X4.out.block (X3.out.block (X2.out.block HV1.out)))
  go_wp2_with fail
  go_at_call 58
  refine (meet_any 0 0 (0, ⟨#[105, 110, 116]⟩) (0, ⟨#[97]⟩) (0, ⟨#[105, 110, 116]⟩) (0, ⟨#[97]⟩) V4 (HS3.out.later X4.out).sol ⟨⟨by decide, by decide, by decide⟩, rfl, rfl⟩ ⟨⟨by decide, by decide, by decide⟩, rfl, rfl⟩ ⟨by decide, by decide, by decide⟩ ⟨by decide, by decide, by decide⟩ (by decide)).mono ?_
  intro e w5 hr
  rw [show meetPQ ((0 : Int) + -(if (0 : Int) < 0 then (0 : Int) else 0), ⟨#[105, 110, 116]⟩) ((0 : Int) + -(if (0 : Int) < 0 then (0 : Int) else 0), ⟨#[97]⟩) = ((0, ⟨#[97]⟩), (0, ⟨#[105, 110, 116]⟩)) from rfl] at hr
  have hr2 : e = .returned (.bool true) ∧ Kp (· ≠ mb) V4 w5 := by
    rcases hr with ⟨_, h1, h2⟩ | ⟨_, _, h1, h2, _⟩ | ⟨_, h1, _⟩
    · exact ⟨h1, h2.kp _⟩
    · exact ⟨h1, h2⟩
    · exact absurd (show opS (0, ⟨#[97]⟩) = true ∧ (⟨#[97]⟩ : ByteArray) ≠ ⟨#[105, 110, 116]⟩ from ⟨rfl, by decide⟩) h1
  obtain ⟨rfl, hk⟩ := hr2
  have HK := hid hk
  clear hr hk
  go_wp2_with fail
  go_ret
  exact ⟨rfl, Kp.extOf ((((XM.out.trans X1.out).trans X2.out).trans X3.out).trans X4.out) HK.out (Nat.le_trans ((XM.out.trans X1.out).trans X2.out).size HS3.out.ge.2.1)⟩
end Go.Proofs.YtllbelglilkdpaaDoor
/-
  The statement's own set-up part, call by call.
-/
namespace Go.Proofs.YtllbelglilkdpaaDoor
open Go.RowKit
abbrev xl : ByteArray := ⟨#[108, 111, 115, 116]⟩
theorem srd_leaf (x : ByteArray) (a : Option Addr) (c : Nat) (w : World) (hx : x.size ≤ 140737488351232) : SRd (fun _ => True) w 1 (.agg #[.string x, .slice a 0 c]) (.node x []) := ⟨a, c, rfl, hx, by decide, .inl rfl⟩
theorem may_five (w1 : World) : Calls Tryd.prog 42 #[.agg #[.int .i64 5, .int .i64 0, .string ⟨#[]⟩, .slice none 0 0]] w1 fun e w' => e = .returned (.bool true) ∧ Ext w1 w' := by
  have h : Rd (fun _ => True) w1 1 (.agg #[.int .i64 5, .int .i64 0, .string ⟨#[]⟩, .slice none 0 0]) (.node 5 0 ⟨#[]⟩ []) := ⟨none, 0, rfl, by decide, by decide, .inl rfl⟩
  refine (may_any w1 h).mono fun e w' hr => ⟨?_, hr.2⟩
  rw [hr.1, decide_eq_true (by decide)]
theorem may_three (w1 : World) : Calls Tryd.prog 42 #[.agg #[.int .i64 3, .int .i64 0, .string ⟨#[]⟩, .slice none 0 0]] w1 fun e w' => e = .returned (.bool true) ∧ Ext w1 w' := by
  have h : Rd (fun _ => True) w1 1 (.agg #[.int .i64 3, .int .i64 0, .string ⟨#[]⟩, .slice none 0 0]) (.node 3 0 ⟨#[]⟩ []) := ⟨none, 0, rfl, by decide, by decide, .inl rfl⟩
  refine (may_any w1 h).mono fun e w' hr => ⟨?_, hr.2⟩
  rw [hr.1, decide_eq_true (by decide)]
theorem shape_a (w1 : World) : Calls Tryd.prog 32 #[.agg #[.string xa, .slice none 0 0]] w1 fun e w' => e = .returned (.tuple #[shV (0, xa), .int .i64 0]) ∧ Ext w1 w' :=
  (shapeOf_any w1 (srd_leaf xa none 0 w1 (by decide))).mono fun e w' hr => ⟨hr.1, hr.2⟩
set_option maxRecDepth 100000 in
set_option maxHeartbeats 4000000 in
theorem begun_any (w : World) : Calls Tryd.prog 7 #[] w fun e w' => e = .returned (.bool true) ∧ Ext w w' := by
  obtain ⟨W0, hW0⟩ : ∃ W0, W0 = w := ⟨w, rfl⟩
  subst hW0
  go_enter Tryd.func7, Tryd.ntmps7
  go_wp2_with fail
  go_at_call 11
  refine (readS_any ⟨#[108, 105, 115, 116, 32, 108, 105, 115, 116, 32, 97]⟩ W0 (by decide)).mono ?_
  intro e U1 hr
  rw [show readS ⟨#[108, 105, 115, 116, 32, 108, 105, 115, 116, 32, 97]⟩ = .ok 2 [97] from by kernel_rfl] at hr
  obtain ⟨hx, v0, rfl, hr, _⟩ := hr
  obtain ⟨a1, c1, rfl⟩ := hr.shape
  simp only [chain, S.name, S.kids, List.length_cons, List.length_nil, Nat.zero_add] at hr ⊢
  obtain ⟨W1, hW1⟩ : ∃ W1, U1.alloc (.cells #[.string wList, .slice a1 1 c1] 27) = W1 := ⟨_, rfl⟩
  have X1 := hid (show Ext W0 W1 from hW1 ▸ hx.trans (Ext.alloc _ _))
  have R1 := hid (hr.later (hW1 ▸ Ext.alloc _ _ : Ext U1 W1))
  have B1 := hid (show W1.heap[U1.heap.size]? = some (.cells #[.string wList, .slice a1 1 c1] 27) from hW1 ▸ blk0 _ _)
  clear hx hr
  go_wp2_with fail
  go_at_call 13
  refine (named_any xi W1).mono ?_
  rintro e W2 ⟨rfl, hx⟩
  have X2 := hid hx
  clear hx
  have R2 := hid (srd_leaf xi none 0 W2 (by decide))
  clear hW1
  go_wp2_with fail
  go_at_call 21
  refine (list_any W2 (R2.out.later (Ext.refl _))).mono ?_
  rintro e W3 ⟨v3, rfl, hr, hx⟩
  have X3 := hid hx
  have R3 := hid hr
  clear hx hr
  go_wp2_with fail
  go_at_call 9
  refine (textS_any W3 R3.out).mono ?_
  rintro e W4 ⟨rfl, hx⟩
  rw [show txtV (.node wList [.node xi []]) = .tuple #[.string ⟨#[108, 105, 115, 116, 32, 105, 110, 116]⟩, .int .i64 0] from by kernel_rfl]
  have X4 := hid hx
  clear hx
  go_wp2_with fail
  go_at_call 13
  refine (named_any xa W4).mono ?_
  rintro e W5 ⟨rfl, hx⟩
  have X5 := hid hx
  clear hx
  have R5 := hid (srd_leaf xa none 0 W5 (by decide))
  go_wp2_with fail
  go_at_call 21
  refine (list_any W5 (R5.out.later (Ext.refl _))).mono ?_
  rintro e W6 ⟨v6, rfl, hr, hx⟩
  have X6 := hid hx
  have R6 := hid hr
  clear hx hr
  go_wp2_with fail
  go_at_call 13
  refine (named_any xi W6).mono ?_
  rintro e W7 ⟨rfl, hx⟩
  have X7 := hid hx
  clear hx
  have R7 := hid (srd_leaf xi none 0 W7 (by decide))
  go_wp2_with fail
  go_at_call 21
  refine (list_any W7 (R7.out.later (Ext.refl _))).mono ?_
  rintro e W8 ⟨v8, rfl, hr, hx⟩
  have X8 := hid hx
  have R8 := hid hr
  clear hx hr
  go_wp2_with fail
  go_at_call 14
  refine (unify_a W8 (R6.out.later ((X7.out).trans X8.out)) R8.out).mono ?_
  rintro e W9 ⟨g, k, ga, gc, rfl, u0, u1, u2, hx⟩
  have X9 := hid hx
  have U0 := hid u0
  have U1' := hid u1
  have U2 := hid u2
  clear hx u0 u1 u2
  go_wp2_with fail
  go_at_call 11
  refine (readS_any ⟨#[105, 110, 116, 32, 97]⟩ W9 (by decide)).mono ?_
  intro e W10 hr
  rw [show readS ⟨#[105, 110, 116, 32, 97]⟩ = .bad 5 4 from by kernel_rfl] at hr
  obtain ⟨hx, rfl⟩ := hr
  have X10 := hid hx
  clear hx
  go_wp2_with fail
  go_at_call 17
  refine (of_void _ may_five).mono ?_
  rintro e U3 ⟨v', rfl, hr, hx'⟩
  have hx := (Ext.alloc W10 (.cells #[.string ⟨#[]⟩, .slice none 0 0] 27)).trans hx'
  clear hx'
  obtain ⟨a3, c3, rfl⟩ := hr.shape
  simp only [chain, S.name, S.kids, List.length_cons, List.length_nil, Nat.zero_add] at hr ⊢
  obtain ⟨W11, hW3⟩ : ∃ W11, U3.alloc (.cells #[.string wList, .slice a3 1 c3] 27) = W11 := ⟨_, rfl⟩
  have X11 := hid (show Ext W10 W11 from hW3 ▸ hx.trans (Ext.alloc _ _))
  have R11 := hid (hr.later (hW3 ▸ Ext.alloc _ _ : Ext U3 W11))
  have B3 := hid (show W11.heap[U3.heap.size]? = some (.cells #[.string wList, .slice a3 1 c3] 27) from hW3 ▸ blk0 _ _)
  clear hx hr
  have g0 := (((X10.out).trans X11.out).kp (fun _ => True)).cell U0.out trivial
  have g1 := (((X10.out).trans X11.out).kp (fun _ => True)).cell U1'.out trivial
  have g2 := (((X10.out).trans X11.out).kp (fun _ => True)).cell U2.out trivial
  obtain ⟨l0, l1⟩ := two_of (((((((((((X2.out).trans X3.out).trans X4.out).trans X5.out).trans X6.out).trans X7.out).trans X8.out).trans X9.out).trans X10.out).trans X11.out).block B1.out)
  obtain ⟨l2, l3⟩ := two_of B3.out
  have HC := hid (show ∀ W', Ext W11 W' → (fun W' => Ext W11 W' ∧ W'.cell? ⟨U1.heap.size, 0, none⟩ = some (.string wList) ∧ W'.cell? ⟨U1.heap.size, 1, none⟩ = some (.slice a1 1 c1) ∧ W'.cell? ⟨g, 0, none⟩ = some (.string xa) ∧ W'.cell? ⟨g, 1, none⟩ = some (.string xi) ∧ W'.cell? ⟨g, 2, none⟩ = some (.slice ga 0 gc) ∧ W'.cell? ⟨U3.heap.size, 0, none⟩ = some (.string wList) ∧ W'.cell? ⟨U3.heap.size, 1, none⟩ = some (.slice a3 1 c3)) W' from fun W' X => ⟨X, (X.kp (fun _ => True)).cell l0 trivial, (X.kp (fun _ => True)).cell l1 trivial, (X.kp (fun _ => True)).cell g0 trivial, (X.kp (fun _ => True)).cell g1 trivial, (X.kp (fun _ => True)).cell g2 trivial, (X.kp (fun _ => True)).cell l2 trivial, (X.kp (fun _ => True)).cell l3 trivial⟩)
  have l4 := hid l0
  have l5 := hid l1
  clear g0 g1 g2 l0 l1 l2 l3
  go_wp2_with fail
  clear hW3
  have HR1 := hid (R1.out.later ((((((((((X2.out).trans X3.out).trans X4.out).trans X5.out).trans X6.out).trans X7.out).trans X8.out).trans X9.out).trans X10.out).trans X11.out))
  have HO := hid (((((((((((X1.out).trans X2.out).trans X3.out).trans X4.out).trans X5.out).trans X6.out).trans X7.out).trans X8.out).trans X9.out).trans X10.out).trans X11.out)
  have M1 := trivial
  go_region_held3 (fun W' => Ext W11 W' ∧ W'.cell? ⟨U1.heap.size, 0, none⟩ = some (.string wList) ∧ W'.cell? ⟨U1.heap.size, 1, none⟩ = some (.slice a1 1 c1) ∧ W'.cell? ⟨g, 0, none⟩ = some (.string xa) ∧ W'.cell? ⟨g, 1, none⟩ = some (.string xi) ∧ W'.cell? ⟨g, 2, none⟩ = some (.slice ga 0 gc) ∧ W'.cell? ⟨U3.heap.size, 0, none⟩ = some (.string wList) ∧ W'.cell? ⟨U3.heap.size, 1, none⟩ = some (.slice a3 1 c3)) (first
    | with_reducible exact HC.out _ (Ext.refl _).drew
    | with_reducible exact HC.out _ Z14
    | with_reducible exact HC.out _ Z13
    | with_reducible exact HC.out _ Z12
    | with_reducible exact HC.out _ Z11
    | with_reducible exact HC.out _ Z10
    | with_reducible exact HC.out _ Z9
    | with_reducible exact HC.out _ Z8
    | with_reducible exact HC.out _ Z7
    | with_reducible exact HC.out _ Z6
    | with_reducible exact HC.out _ Z5
    | with_reducible exact HC.out _ Z4
    | with_reducible exact HC.out _ Z3
    | with_reducible exact HC.out _ Z2
    | with_reducible exact HC.out _ Z1) (first
    | (have _ := M1; go_at_call 13; have ZS := (‹Ext W11 _ ∧ _›).1; refine (named_any xa _).mono ?_; rintro e y1 ⟨rfl, hx⟩; have Z1 : Ext W11 y1 := ZS.trans hx; have r1 := hid (srd_leaf xa none 0 y1 (by decide)); clear hx ZS M1; have M2 := trivial)
    | (have _ := M2; go_at_call 21; have ZS := (‹Ext W11 _ ∧ _›).1; refine (list_any _ r1.out).mono ?_; rintro e y2 ⟨v102, rfl, hr, hx⟩; have Z2 : Ext W11 y2 := ZS.trans hx; have r2 := hid hr; clear hr; clear hx ZS M2; have M3 := trivial)
    | (have _ := M3; go_at_call 21; have ZS := (‹Ext W11 _ ∧ _›).1; refine (list_any _ r2.out).mono ?_; rintro e y3 ⟨v103, rfl, hr, hx⟩; have Z3 : Ext W11 y3 := ZS.trans hx; have r3 := hid hr; clear hr; clear hx ZS M3; have M4 := trivial)
    | (have _ := M4; go_at_call 23; have ZS := (‹Ext W11 _ ∧ _›).1; refine (eqS_any 2 _ _ _ _ _ _ xa _ (HR1.out.later ZS) r3.out).mono ?_; rintro e y4 ⟨rfl, hx⟩; have Z4 : Ext W11 y4 := ZS.trans hx; clear hx ZS M4; have M5 := trivial)
    | (have _ := M5; go_at_call 13; have ZS := (‹Ext W11 _ ∧ _›).1; refine (named_any xi _).mono ?_; rintro e y5 ⟨rfl, hx⟩; have Z5 : Ext W11 y5 := ZS.trans hx; have r5 := hid (srd_leaf xi none 0 y5 (by decide)); clear hx ZS M5; have M6 := trivial)
    | (have _ := M6; go_at_call 23; have ZS := (‹Ext W11 _ ∧ _›).1; refine (eqS_any 0 _ _ _ _ _ _ xi _ (srd_leaf xi ga gc _ (by decide)) r5.out).mono ?_; rintro e y6 ⟨rfl, hx⟩; have Z6 : Ext W11 y6 := ZS.trans hx; clear hx ZS M6; have M7 := trivial)
    | (have _ := M7; go_at_call 13; have ZS := (‹Ext W11 _ ∧ _›).1; refine (named_any xa _).mono ?_; rintro e y7 ⟨rfl, hx⟩; have Z7 : Ext W11 y7 := ZS.trans hx; have r7 := hid (srd_leaf xa none 0 y7 (by decide)); clear hx ZS M7; have M8 := trivial)
    | (have _ := M8; go_at_call 21; have ZS := (‹Ext W11 _ ∧ _›).1; refine (list_any _ r7.out).mono ?_; rintro e y8 ⟨v108, rfl, hr, hx⟩; have Z8 : Ext W11 y8 := ZS.trans hx; have r8 := hid hr; clear hr; clear hx ZS M8; have M9 := trivial)
    | (have _ := M9; go_at_call 23; have ZS := (‹Ext W11 _ ∧ _›).1; refine (eqS_any 1 _ _ _ _ _ _ xa _ (R11.out.later ZS) r8.out).mono ?_; rintro e y9 ⟨rfl, hx⟩; have Z9 : Ext W11 y9 := ZS.trans hx; clear hx ZS M9; have M10 := trivial)
    | (have _ := M10; go_at_call 13; have ZS := (‹Ext W11 _ ∧ _›).1; refine (named_any xl _).mono ?_; rintro e y10 ⟨rfl, hx⟩; have Z10 : Ext W11 y10 := ZS.trans hx; have r10 := hid (srd_leaf xl none 0 y10 (by decide)); clear hx ZS M10; have M11 := trivial)
    | (have _ := M11; go_at_call 10; have ZS := (‹Ext W11 _ ∧ _›).1; refine (mayS_any _ r10.out).mono ?_; rintro e y11 ⟨rfl, hx⟩; rw [show mayS (.node xl []) = 14 from by kernel_rfl]; have Z11 : Ext W11 y11 := ZS.trans hx; clear hx ZS M11; have M12 := trivial)
    | (have _ := M12; go_at_call 12; have ZS := (‹Ext W11 _ ∧ _›).1; refine (sameS_any _ (HR1.out.later ZS) (HR1.out.later ZS)).mono ?_; rintro e y12 ⟨rfl, hx⟩; rw [show sameS (.node wList [.node wList [.node ⟨#[97]⟩ []]]) (.node wList [.node wList [.node ⟨#[97]⟩ []]]) = true from by kernel_rfl]; have Z12 : Ext W11 y12 := ZS.trans hx; clear hx ZS M12; have M13 := trivial)
    | (have _ := M13; go_at_call 13; have ZS := (‹Ext W11 _ ∧ _›).1; refine (named_any xa _).mono ?_; rintro e y13 ⟨rfl, hx⟩; have Z13 : Ext W11 y13 := ZS.trans hx; have r13 := hid (srd_leaf xa none 0 y13 (by decide)); clear hx ZS M13; have M14 := trivial)
    | (have _ := M14; go_at_call 18; have ZS := (‹Ext W11 _ ∧ _›).1; refine (is_int _ may_three shape_a).mono ?_; rintro e y14 ⟨rfl, hx⟩; have Z14 : Ext W11 y14 := ZS.trans hx; clear hx ZS M14; have M15 := trivial))
  go_wp2_with fail
  go_ret
  exact ⟨rfl, HO.out.trans Z14⟩
end Go.Proofs.YtllbelglilkdpaaDoor
