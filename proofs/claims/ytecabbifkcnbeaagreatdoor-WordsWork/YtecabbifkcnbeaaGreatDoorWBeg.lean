/-
  espalierlaw10's text, num, words1 and nums1 by contracts; rows of plain values as the statements hand them in.
-/
import Derived.Test.YtecabbifkcnbeaaGreatDoorWWork
import Derived.Test.YtecabbifkcnbeaaGreatDoorCVals
namespace Go.Proofs.YtecabbifkcnbeaaGreatDoor
open Go.RowKit
theorem wtextP (s : ByteArray) (w : World) : Calls Tryz.prog 22 #[.string s] w fun e w' => e = .returned (.agg #[.int .i64 4, .int .i64 0, .string s, .slice none 0 0]) ∧ Ext w w' := by
  go_enter Tryz.func22, Tryz.ntmps22
  go_wp2_with fail
  obtain ⟨z0, z1, z2, z3⟩ := four_of (blk0 w (.cells #[.int .i64 4, .int .i64 0, .string s, .slice none 0 0] 34))
  refine bodyPost_ret (v := .agg #[.int .i64 4, .int .i64 0, .string s, .slice none 0 0]) (by simp [results, Tryz.results22, go_sem, z0, z1, z2, z3]) rfl ?_
  exact ⟨rfl, Ext.alloc _ _⟩
theorem wnumP (n : Int) (w : World) : Calls Tryz.prog 23 #[.int .i64 n] w fun e w' => e = .returned (.agg #[.int .i64 3, .int .i64 n, .string ⟨#[]⟩, .slice none 0 0]) ∧ Ext w w' := by
  go_enter Tryz.func23, Tryz.ntmps23
  go_wp2_with fail
  obtain ⟨z0, z1, z2, z3⟩ := four_of (blk0 w (.cells #[.int .i64 3, .int .i64 n, .string ⟨#[]⟩, .slice none 0 0] 34))
  refine bodyPost_ret (v := .agg #[.int .i64 3, .int .i64 n, .string ⟨#[]⟩, .slice none 0 0]) (by simp [results, Tryz.results23, go_sem, z0, z1, z2, z3]) rfl ?_
  exact ⟨rfl, Ext.alloc _ _⟩
theorem calls_eq {f : Nat} {args : Array Value} {w : World} {V V' : Value} (h : V = V') (hc : Calls Tryz.prog f args w fun e w' => e = .returned V ∧ Ext w w') : Calls Tryz.prog f args w fun e w' => e = .returned V' ∧ Ext w w' := h ▸ hc
/-- A plain value without items, in its cells. -/
def litT (k n : Int) (x : ByteArray) : T := .node k n x []
theorem litRd (K : Nat → Prop) (w : World) (k n : Int) (x : ByteArray) (hx : x.size ≤ 140737488351232) : Rd K w 1 (.agg #[.int .i64 k, .int .i64 n, .string x, .slice none 0 0]) (litT k n x) := ⟨none, 0, rfl, hx, by decide, .inl rfl⟩
theorem wrow1 {w : World} {g : Nat} {k0 n0 : Int} {x0 : ByteArray} (h : w.heap[g]? = some (.cells #[.int .i64 k0, .int .i64 n0, .string x0, .slice none 0 0] 34)) (b0 : x0.size ≤ 140737488351232) : PRow w (some ⟨g, 0, none⟩) [litT k0 n0 x0] := by
  refine .inr ⟨g, 0, rfl, fun j hj => ?_⟩
  match j, hj with
  | 0, _ => exact ⟨fun _ => True, 1, _, _, _, _, ⟨cell_of h rfl, cell_of h rfl, cell_of h rfl, cell_of h rfl⟩, litRd _ _ _ _ _ b0⟩
  | n + 1, h => exact absurd h (by simp)
theorem wrow2 {w : World} {g : Nat} {k0 n0 k1 n1 : Int} {x0 x1 : ByteArray} (h : w.heap[g]? = some (.cells #[.int .i64 k0, .int .i64 n0, .string x0, .slice none 0 0, .int .i64 k1, .int .i64 n1, .string x1, .slice none 0 0] 34)) (b0 : x0.size ≤ 140737488351232) (b1 : x1.size ≤ 140737488351232) : PRow w (some ⟨g, 0, none⟩) [litT k0 n0 x0, litT k1 n1 x1] := by
  refine .inr ⟨g, 0, rfl, fun j hj => ?_⟩
  match j, hj with
  | 0, _ => exact ⟨fun _ => True, 1, _, _, _, _, ⟨cell_of h rfl, cell_of h rfl, cell_of h rfl, cell_of h rfl⟩, litRd _ _ _ _ _ b0⟩
  | 1, _ => exact ⟨fun _ => True, 1, _, _, _, _, ⟨cell_of h rfl, cell_of h rfl, cell_of h rfl, cell_of h rfl⟩, litRd _ _ _ _ _ b1⟩
  | n + 2, h => exact absurd h (by simp)
theorem wrow3 {w : World} {g : Nat} {k0 n0 k1 n1 k2 n2 : Int} {x0 x1 x2 : ByteArray} (h : w.heap[g]? = some (.cells #[.int .i64 k0, .int .i64 n0, .string x0, .slice none 0 0, .int .i64 k1, .int .i64 n1, .string x1, .slice none 0 0, .int .i64 k2, .int .i64 n2, .string x2, .slice none 0 0] 34)) (b0 : x0.size ≤ 140737488351232) (b1 : x1.size ≤ 140737488351232) (b2 : x2.size ≤ 140737488351232) : PRow w (some ⟨g, 0, none⟩) [litT k0 n0 x0, litT k1 n1 x1, litT k2 n2 x2] := by
  refine .inr ⟨g, 0, rfl, fun j hj => ?_⟩
  match j, hj with
  | 0, _ => exact ⟨fun _ => True, 1, _, _, _, _, ⟨cell_of h rfl, cell_of h rfl, cell_of h rfl, cell_of h rfl⟩, litRd _ _ _ _ _ b0⟩
  | 1, _ => exact ⟨fun _ => True, 1, _, _, _, _, ⟨cell_of h rfl, cell_of h rfl, cell_of h rfl, cell_of h rfl⟩, litRd _ _ _ _ _ b1⟩
  | 2, _ => exact ⟨fun _ => True, 1, _, _, _, _, ⟨cell_of h rfl, cell_of h rfl, cell_of h rfl, cell_of h rfl⟩, litRd _ _ _ _ _ b2⟩
  | n + 3, h => exact absurd h (by simp)
theorem as_tt_tt (v : Value) (w : World) : (Instr.typeAssert (.iface 98 v) 29 98 true).run Tryz.prog w = .ok (.tuple #[v, .bool true]) w := by kernel_rfl
theorem as_nil_tt (w : World) : (Instr.typeAssert .nilIface 29 98 true).run Tryz.prog w = .ok (.tuple #[.string ByteArray.empty, .bool false]) w := by kernel_rfl
theorem was_in_in (v : Value) (w : World) : (Instr.typeAssert (.iface 51 v) 29 51 true).run Tryz.prog w = .ok (.tuple #[v, .bool true]) w := by kernel_rfl
theorem was_nil_in (w : World) : (Instr.typeAssert .nilIface 29 51 true).run Tryz.prog w = .ok (.tuple #[.int .i64 0, .bool false]) w := by kernel_rfl
set_option maxRecDepth 100000 in
theorem words1_ok (op : ByteArray) (a : Option Addr) (n c : Nat) (s : ByteArray) (w : World) (h : Calls Tryz.prog 8 #[.string op, .slice a n c] w fun e w' => e = .returned (wroteV s) ∧ Ext w w') : Calls Tryz.prog 21 #[.string op, .slice a n c] w fun e w' => e = .returned (.tuple #[.string s, .int .i64 0]) ∧ Ext w w' := by
  have H := hid h
  have h1 := as_tt_tt
  clear h
  go_enter Tryz.func21, Tryz.ntmps21
  go_wp2_with fail
  refine H.out.mono ?_
  rintro e w2 ⟨rfl, hx⟩
  have HX := hid hx
  clear hx
  unfold wroteV
  go_wp2_with fail
  go_ret2
  exact ⟨rfl, HX.out⟩
set_option maxRecDepth 100000 in
theorem words1_bad (op : ByteArray) (a : Option Addr) (n c : Nat) (k : Int) (hk : (k == 0) = false) (w : World) (h : Calls Tryz.prog 8 #[.string op, .slice a n c] w fun e w' => e = .returned (refV k) ∧ Ext w w') : Calls Tryz.prog 21 #[.string op, .slice a n c] w fun e w' => e = .returned (.tuple #[.string ByteArray.empty, .int .i64 k]) ∧ Ext w w' := by
  have H := hid h
  have h1 := as_nil_tt
  clear h
  go_enter Tryz.func21, Tryz.ntmps21
  go_wp2_with fail
  refine H.out.mono ?_
  rintro e w2 ⟨rfl, hx⟩
  have HX := hid hx
  clear hx
  unfold refV
  go_wp2_with fail
  go_ret2
  exact ⟨rfl, HX.out⟩
set_option maxRecDepth 100000 in
theorem nums1_ok (op : ByteArray) (a : Option Addr) (n c : Nat) (s : Int) (w : World) (h : Calls Tryz.prog 8 #[.string op, .slice a n c] w fun e w' => e = .returned (cameV s) ∧ Ext w w') : Calls Tryz.prog 24 #[.string op, .slice a n c] w fun e w' => e = .returned (.tuple #[.int .i64 s, .int .i64 0]) ∧ Ext w w' := by
  have H := hid h
  have h1 := was_in_in
  clear h
  go_enter Tryz.func24, Tryz.ntmps24
  go_wp2_with fail
  refine H.out.mono ?_
  rintro e w2 ⟨rfl, hx⟩
  have HX := hid hx
  clear hx
  unfold cameV
  go_wp2_with fail
  go_ret2
  exact ⟨rfl, HX.out⟩
set_option maxRecDepth 100000 in
theorem nums1_bad (op : ByteArray) (a : Option Addr) (n c : Nat) (k : Int) (hk : (k == 0) = false) (w : World) (h : Calls Tryz.prog 8 #[.string op, .slice a n c] w fun e w' => e = .returned (refV k) ∧ Ext w w') : Calls Tryz.prog 24 #[.string op, .slice a n c] w fun e w' => e = .returned (.tuple #[.int .i64 0, .int .i64 k]) ∧ Ext w w' := by
  have H := hid h
  have h1 := was_nil_in
  clear h
  go_enter Tryz.func24, Tryz.ntmps24
  go_wp2_with fail
  refine H.out.mono ?_
  rintro e w2 ⟨rfl, hx⟩
  have HX := hid hx
  clear hx
  unfold refV
  go_wp2_with fail
  go_ret2
  exact ⟨rfl, HX.out⟩
end Go.Proofs.YtecabbifkcnbeaaGreatDoor
/-
  espalierlaw10.begun by a contract: it tells true.
-/
namespace Go.Proofs.YtecabbifkcnbeaaGreatDoor
open Go.RowKit
theorem itoa_m5 : itoaS (-5) = ⟨#[45, 53]⟩ := by
  unfold itoaS Lib.itoa
  simp [Lib.decDigits]
theorem itoa_5 : itoaS 5 = ⟨#[53]⟩ := by
  unfold itoaS Lib.itoa
  simp [Lib.decDigits]
theorem num_05 : numV ⟨#[48, 53]⟩ = refV 24 := by
  have h : Lib.parseIntB 64 (⟨#[48, 53]⟩ : ByteArray).data.toList = .ok 5 := by kernel_rfl
  unfold numV numO
  rw [h]
  dsimp only
  rw [itoa_5, if_neg (by decide)]
theorem of_m5 : ofV (-5) = wroteV ⟨#[45, 53]⟩ := by unfold ofV; rw [itoa_m5]
set_option maxRecDepth 100000 in
set_option maxHeartbeats 4000000 in
theorem begunW_any (w : World) (hm : WAt w) (hl : Laid w) : Calls Tryz.prog 6 #[] w fun e w' => e = .returned (.bool true) ∧ Ext w w' := by
  have HW := hid hm
  have HL := hid hl
  have X0 := hid (Ext.refl w)
  clear hm hl
  go_enter Tryz.func6, Tryz.ntmps6
  go_wp2_with fail
  refine (wtextP ⟨#[97, 98, 99]⟩ _).mono ?_
  rintro e wk1 ⟨rfl, hx1⟩
  have X1 := hid (X0.out.trans hx1)
  clear hx1
  go_wp2_with fail
  refine (wnumP 1 _).mono ?_
  rintro e wk2 ⟨rfl, hx2⟩
  have X2 := hid (X1.out.trans hx2)
  clear hx2
  go_wp2_with fail
  refine (wnumP 2 _).mono ?_
  rintro e wk3 ⟨rfl, hx3⟩
  have X3 := hid (X2.out.trans hx3)
  clear hx3
  go_wp2_with fail
  refine (words1_ok ⟨#[119, 111, 114, 100, 115, 46, 99, 117, 116]⟩ _ _ _ ⟨#[98]⟩ _ (calls_eq (show cutV ⟨#[97, 98, 99]⟩ 1 2 = wroteV ⟨#[98]⟩ from by kernel_rfl) (ww_cut ⟨#[97, 98, 99]⟩ 1 2 (by decide) _ _ _ (HW.out.later (X3.out.trans (Ext.alloc _ _))) (wrow3 (blk0 _ _) (by decide) (by decide) (by decide))))).mono ?_
  rintro e wk4 ⟨rfl, hx4⟩
  have X4 := hid (X3.out.trans ((Ext.alloc _ _).trans hx4))
  clear hx4
  go_wp2_with fail
  refine (wtextP ⟨#[97, 98, 99]⟩ _).mono ?_
  rintro e wk5 ⟨rfl, hx5⟩
  have X5 := hid (X4.out.trans hx5)
  clear hx5
  go_wp2_with fail
  refine (wnumP 2 _).mono ?_
  rintro e wk6 ⟨rfl, hx6⟩
  have X6 := hid (X5.out.trans hx6)
  clear hx6
  go_wp2_with fail
  refine (wnumP 1 _).mono ?_
  rintro e wk7 ⟨rfl, hx7⟩
  have X7 := hid (X6.out.trans hx7)
  clear hx7
  go_wp2_with fail
  refine (words1_bad ⟨#[119, 111, 114, 100, 115, 46, 99, 117, 116]⟩ _ _ _ 23 (by decide) _ (calls_eq (show cutV ⟨#[97, 98, 99]⟩ 2 1 = refV 23 from by kernel_rfl) (ww_cut ⟨#[97, 98, 99]⟩ 2 1 (by decide) _ _ _ (HW.out.later (X7.out.trans (Ext.alloc _ _))) (wrow3 (blk0 _ _) (by decide) (by decide) (by decide))))).mono ?_
  rintro e wk8 ⟨rfl, hx8⟩
  have X8 := hid (X7.out.trans ((Ext.alloc _ _).trans hx8))
  clear hx8
  go_wp2_with fail
  refine (wtextP ⟨#[98, 97, 110, 97, 110, 97]⟩ _).mono ?_
  rintro e wk9 ⟨rfl, hx9⟩
  have X9 := hid (X8.out.trans hx9)
  clear hx9
  go_wp2_with fail
  refine (wtextP ⟨#[97, 110]⟩ _).mono ?_
  rintro e wk10 ⟨rfl, hx10⟩
  have X10 := hid (X9.out.trans hx10)
  clear hx10
  go_wp2_with fail
  refine (nums1_ok ⟨#[119, 111, 114, 100, 115, 46, 102, 105, 110, 100]⟩ _ _ _ 1 _ (calls_eq (show findV ⟨#[98, 97, 110, 97, 110, 97]⟩ ⟨#[97, 110]⟩ = cameV 1 from by kernel_rfl) (ww_find ⟨#[98, 97, 110, 97, 110, 97]⟩ ⟨#[97, 110]⟩ (by decide) (by decide) _ _ _ (HW.out.later (X10.out.trans (Ext.alloc _ _))) (wrow2 (blk0 _ _) (by decide) (by decide))))).mono ?_
  rintro e wk11 ⟨rfl, hx11⟩
  have X11 := hid (X10.out.trans ((Ext.alloc _ _).trans hx11))
  clear hx11
  go_wp2_with fail
  refine (wtextP ⟨#[97, 98]⟩ _).mono ?_
  rintro e wk12 ⟨rfl, hx12⟩
  have X12 := hid (X11.out.trans hx12)
  clear hx12
  go_wp2_with fail
  refine (wnumP 2 _).mono ?_
  rintro e wk13 ⟨rfl, hx13⟩
  have X13 := hid (X12.out.trans hx13)
  clear hx13
  go_wp2_with fail
  refine (words1_ok ⟨#[119, 111, 114, 100, 115, 46, 114, 101, 112]⟩ _ _ _ ⟨#[97, 98, 97, 98]⟩ _ (calls_eq (show repV ⟨#[97, 98]⟩ 2 = wroteV ⟨#[97, 98, 97, 98]⟩ from by kernel_rfl) (ww_rep ⟨#[97, 98]⟩ 2 (by decide) _ _ _ (HW.out.later (X13.out.trans (Ext.alloc _ _))) (wrow2 (blk0 _ _) (by decide) (by decide))))).mono ?_
  rintro e wk14 ⟨rfl, hx14⟩
  have X14 := hid (X13.out.trans ((Ext.alloc _ _).trans hx14))
  clear hx14
  go_wp2_with fail
  refine (wtextP ⟨#[48, 53]⟩ _).mono ?_
  rintro e wk15 ⟨rfl, hx15⟩
  have X15 := hid (X14.out.trans hx15)
  clear hx15
  go_wp2_with fail
  refine (nums1_bad ⟨#[119, 111, 114, 100, 115, 46, 110, 117, 109]⟩ _ _ _ 24 (by decide) _ (calls_eq (num_05) (ww_num ⟨#[48, 53]⟩ (by decide) _ _ _ (HW.out.later (X15.out.trans (Ext.alloc _ _))) (wrow1 (blk0 _ _) (by decide))))).mono ?_
  rintro e wk16 ⟨rfl, hx16⟩
  have X16 := hid (X15.out.trans ((Ext.alloc _ _).trans hx16))
  clear hx16
  go_wp2_with fail
  refine (wnumP (-5) _).mono ?_
  rintro e wk17 ⟨rfl, hx17⟩
  have X17 := hid (X16.out.trans hx17)
  clear hx17
  go_wp2_with fail
  refine (words1_ok ⟨#[119, 111, 114, 100, 115, 46, 111, 102]⟩ _ _ _ ⟨#[45, 53]⟩ _ (calls_eq (of_m5) (ww_of (-5) (by unfold inR; decide) _ _ _ (HW.out.later (X17.out.trans (Ext.alloc _ _))) (wrow1 (blk0 _ _) (by decide))))).mono ?_
  rintro e wk18 ⟨rfl, hx18⟩
  have X18 := hid (X17.out.trans ((Ext.alloc _ _).trans hx18))
  clear hx18
  go_wp2_with fail
  refine (wtextP ⟨#[97]⟩ _).mono ?_
  rintro e wk19 ⟨rfl, hx19⟩
  have X19 := hid (X18.out.trans hx19)
  clear hx19
  go_wp2_with fail
  refine (wnumP 1 _).mono ?_
  rintro e wk20 ⟨rfl, hx20⟩
  have X20 := hid (X19.out.trans hx20)
  clear hx20
  go_wp2_with fail
  refine (words1_bad ⟨#[119, 111, 114, 100, 115, 46, 106, 111, 105, 110]⟩ _ _ _ 20 (by decide) _ (ww_bad ⟨#[97]⟩ 1 (by decide) _ _ _ (HW.out.later (X20.out.trans (Ext.alloc _ _))) (wrow2 (blk0 _ _) (by decide) (by decide)))).mono ?_
  rintro e wk21 ⟨rfl, hx21⟩
  have X21 := hid (X20.out.trans ((Ext.alloc _ _).trans hx21))
  clear hx21
  go_wp2_with fail
  refine (wordsKit_any _ (HL.out.later X21.out)).mono ?_
  rintro e wz ⟨base, kb, mb, lv', bx, rfl, hkm, htab, hb, hxz⟩
  have HNM := hid (kname_any hkm)
  have XZ := hid (X21.out.trans hxz)
  clear hkm hb hxz htab
  unfold wordsB at HNM
  go_wp2_with fail
  refine HNM.out.mono ?_
  rintro e w0 ⟨rfl, rfl⟩
  go_wp2_with fail
  go_ret
  exact ⟨rfl, XZ.out⟩

end Go.Proofs.YtecabbifkcnbeaaGreatDoor
