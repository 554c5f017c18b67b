/-
  An array handed back by value.
-/
import Derived.Test.YtnmcmjgfnncdmaaGreatDoorBase
import Derived.Deep.WholeRow
import Derived.Test.YtnmcmjgfnncdmaaGreatDoorCWorkG
import Derived.Test.YtnmcmjgfnncdmaaGreatDoorTOps
namespace Go.Proofs.YtnmcmjgfnncdmaaGreatDoor
open Go.RowKit
theorem results_one_cell {fn : Func} {p : Tmp} {ty : TypeId} (h : fn.results = #[.cell p ty]) (tmps : Array Value) (P : Program) (w : World) :
    (results fn tmps).run P w = ((asAddr (tmps.getD p undef)).run P w).andThen fun a w₁ => (loadVar ty a).run P w₁ := by
  simp only [results, h]
  simp [Sem.run_bind, Result.andThen]
theorem asAddr_ptr (P : Program) (a : Addr) (w : World) : (asAddr (.pointer (some a))).run P w = .ok a w := rfl
/-- The whole array out of the block that was made last, as a function's result. -/
theorem res_array {P : Program} {fn : Func} {p : Tmp} {ty e : TypeId} {n : Nat} (h : fn.results = #[.cell p ty]) (hu : P.underlying ty = some (.array n e)) (tmps : Array Value) (cs : Array Value) (hs : (P.info? ty).map (·.size) = some cs.size) (w : World) (h0 : tmps.getD p undef = .pointer (some ⟨w.heap.size, 0, none⟩)) : (results fn tmps).run P (w.alloc (.cells cs ty)) = .ok (.agg cs) (w.alloc (.cells cs ty)) := by
  rw [results_one_cell h, h0, asAddr_ptr, Result.andThen_ok]
  exact run_loadVar_new w ty cs n e hu hs
end Go.Proofs.YtnmcmjgfnncdmaaGreatDoor
/-
  Numbers and texts as plain values; the answers that operations give.
-/
namespace Go.Proofs.YtnmcmjgfnncdmaaGreatDoor
open Go.RowKit
/-- A number as a plain value. -/
def intT (n : Int) : T := .node 3 n ⟨#[]⟩ []
def unitT : T := .node 1 0 ⟨#[]⟩ []
theorem intT_may (n : Int) : (intT n).may := by
  refine ⟨⟨.inr (.inr (.inl ⟨rfl, rfl, rfl⟩)), trivial⟩, ?_, ?_⟩
  · show (T.node 3 n ⟨#[]⟩ []).size ≤ 65536
    simp only [T.size, T.sizeL]; decide
  · show (T.node 3 n ⟨#[]⟩ []).deep ≤ 64
    simp only [T.deep]; simp
theorem unitT_may : unitT.may := by
  refine ⟨⟨.inl ⟨rfl, rfl, rfl, rfl⟩, trivial⟩, ?_, ?_⟩
  · show (T.node 1 0 ⟨#[]⟩ []).size ≤ 65536
    simp only [T.size, T.sizeL]; decide
  · show (T.node 1 0 ⟨#[]⟩ []).deep ≤ 64
    simp only [T.deep]; simp
theorem VRd.int {K : Nat → Prop} {w : World} {d : Nat} {v : Value} {n : Int} (h : VRd K w d v (intT n)) : v = .iface 55 (.int .i64 n) := by
  cases d with
  | zero => exact h.elim
  | succ d =>
    rcases h with ⟨h, _⟩ | ⟨h, _⟩ | ⟨_, _, _, h⟩ | ⟨h, _⟩ | ⟨h, _⟩
    · exact absurd h (by decide)
    · exact absurd h (by decide)
    · exact h
    · exact absurd h (by decide)
    · exact absurd h (by decide)
theorem NRes.came (n : Int) : NRes (cameV n) := .inl ⟨n, rfl⟩
theorem NRes.told (b : Bool) : NRes (toldV b) := .inr (.inl ⟨b, rfl⟩)
theorem NRes.ref {c : Int} (h : (c == 0) = false) : NRes (refV c) := .inr (.inr (.inl ⟨c, h, rfl⟩))
theorem NRes.wrote {s : ByteArray} (h : s.size ≤ 65535) : NRes (wroteV s) := .inr (.inr (.inr ⟨s, h, rfl⟩))
theorem NRes.three {R : Value} (h : NRes R) : ∃ x y z, R = .tuple #[x, y, z] := by
  rcases h with ⟨_, rfl⟩ | ⟨_, rfl⟩ | ⟨_, _, rfl⟩ | ⟨_, _, rfl⟩ <;> exact ⟨_, _, _, rfl⟩
/-- A text as a plain value. -/
def textT (s : ByteArray) : T := .node 4 0 s []
theorem textT_may {s : ByteArray} (h : s.size ≤ 65535) : (textT s).may := by
  refine ⟨⟨.inr (.inr (.inr (.inl ⟨rfl, rfl, rfl⟩))), trivial⟩, ?_, ?_⟩
  · show (T.node 4 0 s []).size ≤ 65536
    simp only [T.size, T.sizeL]; omega
  · show (T.node 4 0 s []).deep ≤ 64
    simp only [T.deep]; simp
theorem textT_not {s : ByteArray} (h : 65535 < s.size) : ¬ (textT s).may := by
  intro hm
  have : (T.node 4 0 s []).size ≤ 65536 := hm.2.1
  simp only [T.size, T.sizeL] at this
  omega
theorem VRd.text {K : Nat → Prop} {w : World} {d : Nat} {v : Value} {s : ByteArray} (h : VRd K w d v (textT s)) : v = .iface 161 (.string s) := by
  cases d with
  | zero => exact h.elim
  | succ d =>
    rcases h with ⟨h, _⟩ | ⟨h, _⟩ | ⟨h, _⟩ | ⟨_, _, _, _, h⟩ | ⟨h, _⟩
    · exact absurd h (by decide)
    · exact absurd h (by decide)
    · exact absurd h (by decide)
    · exact h
    · exact absurd h (by decide)
end Go.Proofs.YtnmcmjgfnncdmaaGreatDoor
/-
  The kinds of the kit truth: their table; truth.kinds by a contract; truth.Work.
-/
namespace Go.Proofs.YtnmcmjgfnncdmaaGreatDoor
open Go.RowKit
/-- The kit truth. -/
def truthK : List Kd := [
  ⟨⟨#[116, 114, 117, 116, 104, 46, 110, 111, 116]⟩, 1, 1, 0, ⟨#[83, 116, 114, 105, 99, 116, 32, 80, 117, 114, 101, 32, 84, 111, 116, 97, 108, 32, 83, 111, 114, 116, 101, 100]⟩, ⟨#[116, 114, 117, 116, 104, 32, 62, 32, 116, 114, 117, 116, 104]⟩, 142, some 143, false⟩,
  ⟨⟨#[116, 114, 117, 116, 104, 46, 115, 97, 109, 101]⟩, 2, 2, 0, ⟨#[83, 116, 114, 105, 99, 116, 32, 80, 117, 114, 101, 32, 84, 111, 116, 97, 108, 32, 83, 111, 114, 116, 101, 100]⟩, ⟨#[97, 44, 32, 97, 32, 62, 32, 116, 114, 117, 116, 104]⟩, 142, some 144, false⟩,
  ⟨⟨#[116, 114, 117, 116, 104, 46, 105, 102]⟩, 3, 3, 0, ⟨#[76, 97, 122, 121, 32, 80, 117, 114, 101, 32, 84, 111, 116, 97, 108, 32, 83, 111, 114, 116, 101, 100]⟩, ⟨#[116, 114, 117, 116, 104, 44, 32, 97, 44, 32, 97, 32, 62, 32, 97]⟩, 145, none, false⟩,
  ⟨⟨#[116, 114, 117, 116, 104, 46, 97, 110, 100]⟩, 2, 2, 0, ⟨#[76, 97, 122, 121, 32, 80, 117, 114, 101, 32, 84, 111, 116, 97, 108, 32, 83, 111, 114, 116, 101, 100]⟩, ⟨#[116, 114, 117, 116, 104, 44, 32, 116, 114, 117, 116, 104, 32, 62, 32, 116, 114, 117, 116, 104]⟩, 145, none, false⟩,
  ⟨⟨#[116, 114, 117, 116, 104, 46, 111, 114]⟩, 2, 2, 0, ⟨#[76, 97, 122, 121, 32, 80, 117, 114, 101, 32, 84, 111, 116, 97, 108, 32, 83, 111, 114, 116, 101, 100]⟩, ⟨#[116, 114, 117, 116, 104, 44, 32, 116, 114, 117, 116, 104, 32, 62, 32, 116, 114, 117, 116, 104]⟩, 145, none, false⟩]
def truthC : Array Value := #[.string ⟨#[116, 114, 117, 116, 104, 46, 110, 111, 116]⟩, .int .i64 1, .int .i64 1, .int .i64 0, .string ⟨#[83, 116, 114, 105, 99, 116, 32, 80, 117, 114, 101, 32, 84, 111, 116, 97, 108, 32, 83, 111, 114, 116, 101, 100]⟩, .string ⟨#[116, 114, 117, 116, 104, 32, 62, 32, 116, 114, 117, 116, 104]⟩, .func (.func 142) #[] #[], .func (.func 143) #[] #[], .bool false, .string ⟨#[116, 114, 117, 116, 104, 46, 115, 97, 109, 101]⟩, .int .i64 2, .int .i64 2, .int .i64 0, .string ⟨#[83, 116, 114, 105, 99, 116, 32, 80, 117, 114, 101, 32, 84, 111, 116, 97, 108, 32, 83, 111, 114, 116, 101, 100]⟩, .string ⟨#[97, 44, 32, 97, 32, 62, 32, 116, 114, 117, 116, 104]⟩, .func (.func 142) #[] #[], .func (.func 144) #[] #[], .bool false, .string ⟨#[116, 114, 117, 116, 104, 46, 105, 102]⟩, .int .i64 3, .int .i64 3, .int .i64 0, .string ⟨#[76, 97, 122, 121, 32, 80, 117, 114, 101, 32, 84, 111, 116, 97, 108, 32, 83, 111, 114, 116, 101, 100]⟩, .string ⟨#[116, 114, 117, 116, 104, 44, 32, 97, 44, 32, 97, 32, 62, 32, 97]⟩, .func (.func 145) #[] #[], .nilFunc, .bool false, .string ⟨#[116, 114, 117, 116, 104, 46, 97, 110, 100]⟩, .int .i64 2, .int .i64 2, .int .i64 0, .string ⟨#[76, 97, 122, 121, 32, 80, 117, 114, 101, 32, 84, 111, 116, 97, 108, 32, 83, 111, 114, 116, 101, 100]⟩, .string ⟨#[116, 114, 117, 116, 104, 44, 32, 116, 114, 117, 116, 104, 32, 62, 32, 116, 114, 117, 116, 104]⟩, .func (.func 145) #[] #[], .nilFunc, .bool false, .string ⟨#[116, 114, 117, 116, 104, 46, 111, 114]⟩, .int .i64 2, .int .i64 2, .int .i64 0, .string ⟨#[76, 97, 122, 121, 32, 80, 117, 114, 101, 32, 84, 111, 116, 97, 108, 32, 83, 111, 114, 116, 101, 100]⟩, .string ⟨#[116, 114, 117, 116, 104, 44, 32, 116, 114, 117, 116, 104, 32, 62, 32, 116, 114, 117, 116, 104]⟩, .func (.func 145) #[] #[], .nilFunc, .bool false]
def truthA : Value := .agg truthC

theorem truthC_tab : truthC = (tabL truthK).toArray := rfl
theorem truthC_size : truthC.size = 45 := by kernel_rfl
theorem arInfoT : (Tryz.prog.info? 158).map (·.size) = some truthC.size := by kernel_rfl
theorem storeT (w : World) (zs : Array Value) (cs : List Value) (h : cs = truthC.toList) (hz : zs.size = 45) : (storeCells ⟨w.heap.size, 0, none⟩ cs 0).run Tryz.prog (w.alloc (.cells zs 158)) = .ok () (w.alloc (.cells truthC 158)) := by
  subst h
  exact run_storeCells_new w 158 _ _ arInfoT (hz.trans truthC_size.symm) (by kernel_rfl)
theorem resT (tmps : Array Value) (w : World) (h : tmps.getD 0 undef = .pointer (some ⟨w.heap.size, 0, none⟩)) : (results Tryz.f74 tmps).run Tryz.prog (w.alloc (.cells truthC 158)) = .ok truthA (w.alloc (.cells truthC 158)) := res_array Tryz.results74 Tryz.underlying158 tmps truthC arInfoT w h
section
attribute [-go_sem] storeCells
set_option maxRecDepth 100000 in
set_option maxHeartbeats 1000000 in
theorem kindsT_any (w : World) : Calls Tryz.prog 74 #[] w fun e w' => e = .returned truthA ∧ Ext w w' := by
  go_enter Tryz.func74, Tryz.ntmps74
  go_upto_region 0 with fail
  go_cut [0] from 1 (fun s0 wx => s0 = .pointer (some ⟨w.heap.size, 0, none⟩) ∧ ∃ zs : Array Value, zs.size = 45 ∧ wx = w.alloc (.cells zs 158))
  case first =>
    go_wp2_with fail
    go_meet
    case rel => exact ⟨rfl, _, rfl, rfl⟩
  case rest =>
    obtain ⟨rfl, zs, hz, rfl⟩ := hcut
    go_wp2_with fail
    rw [storeT w zs _ (by kernel_rfl) hz]
    simp only [Result.andThen_ok, Oper.upon_skip]
    go_wp2_with fail
    refine bodyPost_ret (v := truthA) (resT _ _ (by kernel_rfl)) rfl ?_
    exact ⟨rfl, Ext.alloc _ _⟩
end
theorem truthA_agg : truthA = .agg truthC := rfl
set_option maxRecDepth 100000 in
set_option maxHeartbeats 1000000 in
theorem workT_of (op : ByteArray) (a : Option Addr) (n c : Nat) (w : World) (V : Value) (hV : ∃ x y z, V = .tuple #[x, y, z])
    (h : ∀ w1 tb, Ext w w1 → TabAt w1 tb truthK → Calls Tryz.prog 50 #[.slice (some ⟨tb, 0, none⟩) 5 5, .string op, .slice a n c] w1 fun e w' => e = .returned V ∧ Ext w1 w') :
    Calls Tryz.prog 35 #[.string op, .slice a n c] w fun e w' => e = .returned V ∧ Ext w w' := by
  have H := hid h
  obtain ⟨x, y, z, hxyz⟩ := hV
  have HV := hid hxyz
  clear h hxyz
  go_enter Tryz.func35, Tryz.ntmps35
  go_wp2_with fail
  refine (kindsT_any w).mono ?_
  rintro e w1 ⟨rfl, hx1⟩
  have X1 := hid hx1
  clear hx1
  rw [truthA_agg]
  have hsz : truthC.size = 45 := truthC_size
  go_wp2_with fail
  rw [storeT w1 _ _ rfl]
  simp only [Result.andThen_ok, Oper.upon_skip]
  have HT := hid (show TabAt (w1.alloc (.cells truthC 158)) w1.heap.size truthK from ⟨158, by rw [← truthC_tab]; exact blk0 _ _⟩)
  go_wp2_with fail
  refine (H.out _ _ (X1.out.trans (Ext.alloc _ _)) HT.out).mono ?_
  rintro e w2 ⟨rfl, hx2⟩
  rw [HV.out]
  go_wp2_with fail
  go_ret3
  exact ⟨by first | rfl | (rw [HV.out]; rfl), (X1.out.trans (Ext.alloc _ _)).trans hx2⟩
  exact rfl
theorem truthLen : truthK.length = 5 := rfl
theorem truthJ : ∀ k ∈ truthK, k.joins = false ∧ k.signs.size ≤ 4000 := by
  intro k hk
  obtain ⟨i, hi, rfl⟩ := List.getElem_of_mem hk
  rw [truthLen] at hi
  match i, hi with
  | 0, _ => exact ⟨rfl, Nat.le_of_ble_eq_true rfl⟩
  | 1, _ => exact ⟨rfl, Nat.le_of_ble_eq_true rfl⟩
  | 2, _ => exact ⟨rfl, Nat.le_of_ble_eq_true rfl⟩
  | 3, _ => exact ⟨rfl, Nat.le_of_ble_eq_true rfl⟩
  | 4, _ => exact ⟨rfl, Nat.le_of_ble_eq_true rfl⟩

  | n + 5, h => exact absurd h (by omega)
end Go.Proofs.YtnmcmjgfnncdmaaGreatDoor
