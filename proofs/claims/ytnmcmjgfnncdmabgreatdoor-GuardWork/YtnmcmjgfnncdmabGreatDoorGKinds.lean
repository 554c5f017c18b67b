/-
  An array handed back by value.
-/
import Derived.Test.YtnmcmjgfnncdmabGreatDoorBase
import Derived.Deep.WholeRow
import Derived.Test.YtnmcmjgfnncdmabGreatDoorCWorkG
import Derived.Deep.Cut
import Derived.Deep.CutRange
namespace Go.Proofs.YtnmcmjgfnncdmabGreatDoor
open Go.RowKit
theorem results_one_cell {fn : Func} {p : Tmp} {ty : TypeId} (h : fn.results = #[.cell p ty]) (tmps : Array Value) (P : Program) (w : World) :
    (results fn tmps).run P w = ((asAddr (tmps.getD p undef)).run P w).andThen fun a w₁ => (loadVar ty a).run P w₁ := by
  simp only [results, h]
  simp [Sem.run_bind, Result.andThen]
theorem asAddr_ptr (P : Program) (a : Addr) (w : World) : (asAddr (.pointer (some a))).run P w = .ok a w := rfl
/-- The whole array out of the block that was made last, as a function's result. -/
theorem res_array {P : Program} {fn : Func} {p : Tmp} {ty e : TypeId} {n : Nat} (h : fn.results = #[.cell p ty]) (hu : P.underlying ty = some (.array n e)) (tmps : Array Value) (cs : Array Value) (hs : (P.info? ty).map (·.size) = some cs.size) (w : World) (h0 : tmps.getD p undef = .pointer (some ⟨w.heap.size, 0, none⟩)) : (results fn tmps).run P (w.alloc (.cells cs ty)) = .ok (.agg cs) (w.alloc (.cells cs ty)) := by
  rw [results_one_cell h, h0, asAddr_ptr, Result.andThen_ok]
  exact run_loadVar_new w ty cs n e hu hs
end Go.Proofs.YtnmcmjgfnncdmabGreatDoor
/-
  Numbers and texts as plain values; the answers that operations give.
-/
namespace Go.Proofs.YtnmcmjgfnncdmabGreatDoor
open Go.RowKit
/-- A number as a plain value. -/
def intT (n : Int) : T := .node 3 n ⟨#[]⟩ []
def unitT : T := .node 1 0 ⟨#[]⟩ []
theorem intT_may (n : Int) : (intT n).may := by
  refine ⟨⟨.inr (.inr (.inl ⟨rfl, rfl, rfl⟩)), trivial⟩, ?_, ?_⟩
  · show (T.node 3 n ⟨#[]⟩ []).size ≤ 65536
    simp only [T.size, T.sizeL]; decide
  · show (T.node 3 n ⟨#[]⟩ []).deep ≤ 64
    simp only [T.deep]; simp
theorem unitT_may : unitT.may := by
  refine ⟨⟨.inl ⟨rfl, rfl, rfl, rfl⟩, trivial⟩, ?_, ?_⟩
  · show (T.node 1 0 ⟨#[]⟩ []).size ≤ 65536
    simp only [T.size, T.sizeL]; decide
  · show (T.node 1 0 ⟨#[]⟩ []).deep ≤ 64
    simp only [T.deep]; simp
theorem VRd.int {K : Nat → Prop} {w : World} {d : Nat} {v : Value} {n : Int} (h : VRd K w d v (intT n)) : v = .iface 183 (.int .i64 n) := by
  cases d with
  | zero => exact h.elim
  | succ d =>
    rcases h with ⟨h, _⟩ | ⟨h, _⟩ | ⟨_, _, _, h⟩ | ⟨h, _⟩ | ⟨h, _⟩
    · exact absurd h (by decide)
    · exact absurd h (by decide)
    · exact h
    · exact absurd h (by decide)
    · exact absurd h (by decide)
theorem NRes.came (n : Int) : NRes (cameV n) := .inl ⟨n, rfl⟩
theorem NRes.told (b : Bool) : NRes (toldV b) := .inr (.inl ⟨b, rfl⟩)
theorem NRes.ref {c : Int} (h : (c == 0) = false) : NRes (refV c) := .inr (.inr (.inl ⟨c, h, rfl⟩))
theorem NRes.wrote {s : ByteArray} (h : s.size ≤ 65535) : NRes (wroteV s) := .inr (.inr (.inr ⟨s, h, rfl⟩))
theorem NRes.three {R : Value} (h : NRes R) : ∃ x y z, R = .tuple #[x, y, z] := by
  rcases h with ⟨_, rfl⟩ | ⟨_, rfl⟩ | ⟨_, _, rfl⟩ | ⟨_, _, rfl⟩ <;> exact ⟨_, _, _, rfl⟩
/-- A text as a plain value. -/
def textT (s : ByteArray) : T := .node 4 0 s []
theorem textT_may {s : ByteArray} (h : s.size ≤ 65535) : (textT s).may := by
  refine ⟨⟨.inr (.inr (.inr (.inl ⟨rfl, rfl, rfl⟩))), trivial⟩, ?_, ?_⟩
  · show (T.node 4 0 s []).size ≤ 65536
    simp only [T.size, T.sizeL]; omega
  · show (T.node 4 0 s []).deep ≤ 64
    simp only [T.deep]; simp
theorem textT_not {s : ByteArray} (h : 65535 < s.size) : ¬ (textT s).may := by
  intro hm
  have : (T.node 4 0 s []).size ≤ 65536 := hm.2.1
  simp only [T.size, T.sizeL] at this
  omega
theorem VRd.text {K : Nat → Prop} {w : World} {d : Nat} {v : Value} {s : ByteArray} (h : VRd K w d v (textT s)) : v = .iface 134 (.string s) := by
  cases d with
  | zero => exact h.elim
  | succ d =>
    rcases h with ⟨h, _⟩ | ⟨h, _⟩ | ⟨h, _⟩ | ⟨_, _, _, _, h⟩ | ⟨h, _⟩
    · exact absurd h (by decide)
    · exact absurd h (by decide)
    · exact absurd h (by decide)
    · exact h
    · exact absurd h (by decide)
end Go.Proofs.YtnmcmjgfnncdmabGreatDoor
/-
  The kinds of the kit guard: their table; guard.kinds by a contract; guard.Work, whatever the operations give.
-/
namespace Go.Proofs.YtnmcmjgfnncdmabGreatDoor
open Go.RowKit
/-- The kit guard. -/
def guardK : List Kd := [
  ⟨⟨#[103, 117, 97, 114, 100, 46, 114, 97, 105, 115, 101]⟩, 1, 1, 0, ⟨#[83, 116, 114, 105, 99, 116, 32, 83, 111, 114, 116, 101, 100]⟩, ⟨#[116, 101, 120, 116, 32, 62, 32, 97]⟩, 27, some 28, false⟩,
  ⟨⟨#[103, 117, 97, 114, 100, 46, 99, 104, 101, 99, 107]⟩, 2, 2, 0, ⟨#[83, 116, 114, 105, 99, 116, 32, 83, 111, 114, 116, 101, 100]⟩, ⟨#[116, 114, 117, 116, 104, 44, 32, 116, 101, 120, 116, 32, 62, 32, 117, 110, 105, 116]⟩, 27, some 29, false⟩,
  ⟨⟨#[103, 117, 97, 114, 100, 46, 116, 114, 121]⟩, 2, 2, 0, ⟨#[76, 97, 122, 121, 32, 80, 117, 114, 101, 32, 84, 111, 116, 97, 108, 32, 83, 111, 114, 116, 101, 100]⟩, ⟨#[97, 44, 32, 97, 32, 62, 32, 97]⟩, 30, none, false⟩,
  ⟨⟨#[103, 117, 97, 114, 100, 46, 99, 97, 116, 99, 104]⟩, 2, 2, 2, ⟨#[76, 97, 122, 121, 32, 66, 105, 110, 100, 101, 114, 32, 80, 117, 114, 101, 32, 84, 111, 116, 97, 108, 32, 83, 111, 114, 116, 101, 100]⟩, ⟨#[97, 44, 32, 97, 32, 62, 32, 97, 59, 32, 98, 111, 117, 110, 100, 32, 116, 101, 120, 116]⟩, 31, none, false⟩]
def guardC : Array Value := #[.string ⟨#[103, 117, 97, 114, 100, 46, 114, 97, 105, 115, 101]⟩, .int .i64 1, .int .i64 1, .int .i64 0, .string ⟨#[83, 116, 114, 105, 99, 116, 32, 83, 111, 114, 116, 101, 100]⟩, .string ⟨#[116, 101, 120, 116, 32, 62, 32, 97]⟩, .func (.func 27) #[] #[], .func (.func 28) #[] #[], .bool false, .string ⟨#[103, 117, 97, 114, 100, 46, 99, 104, 101, 99, 107]⟩, .int .i64 2, .int .i64 2, .int .i64 0, .string ⟨#[83, 116, 114, 105, 99, 116, 32, 83, 111, 114, 116, 101, 100]⟩, .string ⟨#[116, 114, 117, 116, 104, 44, 32, 116, 101, 120, 116, 32, 62, 32, 117, 110, 105, 116]⟩, .func (.func 27) #[] #[], .func (.func 29) #[] #[], .bool false, .string ⟨#[103, 117, 97, 114, 100, 46, 116, 114, 121]⟩, .int .i64 2, .int .i64 2, .int .i64 0, .string ⟨#[76, 97, 122, 121, 32, 80, 117, 114, 101, 32, 84, 111, 116, 97, 108, 32, 83, 111, 114, 116, 101, 100]⟩, .string ⟨#[97, 44, 32, 97, 32, 62, 32, 97]⟩, .func (.func 30) #[] #[], .nilFunc, .bool false, .string ⟨#[103, 117, 97, 114, 100, 46, 99, 97, 116, 99, 104]⟩, .int .i64 2, .int .i64 2, .int .i64 2, .string ⟨#[76, 97, 122, 121, 32, 66, 105, 110, 100, 101, 114, 32, 80, 117, 114, 101, 32, 84, 111, 116, 97, 108, 32, 83, 111, 114, 116, 101, 100]⟩, .string ⟨#[97, 44, 32, 97, 32, 62, 32, 97, 59, 32, 98, 111, 117, 110, 100, 32, 116, 101, 120, 116]⟩, .func (.func 31) #[] #[], .nilFunc, .bool false]
def guardA : Value := .agg guardC

theorem guardC_tab : guardC = (tabL guardK).toArray := rfl
theorem guardC_size : guardC.size = 36 := by kernel_rfl
theorem arInfoG : (Tryz.prog.info? 68).map (·.size) = some guardC.size := by kernel_rfl
theorem storeG (w : World) (zs : Array Value) (cs : List Value) (h : cs = guardC.toList) (hz : zs.size = 36) : (storeCells ⟨w.heap.size, 0, none⟩ cs 0).run Tryz.prog (w.alloc (.cells zs 68)) = .ok () (w.alloc (.cells guardC 68)) := by
  subst h
  exact run_storeCells_new w 68 _ _ arInfoG (hz.trans guardC_size.symm) (by kernel_rfl)
theorem resG (tmps : Array Value) (w : World) (h : tmps.getD 0 undef = .pointer (some ⟨w.heap.size, 0, none⟩)) : (results Tryz.f16 tmps).run Tryz.prog (w.alloc (.cells guardC 68)) = .ok guardA (w.alloc (.cells guardC 68)) := res_array Tryz.results16 Tryz.underlying68 tmps guardC arInfoG w h
section
attribute [-go_sem] storeCells
set_option maxRecDepth 100000 in
set_option maxHeartbeats 1000000 in
theorem kindsG_any (w : World) : Calls Tryz.prog 16 #[] w fun e w' => e = .returned guardA ∧ Ext w w' := by
  go_enter Tryz.func16, Tryz.ntmps16
  go_upto_region 0 with fail
  go_cut [0] from 1 (fun s0 wx => s0 = .pointer (some ⟨w.heap.size, 0, none⟩) ∧ ∃ zs : Array Value, zs.size = 36 ∧ wx = w.alloc (.cells zs 68))
  case first =>
    go_wp2_with fail
    go_meet
    case rel => exact ⟨rfl, _, rfl, rfl⟩
  case rest =>
    obtain ⟨rfl, zs, hz, rfl⟩ := hcut
    go_wp2_with fail
    rw [storeG w zs _ (by kernel_rfl) hz]
    simp only [Result.andThen_ok, Oper.upon_skip]
    go_wp2_with fail
    refine bodyPost_ret (v := guardA) (resG _ _ (by kernel_rfl)) rfl ?_
    exact ⟨rfl, Ext.alloc _ _⟩
end
theorem guardA_agg : guardA = .agg guardC := rfl
theorem guardLen : guardK.length = 4 := rfl
set_option maxRecDepth 100000 in
set_option maxHeartbeats 1000000 in
theorem workG_gen (op : ByteArray) (a : Option Addr) (n c : Nat) (w : World) (P : World → Value → Prop)
    (h : ∀ w1 tb, Ext w w1 → TabAt w1 tb guardK → Calls Tryz.prog 17 #[.slice (some ⟨tb, 0, none⟩) 4 4, .string op, .slice a n c] w1 fun e w' => ∃ V, e = .returned V ∧ P w' V ∧ (∃ x y z, V = .tuple #[x, y, z]) ∧ Ext w1 w') :
    Calls Tryz.prog 8 #[.string op, .slice a n c] w fun e w' => ∃ V, e = .returned V ∧ P w' V ∧ Ext w w' := by
  have H := hid h
  clear h
  go_enter Tryz.func8, Tryz.ntmps8
  go_wp2_with fail
  refine (kindsG_any w).mono ?_
  rintro e w1 ⟨rfl, hx1⟩
  have X1 := hid hx1
  clear hx1
  rw [guardA_agg]
  have hsz : guardC.size = 36 := guardC_size
  go_wp2_with fail
  rw [storeG w1 _ _ rfl]
  simp only [Result.andThen_ok, Oper.upon_skip]
  have HT := hid (show TabAt (w1.alloc (.cells guardC 68)) w1.heap.size guardK from ⟨68, by rw [← guardC_tab]; exact blk0 _ _⟩)
  go_wp2_with fail
  refine (H.out _ _ (X1.out.trans (Ext.alloc _ _)) HT.out).mono ?_
  rintro e w2 ⟨V, rfl, hp, ⟨x, y, z, rfl⟩, hx2⟩
  have HP := hid hp
  have X2 := hid ((X1.out.trans (Ext.alloc w1 (.cells guardC 68))).trans hx2)
  clear hp hx2
  go_wp2_with fail
  go_ret3
  exact ⟨_, rfl, HP.out, X2.out⟩
  exact rfl
end Go.Proofs.YtnmcmjgfnncdmabGreatDoor
