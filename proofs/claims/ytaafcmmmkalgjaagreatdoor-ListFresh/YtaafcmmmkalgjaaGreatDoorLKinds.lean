/-
  An array handed back by value.
-/
import Derived.Test.YtaafcmmmkalgjaaGreatDoorTFit
import Derived.Deep.WholeRow
import Derived.Test.YtaafcmmmkalgjaaGreatDoorCWorkO
import Derived.Test.YtaafcmmmkalgjaaGreatDoorKBlk
import Derived.Deep.Cut
import Derived.Deep.CutRange
namespace Go.Proofs.YtaafcmmmkalgjaaGreatDoor
open Go.RowKit
theorem results_one_cell {fn : Func} {p : Tmp} {ty : TypeId} (h : fn.results = #[.cell p ty]) (tmps : Array Value) (P : Program) (w : World) :
    (results fn tmps).run P w = ((asAddr (tmps.getD p undef)).run P w).andThen fun a w₁ => (loadVar ty a).run P w₁ := by
  simp only [results, h]
  simp [Sem.run_bind, Result.andThen]
theorem asAddr_ptr (P : Program) (a : Addr) (w : World) : (asAddr (.pointer (some a))).run P w = .ok a w := rfl
/-- The whole array out of the block that was made last, as a function's result. -/
theorem res_array {P : Program} {fn : Func} {p : Tmp} {ty e : TypeId} {n : Nat} (h : fn.results = #[.cell p ty]) (hu : P.underlying ty = some (.array n e)) (tmps : Array Value) (cs : Array Value) (hs : (P.info? ty).map (·.size) = some cs.size) (w : World) (h0 : tmps.getD p undef = .pointer (some ⟨w.heap.size, 0, none⟩)) : (results fn tmps).run P (w.alloc (.cells cs ty)) = .ok (.agg cs) (w.alloc (.cells cs ty)) := by
  rw [results_one_cell h, h0, asAddr_ptr, Result.andThen_ok]
  exact run_loadVar_new w ty cs n e hu hs
end Go.Proofs.YtaafcmmmkalgjaaGreatDoor
/-
  The kinds of the kit list: their table; list.kinds by a contract; list.Work, whatever the operations give.
-/
namespace Go.Proofs.YtaafcmmmkalgjaaGreatDoor
open Go.RowKit
/-- The kit list. -/
def listK : List Kd := [
  ⟨⟨#[108, 105, 115, 116, 46, 111, 102]⟩, 0, -1, 0, ⟨#[83, 116, 114, 105, 99, 116, 32, 80, 117, 114, 101, 32, 83, 111, 114, 116, 101, 100]⟩, ⟨#[97, 32, 46, 46, 32, 62, 32, 108, 105, 115, 116, 32, 97]⟩, 37, some 38, true⟩,
  ⟨⟨#[108, 105, 115, 116, 46, 115, 105, 122, 101]⟩, 1, 1, 0, ⟨#[83, 116, 114, 105, 99, 116, 32, 80, 117, 114, 101, 32, 84, 111, 116, 97, 108, 32, 83, 111, 114, 116, 101, 100]⟩, ⟨#[108, 105, 115, 116, 32, 97, 32, 62, 32, 105, 110, 116]⟩, 39, some 40, false⟩,
  ⟨⟨#[108, 105, 115, 116, 46, 97, 116]⟩, 2, 2, 0, ⟨#[83, 116, 114, 105, 99, 116, 32, 80, 117, 114, 101, 32, 83, 111, 114, 116, 101, 100]⟩, ⟨#[108, 105, 115, 116, 32, 97, 44, 32, 105, 110, 116, 32, 62, 32, 97]⟩, 37, some 41, false⟩,
  ⟨⟨#[108, 105, 115, 116, 46, 106, 111, 105, 110]⟩, 2, 2, 0, ⟨#[83, 116, 114, 105, 99, 116, 32, 80, 117, 114, 101, 32, 83, 111, 114, 116, 101, 100]⟩, ⟨#[108, 105, 115, 116, 32, 97, 44, 32, 108, 105, 115, 116, 32, 97, 32, 62, 32, 108, 105, 115, 116, 32, 97]⟩, 37, some 42, false⟩,
  ⟨⟨#[108, 105, 115, 116, 46, 97, 100, 100]⟩, 2, 2, 0, ⟨#[83, 116, 114, 105, 99, 116, 32, 80, 117, 114, 101, 32, 83, 111, 114, 116, 101, 100]⟩, ⟨#[108, 105, 115, 116, 32, 97, 44, 32, 97, 32, 62, 32, 108, 105, 115, 116, 32, 97]⟩, 37, some 43, false⟩,
  ⟨⟨#[108, 105, 115, 116, 46, 99, 117, 116]⟩, 3, 3, 0, ⟨#[83, 116, 114, 105, 99, 116, 32, 80, 117, 114, 101, 32, 83, 111, 114, 116, 101, 100]⟩, ⟨#[108, 105, 115, 116, 32, 97, 44, 32, 105, 110, 116, 44, 32, 105, 110, 116, 32, 62, 32, 108, 105, 115, 116, 32, 97]⟩, 37, some 44, false⟩,
  ⟨⟨#[108, 105, 115, 116, 46, 116, 117, 114, 110]⟩, 1, 1, 0, ⟨#[83, 116, 114, 105, 99, 116, 32, 80, 117, 114, 101, 32, 84, 111, 116, 97, 108, 32, 83, 111, 114, 116, 101, 100]⟩, ⟨#[108, 105, 115, 116, 32, 97, 32, 62, 32, 108, 105, 115, 116, 32, 97]⟩, 39, some 45, false⟩,
  ⟨⟨#[108, 105, 115, 116, 46, 99, 111, 117, 110, 116]⟩, 1, 1, 0, ⟨#[83, 116, 114, 105, 99, 116, 32, 80, 117, 114, 101, 32, 83, 111, 114, 116, 101, 100]⟩, ⟨#[105, 110, 116, 32, 62, 32, 108, 105, 115, 116, 32, 105, 110, 116]⟩, 37, some 46, false⟩,
  ⟨⟨#[108, 105, 115, 116, 46, 109, 97, 112]⟩, 2, 2, 2, ⟨#[76, 97, 122, 121, 32, 66, 105, 110, 100, 101, 114, 32, 80, 117, 114, 101, 32, 83, 111, 114, 116, 101, 100]⟩, ⟨#[108, 105, 115, 116, 32, 97, 44, 32, 98, 32, 62, 32, 108, 105, 115, 116, 32, 98, 59, 32, 98, 111, 117, 110, 100, 32, 97]⟩, 47, none, false⟩,
  ⟨⟨#[108, 105, 115, 116, 46, 107, 101, 101, 112]⟩, 2, 2, 2, ⟨#[76, 97, 122, 121, 32, 66, 105, 110, 100, 101, 114, 32, 80, 117, 114, 101, 32, 84, 111, 116, 97, 108, 32, 83, 111, 114, 116, 101, 100]⟩, ⟨#[108, 105, 115, 116, 32, 97, 44, 32, 116, 114, 117, 116, 104, 32, 62, 32, 108, 105, 115, 116, 32, 97, 59, 32, 98, 111, 117, 110, 100, 32, 97]⟩, 48, none, false⟩]
def listC : Array Value := #[.string ⟨#[108, 105, 115, 116, 46, 111, 102]⟩, .int .i64 0, .int .i64 (-1), .int .i64 0, .string ⟨#[83, 116, 114, 105, 99, 116, 32, 80, 117, 114, 101, 32, 83, 111, 114, 116, 101, 100]⟩, .string ⟨#[97, 32, 46, 46, 32, 62, 32, 108, 105, 115, 116, 32, 97]⟩, .func (.func 37) #[] #[], .func (.func 38) #[] #[], .bool true, .string ⟨#[108, 105, 115, 116, 46, 115, 105, 122, 101]⟩, .int .i64 1, .int .i64 1, .int .i64 0, .string ⟨#[83, 116, 114, 105, 99, 116, 32, 80, 117, 114, 101, 32, 84, 111, 116, 97, 108, 32, 83, 111, 114, 116, 101, 100]⟩, .string ⟨#[108, 105, 115, 116, 32, 97, 32, 62, 32, 105, 110, 116]⟩, .func (.func 39) #[] #[], .func (.func 40) #[] #[], .bool false, .string ⟨#[108, 105, 115, 116, 46, 97, 116]⟩, .int .i64 2, .int .i64 2, .int .i64 0, .string ⟨#[83, 116, 114, 105, 99, 116, 32, 80, 117, 114, 101, 32, 83, 111, 114, 116, 101, 100]⟩, .string ⟨#[108, 105, 115, 116, 32, 97, 44, 32, 105, 110, 116, 32, 62, 32, 97]⟩, .func (.func 37) #[] #[], .func (.func 41) #[] #[], .bool false, .string ⟨#[108, 105, 115, 116, 46, 106, 111, 105, 110]⟩, .int .i64 2, .int .i64 2, .int .i64 0, .string ⟨#[83, 116, 114, 105, 99, 116, 32, 80, 117, 114, 101, 32, 83, 111, 114, 116, 101, 100]⟩, .string ⟨#[108, 105, 115, 116, 32, 97, 44, 32, 108, 105, 115, 116, 32, 97, 32, 62, 32, 108, 105, 115, 116, 32, 97]⟩, .func (.func 37) #[] #[], .func (.func 42) #[] #[], .bool false, .string ⟨#[108, 105, 115, 116, 46, 97, 100, 100]⟩, .int .i64 2, .int .i64 2, .int .i64 0, .string ⟨#[83, 116, 114, 105, 99, 116, 32, 80, 117, 114, 101, 32, 83, 111, 114, 116, 101, 100]⟩, .string ⟨#[108, 105, 115, 116, 32, 97, 44, 32, 97, 32, 62, 32, 108, 105, 115, 116, 32, 97]⟩, .func (.func 37) #[] #[], .func (.func 43) #[] #[], .bool false, .string ⟨#[108, 105, 115, 116, 46, 99, 117, 116]⟩, .int .i64 3, .int .i64 3, .int .i64 0, .string ⟨#[83, 116, 114, 105, 99, 116, 32, 80, 117, 114, 101, 32, 83, 111, 114, 116, 101, 100]⟩, .string ⟨#[108, 105, 115, 116, 32, 97, 44, 32, 105, 110, 116, 44, 32, 105, 110, 116, 32, 62, 32, 108, 105, 115, 116, 32, 97]⟩, .func (.func 37) #[] #[], .func (.func 44) #[] #[], .bool false, .string ⟨#[108, 105, 115, 116, 46, 116, 117, 114, 110]⟩, .int .i64 1, .int .i64 1, .int .i64 0, .string ⟨#[83, 116, 114, 105, 99, 116, 32, 80, 117, 114, 101, 32, 84, 111, 116, 97, 108, 32, 83, 111, 114, 116, 101, 100]⟩, .string ⟨#[108, 105, 115, 116, 32, 97, 32, 62, 32, 108, 105, 115, 116, 32, 97]⟩, .func (.func 39) #[] #[], .func (.func 45) #[] #[], .bool false, .string ⟨#[108, 105, 115, 116, 46, 99, 111, 117, 110, 116]⟩, .int .i64 1, .int .i64 1, .int .i64 0, .string ⟨#[83, 116, 114, 105, 99, 116, 32, 80, 117, 114, 101, 32, 83, 111, 114, 116, 101, 100]⟩, .string ⟨#[105, 110, 116, 32, 62, 32, 108, 105, 115, 116, 32, 105, 110, 116]⟩, .func (.func 37) #[] #[], .func (.func 46) #[] #[], .bool false, .string ⟨#[108, 105, 115, 116, 46, 109, 97, 112]⟩, .int .i64 2, .int .i64 2, .int .i64 2, .string ⟨#[76, 97, 122, 121, 32, 66, 105, 110, 100, 101, 114, 32, 80, 117, 114, 101, 32, 83, 111, 114, 116, 101, 100]⟩, .string ⟨#[108, 105, 115, 116, 32, 97, 44, 32, 98, 32, 62, 32, 108, 105, 115, 116, 32, 98, 59, 32, 98, 111, 117, 110, 100, 32, 97]⟩, .func (.func 47) #[] #[], .nilFunc, .bool false, .string ⟨#[108, 105, 115, 116, 46, 107, 101, 101, 112]⟩, .int .i64 2, .int .i64 2, .int .i64 2, .string ⟨#[76, 97, 122, 121, 32, 66, 105, 110, 100, 101, 114, 32, 80, 117, 114, 101, 32, 84, 111, 116, 97, 108, 32, 83, 111, 114, 116, 101, 100]⟩, .string ⟨#[108, 105, 115, 116, 32, 97, 44, 32, 116, 114, 117, 116, 104, 32, 62, 32, 108, 105, 115, 116, 32, 97, 59, 32, 98, 111, 117, 110, 100, 32, 97]⟩, .func (.func 48) #[] #[], .nilFunc, .bool false]
def listA : Value := .agg listC

theorem listC_tab : listC = (tabL listK).toArray := rfl
theorem listC_size : listC.size = 90 := by kernel_rfl
theorem arInfoL : (Tryz.prog.info? 77).map (·.size) = some listC.size := by kernel_rfl
theorem storeL (w : World) (zs : Array Value) (cs : List Value) (h : cs = listC.toList) (hz : zs.size = 90) : (storeCells ⟨w.heap.size, 0, none⟩ cs 0).run Tryz.prog (w.alloc (.cells zs 77)) = .ok () (w.alloc (.cells listC 77)) := by
  subst h
  exact run_storeCells_new w 77 _ _ arInfoL (hz.trans listC_size.symm) (by kernel_rfl)
theorem resL (tmps : Array Value) (w : World) (h : tmps.getD 0 undef = .pointer (some ⟨w.heap.size, 0, none⟩)) : (results Tryz.f23 tmps).run Tryz.prog (w.alloc (.cells listC 77)) = .ok listA (w.alloc (.cells listC 77)) := res_array Tryz.results23 Tryz.underlying77 tmps listC arInfoL w h
section
attribute [-go_sem] storeCells
set_option maxRecDepth 100000 in
set_option maxHeartbeats 1000000 in
theorem kindsL_any (w : World) : Calls Tryz.prog 23 #[] w fun e w' => e = .returned listA ∧ Ext w w' := by
  go_enter Tryz.func23, Tryz.ntmps23
  go_upto_region 0 with fail
  go_cut [0] from 1 (fun s0 wx => s0 = .pointer (some ⟨w.heap.size, 0, none⟩) ∧ ∃ zs : Array Value, zs.size = 90 ∧ wx = w.alloc (.cells zs 77))
  case first =>
    go_wp2_with fail
    go_meet
    case rel => exact ⟨rfl, _, rfl, rfl⟩
  case rest =>
    obtain ⟨rfl, zs, hz, rfl⟩ := hcut
    go_wp2_with fail
    rw [storeL w zs _ (by kernel_rfl) hz]
    simp only [Result.andThen_ok, Oper.upon_skip]
    go_wp2_with fail
    refine bodyPost_ret (v := listA) (resL _ _ (by kernel_rfl)) rfl ?_
    exact ⟨rfl, Ext.alloc _ _⟩
end
theorem listA_agg : listA = .agg listC := rfl
theorem listLen : listK.length = 10 := rfl
set_option maxRecDepth 100000 in
set_option maxHeartbeats 1000000 in
theorem workL_gen (op : ByteArray) (a : Option Addr) (n c : Nat) (w : World) (P : World → Value → Prop)
    (h : ∀ w1 tb, Ext w w1 → TabAt w1 tb listK → Calls Tryz.prog 24 #[.slice (some ⟨tb, 0, none⟩) 10 10, .string op, .slice a n c] w1 fun e w' => ∃ V, e = .returned V ∧ P w' V ∧ (∃ x y z, V = .tuple #[x, y, z]) ∧ Ext w1 w') :
    Calls Tryz.prog 8 #[.string op, .slice a n c] w fun e w' => ∃ V, e = .returned V ∧ P w' V ∧ Ext w w' := by
  have H := hid h
  clear h
  go_enter Tryz.func8, Tryz.ntmps8
  go_wp2_with fail
  refine (kindsL_any w).mono ?_
  rintro e w1 ⟨rfl, hx1⟩
  have X1 := hid hx1
  clear hx1
  rw [listA_agg]
  have hsz : listC.size = 90 := listC_size
  go_wp2_with fail
  rw [storeL w1 _ _ rfl]
  simp only [Result.andThen_ok, Oper.upon_skip]
  have HT := hid (show TabAt (w1.alloc (.cells listC 77)) w1.heap.size listK from ⟨77, by rw [← listC_tab]; exact blk0 _ _⟩)
  go_wp2_with fail
  refine (H.out _ _ (X1.out.trans (Ext.alloc _ _)) HT.out).mono ?_
  rintro e w2 ⟨V, rfl, hp, ⟨x, y, z, rfl⟩, hx2⟩
  have HP := hid hp
  have X2 := hid ((X1.out.trans (Ext.alloc w1 (.cells listC 77))).trans hx2)
  clear hp hx2
  go_wp2_with fail
  go_ret3
  exact ⟨_, rfl, HP.out, X2.out⟩
  exact rfl
end Go.Proofs.YtaafcmmmkalgjaaGreatDoor
