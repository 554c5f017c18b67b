/-
  The kinds of the kit num: their table; num.kinds by a contract.
-/
import Derived.Test.YtgpggkepgoelfaaGreatDoorCWork
import Derived.Test.YtgpggkepgoelfaaGreatDoorNOpsC
import Derived.Test.YtgpggkepgoelfaaGreatDoorCArr
namespace Go.Proofs.YtgpggkepgoelfaaGreatDoor
open Go.RowKit
/-- The kit num. -/
def numK : List Kd := [
  ⟨⟨#[110, 117, 109, 46, 97, 100, 100]⟩, 2, 2, 0, ⟨#[83, 116, 114, 105, 99, 116, 32, 80, 117, 114, 101, 32, 83, 111, 114, 116, 101, 100]⟩, ⟨#[105, 110, 116, 44, 32, 105, 110, 116, 32, 62, 32, 105, 110, 116]⟩, 49, some 50, false⟩,
  ⟨⟨#[110, 117, 109, 46, 115, 117, 98]⟩, 2, 2, 0, ⟨#[83, 116, 114, 105, 99, 116, 32, 80, 117, 114, 101, 32, 83, 111, 114, 116, 101, 100]⟩, ⟨#[105, 110, 116, 44, 32, 105, 110, 116, 32, 62, 32, 105, 110, 116]⟩, 49, some 51, false⟩,
  ⟨⟨#[110, 117, 109, 46, 109, 117, 108]⟩, 2, 2, 0, ⟨#[83, 116, 114, 105, 99, 116, 32, 80, 117, 114, 101, 32, 83, 111, 114, 116, 101, 100]⟩, ⟨#[105, 110, 116, 44, 32, 105, 110, 116, 32, 62, 32, 105, 110, 116]⟩, 49, some 52, false⟩,
  ⟨⟨#[110, 117, 109, 46, 113, 117, 111]⟩, 2, 2, 0, ⟨#[83, 116, 114, 105, 99, 116, 32, 80, 117, 114, 101, 32, 83, 111, 114, 116, 101, 100]⟩, ⟨#[105, 110, 116, 44, 32, 105, 110, 116, 32, 62, 32, 105, 110, 116]⟩, 49, some 53, false⟩,
  ⟨⟨#[110, 117, 109, 46, 109, 111, 100]⟩, 2, 2, 0, ⟨#[83, 116, 114, 105, 99, 116, 32, 80, 117, 114, 101, 32, 83, 111, 114, 116, 101, 100]⟩, ⟨#[105, 110, 116, 44, 32, 105, 110, 116, 32, 62, 32, 105, 110, 116]⟩, 49, some 54, false⟩,
  ⟨⟨#[110, 117, 109, 46, 112, 111, 119]⟩, 2, 2, 0, ⟨#[83, 116, 114, 105, 99, 116, 32, 80, 117, 114, 101, 32, 83, 111, 114, 116, 101, 100]⟩, ⟨#[105, 110, 116, 44, 32, 105, 110, 116, 32, 62, 32, 105, 110, 116]⟩, 49, some 55, false⟩,
  ⟨⟨#[110, 117, 109, 46, 110, 101, 103]⟩, 1, 1, 0, ⟨#[83, 116, 114, 105, 99, 116, 32, 80, 117, 114, 101, 32, 83, 111, 114, 116, 101, 100]⟩, ⟨#[105, 110, 116, 32, 62, 32, 105, 110, 116]⟩, 49, some 56, false⟩,
  ⟨⟨#[110, 117, 109, 46, 97, 98, 115]⟩, 1, 1, 0, ⟨#[83, 116, 114, 105, 99, 116, 32, 80, 117, 114, 101, 32, 83, 111, 114, 116, 101, 100]⟩, ⟨#[105, 110, 116, 32, 62, 32, 105, 110, 116]⟩, 49, some 57, false⟩,
  ⟨⟨#[110, 117, 109, 46, 109, 105, 110]⟩, 2, 2, 0, ⟨#[83, 116, 114, 105, 99, 116, 32, 80, 117, 114, 101, 32, 84, 111, 116, 97, 108, 32, 83, 111, 114, 116, 101, 100]⟩, ⟨#[105, 110, 116, 44, 32, 105, 110, 116, 32, 62, 32, 105, 110, 116]⟩, 58, some 59, false⟩,
  ⟨⟨#[110, 117, 109, 46, 109, 97, 120]⟩, 2, 2, 0, ⟨#[83, 116, 114, 105, 99, 116, 32, 80, 117, 114, 101, 32, 84, 111, 116, 97, 108, 32, 83, 111, 114, 116, 101, 100]⟩, ⟨#[105, 110, 116, 44, 32, 105, 110, 116, 32, 62, 32, 105, 110, 116]⟩, 58, some 60, false⟩,
  ⟨⟨#[110, 117, 109, 46, 108, 101, 115, 115]⟩, 2, 2, 0, ⟨#[83, 116, 114, 105, 99, 116, 32, 80, 117, 114, 101, 32, 84, 111, 116, 97, 108, 32, 83, 111, 114, 116, 101, 100]⟩, ⟨#[105, 110, 116, 44, 32, 105, 110, 116, 32, 62, 32, 116, 114, 117, 116, 104]⟩, 58, some 61, false⟩,
  ⟨⟨#[110, 117, 109, 46, 109, 111, 115, 116]⟩, 2, 2, 0, ⟨#[83, 116, 114, 105, 99, 116, 32, 80, 117, 114, 101, 32, 84, 111, 116, 97, 108, 32, 83, 111, 114, 116, 101, 100]⟩, ⟨#[105, 110, 116, 44, 32, 105, 110, 116, 32, 62, 32, 116, 114, 117, 116, 104]⟩, 58, some 62, false⟩,
  ⟨⟨#[110, 117, 109, 46, 115, 117, 109]⟩, 1, -1, 0, ⟨#[80, 117, 114, 101, 32, 83, 111, 114, 116, 101, 100, 32, 83, 117, 103, 97, 114]⟩, ⟨#[105, 110, 116, 32, 46, 46, 32, 62, 32, 105, 110, 116]⟩, 63, none, false⟩,
  ⟨⟨#[110, 117, 109, 46, 105, 110, 99]⟩, 1, 1, 0, ⟨#[80, 117, 114, 101, 32, 83, 111, 114, 116, 101, 100, 32, 83, 117, 103, 97, 114]⟩, ⟨#[105, 110, 116, 32, 62, 32, 105, 110, 116]⟩, 64, none, false⟩,
  ⟨⟨#[110, 117, 109, 46, 100, 101, 99]⟩, 1, 1, 0, ⟨#[80, 117, 114, 101, 32, 83, 111, 114, 116, 101, 100, 32, 83, 117, 103, 97, 114]⟩, ⟨#[105, 110, 116, 32, 62, 32, 105, 110, 116]⟩, 65, none, false⟩]
def numC : Array Value := #[.string ⟨#[110, 117, 109, 46, 97, 100, 100]⟩, .int .i64 2, .int .i64 2, .int .i64 0, .string ⟨#[83, 116, 114, 105, 99, 116, 32, 80, 117, 114, 101, 32, 83, 111, 114, 116, 101, 100]⟩, .string ⟨#[105, 110, 116, 44, 32, 105, 110, 116, 32, 62, 32, 105, 110, 116]⟩, .func (.func 49) #[] #[], .func (.func 50) #[] #[], .bool false, .string ⟨#[110, 117, 109, 46, 115, 117, 98]⟩, .int .i64 2, .int .i64 2, .int .i64 0, .string ⟨#[83, 116, 114, 105, 99, 116, 32, 80, 117, 114, 101, 32, 83, 111, 114, 116, 101, 100]⟩, .string ⟨#[105, 110, 116, 44, 32, 105, 110, 116, 32, 62, 32, 105, 110, 116]⟩, .func (.func 49) #[] #[], .func (.func 51) #[] #[], .bool false, .string ⟨#[110, 117, 109, 46, 109, 117, 108]⟩, .int .i64 2, .int .i64 2, .int .i64 0, .string ⟨#[83, 116, 114, 105, 99, 116, 32, 80, 117, 114, 101, 32, 83, 111, 114, 116, 101, 100]⟩, .string ⟨#[105, 110, 116, 44, 32, 105, 110, 116, 32, 62, 32, 105, 110, 116]⟩, .func (.func 49) #[] #[], .func (.func 52) #[] #[], .bool false, .string ⟨#[110, 117, 109, 46, 113, 117, 111]⟩, .int .i64 2, .int .i64 2, .int .i64 0, .string ⟨#[83, 116, 114, 105, 99, 116, 32, 80, 117, 114, 101, 32, 83, 111, 114, 116, 101, 100]⟩, .string ⟨#[105, 110, 116, 44, 32, 105, 110, 116, 32, 62, 32, 105, 110, 116]⟩, .func (.func 49) #[] #[], .func (.func 53) #[] #[], .bool false, .string ⟨#[110, 117, 109, 46, 109, 111, 100]⟩, .int .i64 2, .int .i64 2, .int .i64 0, .string ⟨#[83, 116, 114, 105, 99, 116, 32, 80, 117, 114, 101, 32, 83, 111, 114, 116, 101, 100]⟩, .string ⟨#[105, 110, 116, 44, 32, 105, 110, 116, 32, 62, 32, 105, 110, 116]⟩, .func (.func 49) #[] #[], .func (.func 54) #[] #[], .bool false, .string ⟨#[110, 117, 109, 46, 112, 111, 119]⟩, .int .i64 2, .int .i64 2, .int .i64 0, .string ⟨#[83, 116, 114, 105, 99, 116, 32, 80, 117, 114, 101, 32, 83, 111, 114, 116, 101, 100]⟩, .string ⟨#[105, 110, 116, 44, 32, 105, 110, 116, 32, 62, 32, 105, 110, 116]⟩, .func (.func 49) #[] #[], .func (.func 55) #[] #[], .bool false, .string ⟨#[110, 117, 109, 46, 110, 101, 103]⟩, .int .i64 1, .int .i64 1, .int .i64 0, .string ⟨#[83, 116, 114, 105, 99, 116, 32, 80, 117, 114, 101, 32, 83, 111, 114, 116, 101, 100]⟩, .string ⟨#[105, 110, 116, 32, 62, 32, 105, 110, 116]⟩, .func (.func 49) #[] #[], .func (.func 56) #[] #[], .bool false, .string ⟨#[110, 117, 109, 46, 97, 98, 115]⟩, .int .i64 1, .int .i64 1, .int .i64 0, .string ⟨#[83, 116, 114, 105, 99, 116, 32, 80, 117, 114, 101, 32, 83, 111, 114, 116, 101, 100]⟩, .string ⟨#[105, 110, 116, 32, 62, 32, 105, 110, 116]⟩, .func (.func 49) #[] #[], .func (.func 57) #[] #[], .bool false, .string ⟨#[110, 117, 109, 46, 109, 105, 110]⟩, .int .i64 2, .int .i64 2, .int .i64 0, .string ⟨#[83, 116, 114, 105, 99, 116, 32, 80, 117, 114, 101, 32, 84, 111, 116, 97, 108, 32, 83, 111, 114, 116, 101, 100]⟩, .string ⟨#[105, 110, 116, 44, 32, 105, 110, 116, 32, 62, 32, 105, 110, 116]⟩, .func (.func 58) #[] #[], .func (.func 59) #[] #[], .bool false, .string ⟨#[110, 117, 109, 46, 109, 97, 120]⟩, .int .i64 2, .int .i64 2, .int .i64 0, .string ⟨#[83, 116, 114, 105, 99, 116, 32, 80, 117, 114, 101, 32, 84, 111, 116, 97, 108, 32, 83, 111, 114, 116, 101, 100]⟩, .string ⟨#[105, 110, 116, 44, 32, 105, 110, 116, 32, 62, 32, 105, 110, 116]⟩, .func (.func 58) #[] #[], .func (.func 60) #[] #[], .bool false, .string ⟨#[110, 117, 109, 46, 108, 101, 115, 115]⟩, .int .i64 2, .int .i64 2, .int .i64 0, .string ⟨#[83, 116, 114, 105, 99, 116, 32, 80, 117, 114, 101, 32, 84, 111, 116, 97, 108, 32, 83, 111, 114, 116, 101, 100]⟩, .string ⟨#[105, 110, 116, 44, 32, 105, 110, 116, 32, 62, 32, 116, 114, 117, 116, 104]⟩, .func (.func 58) #[] #[], .func (.func 61) #[] #[], .bool false, .string ⟨#[110, 117, 109, 46, 109, 111, 115, 116]⟩, .int .i64 2, .int .i64 2, .int .i64 0, .string ⟨#[83, 116, 114, 105, 99, 116, 32, 80, 117, 114, 101, 32, 84, 111, 116, 97, 108, 32, 83, 111, 114, 116, 101, 100]⟩, .string ⟨#[105, 110, 116, 44, 32, 105, 110, 116, 32, 62, 32, 116, 114, 117, 116, 104]⟩, .func (.func 58) #[] #[], .func (.func 62) #[] #[], .bool false, .string ⟨#[110, 117, 109, 46, 115, 117, 109]⟩, .int .i64 1, .int .i64 (-1), .int .i64 0, .string ⟨#[80, 117, 114, 101, 32, 83, 111, 114, 116, 101, 100, 32, 83, 117, 103, 97, 114]⟩, .string ⟨#[105, 110, 116, 32, 46, 46, 32, 62, 32, 105, 110, 116]⟩, .func (.func 63) #[] #[], .nilFunc, .bool false, .string ⟨#[110, 117, 109, 46, 105, 110, 99]⟩, .int .i64 1, .int .i64 1, .int .i64 0, .string ⟨#[80, 117, 114, 101, 32, 83, 111, 114, 116, 101, 100, 32, 83, 117, 103, 97, 114]⟩, .string ⟨#[105, 110, 116, 32, 62, 32, 105, 110, 116]⟩, .func (.func 64) #[] #[], .nilFunc, .bool false, .string ⟨#[110, 117, 109, 46, 100, 101, 99]⟩, .int .i64 1, .int .i64 1, .int .i64 0, .string ⟨#[80, 117, 114, 101, 32, 83, 111, 114, 116, 101, 100, 32, 83, 117, 103, 97, 114]⟩, .string ⟨#[105, 110, 116, 32, 62, 32, 105, 110, 116]⟩, .func (.func 65) #[] #[], .nilFunc, .bool false]
def numA : Value := .agg numC

theorem numC_tab : numC = (tabL numK).toArray := rfl
theorem numC_size : numC.size = 135 := by kernel_rfl
theorem arInfo : (Tryz.prog.info? 65).map (·.size) = some numC.size := by kernel_rfl
theorem storeN (w : World) (cs : List Value) (h : cs = numC.toList) : (storeCells ⟨w.heap.size, 0, none⟩ cs 0).run Tryz.prog (w.alloc (.cells Tryz.zeroCells65 65)) = .ok () (w.alloc (.cells numC 65)) := by
  subst h
  exact run_storeCells_new w 65 _ _ arInfo (by kernel_rfl) (by kernel_rfl)
theorem resN (tmps : Array Value) (w : World) (h : tmps.getD 0 undef = .pointer (some ⟨w.heap.size, 0, none⟩)) : (results Tryz.f31 tmps).run Tryz.prog (w.alloc (.cells numC 65)) = .ok numA (w.alloc (.cells numC 65)) := res_array Tryz.results31 Tryz.underlying65 tmps numC arInfo w h
set_option maxRecDepth 100000 in
set_option maxHeartbeats 1000000 in
theorem kindsN_any (w : World) : Calls Tryz.prog 31 #[] w fun e w' => e = .returned numA ∧ Ext w w' := by
  go_enter Tryz.func31, Tryz.ntmps31
  go_wp2_with fail
  rw [storeN w _ (by kernel_rfl)]
  simp only [Result.andThen_ok, Oper.upon_skip]
  go_wp2_with fail
  refine bodyPost_ret (v := numA) (resN _ _ (by kernel_rfl)) rfl ?_
  exact ⟨rfl, Ext.alloc _ _⟩
theorem numA_agg : numA = .agg numC := rfl
set_option maxRecDepth 100000 in
set_option maxHeartbeats 1000000 in
theorem workN_of (op : ByteArray) (a : Option Addr) (n c : Nat) (w : World) (V : Value) (hV : ∃ x y z, V = .tuple #[x, y, z])
    (h : ∀ w1 tb, Ext w w1 → TabAt w1 tb numK → Calls Tryz.prog 32 #[.slice (some ⟨tb, 0, none⟩) 15 15, .string op, .slice a n c] w1 fun e w' => e = .returned V ∧ Ext w1 w') :
    Calls Tryz.prog 11 #[.string op, .slice a n c] w fun e w' => e = .returned V ∧ Ext w w' := by
  have H := hid h
  obtain ⟨x, y, z, hxyz⟩ := hV
  have HV := hid hxyz
  clear h hxyz
  go_enter Tryz.func11, Tryz.ntmps11
  go_wp2_with fail
  refine (kindsN_any w).mono ?_
  rintro e w1 ⟨rfl, hx1⟩
  have X1 := hid hx1
  clear hx1
  rw [numA_agg]
  have hsz : numC.size = 135 := numC_size
  go_wp2_with fail
  rw [storeN w1 _ rfl]
  simp only [Result.andThen_ok, Oper.upon_skip]
  have HT := hid (show TabAt (w1.alloc (.cells numC 65)) w1.heap.size numK from ⟨65, by rw [← numC_tab]; exact blk0 _ _⟩)
  go_wp2_with fail
  refine (H.out _ _ (X1.out.trans (Ext.alloc _ _)) HT.out).mono ?_
  rintro e w2 ⟨rfl, hx2⟩
  rw [HV.out]
  go_wp2_with fail
  go_ret3
  exact ⟨by first | rfl | (rw [HV.out]; rfl), (X1.out.trans (Ext.alloc _ _)).trans hx2⟩
end Go.Proofs.YtgpggkepgoelfaaGreatDoor
