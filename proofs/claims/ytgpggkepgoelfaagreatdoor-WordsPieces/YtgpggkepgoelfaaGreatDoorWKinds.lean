/-
  The kinds of the kit words: their table; words.kinds by a contract; words.Work.
-/
import Derived.Test.YtgpggkepgoelfaaGreatDoorCWork
import Derived.Test.YtgpggkepgoelfaaGreatDoorWOpsC
import Derived.Test.YtgpggkepgoelfaaGreatDoorCArr
namespace Go.Proofs.YtgpggkepgoelfaaGreatDoor
open Go.RowKit
/-- The kit words. -/
def wordsK : List Kd := [
  ⟨⟨#[119, 111, 114, 100, 115, 46, 106, 111, 105, 110]⟩, 2, 2, 0, ⟨#[83, 116, 114, 105, 99, 116, 32, 80, 117, 114, 101, 32, 83, 111, 114, 116, 101, 100]⟩, ⟨#[116, 101, 120, 116, 44, 32, 116, 101, 120, 116, 32, 62, 32, 116, 101, 120, 116]⟩, 83, some 84, false⟩,
  ⟨⟨#[119, 111, 114, 100, 115, 46, 115, 105, 122, 101]⟩, 1, 1, 0, ⟨#[83, 116, 114, 105, 99, 116, 32, 80, 117, 114, 101, 32, 84, 111, 116, 97, 108, 32, 83, 111, 114, 116, 101, 100]⟩, ⟨#[116, 101, 120, 116, 32, 62, 32, 105, 110, 116]⟩, 85, some 86, false⟩,
  ⟨⟨#[119, 111, 114, 100, 115, 46, 99, 117, 116]⟩, 3, 3, 0, ⟨#[83, 116, 114, 105, 99, 116, 32, 80, 117, 114, 101, 32, 83, 111, 114, 116, 101, 100]⟩, ⟨#[116, 101, 120, 116, 44, 32, 105, 110, 116, 44, 32, 105, 110, 116, 32, 62, 32, 116, 101, 120, 116]⟩, 83, some 87, false⟩,
  ⟨⟨#[119, 111, 114, 100, 115, 46, 102, 105, 110, 100]⟩, 2, 2, 0, ⟨#[83, 116, 114, 105, 99, 116, 32, 80, 117, 114, 101, 32, 84, 111, 116, 97, 108, 32, 83, 111, 114, 116, 101, 100]⟩, ⟨#[116, 101, 120, 116, 44, 32, 116, 101, 120, 116, 32, 62, 32, 105, 110, 116]⟩, 85, some 88, false⟩,
  ⟨⟨#[119, 111, 114, 100, 115, 46, 114, 101, 112]⟩, 2, 2, 0, ⟨#[83, 116, 114, 105, 99, 116, 32, 80, 117, 114, 101, 32, 83, 111, 114, 116, 101, 100]⟩, ⟨#[116, 101, 120, 116, 44, 32, 105, 110, 116, 32, 62, 32, 116, 101, 120, 116]⟩, 83, some 89, false⟩,
  ⟨⟨#[119, 111, 114, 100, 115, 46, 108, 101, 115, 115]⟩, 2, 2, 0, ⟨#[83, 116, 114, 105, 99, 116, 32, 80, 117, 114, 101, 32, 84, 111, 116, 97, 108, 32, 83, 111, 114, 116, 101, 100]⟩, ⟨#[116, 101, 120, 116, 44, 32, 116, 101, 120, 116, 32, 62, 32, 116, 114, 117, 116, 104]⟩, 85, some 90, false⟩,
  ⟨⟨#[119, 111, 114, 100, 115, 46, 111, 102]⟩, 1, 1, 0, ⟨#[83, 116, 114, 105, 99, 116, 32, 80, 117, 114, 101, 32, 84, 111, 116, 97, 108, 32, 83, 111, 114, 116, 101, 100]⟩, ⟨#[105, 110, 116, 32, 62, 32, 116, 101, 120, 116]⟩, 85, some 91, false⟩,
  ⟨⟨#[119, 111, 114, 100, 115, 46, 110, 117, 109]⟩, 1, 1, 0, ⟨#[83, 116, 114, 105, 99, 116, 32, 80, 117, 114, 101, 32, 83, 111, 114, 116, 101, 100]⟩, ⟨#[116, 101, 120, 116, 32, 62, 32, 105, 110, 116]⟩, 83, some 92, false⟩,
  ⟨⟨#[119, 111, 114, 100, 115, 46, 97, 108, 108]⟩, 0, -1, 0, ⟨#[80, 117, 114, 101, 32, 83, 111, 114, 116, 101, 100, 32, 83, 117, 103, 97, 114]⟩, ⟨#[116, 101, 120, 116, 32, 46, 46, 32, 62, 32, 116, 101, 120, 116]⟩, 93, none, false⟩]
def wordsC : Array Value := #[.string ⟨#[119, 111, 114, 100, 115, 46, 106, 111, 105, 110]⟩, .int .i64 2, .int .i64 2, .int .i64 0, .string ⟨#[83, 116, 114, 105, 99, 116, 32, 80, 117, 114, 101, 32, 83, 111, 114, 116, 101, 100]⟩, .string ⟨#[116, 101, 120, 116, 44, 32, 116, 101, 120, 116, 32, 62, 32, 116, 101, 120, 116]⟩, .func (.func 83) #[] #[], .func (.func 84) #[] #[], .bool false, .string ⟨#[119, 111, 114, 100, 115, 46, 115, 105, 122, 101]⟩, .int .i64 1, .int .i64 1, .int .i64 0, .string ⟨#[83, 116, 114, 105, 99, 116, 32, 80, 117, 114, 101, 32, 84, 111, 116, 97, 108, 32, 83, 111, 114, 116, 101, 100]⟩, .string ⟨#[116, 101, 120, 116, 32, 62, 32, 105, 110, 116]⟩, .func (.func 85) #[] #[], .func (.func 86) #[] #[], .bool false, .string ⟨#[119, 111, 114, 100, 115, 46, 99, 117, 116]⟩, .int .i64 3, .int .i64 3, .int .i64 0, .string ⟨#[83, 116, 114, 105, 99, 116, 32, 80, 117, 114, 101, 32, 83, 111, 114, 116, 101, 100]⟩, .string ⟨#[116, 101, 120, 116, 44, 32, 105, 110, 116, 44, 32, 105, 110, 116, 32, 62, 32, 116, 101, 120, 116]⟩, .func (.func 83) #[] #[], .func (.func 87) #[] #[], .bool false, .string ⟨#[119, 111, 114, 100, 115, 46, 102, 105, 110, 100]⟩, .int .i64 2, .int .i64 2, .int .i64 0, .string ⟨#[83, 116, 114, 105, 99, 116, 32, 80, 117, 114, 101, 32, 84, 111, 116, 97, 108, 32, 83, 111, 114, 116, 101, 100]⟩, .string ⟨#[116, 101, 120, 116, 44, 32, 116, 101, 120, 116, 32, 62, 32, 105, 110, 116]⟩, .func (.func 85) #[] #[], .func (.func 88) #[] #[], .bool false, .string ⟨#[119, 111, 114, 100, 115, 46, 114, 101, 112]⟩, .int .i64 2, .int .i64 2, .int .i64 0, .string ⟨#[83, 116, 114, 105, 99, 116, 32, 80, 117, 114, 101, 32, 83, 111, 114, 116, 101, 100]⟩, .string ⟨#[116, 101, 120, 116, 44, 32, 105, 110, 116, 32, 62, 32, 116, 101, 120, 116]⟩, .func (.func 83) #[] #[], .func (.func 89) #[] #[], .bool false, .string ⟨#[119, 111, 114, 100, 115, 46, 108, 101, 115, 115]⟩, .int .i64 2, .int .i64 2, .int .i64 0, .string ⟨#[83, 116, 114, 105, 99, 116, 32, 80, 117, 114, 101, 32, 84, 111, 116, 97, 108, 32, 83, 111, 114, 116, 101, 100]⟩, .string ⟨#[116, 101, 120, 116, 44, 32, 116, 101, 120, 116, 32, 62, 32, 116, 114, 117, 116, 104]⟩, .func (.func 85) #[] #[], .func (.func 90) #[] #[], .bool false, .string ⟨#[119, 111, 114, 100, 115, 46, 111, 102]⟩, .int .i64 1, .int .i64 1, .int .i64 0, .string ⟨#[83, 116, 114, 105, 99, 116, 32, 80, 117, 114, 101, 32, 84, 111, 116, 97, 108, 32, 83, 111, 114, 116, 101, 100]⟩, .string ⟨#[105, 110, 116, 32, 62, 32, 116, 101, 120, 116]⟩, .func (.func 85) #[] #[], .func (.func 91) #[] #[], .bool false, .string ⟨#[119, 111, 114, 100, 115, 46, 110, 117, 109]⟩, .int .i64 1, .int .i64 1, .int .i64 0, .string ⟨#[83, 116, 114, 105, 99, 116, 32, 80, 117, 114, 101, 32, 83, 111, 114, 116, 101, 100]⟩, .string ⟨#[116, 101, 120, 116, 32, 62, 32, 105, 110, 116]⟩, .func (.func 83) #[] #[], .func (.func 92) #[] #[], .bool false, .string ⟨#[119, 111, 114, 100, 115, 46, 97, 108, 108]⟩, .int .i64 0, .int .i64 (-1), .int .i64 0, .string ⟨#[80, 117, 114, 101, 32, 83, 111, 114, 116, 101, 100, 32, 83, 117, 103, 97, 114]⟩, .string ⟨#[116, 101, 120, 116, 32, 46, 46, 32, 62, 32, 116, 101, 120, 116]⟩, .func (.func 93) #[] #[], .nilFunc, .bool false]
def wordsA : Value := .agg wordsC

theorem wordsC_tab : wordsC = (tabL wordsK).toArray := rfl
theorem wordsC_size : wordsC.size = 81 := by kernel_rfl
theorem arInfoW : (Tryz.prog.info? 80).map (·.size) = some wordsC.size := by kernel_rfl
theorem storeW (w : World) (cs : List Value) (h : cs = wordsC.toList) : (storeCells ⟨w.heap.size, 0, none⟩ cs 0).run Tryz.prog (w.alloc (.cells Tryz.zeroCells80 80)) = .ok () (w.alloc (.cells wordsC 80)) := by
  subst h
  exact run_storeCells_new w 80 _ _ arInfoW (by kernel_rfl) (by kernel_rfl)
theorem resW (tmps : Array Value) (w : World) (h : tmps.getD 0 undef = .pointer (some ⟨w.heap.size, 0, none⟩)) : (results Tryz.f42 tmps).run Tryz.prog (w.alloc (.cells wordsC 80)) = .ok wordsA (w.alloc (.cells wordsC 80)) := res_array Tryz.results42 Tryz.underlying80 tmps wordsC arInfoW w h
set_option maxRecDepth 100000 in
set_option maxHeartbeats 1000000 in
theorem kindsW_any (w : World) : Calls Tryz.prog 42 #[] w fun e w' => e = .returned wordsA ∧ Ext w w' := by
  go_enter Tryz.func42, Tryz.ntmps42
  go_wp2_with fail
  rw [storeW w _ (by kernel_rfl)]
  simp only [Result.andThen_ok, Oper.upon_skip]
  go_wp2_with fail
  refine bodyPost_ret (v := wordsA) (resW _ _ (by kernel_rfl)) rfl ?_
  exact ⟨rfl, Ext.alloc _ _⟩
theorem wordsA_agg : wordsA = .agg wordsC := rfl
set_option maxRecDepth 100000 in
set_option maxHeartbeats 1000000 in
theorem workW_of (op : ByteArray) (a : Option Addr) (n c : Nat) (w : World) (V : Value) (hV : ∃ x y z, V = .tuple #[x, y, z])
    (h : ∀ w1 tb, Ext w w1 → TabAt w1 tb wordsK → Calls Tryz.prog 32 #[.slice (some ⟨tb, 0, none⟩) 9 9, .string op, .slice a n c] w1 fun e w' => e = .returned V ∧ Ext w1 w') :
    Calls Tryz.prog 19 #[.string op, .slice a n c] w fun e w' => e = .returned V ∧ Ext w w' := by
  have H := hid h
  obtain ⟨x, y, z, hxyz⟩ := hV
  have HV := hid hxyz
  clear h hxyz
  go_enter Tryz.func19, Tryz.ntmps19
  go_wp2_with fail
  refine (kindsW_any w).mono ?_
  rintro e w1 ⟨rfl, hx1⟩
  have X1 := hid hx1
  clear hx1
  rw [wordsA_agg]
  have hsz : wordsC.size = 81 := wordsC_size
  go_wp2_with fail
  rw [storeW w1 _ rfl]
  simp only [Result.andThen_ok, Oper.upon_skip]
  have HT := hid (show TabAt (w1.alloc (.cells wordsC 80)) w1.heap.size wordsK from ⟨80, by rw [← wordsC_tab]; exact blk0 _ _⟩)
  go_wp2_with fail
  refine (H.out _ _ (X1.out.trans (Ext.alloc _ _)) HT.out).mono ?_
  rintro e w2 ⟨rfl, hx2⟩
  rw [HV.out]
  go_wp2_with fail
  go_ret3
  exact ⟨by first | rfl | (rw [HV.out]; rfl), (X1.out.trans (Ext.alloc _ _)).trans hx2⟩
end Go.Proofs.YtgpggkepgoelfaaGreatDoor
