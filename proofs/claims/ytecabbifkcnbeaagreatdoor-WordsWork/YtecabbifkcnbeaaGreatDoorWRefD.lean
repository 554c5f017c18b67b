/-
  The document's package words: sorts by a contract, operation by operation; Work over it, in general.
-/
import Derived.Test.YtecabbifkcnbeaaGreatDoorWRefB
import Derived.Test.YtecabbifkcnbeaaGreatDoorCVals
namespace Go.Proofs.YtecabbifkcnbeaaGreatDoor
open Go.RowKit
def plS (k n : Int) (x : ByteArray) (q : Option Addr) (l c : Nat) : Value := .agg #[.int .i64 k, .int .i64 n, .string x, .slice q l c]
theorem plV_S (k n : Int) (x : ByteArray) : plV k n x = plS k n x none 0 0 := rfl
theorem cells1_of {w : World} {b : Nat} {v0 : Value} {t : TypeId} (h : w.heap[b]? = some (.cells #[v0] t)) : w.cell? ⟨b, 0, none⟩ = some v0 := by simp [World.cell?, h]
theorem cells2_of {w : World} {b : Nat} {v0 v1 : Value} {t : TypeId} (h : w.heap[b]? = some (.cells #[v0, v1] t)) : w.cell? ⟨b, 0, none⟩ = some v0 ∧ w.cell? ⟨b, 1, none⟩ = some v1 := by simp [World.cell?, h]
theorem cells3_of {w : World} {b : Nat} {v0 v1 v2 : Value} {t : TypeId} (h : w.heap[b]? = some (.cells #[v0, v1, v2] t)) : w.cell? ⟨b, 0, none⟩ = some v0 ∧ w.cell? ⟨b, 1, none⟩ = some v1 ∧ w.cell? ⟨b, 2, none⟩ = some v2 := by simp [World.cell?, h]
set_option maxRecDepth 100000 in
set_option maxHeartbeats 400000 in
theorem rsorts_join {K : Nat → Prop} {d : Nat} (a : Option Addr) (c : Nat) (ts : List T) (bb : Bool) (w : World) (h : RdL K w d a ts) (hm : ts.length = 2)
    (hT : (∀ i, (hi : i < ([4, 4] : List Int).length) → (hj : i < ts.length) → ts[i].kind = ([4, 4] : List Int)[i]) → bb = true) (hF : ∀ i, (hi : i < ([4, 4] : List Int).length) → (hj : i < ts.length) → ts[i].kind ≠ ([4, 4] : List Int)[i] → bb = false) : Calls Tryz.prog 32 #[.string ⟨#[119, 111, 114, 100, 115, 46, 106, 111, 105, 110]⟩, .slice a ts.length c] w fun e w' => e = .returned (.bool bb) ∧ Ext w w' := by
  have HK := hid (show ∀ w1, Ext w w1 → ∀ bk, w1.cell? ⟨bk, 0, none⟩ = some (.int .i64 4) → w1.cell? ⟨bk, 1, none⟩ = some (.int .i64 4) → Calls Tryz.prog 61 #[.slice a ts.length c, .slice (some ⟨bk, 0, none⟩) 2 2] w1 fun e w' => e = .returned (.bool bb) ∧ Ext w1 w' from fun w1 hx bk hc0 hc1 => rkinds_any10 a c ts bk [4, 4] bb w1 (h.keep (hx.kp K)) (by rw [hm]; exact Nat.le_refl _) (fun i hi => by
    match i, hi with
    | 0, _ => exact hc0
    | 1, _ => exact hc1
    | n + 2, h => exact absurd h (by simp)) hT hF)
  obtain ⟨hc0, hc1⟩ := cells2_of (blk0 w (.cells #[.int .i64 4, .int .i64 4] 3))
  have HX := hid (Ext.alloc w (.cells #[.int .i64 4, .int .i64 4] 3))
  clear h hT hF hm
  generalize ts.length = n at *
  go_enter Tryz.func32, Tryz.ntmps32
  go_wp2_with fail
  refine (HK.out _ HX.out _ hc0 hc1).mono ?_
  rintro e w1 ⟨rfl, hx1⟩
  have HX1 := hid (HX.out.trans hx1)
  clear hx1
  go_wp2_with fail
  go_ret
  exact ⟨rfl, HX1.out⟩
set_option maxRecDepth 100000 in
set_option maxHeartbeats 400000 in
theorem rsorts_size {K : Nat → Prop} {d : Nat} (a : Option Addr) (c : Nat) (ts : List T) (bb : Bool) (w : World) (h : RdL K w d a ts) (hm : ts.length = 1)
    (hT : (∀ i, (hi : i < ([4] : List Int).length) → (hj : i < ts.length) → ts[i].kind = ([4] : List Int)[i]) → bb = true) (hF : ∀ i, (hi : i < ([4] : List Int).length) → (hj : i < ts.length) → ts[i].kind ≠ ([4] : List Int)[i] → bb = false) : Calls Tryz.prog 32 #[.string ⟨#[119, 111, 114, 100, 115, 46, 115, 105, 122, 101]⟩, .slice a ts.length c] w fun e w' => e = .returned (.bool bb) ∧ Ext w w' := by
  have HK := hid (show ∀ w1, Ext w w1 → ∀ bk, w1.cell? ⟨bk, 0, none⟩ = some (.int .i64 4) → Calls Tryz.prog 61 #[.slice a ts.length c, .slice (some ⟨bk, 0, none⟩) 1 1] w1 fun e w' => e = .returned (.bool bb) ∧ Ext w1 w' from fun w1 hx bk hc0 => rkinds_any10 a c ts bk [4] bb w1 (h.keep (hx.kp K)) (by rw [hm]; exact Nat.le_refl _) (fun i hi => by
    match i, hi with
    | 0, _ => exact hc0
    | n + 1, h => exact absurd h (by simp)) hT hF)
  obtain hc0 := cells1_of (blk0 w (.cells #[.int .i64 4] 3))
  have HX := hid (Ext.alloc w (.cells #[.int .i64 4] 3))
  clear h hT hF hm
  generalize ts.length = n at *
  go_enter Tryz.func32, Tryz.ntmps32
  go_wp2_with fail
  refine (HK.out _ HX.out _ hc0).mono ?_
  rintro e w1 ⟨rfl, hx1⟩
  have HX1 := hid (HX.out.trans hx1)
  clear hx1
  go_wp2_with fail
  go_ret
  exact ⟨rfl, HX1.out⟩
set_option maxRecDepth 100000 in
set_option maxHeartbeats 400000 in
theorem rsorts_cut {K : Nat → Prop} {d : Nat} (a : Option Addr) (c : Nat) (ts : List T) (bb : Bool) (w : World) (h : RdL K w d a ts) (hm : ts.length = 3)
    (hT : (∀ i, (hi : i < ([4, 3, 3] : List Int).length) → (hj : i < ts.length) → ts[i].kind = ([4, 3, 3] : List Int)[i]) → bb = true) (hF : ∀ i, (hi : i < ([4, 3, 3] : List Int).length) → (hj : i < ts.length) → ts[i].kind ≠ ([4, 3, 3] : List Int)[i] → bb = false) : Calls Tryz.prog 32 #[.string ⟨#[119, 111, 114, 100, 115, 46, 99, 117, 116]⟩, .slice a ts.length c] w fun e w' => e = .returned (.bool bb) ∧ Ext w w' := by
  have HK := hid (show ∀ w1, Ext w w1 → ∀ bk, w1.cell? ⟨bk, 0, none⟩ = some (.int .i64 4) → w1.cell? ⟨bk, 1, none⟩ = some (.int .i64 3) → w1.cell? ⟨bk, 2, none⟩ = some (.int .i64 3) → Calls Tryz.prog 61 #[.slice a ts.length c, .slice (some ⟨bk, 0, none⟩) 3 3] w1 fun e w' => e = .returned (.bool bb) ∧ Ext w1 w' from fun w1 hx bk hc0 hc1 hc2 => rkinds_any10 a c ts bk [4, 3, 3] bb w1 (h.keep (hx.kp K)) (by rw [hm]; exact Nat.le_refl _) (fun i hi => by
    match i, hi with
    | 0, _ => exact hc0
    | 1, _ => exact hc1
    | 2, _ => exact hc2
    | n + 3, h => exact absurd h (by simp)) hT hF)
  obtain ⟨hc0, hc1, hc2⟩ := cells3_of (blk0 w (.cells #[.int .i64 4, .int .i64 3, .int .i64 3] 3))
  have HX := hid (Ext.alloc w (.cells #[.int .i64 4, .int .i64 3, .int .i64 3] 3))
  clear h hT hF hm
  generalize ts.length = n at *
  go_enter Tryz.func32, Tryz.ntmps32
  go_wp2_with fail
  refine (HK.out _ HX.out _ hc0 hc1 hc2).mono ?_
  rintro e w1 ⟨rfl, hx1⟩
  have HX1 := hid (HX.out.trans hx1)
  clear hx1
  go_wp2_with fail
  go_ret
  exact ⟨rfl, HX1.out⟩
set_option maxRecDepth 100000 in
set_option maxHeartbeats 400000 in
theorem rsorts_find {K : Nat → Prop} {d : Nat} (a : Option Addr) (c : Nat) (ts : List T) (bb : Bool) (w : World) (h : RdL K w d a ts) (hm : ts.length = 2)
    (hT : (∀ i, (hi : i < ([4, 4] : List Int).length) → (hj : i < ts.length) → ts[i].kind = ([4, 4] : List Int)[i]) → bb = true) (hF : ∀ i, (hi : i < ([4, 4] : List Int).length) → (hj : i < ts.length) → ts[i].kind ≠ ([4, 4] : List Int)[i] → bb = false) : Calls Tryz.prog 32 #[.string ⟨#[119, 111, 114, 100, 115, 46, 102, 105, 110, 100]⟩, .slice a ts.length c] w fun e w' => e = .returned (.bool bb) ∧ Ext w w' := by
  have HK := hid (show ∀ w1, Ext w w1 → ∀ bk, w1.cell? ⟨bk, 0, none⟩ = some (.int .i64 4) → w1.cell? ⟨bk, 1, none⟩ = some (.int .i64 4) → Calls Tryz.prog 61 #[.slice a ts.length c, .slice (some ⟨bk, 0, none⟩) 2 2] w1 fun e w' => e = .returned (.bool bb) ∧ Ext w1 w' from fun w1 hx bk hc0 hc1 => rkinds_any10 a c ts bk [4, 4] bb w1 (h.keep (hx.kp K)) (by rw [hm]; exact Nat.le_refl _) (fun i hi => by
    match i, hi with
    | 0, _ => exact hc0
    | 1, _ => exact hc1
    | n + 2, h => exact absurd h (by simp)) hT hF)
  obtain ⟨hc0, hc1⟩ := cells2_of (blk0 w (.cells #[.int .i64 4, .int .i64 4] 3))
  have HX := hid (Ext.alloc w (.cells #[.int .i64 4, .int .i64 4] 3))
  clear h hT hF hm
  generalize ts.length = n at *
  go_enter Tryz.func32, Tryz.ntmps32
  go_wp2_with fail
  refine (HK.out _ HX.out _ hc0 hc1).mono ?_
  rintro e w1 ⟨rfl, hx1⟩
  have HX1 := hid (HX.out.trans hx1)
  clear hx1
  go_wp2_with fail
  go_ret
  exact ⟨rfl, HX1.out⟩
set_option maxRecDepth 100000 in
set_option maxHeartbeats 400000 in
theorem rsorts_rep {K : Nat → Prop} {d : Nat} (a : Option Addr) (c : Nat) (ts : List T) (bb : Bool) (w : World) (h : RdL K w d a ts) (hm : ts.length = 2)
    (hT : (∀ i, (hi : i < ([4, 3] : List Int).length) → (hj : i < ts.length) → ts[i].kind = ([4, 3] : List Int)[i]) → bb = true) (hF : ∀ i, (hi : i < ([4, 3] : List Int).length) → (hj : i < ts.length) → ts[i].kind ≠ ([4, 3] : List Int)[i] → bb = false) : Calls Tryz.prog 32 #[.string ⟨#[119, 111, 114, 100, 115, 46, 114, 101, 112]⟩, .slice a ts.length c] w fun e w' => e = .returned (.bool bb) ∧ Ext w w' := by
  have HK := hid (show ∀ w1, Ext w w1 → ∀ bk, w1.cell? ⟨bk, 0, none⟩ = some (.int .i64 4) → w1.cell? ⟨bk, 1, none⟩ = some (.int .i64 3) → Calls Tryz.prog 61 #[.slice a ts.length c, .slice (some ⟨bk, 0, none⟩) 2 2] w1 fun e w' => e = .returned (.bool bb) ∧ Ext w1 w' from fun w1 hx bk hc0 hc1 => rkinds_any10 a c ts bk [4, 3] bb w1 (h.keep (hx.kp K)) (by rw [hm]; exact Nat.le_refl _) (fun i hi => by
    match i, hi with
    | 0, _ => exact hc0
    | 1, _ => exact hc1
    | n + 2, h => exact absurd h (by simp)) hT hF)
  obtain ⟨hc0, hc1⟩ := cells2_of (blk0 w (.cells #[.int .i64 4, .int .i64 3] 3))
  have HX := hid (Ext.alloc w (.cells #[.int .i64 4, .int .i64 3] 3))
  clear h hT hF hm
  generalize ts.length = n at *
  go_enter Tryz.func32, Tryz.ntmps32
  go_wp2_with fail
  refine (HK.out _ HX.out _ hc0 hc1).mono ?_
  rintro e w1 ⟨rfl, hx1⟩
  have HX1 := hid (HX.out.trans hx1)
  clear hx1
  go_wp2_with fail
  go_ret
  exact ⟨rfl, HX1.out⟩
set_option maxRecDepth 100000 in
set_option maxHeartbeats 400000 in
theorem rsorts_less {K : Nat → Prop} {d : Nat} (a : Option Addr) (c : Nat) (ts : List T) (bb : Bool) (w : World) (h : RdL K w d a ts) (hm : ts.length = 2)
    (hT : (∀ i, (hi : i < ([4, 4] : List Int).length) → (hj : i < ts.length) → ts[i].kind = ([4, 4] : List Int)[i]) → bb = true) (hF : ∀ i, (hi : i < ([4, 4] : List Int).length) → (hj : i < ts.length) → ts[i].kind ≠ ([4, 4] : List Int)[i] → bb = false) : Calls Tryz.prog 32 #[.string ⟨#[119, 111, 114, 100, 115, 46, 108, 101, 115, 115]⟩, .slice a ts.length c] w fun e w' => e = .returned (.bool bb) ∧ Ext w w' := by
  have HK := hid (show ∀ w1, Ext w w1 → ∀ bk, w1.cell? ⟨bk, 0, none⟩ = some (.int .i64 4) → w1.cell? ⟨bk, 1, none⟩ = some (.int .i64 4) → Calls Tryz.prog 61 #[.slice a ts.length c, .slice (some ⟨bk, 0, none⟩) 2 2] w1 fun e w' => e = .returned (.bool bb) ∧ Ext w1 w' from fun w1 hx bk hc0 hc1 => rkinds_any10 a c ts bk [4, 4] bb w1 (h.keep (hx.kp K)) (by rw [hm]; exact Nat.le_refl _) (fun i hi => by
    match i, hi with
    | 0, _ => exact hc0
    | 1, _ => exact hc1
    | n + 2, h => exact absurd h (by simp)) hT hF)
  obtain ⟨hc0, hc1⟩ := cells2_of (blk0 w (.cells #[.int .i64 4, .int .i64 4] 3))
  have HX := hid (Ext.alloc w (.cells #[.int .i64 4, .int .i64 4] 3))
  clear h hT hF hm
  generalize ts.length = n at *
  go_enter Tryz.func32, Tryz.ntmps32
  go_wp2_with fail
  refine (HK.out _ HX.out _ hc0 hc1).mono ?_
  rintro e w1 ⟨rfl, hx1⟩
  have HX1 := hid (HX.out.trans hx1)
  clear hx1
  go_wp2_with fail
  go_ret
  exact ⟨rfl, HX1.out⟩
set_option maxRecDepth 100000 in
set_option maxHeartbeats 400000 in
theorem rsorts_of {K : Nat → Prop} {d : Nat} (a : Option Addr) (c : Nat) (ts : List T) (bb : Bool) (w : World) (h : RdL K w d a ts) (hm : ts.length = 1)
    (hT : (∀ i, (hi : i < ([3] : List Int).length) → (hj : i < ts.length) → ts[i].kind = ([3] : List Int)[i]) → bb = true) (hF : ∀ i, (hi : i < ([3] : List Int).length) → (hj : i < ts.length) → ts[i].kind ≠ ([3] : List Int)[i] → bb = false) : Calls Tryz.prog 32 #[.string ⟨#[119, 111, 114, 100, 115, 46, 111, 102]⟩, .slice a ts.length c] w fun e w' => e = .returned (.bool bb) ∧ Ext w w' := by
  have HK := hid (show ∀ w1, Ext w w1 → ∀ bk, w1.cell? ⟨bk, 0, none⟩ = some (.int .i64 3) → Calls Tryz.prog 61 #[.slice a ts.length c, .slice (some ⟨bk, 0, none⟩) 1 1] w1 fun e w' => e = .returned (.bool bb) ∧ Ext w1 w' from fun w1 hx bk hc0 => rkinds_any10 a c ts bk [3] bb w1 (h.keep (hx.kp K)) (by rw [hm]; exact Nat.le_refl _) (fun i hi => by
    match i, hi with
    | 0, _ => exact hc0
    | n + 1, h => exact absurd h (by simp)) hT hF)
  obtain hc0 := cells1_of (blk0 w (.cells #[.int .i64 3] 3))
  have HX := hid (Ext.alloc w (.cells #[.int .i64 3] 3))
  clear h hT hF hm
  generalize ts.length = n at *
  go_enter Tryz.func32, Tryz.ntmps32
  go_wp2_with fail
  refine (HK.out _ HX.out _ hc0).mono ?_
  rintro e w1 ⟨rfl, hx1⟩
  have HX1 := hid (HX.out.trans hx1)
  clear hx1
  go_wp2_with fail
  go_ret
  exact ⟨rfl, HX1.out⟩
set_option maxRecDepth 100000 in
set_option maxHeartbeats 400000 in
theorem rsorts_num {K : Nat → Prop} {d : Nat} (a : Option Addr) (c : Nat) (ts : List T) (bb : Bool) (w : World) (h : RdL K w d a ts) (hm : ts.length = 1)
    (hT : (∀ i, (hi : i < ([4] : List Int).length) → (hj : i < ts.length) → ts[i].kind = ([4] : List Int)[i]) → bb = true) (hF : ∀ i, (hi : i < ([4] : List Int).length) → (hj : i < ts.length) → ts[i].kind ≠ ([4] : List Int)[i] → bb = false) : Calls Tryz.prog 32 #[.string ⟨#[119, 111, 114, 100, 115, 46, 110, 117, 109]⟩, .slice a ts.length c] w fun e w' => e = .returned (.bool bb) ∧ Ext w w' := by
  have HK := hid (show ∀ w1, Ext w w1 → ∀ bk, w1.cell? ⟨bk, 0, none⟩ = some (.int .i64 4) → Calls Tryz.prog 61 #[.slice a ts.length c, .slice (some ⟨bk, 0, none⟩) 1 1] w1 fun e w' => e = .returned (.bool bb) ∧ Ext w1 w' from fun w1 hx bk hc0 => rkinds_any10 a c ts bk [4] bb w1 (h.keep (hx.kp K)) (by rw [hm]; exact Nat.le_refl _) (fun i hi => by
    match i, hi with
    | 0, _ => exact hc0
    | n + 1, h => exact absurd h (by simp)) hT hF)
  obtain hc0 := cells1_of (blk0 w (.cells #[.int .i64 4] 3))
  have HX := hid (Ext.alloc w (.cells #[.int .i64 4] 3))
  clear h hT hF hm
  generalize ts.length = n at *
  go_enter Tryz.func32, Tryz.ntmps32
  go_wp2_with fail
  refine (HK.out _ HX.out _ hc0).mono ?_
  rintro e w1 ⟨rfl, hx1⟩
  have HX1 := hid (HX.out.trans hx1)
  clear hx1
  go_wp2_with fail
  go_ret
  exact ⟨rfl, HX1.out⟩
set_option maxRecDepth 100000 in
set_option maxHeartbeats 2000000 in
theorem rW10_bad {K : Nat → Prop} {d : Nat} (op : ByteArray) (a : Option Addr) (c : Nat) (ts : List T) (w : World) (h : RdL K w d a ts) (V : Int) (hV : askI wordsR op ts = V) (hz : (V == 0) = false) : Calls Tryz.prog 9 #[.string op, .slice a ts.length c] w fun e w' => e = .returned (.tuple #[plV 0 0 ⟨#[]⟩, .int .i64 V, .string ⟨#[]⟩]) ∧ Ext w w' := by
  have HA := hid (fun w1 (hx : Ext w w1) => askedW_any (K := K) (d := d) wordsR op a c ts w1 (by decide) (by decide) refRowsW_any (h.keep (hx.kp K)))
  rw [hV] at HA
  clear hV
  generalize ts.length = n at *
  go_enter Tryz.func9, Tryz.ntmps9
  go_wp2_with fail
  refine (HA.out _ (Ext.alloc _ _)).mono ?_
  rintro e w1 ⟨rfl, hx1⟩
  have HX := hid ((Ext.alloc w _).trans hx1)
  have HB := hid (hx1.block (blk0 w (.cells #[.int .i64 0, .int .i64 0, .string ⟨#[]⟩, .slice none 0 0] 34)))
  clear hx1
  obtain ⟨z0, z1, z2, z3⟩ := four_of HB.out
  obtain ⟨f0, f1, f2, f3⟩ := four_free HB.out
  have hz2 : (V != 0) = true := by unfold bne; rw [hz]; rfl
  clear h
  go_wp2_with fail
  have HB2 := hid (four_set (u0 := .int .i64 0) (u1 := .int .i64 0) (u2 := .string ⟨#[]⟩) (u3 := .slice none 0 0) HB.out)
  have HE := hid ((Kp.set4 w1 w.heap.size 0 (.int .i64 0) (.int .i64 0) (.string ⟨#[]⟩) (.slice none 0 0)).extOf HX.out (Nat.le_refl _))
  obtain ⟨y0, y1, y2, y3⟩ := four_of HB2.out
  refine bodyPost_ret (v := .tuple #[plV 0 0 ⟨#[]⟩, .int .i64 V, .string ⟨#[]⟩]) (by simp [results, Tryz.results9, go_sem, y0, y1, y2, y3, plV]) rfl ?_
  exact ⟨rfl, HE.out⟩
set_option maxRecDepth 100000 in
set_option maxHeartbeats 2000000 in
theorem rW10_kind {K : Nat → Prop} {d : Nat} (op : ByteArray) (a : Option Addr) (c : Nat) (ts : List T) (w : World) (h : RdL K w d a ts) (hV : askI wordsR op ts = 0) (HS : ∀ w1, Ext w w1 → Calls Tryz.prog 32 #[.string op, .slice a ts.length c] w1 fun e w' => e = .returned (.bool false) ∧ Ext w1 w') : Calls Tryz.prog 9 #[.string op, .slice a ts.length c] w fun e w' => e = .returned (.tuple #[plV 0 0 ⟨#[]⟩, .int .i64 20, .string ⟨#[]⟩]) ∧ Ext w w' := by
  have HS1 := hid HS
  clear HS
  have HA := hid (fun w1 (hx : Ext w w1) => askedW_any (K := K) (d := d) wordsR op a c ts w1 (by decide) (by decide) refRowsW_any (h.keep (hx.kp K)))
  rw [hV] at HA
  clear hV
  generalize ts.length = n at *
  go_enter Tryz.func9, Tryz.ntmps9
  go_wp2_with fail
  refine (HA.out _ (Ext.alloc _ _)).mono ?_
  rintro e w1 ⟨rfl, hx1⟩
  have HX := hid ((Ext.alloc w _).trans hx1)
  have HB := hid (hx1.block (blk0 w (.cells #[.int .i64 0, .int .i64 0, .string ⟨#[]⟩, .slice none 0 0] 34)))
  clear hx1
  clear h
  go_wp2_with fail
  refine (HS1.out _ HX.out).mono ?_
  rintro e w2 ⟨rfl, hx2⟩
  have HX2 := hid (HX.out.trans hx2)
  have HB2 := hid (hx2.block HB.out)
  clear hx2
  obtain ⟨z0, z1, z2, z3⟩ := four_of HB2.out
  obtain ⟨f0, f1, f2, f3⟩ := four_free HB2.out
  go_wp2_with fail
  have HB3 := hid (four_set (u0 := .int .i64 0) (u1 := .int .i64 0) (u2 := .string ⟨#[]⟩) (u3 := .slice none 0 0) HB2.out)
  have HE := hid ((Kp.set4 w2 w.heap.size 0 (.int .i64 0) (.int .i64 0) (.string ⟨#[]⟩) (.slice none 0 0)).extOf HX2.out (Nat.le_refl _))
  obtain ⟨y0, y1, y2, y3⟩ := four_of HB3.out
  refine bodyPost_ret (v := .tuple #[plV 0 0 ⟨#[]⟩, .int .i64 20, .string ⟨#[]⟩]) (by simp [results, Tryz.results9, go_sem, y0, y1, y2, y3, plV]) rfl ?_
  exact ⟨rfl, HE.out⟩
set_option maxRecDepth 100000 in
set_option maxHeartbeats 2000000 in
theorem rW10_ok {K : Nat → Prop} {d : Nat} (op : ByteArray) (a : Option Addr) (c : Nat) (ts : List T) (w : World) (h : RdL K w d a ts) (hV : askI wordsR op ts = 0) (HS : ∀ w1, Ext w w1 → Calls Tryz.prog 32 #[.string op, .slice a ts.length c] w1 fun e w' => e = .returned (.bool true) ∧ Ext w1 w')
    (P : Int → Int → ByteArray → Nat → Int → Prop) (HW : ∀ w1, Ext w w1 → Calls Tryz.prog 33 #[.string op, .slice a ts.length c] w1 fun e w' => ∃ k m x q l cc ec, P k m x l ec ∧ e = .returned (.tuple #[plS k m x q l cc, .int .i64 ec]) ∧ Ext w1 w') : Calls Tryz.prog 9 #[.string op, .slice a ts.length c] w fun e w' => ∃ k m x q l cc ec, P k m x l ec ∧ e = .returned (.tuple #[plS k m x q l cc, .int .i64 ec, .string ⟨#[]⟩]) ∧ Ext w w' := by
  have HS1 := hid HS
  have HW1 := hid HW
  clear HW
  clear HS
  have HA := hid (fun w1 (hx : Ext w w1) => askedW_any (K := K) (d := d) wordsR op a c ts w1 (by decide) (by decide) refRowsW_any (h.keep (hx.kp K)))
  rw [hV] at HA
  clear hV
  generalize ts.length = n at *
  go_enter Tryz.func9, Tryz.ntmps9
  go_wp2_with fail
  refine (HA.out _ (Ext.alloc _ _)).mono ?_
  rintro e w1 ⟨rfl, hx1⟩
  have HX := hid ((Ext.alloc w _).trans hx1)
  have HB := hid (hx1.block (blk0 w (.cells #[.int .i64 0, .int .i64 0, .string ⟨#[]⟩, .slice none 0 0] 34)))
  clear hx1
  clear h
  go_wp2_with fail
  refine (HS1.out _ HX.out).mono ?_
  rintro e w2 ⟨rfl, hx2⟩
  have HX2 := hid (HX.out.trans hx2)
  have HB2 := hid (hx2.block HB.out)
  clear hx2
  go_wp2_with fail
  refine (HW1.out _ HX2.out).mono ?_
  rintro e w3 ⟨k, m, x, q, l, cc, ec, hP, rfl, hx3⟩
  have HP := hid hP
  clear hP
  have HX3 := hid (HX2.out.trans (hx3.trans (Ext.alloc w3 (.cells #[.int .i64 k, .int .i64 m, .string x, .slice q l cc] 34))))
  have HB3 := hid (blkOld (.cells #[.int .i64 k, .int .i64 m, .string x, .slice q l cc] 34) (hx3.block HB2.out))
  have HN := hid (blk0 w3 (.cells #[.int .i64 k, .int .i64 m, .string x, .slice q l cc] 34))
  clear hx3
  obtain ⟨z0, z1, z2, z3⟩ := four_of HB3.out
  obtain ⟨f0, f1, f2, f3⟩ := four_free HB3.out
  obtain ⟨p0, p1, p2, p3⟩ := four_of HN.out
  unfold plS
  go_wp2_with fail
  have HB4 := hid (four_set (u0 := .int .i64 k) (u1 := .int .i64 m) (u2 := .string x) (u3 := .slice q l cc) HB3.out)
  have HE := hid ((Kp.set4 (w3.alloc (.cells #[.int .i64 k, .int .i64 m, .string x, .slice q l cc] 34)) w.heap.size 0 (.int .i64 k) (.int .i64 m) (.string x) (.slice q l cc)).extOf HX3.out (Nat.le_refl _))
  obtain ⟨y0, y1, y2, y3⟩ := four_of HB4.out
  refine bodyPost_ret (v := .tuple #[plS k m x q l cc, .int .i64 ec, .string ⟨#[]⟩]) (by simp [results, Tryz.results9, go_sem, y0, y1, y2, y3, plS]) rfl ?_
  exact ⟨k, m, x, q, l, cc, ec, HP.out, rfl, HE.out⟩

end Go.Proofs.YtecabbifkcnbeaaGreatDoor
