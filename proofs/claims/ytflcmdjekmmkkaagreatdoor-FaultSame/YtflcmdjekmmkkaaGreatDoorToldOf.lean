/-
  What an error tells, asked by assertions (espalierlaw1.Told), at each kind of error.
-/
import Derived.Test.YtflcmdjekmmkkaaGreatDoorAsk
import Derived.Test.YtflcmdjekmmkkaaGreatDoorRefEq
import Derived.Test.YtflcmdjekmmkkaaGreatDoorTell
namespace Go.Proofs.YtflcmdjekmmkkaaGreatDoor
open Go.RowKit Go.Shelf
attribute [local go_sem] isNCoded isNLocated isNRaised isNLacking isNUnw isNAsI isNUnws isNNoted isGCoded isGLocated isGRaised isGLacking isGUnw isGAsI isGUnws isGNoted isCCoded isCLocated isCRaised isCLacking isCUnw isCAsI isCUnws isCNoted isLCoded isLLocated isLRaised isLLacking isLUnw isLAsI isLUnws isLNoted isRCoded isRLocated isRRaised isRLacking isRUnw isRAsI isRUnws isRNoted isKCoded isKLocated isKRaised isKLacking isKUnw isKAsI isKUnws isKNoted isHCoded isHLocated isHRaised isHLacking isHUnw isHAsI isHUnws isHNoted toCodedCoded toCodedLocated toCodedRaised toCodedLacking toCodedNoted toLocatedCoded toLocatedLocated toLocatedRaised toLocatedLacking toLocatedNoted toRaisedCoded toRaisedLocated toRaisedRaised toRaisedLacking toRaisedNoted toLackingCoded toLackingLocated toLackingRaised toLackingLacking toLackingNoted toNotedCoded toNotedLocated toNotedRaised toNotedLacking toNotedNoted mNUnwrap mNError mCCode mCError mLCode mLWhere mLError mRCode mRWhere mRSaid mRError mKCode mKWhere mKLacks mKError mGUnwrap mGError mHAs mHUnwrap

set_option maxRecDepth 100000 in
set_option maxHeartbeats 2000000 in
theorem told_C (b : Nat) (co : Int) (w : World) (h : CodedAt w b co) :
    Calls Tryz.prog 10 #[.iface 128 (.pointer (some ⟨b, 0, none⟩))] w fun r w' => r = .returned (toldV false co false ⟨#[]⟩ (.slice none 0 0) false ⟨#[]⟩ false ⟨#[]⟩ ⟨#[]⟩) ∧ Ext w w' := by
  have c0 : w.cell? ⟨b, 0, none⟩ = some (.int .i64 co) := cell_of h rfl
  have hlt := lt_of_block h
  clear h
  go_enter Tryz.func10, Tryz.ntmps10
  go_wp2_with fail
  refine (code_of b co _ ?hc).mono ?_
  case hc => exact (Below.cell (Ext.alloc2 _ _ _) hlt).trans c0
  rintro r w1 ⟨rfl, hw⟩
  obtain rfl := hw.symm
  go_wp2
  refine bodyPost_ret (v := toldV false co false ⟨#[]⟩ (.slice none 0 0) false ⟨#[]⟩ false ⟨#[]⟩ ⟨#[]⟩) (by simp [results, Tryz.results10, go_sem]) rfl ⟨rfl, ?_⟩
  repeat (first | refine Ext.set0 ?_ _ _ | refine Ext.set1 ?_ _ _)
  exact Ext.alloc2 _ _ _


theorem row_drew {w : World} {base : Nat} {e : TypeId} {v : Value} {n : Nat} {xs : List Value} (h : w.ownsRow base e 1 v n xs) : w.drew.ownsRow base e 1 v n xs := h
theorem lacks_drew (b : Nat) (ki ab : ByteArray) (w : World) (h : w.cell? ⟨b, 3, none⟩ = some (.string ki)) (h' : w.cell? ⟨b, 4, none⟩ = some (.string ab)) :
    Calls Tryz.prog 124 #[.pointer (some ⟨b, 0, none⟩)] w fun r w' => r = .returned (.tuple #[.string ki, .string ab]) ∧ w' = w.drew := by
  go_enter Tryz.func124, Tryz.ntmps124
  go_wp2
  go_region
  all_goals
    go_wp2
    go_ret2
    exact ⟨rfl, rfl⟩


set_option maxRecDepth 100000 in
set_option maxHeartbeats 1000000 in
theorem told_L (b : Nat) (co : Int) (fu : ByteArray) (a : Option Addr) (n c : Nat) (xs : List Int) (w : World) (hb : xs.length * 8 ≤ 140737488355328) (h : LocatedAt w b co fu (.slice a n c)) (hI : Ints w (.slice a n c) xs) :
    Calls Tryz.prog 10 #[.iface 127 (.pointer (some ⟨b, 0, none⟩))] w fun r w' => ∃ v', r = .returned (toldV false co true fu v' false ⟨#[]⟩ false ⟨#[]⟩ ⟨#[]⟩) ∧ w'.ownsRow w.heap.size 3 1 v' xs.length (xs.map (Value.int .i64)) ∧ Ext w w' := by
  have c0 : w.cell? ⟨b, 0, none⟩ = some (.int .i64 co) := cell_of h rfl
  have c1 : w.cell? ⟨b, 1, none⟩ = some (.string fu) := cell_of h rfl
  have c2 : w.cell? ⟨b, 2, none⟩ = some (.slice a n c) := cell_of h rfl
  have hlt := lt_of_block h
  have HI : Hid (Ints w (.slice a n c) xs) := hI
  have HH : Hid (LocatedAt w b co fu (.slice a n c)) := h
  clear h hI
  go_enter Tryz.func10, Tryz.ntmps10
  go_wp2_with fail
  refine (code_of b co _ ?hc).mono ?_
  case hc => exact (Below.cell (Ext.alloc2 _ _ _) hlt).trans c0
  rintro r w1 ⟨rfl, hw⟩
  obtain rfl := hw.symm
  have hE : Ext w ((w.alloc (.cells #[.bool false, .int .i64 0, .bool false, .string ⟨#[]⟩, .slice none 0 0, .bool false, .string ⟨#[]⟩, .bool false, .string ⟨#[]⟩, .string ⟨#[]⟩] 31)).alloc (.cells #[.bool false, .int .i64 co, .bool true, .string ⟨#[]⟩, .slice none 0 0, .bool false, .string ⟨#[]⟩, .bool false, .string ⟨#[]⟩, .string ⟨#[]⟩] 31)) := Ext.alloc2 _ _ _
  have r0 : ((w.alloc (.cells #[.bool false, .int .i64 0, .bool false, .string ⟨#[]⟩, .slice none 0 0, .bool false, .string ⟨#[]⟩, .bool false, .string ⟨#[]⟩, .string ⟨#[]⟩] 31)).alloc (.cells #[.bool false, .int .i64 co, .bool true, .string ⟨#[]⟩, .slice none 0 0, .bool false, .string ⟨#[]⟩, .bool false, .string ⟨#[]⟩, .string ⟨#[]⟩] 31)).heap[w.heap.size]? = some (.cells #[.bool false, .int .i64 0, .bool false, .string ⟨#[]⟩, .slice none 0 0, .bool false, .string ⟨#[]⟩, .bool false, .string ⟨#[]⟩, .string ⟨#[]⟩] 31) := blkOld _ (blk0 _ _)
  have r1 : ((w.alloc (.cells #[.bool false, .int .i64 0, .bool false, .string ⟨#[]⟩, .slice none 0 0, .bool false, .string ⟨#[]⟩, .bool false, .string ⟨#[]⟩, .string ⟨#[]⟩] 31)).alloc (.cells #[.bool false, .int .i64 co, .bool true, .string ⟨#[]⟩, .slice none 0 0, .bool false, .string ⟨#[]⟩, .bool false, .string ⟨#[]⟩, .string ⟨#[]⟩] 31)).heap[w.heap.size + 1]? = some (.cells #[.bool false, .int .i64 co, .bool true, .string ⟨#[]⟩, .slice none 0 0, .bool false, .string ⟨#[]⟩, .bool false, .string ⟨#[]⟩, .string ⟨#[]⟩] 31) := blk1 _ _ _
  have hW := where_of b fu a n c xs ((w.alloc (.cells #[.bool false, .int .i64 0, .bool false, .string ⟨#[]⟩, .slice none 0 0, .bool false, .string ⟨#[]⟩, .bool false, .string ⟨#[]⟩, .string ⟨#[]⟩] 31)).alloc (.cells #[.bool false, .int .i64 co, .bool true, .string ⟨#[]⟩, .slice none 0 0, .bool false, .string ⟨#[]⟩, .bool false, .string ⟨#[]⟩, .string ⟨#[]⟩] 31)) hb ((Below.cell hE hlt).trans c1) ((Below.cell hE hlt).trans c2) (HI.out.later hE)
  have HW : Hid (Calls Tryz.prog 98 #[.pointer (some ⟨b, 0, none⟩)] ((w.alloc (.cells #[.bool false, .int .i64 0, .bool false, .string ⟨#[]⟩, .slice none 0 0, .bool false, .string ⟨#[]⟩, .bool false, .string ⟨#[]⟩, .string ⟨#[]⟩] 31)).alloc (.cells #[.bool false, .int .i64 co, .bool true, .string ⟨#[]⟩, .slice none 0 0, .bool false, .string ⟨#[]⟩, .bool false, .string ⟨#[]⟩, .string ⟨#[]⟩] 31)) fun r w' => ∃ v', r = .returned (.agg #[.string fu, v']) ∧ w'.ownsRow ((w.alloc (.cells #[.bool false, .int .i64 0, .bool false, .string ⟨#[]⟩, .slice none 0 0, .bool false, .string ⟨#[]⟩, .bool false, .string ⟨#[]⟩, .string ⟨#[]⟩] 31)).alloc (.cells #[.bool false, .int .i64 co, .bool true, .string ⟨#[]⟩, .slice none 0 0, .bool false, .string ⟨#[]⟩, .bool false, .string ⟨#[]⟩, .string ⟨#[]⟩] 31)).heap.size 3 1 v' xs.length (xs.map (Value.int .i64)) ∧ Ext ((w.alloc (.cells #[.bool false, .int .i64 0, .bool false, .string ⟨#[]⟩, .slice none 0 0, .bool false, .string ⟨#[]⟩, .bool false, .string ⟨#[]⟩, .string ⟨#[]⟩] 31)).alloc (.cells #[.bool false, .int .i64 co, .bool true, .string ⟨#[]⟩, .slice none 0 0, .bool false, .string ⟨#[]⟩, .bool false, .string ⟨#[]⟩, .string ⟨#[]⟩] 31)) w') := hW
  have hsz : ((w.alloc (.cells #[.bool false, .int .i64 0, .bool false, .string ⟨#[]⟩, .slice none 0 0, .bool false, .string ⟨#[]⟩, .bool false, .string ⟨#[]⟩, .string ⟨#[]⟩] 31)).alloc (.cells #[.bool false, .int .i64 co, .bool true, .string ⟨#[]⟩, .slice none 0 0, .bool false, .string ⟨#[]⟩, .bool false, .string ⟨#[]⟩, .string ⟨#[]⟩] 31)).heap.size = w.heap.size + 1 + 1 := by simp
  have HR0 : Hid _ := r0
  have HR1 : Hid _ := r1
  have HE : Hid (Ext w ((w.alloc (.cells #[.bool false, .int .i64 0, .bool false, .string ⟨#[]⟩, .slice none 0 0, .bool false, .string ⟨#[]⟩, .bool false, .string ⟨#[]⟩, .string ⟨#[]⟩] 31)).alloc (.cells #[.bool false, .int .i64 co, .bool true, .string ⟨#[]⟩, .slice none 0 0, .bool false, .string ⟨#[]⟩, .bool false, .string ⟨#[]⟩, .string ⟨#[]⟩] 31))) := hE
  clear hW r0 r1 hE hw c0 c1 c2
  go_wp2_with fail
  refine HW.out.mono ?_
  rintro r w2 ⟨v', rfl, ho, hx⟩
  obtain ⟨a', n', c', rfl⟩ := ownsRow_slice ho
  rw [hsz] at ho
  have q0 := hx.block HR0.out
  have q1 := hx.block HR1.out
  have hX2 : Ext w w2 := Ext.trans HE.out hx
  clear HW HR0 HR1 HE hx hsz
  have x0 := cell_of (i := 0) q0 rfl
  have z0 := frozen_of (i := 0) q0
  have y0 := cell_of (i := 0) q1 rfl
  have f0 := frozen_of (i := 0) q1
  have x1 := cell_of (i := 1) q0 rfl
  have z1 := frozen_of (i := 1) q0
  have y1 := cell_of (i := 1) q1 rfl
  have f1 := frozen_of (i := 1) q1
  have x2 := cell_of (i := 2) q0 rfl
  have z2 := frozen_of (i := 2) q0
  have y2 := cell_of (i := 2) q1 rfl
  have f2 := frozen_of (i := 2) q1
  have x3 := cell_of (i := 3) q0 rfl
  have z3 := frozen_of (i := 3) q0
  have y3 := cell_of (i := 3) q1 rfl
  have f3 := frozen_of (i := 3) q1
  have x4 := cell_of (i := 4) q0 rfl
  have z4 := frozen_of (i := 4) q0
  have y4 := cell_of (i := 4) q1 rfl
  have f4 := frozen_of (i := 4) q1
  have x5 := cell_of (i := 5) q0 rfl
  have z5 := frozen_of (i := 5) q0
  have y5 := cell_of (i := 5) q1 rfl
  have f5 := frozen_of (i := 5) q1
  have x6 := cell_of (i := 6) q0 rfl
  have z6 := frozen_of (i := 6) q0
  have y6 := cell_of (i := 6) q1 rfl
  have f6 := frozen_of (i := 6) q1
  have x7 := cell_of (i := 7) q0 rfl
  have z7 := frozen_of (i := 7) q0
  have y7 := cell_of (i := 7) q1 rfl
  have f7 := frozen_of (i := 7) q1
  have x8 := cell_of (i := 8) q0 rfl
  have z8 := frozen_of (i := 8) q0
  have y8 := cell_of (i := 8) q1 rfl
  have f8 := frozen_of (i := 8) q1
  have x9 := cell_of (i := 9) q0 rfl
  have z9 := frozen_of (i := 9) q0
  have y9 := cell_of (i := 9) q1 rfl
  have f9 := frozen_of (i := 9) q1
  simp only [List.getElem_toArray, List.getElem_cons_zero, List.getElem_cons_succ] at x0 y0 x1 y1 x2 y2 x3 y3 x4 y4 x5 y5 x6 y6 x7 y7 x8 y8 x9 y9
  have HX2 : Hid (Ext w w2) := hX2
  have HO : Hid (w2.ownsRow (w.heap.size + 1 + 1) 3 1 (.slice a' n' c') xs.length (xs.map (Value.int .i64))) := ho
  clear q0 q1 hX2 ho
  go_wp2
  refine bodyPost_ret (v := toldV false co true fu (.slice a' n' c') false ⟨#[]⟩ false ⟨#[]⟩ ⟨#[]⟩) (by simp [results, Tryz.results10, go_sem, x0, x1, x2, x3, x4, x5, x6, x7, x8, x9]) rfl ⟨_, rfl, ?_, ?_⟩
  · refine row_mono (base := w.heap.size + 1 + 1) ?_ (by omega)
    repeat (refine row_set ?_ (by omega))
    exact HO.out
  · repeat (first | refine Ext.set0 ?_ _ _ | refine Ext.set1 ?_ _ _)
    exact HX2.out

set_option maxRecDepth 100000 in
set_option maxHeartbeats 1000000 in
theorem told_R (b : Nat) (co : Int) (fu : ByteArray) (a : Option Addr) (n c : Nat) (sa : ByteArray) (xs : List Int) (w : World) (hb : xs.length * 8 ≤ 140737488355328) (h : RaisedAt w b co fu (.slice a n c) sa) (hI : Ints w (.slice a n c) xs) :
    Calls Tryz.prog 10 #[.iface 129 (.pointer (some ⟨b, 0, none⟩))] w fun r w' => ∃ v', r = .returned (toldV false co true fu v' true sa false ⟨#[]⟩ ⟨#[]⟩) ∧ w'.ownsRow w.heap.size 3 1 v' xs.length (xs.map (Value.int .i64)) ∧ Ext w w' := by
  have c0 : w.cell? ⟨b, 0, none⟩ = some (.int .i64 co) := cell_of h rfl
  have c1 : w.cell? ⟨b, 1, none⟩ = some (.string fu) := cell_of h rfl
  have c2 : w.cell? ⟨b, 2, none⟩ = some (.slice a n c) := cell_of h rfl
  have hlt := lt_of_block h
  have HI : Hid (Ints w (.slice a n c) xs) := hI
  have HH : Hid (RaisedAt w b co fu (.slice a n c) sa) := h
  clear h hI
  go_enter Tryz.func10, Tryz.ntmps10
  go_wp2_with fail
  refine (code_of b co _ ?hc).mono ?_
  case hc => exact (Below.cell (Ext.alloc2 _ _ _) hlt).trans c0
  rintro r w1 ⟨rfl, hw⟩
  obtain rfl := hw.symm
  have hE : Ext w ((w.alloc (.cells #[.bool false, .int .i64 0, .bool false, .string ⟨#[]⟩, .slice none 0 0, .bool false, .string ⟨#[]⟩, .bool false, .string ⟨#[]⟩, .string ⟨#[]⟩] 31)).alloc (.cells #[.bool false, .int .i64 co, .bool true, .string ⟨#[]⟩, .slice none 0 0, .bool false, .string ⟨#[]⟩, .bool false, .string ⟨#[]⟩, .string ⟨#[]⟩] 31)) := Ext.alloc2 _ _ _
  have r0 : ((w.alloc (.cells #[.bool false, .int .i64 0, .bool false, .string ⟨#[]⟩, .slice none 0 0, .bool false, .string ⟨#[]⟩, .bool false, .string ⟨#[]⟩, .string ⟨#[]⟩] 31)).alloc (.cells #[.bool false, .int .i64 co, .bool true, .string ⟨#[]⟩, .slice none 0 0, .bool false, .string ⟨#[]⟩, .bool false, .string ⟨#[]⟩, .string ⟨#[]⟩] 31)).heap[w.heap.size]? = some (.cells #[.bool false, .int .i64 0, .bool false, .string ⟨#[]⟩, .slice none 0 0, .bool false, .string ⟨#[]⟩, .bool false, .string ⟨#[]⟩, .string ⟨#[]⟩] 31) := blkOld _ (blk0 _ _)
  have r1 : ((w.alloc (.cells #[.bool false, .int .i64 0, .bool false, .string ⟨#[]⟩, .slice none 0 0, .bool false, .string ⟨#[]⟩, .bool false, .string ⟨#[]⟩, .string ⟨#[]⟩] 31)).alloc (.cells #[.bool false, .int .i64 co, .bool true, .string ⟨#[]⟩, .slice none 0 0, .bool false, .string ⟨#[]⟩, .bool false, .string ⟨#[]⟩, .string ⟨#[]⟩] 31)).heap[w.heap.size + 1]? = some (.cells #[.bool false, .int .i64 co, .bool true, .string ⟨#[]⟩, .slice none 0 0, .bool false, .string ⟨#[]⟩, .bool false, .string ⟨#[]⟩, .string ⟨#[]⟩] 31) := blk1 _ _ _
  have hW := where_of b fu a n c xs ((w.alloc (.cells #[.bool false, .int .i64 0, .bool false, .string ⟨#[]⟩, .slice none 0 0, .bool false, .string ⟨#[]⟩, .bool false, .string ⟨#[]⟩, .string ⟨#[]⟩] 31)).alloc (.cells #[.bool false, .int .i64 co, .bool true, .string ⟨#[]⟩, .slice none 0 0, .bool false, .string ⟨#[]⟩, .bool false, .string ⟨#[]⟩, .string ⟨#[]⟩] 31)) hb ((Below.cell hE hlt).trans c1) ((Below.cell hE hlt).trans c2) (HI.out.later hE)
  have HW : Hid (Calls Tryz.prog 98 #[.pointer (some ⟨b, 0, none⟩)] ((w.alloc (.cells #[.bool false, .int .i64 0, .bool false, .string ⟨#[]⟩, .slice none 0 0, .bool false, .string ⟨#[]⟩, .bool false, .string ⟨#[]⟩, .string ⟨#[]⟩] 31)).alloc (.cells #[.bool false, .int .i64 co, .bool true, .string ⟨#[]⟩, .slice none 0 0, .bool false, .string ⟨#[]⟩, .bool false, .string ⟨#[]⟩, .string ⟨#[]⟩] 31)) fun r w' => ∃ v', r = .returned (.agg #[.string fu, v']) ∧ w'.ownsRow ((w.alloc (.cells #[.bool false, .int .i64 0, .bool false, .string ⟨#[]⟩, .slice none 0 0, .bool false, .string ⟨#[]⟩, .bool false, .string ⟨#[]⟩, .string ⟨#[]⟩] 31)).alloc (.cells #[.bool false, .int .i64 co, .bool true, .string ⟨#[]⟩, .slice none 0 0, .bool false, .string ⟨#[]⟩, .bool false, .string ⟨#[]⟩, .string ⟨#[]⟩] 31)).heap.size 3 1 v' xs.length (xs.map (Value.int .i64)) ∧ Ext ((w.alloc (.cells #[.bool false, .int .i64 0, .bool false, .string ⟨#[]⟩, .slice none 0 0, .bool false, .string ⟨#[]⟩, .bool false, .string ⟨#[]⟩, .string ⟨#[]⟩] 31)).alloc (.cells #[.bool false, .int .i64 co, .bool true, .string ⟨#[]⟩, .slice none 0 0, .bool false, .string ⟨#[]⟩, .bool false, .string ⟨#[]⟩, .string ⟨#[]⟩] 31)) w') := hW
  have hsz : ((w.alloc (.cells #[.bool false, .int .i64 0, .bool false, .string ⟨#[]⟩, .slice none 0 0, .bool false, .string ⟨#[]⟩, .bool false, .string ⟨#[]⟩, .string ⟨#[]⟩] 31)).alloc (.cells #[.bool false, .int .i64 co, .bool true, .string ⟨#[]⟩, .slice none 0 0, .bool false, .string ⟨#[]⟩, .bool false, .string ⟨#[]⟩, .string ⟨#[]⟩] 31)).heap.size = w.heap.size + 1 + 1 := by simp
  have HR0 : Hid _ := r0
  have HR1 : Hid _ := r1
  have HE : Hid (Ext w ((w.alloc (.cells #[.bool false, .int .i64 0, .bool false, .string ⟨#[]⟩, .slice none 0 0, .bool false, .string ⟨#[]⟩, .bool false, .string ⟨#[]⟩, .string ⟨#[]⟩] 31)).alloc (.cells #[.bool false, .int .i64 co, .bool true, .string ⟨#[]⟩, .slice none 0 0, .bool false, .string ⟨#[]⟩, .bool false, .string ⟨#[]⟩, .string ⟨#[]⟩] 31))) := hE
  clear hW r0 r1 hE hw c0 c1 c2
  go_wp2_with fail
  refine HW.out.mono ?_
  rintro r w2 ⟨v', rfl, ho, hx⟩
  obtain ⟨a', n', c', rfl⟩ := ownsRow_slice ho
  rw [hsz] at ho
  have q0 := hx.block HR0.out
  have q1 := hx.block HR1.out
  have hX2 : Ext w w2 := Ext.trans HE.out hx
  clear HW HR0 HR1 HE hx hsz
  have x0 := cell_of (i := 0) q0 rfl
  have z0 := frozen_of (i := 0) q0
  have y0 := cell_of (i := 0) q1 rfl
  have f0 := frozen_of (i := 0) q1
  have x1 := cell_of (i := 1) q0 rfl
  have z1 := frozen_of (i := 1) q0
  have y1 := cell_of (i := 1) q1 rfl
  have f1 := frozen_of (i := 1) q1
  have x2 := cell_of (i := 2) q0 rfl
  have z2 := frozen_of (i := 2) q0
  have y2 := cell_of (i := 2) q1 rfl
  have f2 := frozen_of (i := 2) q1
  have x3 := cell_of (i := 3) q0 rfl
  have z3 := frozen_of (i := 3) q0
  have y3 := cell_of (i := 3) q1 rfl
  have f3 := frozen_of (i := 3) q1
  have x4 := cell_of (i := 4) q0 rfl
  have z4 := frozen_of (i := 4) q0
  have y4 := cell_of (i := 4) q1 rfl
  have f4 := frozen_of (i := 4) q1
  have x5 := cell_of (i := 5) q0 rfl
  have z5 := frozen_of (i := 5) q0
  have y5 := cell_of (i := 5) q1 rfl
  have f5 := frozen_of (i := 5) q1
  have x6 := cell_of (i := 6) q0 rfl
  have z6 := frozen_of (i := 6) q0
  have y6 := cell_of (i := 6) q1 rfl
  have f6 := frozen_of (i := 6) q1
  have x7 := cell_of (i := 7) q0 rfl
  have z7 := frozen_of (i := 7) q0
  have y7 := cell_of (i := 7) q1 rfl
  have f7 := frozen_of (i := 7) q1
  have x8 := cell_of (i := 8) q0 rfl
  have z8 := frozen_of (i := 8) q0
  have y8 := cell_of (i := 8) q1 rfl
  have f8 := frozen_of (i := 8) q1
  have x9 := cell_of (i := 9) q0 rfl
  have z9 := frozen_of (i := 9) q0
  have y9 := cell_of (i := 9) q1 rfl
  have f9 := frozen_of (i := 9) q1
  simp only [List.getElem_toArray, List.getElem_cons_zero, List.getElem_cons_succ] at x0 y0 x1 y1 x2 y2 x3 y3 x4 y4 x5 y5 x6 y6 x7 y7 x8 y8 x9 y9
  have HX2 : Hid (Ext w w2) := hX2
  have HO : Hid (w2.ownsRow (w.heap.size + 1 + 1) 3 1 (.slice a' n' c') xs.length (xs.map (Value.int .i64))) := ho
  clear q0 q1 hX2 ho
  have s3 : w.cell? ⟨b, 3, none⟩ = some (.string sa) := cell_of HH.out rfl
  go_wp2_with fail
  refine (said_of b sa _ ?hs).mono ?_
  case hs => exact (Below.cell (show Ext w _ by (repeat (first | refine Ext.set0 ?_ _ _ | refine Ext.set1 ?_ _ _)); exact HX2.out) hlt).trans s3
  rintro r w3 ⟨rfl, hw3⟩
  obtain rfl := hw3.symm
  go_wp2
  refine bodyPost_ret (v := toldV false co true fu (.slice a' n' c') true sa false ⟨#[]⟩ ⟨#[]⟩) (by simp [results, Tryz.results10, go_sem, x0, x1, x2, x3, x4, x5, x6, x7, x8, x9]) rfl ⟨_, rfl, ?_, ?_⟩
  · refine row_mono (base := w.heap.size + 1 + 1) ?_ (by omega)
    repeat (refine row_set ?_ (by omega))
    exact HO.out
  · repeat (first | refine Ext.set0 ?_ _ _ | refine Ext.set1 ?_ _ _)
    exact HX2.out

set_option maxRecDepth 100000 in
set_option maxHeartbeats 1000000 in
theorem told_K (b : Nat) (co : Int) (fu : ByteArray) (a : Option Addr) (n c : Nat) (ki ab : ByteArray) (xs : List Int) (w : World) (hb : xs.length * 8 ≤ 140737488355328) (h : LackingAt w b co fu (.slice a n c) ki ab) (hI : Ints w (.slice a n c) xs) :
    Calls Tryz.prog 10 #[.iface 132 (.pointer (some ⟨b, 0, none⟩))] w fun r w' => ∃ v', r = .returned (toldV false co true fu v' false ⟨#[]⟩ true ki ab) ∧ w'.ownsRow w.heap.size 3 1 v' xs.length (xs.map (Value.int .i64)) ∧ Ext w w' := by
  have c0 : w.cell? ⟨b, 0, none⟩ = some (.int .i64 co) := cell_of h rfl
  have c1 : w.cell? ⟨b, 1, none⟩ = some (.string fu) := cell_of h rfl
  have c2 : w.cell? ⟨b, 2, none⟩ = some (.slice a n c) := cell_of h rfl
  have hlt := lt_of_block h
  have HI : Hid (Ints w (.slice a n c) xs) := hI
  have HH : Hid (LackingAt w b co fu (.slice a n c) ki ab) := h
  clear h hI
  go_enter Tryz.func10, Tryz.ntmps10
  go_wp2_with fail
  refine (code_of b co _ ?hc).mono ?_
  case hc => exact (Below.cell (Ext.alloc2 _ _ _) hlt).trans c0
  rintro r w1 ⟨rfl, hw⟩
  obtain rfl := hw.symm
  have hE : Ext w ((w.alloc (.cells #[.bool false, .int .i64 0, .bool false, .string ⟨#[]⟩, .slice none 0 0, .bool false, .string ⟨#[]⟩, .bool false, .string ⟨#[]⟩, .string ⟨#[]⟩] 31)).alloc (.cells #[.bool false, .int .i64 co, .bool true, .string ⟨#[]⟩, .slice none 0 0, .bool false, .string ⟨#[]⟩, .bool false, .string ⟨#[]⟩, .string ⟨#[]⟩] 31)) := Ext.alloc2 _ _ _
  have r0 : ((w.alloc (.cells #[.bool false, .int .i64 0, .bool false, .string ⟨#[]⟩, .slice none 0 0, .bool false, .string ⟨#[]⟩, .bool false, .string ⟨#[]⟩, .string ⟨#[]⟩] 31)).alloc (.cells #[.bool false, .int .i64 co, .bool true, .string ⟨#[]⟩, .slice none 0 0, .bool false, .string ⟨#[]⟩, .bool false, .string ⟨#[]⟩, .string ⟨#[]⟩] 31)).heap[w.heap.size]? = some (.cells #[.bool false, .int .i64 0, .bool false, .string ⟨#[]⟩, .slice none 0 0, .bool false, .string ⟨#[]⟩, .bool false, .string ⟨#[]⟩, .string ⟨#[]⟩] 31) := blkOld _ (blk0 _ _)
  have r1 : ((w.alloc (.cells #[.bool false, .int .i64 0, .bool false, .string ⟨#[]⟩, .slice none 0 0, .bool false, .string ⟨#[]⟩, .bool false, .string ⟨#[]⟩, .string ⟨#[]⟩] 31)).alloc (.cells #[.bool false, .int .i64 co, .bool true, .string ⟨#[]⟩, .slice none 0 0, .bool false, .string ⟨#[]⟩, .bool false, .string ⟨#[]⟩, .string ⟨#[]⟩] 31)).heap[w.heap.size + 1]? = some (.cells #[.bool false, .int .i64 co, .bool true, .string ⟨#[]⟩, .slice none 0 0, .bool false, .string ⟨#[]⟩, .bool false, .string ⟨#[]⟩, .string ⟨#[]⟩] 31) := blk1 _ _ _
  have hW := where_of b fu a n c xs ((w.alloc (.cells #[.bool false, .int .i64 0, .bool false, .string ⟨#[]⟩, .slice none 0 0, .bool false, .string ⟨#[]⟩, .bool false, .string ⟨#[]⟩, .string ⟨#[]⟩] 31)).alloc (.cells #[.bool false, .int .i64 co, .bool true, .string ⟨#[]⟩, .slice none 0 0, .bool false, .string ⟨#[]⟩, .bool false, .string ⟨#[]⟩, .string ⟨#[]⟩] 31)) hb ((Below.cell hE hlt).trans c1) ((Below.cell hE hlt).trans c2) (HI.out.later hE)
  have HW : Hid (Calls Tryz.prog 98 #[.pointer (some ⟨b, 0, none⟩)] ((w.alloc (.cells #[.bool false, .int .i64 0, .bool false, .string ⟨#[]⟩, .slice none 0 0, .bool false, .string ⟨#[]⟩, .bool false, .string ⟨#[]⟩, .string ⟨#[]⟩] 31)).alloc (.cells #[.bool false, .int .i64 co, .bool true, .string ⟨#[]⟩, .slice none 0 0, .bool false, .string ⟨#[]⟩, .bool false, .string ⟨#[]⟩, .string ⟨#[]⟩] 31)) fun r w' => ∃ v', r = .returned (.agg #[.string fu, v']) ∧ w'.ownsRow ((w.alloc (.cells #[.bool false, .int .i64 0, .bool false, .string ⟨#[]⟩, .slice none 0 0, .bool false, .string ⟨#[]⟩, .bool false, .string ⟨#[]⟩, .string ⟨#[]⟩] 31)).alloc (.cells #[.bool false, .int .i64 co, .bool true, .string ⟨#[]⟩, .slice none 0 0, .bool false, .string ⟨#[]⟩, .bool false, .string ⟨#[]⟩, .string ⟨#[]⟩] 31)).heap.size 3 1 v' xs.length (xs.map (Value.int .i64)) ∧ Ext ((w.alloc (.cells #[.bool false, .int .i64 0, .bool false, .string ⟨#[]⟩, .slice none 0 0, .bool false, .string ⟨#[]⟩, .bool false, .string ⟨#[]⟩, .string ⟨#[]⟩] 31)).alloc (.cells #[.bool false, .int .i64 co, .bool true, .string ⟨#[]⟩, .slice none 0 0, .bool false, .string ⟨#[]⟩, .bool false, .string ⟨#[]⟩, .string ⟨#[]⟩] 31)) w') := hW
  have hsz : ((w.alloc (.cells #[.bool false, .int .i64 0, .bool false, .string ⟨#[]⟩, .slice none 0 0, .bool false, .string ⟨#[]⟩, .bool false, .string ⟨#[]⟩, .string ⟨#[]⟩] 31)).alloc (.cells #[.bool false, .int .i64 co, .bool true, .string ⟨#[]⟩, .slice none 0 0, .bool false, .string ⟨#[]⟩, .bool false, .string ⟨#[]⟩, .string ⟨#[]⟩] 31)).heap.size = w.heap.size + 1 + 1 := by simp
  have HR0 : Hid _ := r0
  have HR1 : Hid _ := r1
  have HE : Hid (Ext w ((w.alloc (.cells #[.bool false, .int .i64 0, .bool false, .string ⟨#[]⟩, .slice none 0 0, .bool false, .string ⟨#[]⟩, .bool false, .string ⟨#[]⟩, .string ⟨#[]⟩] 31)).alloc (.cells #[.bool false, .int .i64 co, .bool true, .string ⟨#[]⟩, .slice none 0 0, .bool false, .string ⟨#[]⟩, .bool false, .string ⟨#[]⟩, .string ⟨#[]⟩] 31))) := hE
  clear hW r0 r1 hE hw c0 c1 c2
  go_wp2_with fail
  refine HW.out.mono ?_
  rintro r w2 ⟨v', rfl, ho, hx⟩
  obtain ⟨a', n', c', rfl⟩ := ownsRow_slice ho
  rw [hsz] at ho
  have q0 := hx.block HR0.out
  have q1 := hx.block HR1.out
  have hX2 : Ext w w2 := Ext.trans HE.out hx
  clear HW HR0 HR1 HE hx hsz
  have x0 := cell_of (i := 0) q0 rfl
  have z0 := frozen_of (i := 0) q0
  have y0 := cell_of (i := 0) q1 rfl
  have f0 := frozen_of (i := 0) q1
  have x1 := cell_of (i := 1) q0 rfl
  have z1 := frozen_of (i := 1) q0
  have y1 := cell_of (i := 1) q1 rfl
  have f1 := frozen_of (i := 1) q1
  have x2 := cell_of (i := 2) q0 rfl
  have z2 := frozen_of (i := 2) q0
  have y2 := cell_of (i := 2) q1 rfl
  have f2 := frozen_of (i := 2) q1
  have x3 := cell_of (i := 3) q0 rfl
  have z3 := frozen_of (i := 3) q0
  have y3 := cell_of (i := 3) q1 rfl
  have f3 := frozen_of (i := 3) q1
  have x4 := cell_of (i := 4) q0 rfl
  have z4 := frozen_of (i := 4) q0
  have y4 := cell_of (i := 4) q1 rfl
  have f4 := frozen_of (i := 4) q1
  have x5 := cell_of (i := 5) q0 rfl
  have z5 := frozen_of (i := 5) q0
  have y5 := cell_of (i := 5) q1 rfl
  have f5 := frozen_of (i := 5) q1
  have x6 := cell_of (i := 6) q0 rfl
  have z6 := frozen_of (i := 6) q0
  have y6 := cell_of (i := 6) q1 rfl
  have f6 := frozen_of (i := 6) q1
  have x7 := cell_of (i := 7) q0 rfl
  have z7 := frozen_of (i := 7) q0
  have y7 := cell_of (i := 7) q1 rfl
  have f7 := frozen_of (i := 7) q1
  have x8 := cell_of (i := 8) q0 rfl
  have z8 := frozen_of (i := 8) q0
  have y8 := cell_of (i := 8) q1 rfl
  have f8 := frozen_of (i := 8) q1
  have x9 := cell_of (i := 9) q0 rfl
  have z9 := frozen_of (i := 9) q0
  have y9 := cell_of (i := 9) q1 rfl
  have f9 := frozen_of (i := 9) q1
  simp only [List.getElem_toArray, List.getElem_cons_zero, List.getElem_cons_succ] at x0 y0 x1 y1 x2 y2 x3 y3 x4 y4 x5 y5 x6 y6 x7 y7 x8 y8 x9 y9
  have HX2 : Hid (Ext w w2) := hX2
  have HO : Hid (w2.ownsRow (w.heap.size + 1 + 1) 3 1 (.slice a' n' c') xs.length (xs.map (Value.int .i64))) := ho
  clear q0 q1 hX2 ho
  have s3 : w.cell? ⟨b, 3, none⟩ = some (.string ki) := cell_of HH.out rfl
  have s4 : w.cell? ⟨b, 4, none⟩ = some (.string ab) := cell_of HH.out rfl
  go_wp2_with fail
  refine (lacks_drew b ki ab _ ?hs ?ht).mono ?_
  case hs => exact (Below.cell (show Ext w _ by (repeat (first | refine Ext.set0 ?_ _ _ | refine Ext.set1 ?_ _ _)); exact HX2.out) hlt).trans s3
  case ht => exact (Below.cell (show Ext w _ by (repeat (first | refine Ext.set0 ?_ _ _ | refine Ext.set1 ?_ _ _)); exact HX2.out) hlt).trans s4
  rintro r w3 ⟨rfl, hw3⟩
  obtain rfl := hw3.symm
  go_wp2
  refine bodyPost_ret (v := toldV false co true fu (.slice a' n' c') false ⟨#[]⟩ true ki ab) (by simp [results, Tryz.results10, go_sem, x0, x1, x2, x3, x4, x5, x6, x7, x8, x9]) rfl ⟨_, rfl, ?_, ?_⟩
  · refine row_mono (base := w.heap.size + 1 + 1) ?_ (by omega)
    refine row_drew ?_
    repeat (refine row_set ?_ (by omega))
    exact HO.out
  · refine Ext.drew ?_
    repeat (first | refine Ext.set0 ?_ _ _ | refine Ext.set1 ?_ _ _)
    exact HX2.out

end Go.Proofs.YtflcmdjekmmkkaaGreatDoor
