/-
  What an error tells by its abilities (tellOf), for one that has a number alone.
-/
import Derived.Test.YtflcmdjekmmkkaaGreatDoorTell
namespace Go.Proofs.YtflcmdjekmmkkaaGreatDoor
open Go.RowKit Go.Shelf
attribute [local go_sem] isNCoded isNLocated isNRaised isNLacking isNUnw isNAsI isNUnws isNNoted isGCoded isGLocated isGRaised isGLacking isGUnw isGAsI isGUnws isGNoted isCCoded isCLocated isCRaised isCLacking isCUnw isCAsI isCUnws isCNoted isLCoded isLLocated isLRaised isLLacking isLUnw isLAsI isLUnws isLNoted isRCoded isRLocated isRRaised isRLacking isRUnw isRAsI isRUnws isRNoted isKCoded isKLocated isKRaised isKLacking isKUnw isKAsI isKUnws isKNoted isHCoded isHLocated isHRaised isHLacking isHUnw isHAsI isHUnws isHNoted toCodedCoded toCodedLocated toCodedRaised toCodedLacking toCodedNoted toLocatedCoded toLocatedLocated toLocatedRaised toLocatedLacking toLocatedNoted toRaisedCoded toRaisedLocated toRaisedRaised toRaisedLacking toRaisedNoted toLackingCoded toLackingLocated toLackingRaised toLackingLacking toLackingNoted toNotedCoded toNotedLocated toNotedRaised toNotedLacking toNotedNoted mNUnwrap mNError mCCode mCError mLCode mLWhere mLError mRCode mRWhere mRSaid mRError mKCode mKWhere mKLacks mKError mGUnwrap mGError mHAs mHUnwrap

set_option maxRecDepth 100000 in
set_option maxHeartbeats 2000000 in
theorem tellOf_C (b : Nat) (co : Int) (w : World) (hC : CodedAt w b co) :
    Calls Tryz.prog 53 #[.iface 128 (.pointer (some ⟨b, 0, none⟩))] w fun r w' => r = .returned (.agg #[.int .i64 co, .bool false, .bool false, .bool false, .string ByteArray.empty, .string ByteArray.empty, .string ByteArray.empty, .string ByteArray.empty, .slice none 0 0]) ∧ Ext w w' := by
  have hlt : b < w.heap.size := lt_of_block hC
  have c0 : (w.alloc (.cells #[.int .i64 0, .bool false, .bool false, .bool false, .string ByteArray.empty, .string ByteArray.empty, .string ByteArray.empty, .string ByteArray.empty, .slice none 0 0] 106)).cell? ⟨b, 0, none⟩ = some (.int .i64 co) := cell_of (blkOld _ hC) rfl
  clear hC
  go_enter Tryz.func53, Tryz.ntmps53
  go_wp2_with fail
  refine (code_of b co _ c0).mono ?_
  rintro r w0 ⟨rfl, hw0⟩
  obtain rfl := hw0.symm
  go_wp2_with fail
  refine (alone_any 128 (.pointer (some ⟨b, 0, none⟩)) _).mono ?_
  rintro r w1 ⟨rfl, hx_w1⟩
  have X1 : Hid (Ext ((w.alloc (.cells #[.int .i64 0, .bool false, .bool false, .bool false, .string ByteArray.empty, .string ByteArray.empty, .string ByteArray.empty, .string ByteArray.empty, .slice none 0 0] 106)).alloc (.cells #[.int .i64 co, .bool false, .bool false, .bool false, .string ByteArray.empty, .string ByteArray.empty, .string ByteArray.empty, .string ByteArray.empty, .slice none 0 0] 106)) w1) := (Ext.alloc _ _).trans hx_w1
  clear hx_w1
  have hLocated := As_Located_miss (fun _ => .iface 128 (.pointer (some ⟨b, 0, none⟩))) 1 1 (by omega) (by omega) (by omega) (.inl rfl) (w.heap.size + 1 + 1) w1 (fun j h => absurd h (by omega)) (fun j h => ⟨_, fun w => isCLocated _ _ _⟩) (fun j h h' => absurd h' (by omega))
  have HLocated : Hid (Calls Tryz.prog 20 #[.iface 94 (.agg #[.iface 128 (.pointer (some ⟨b, 0, none⟩)), .int .i64 1]), .iface 100 (.pointer (some ⟨(w.heap.size + 1 + 1), 0, none⟩))] w1 fun r w' => r = .returned (.bool false) ∧ Ext w1 w') := hLocated
  clear hLocated
  go_wp2_with fail
  refine HLocated.out.mono ?_
  rintro r w2 ⟨rfl, hx_w2⟩
  have X2 : Hid (Ext ((w.alloc (.cells #[.int .i64 0, .bool false, .bool false, .bool false, .string ByteArray.empty, .string ByteArray.empty, .string ByteArray.empty, .string ByteArray.empty, .slice none 0 0] 106)).alloc (.cells #[.int .i64 co, .bool false, .bool false, .bool false, .string ByteArray.empty, .string ByteArray.empty, .string ByteArray.empty, .string ByteArray.empty, .slice none 0 0] 106)) w2) := X1.out.trans hx_w2
  clear hx_w2
  go_wp2_with fail
  refine (alone_any 128 (.pointer (some ⟨b, 0, none⟩)) _).mono ?_
  rintro r w3 ⟨rfl, hx_w3⟩
  have X3 : Hid (Ext ((w.alloc (.cells #[.int .i64 0, .bool false, .bool false, .bool false, .string ByteArray.empty, .string ByteArray.empty, .string ByteArray.empty, .string ByteArray.empty, .slice none 0 0] 106)).alloc (.cells #[.int .i64 co, .bool false, .bool false, .bool false, .string ByteArray.empty, .string ByteArray.empty, .string ByteArray.empty, .string ByteArray.empty, .slice none 0 0] 106)) w3) := X2.out.trans ((Ext.alloc _ _).trans hx_w3)
  clear hx_w3
  have hRaised := As_Raised_miss (fun _ => .iface 128 (.pointer (some ⟨b, 0, none⟩))) 1 1 (by omega) (by omega) (by omega) (.inl rfl) w2.heap.size w3 (fun j h => absurd h (by omega)) (fun j h => ⟨_, fun w => isCRaised _ _ _⟩) (fun j h h' => absurd h' (by omega))
  have HRaised : Hid (Calls Tryz.prog 20 #[.iface 94 (.agg #[.iface 128 (.pointer (some ⟨b, 0, none⟩)), .int .i64 1]), .iface 56 (.pointer (some ⟨w2.heap.size, 0, none⟩))] w3 fun r w' => r = .returned (.bool false) ∧ Ext w3 w') := hRaised
  clear hRaised
  go_wp2_with fail
  refine HRaised.out.mono ?_
  rintro r w4 ⟨rfl, hx_w4⟩
  have X4 : Hid (Ext ((w.alloc (.cells #[.int .i64 0, .bool false, .bool false, .bool false, .string ByteArray.empty, .string ByteArray.empty, .string ByteArray.empty, .string ByteArray.empty, .slice none 0 0] 106)).alloc (.cells #[.int .i64 co, .bool false, .bool false, .bool false, .string ByteArray.empty, .string ByteArray.empty, .string ByteArray.empty, .string ByteArray.empty, .slice none 0 0] 106)) w4) := X3.out.trans hx_w4
  clear hx_w4
  go_wp2_with fail
  refine (alone_any 128 (.pointer (some ⟨b, 0, none⟩)) _).mono ?_
  rintro r w5 ⟨rfl, hx_w5⟩
  have X5 : Hid (Ext ((w.alloc (.cells #[.int .i64 0, .bool false, .bool false, .bool false, .string ByteArray.empty, .string ByteArray.empty, .string ByteArray.empty, .string ByteArray.empty, .slice none 0 0] 106)).alloc (.cells #[.int .i64 co, .bool false, .bool false, .bool false, .string ByteArray.empty, .string ByteArray.empty, .string ByteArray.empty, .string ByteArray.empty, .slice none 0 0] 106)) w5) := X4.out.trans ((Ext.alloc _ _).trans hx_w5)
  clear hx_w5
  have hLacking := As_Lacking_miss (fun _ => .iface 128 (.pointer (some ⟨b, 0, none⟩))) 1 1 (by omega) (by omega) (by omega) (.inl rfl) w4.heap.size w5 (fun j h => absurd h (by omega)) (fun j h => ⟨_, fun w => isCLacking _ _ _⟩) (fun j h h' => absurd h' (by omega))
  have HLacking : Hid (Calls Tryz.prog 20 #[.iface 94 (.agg #[.iface 128 (.pointer (some ⟨b, 0, none⟩)), .int .i64 1]), .iface 159 (.pointer (some ⟨w4.heap.size, 0, none⟩))] w5 fun r w' => r = .returned (.bool false) ∧ Ext w5 w') := hLacking
  clear hLacking
  go_wp2_with fail
  refine HLacking.out.mono ?_
  rintro r w6 ⟨rfl, hx_w6⟩
  have hX6 := X5.out.trans hx_w6
  have y1 := hX6.block (blk1 w _ _)
  have y0 := hX6.block (blkOld _ (blk0 w _))
  have HX6 : Hid (Ext w w6) := (Ext.alloc2 _ _ _).trans hX6
  clear hX6 hx_w6
  have p0 := cell_of (i := 0) y1 rfl
  have q0 := cell_of (i := 0) y0 rfl
  have z0 := frozen_of (i := 0) y0
  have p1 := cell_of (i := 1) y1 rfl
  have q1 := cell_of (i := 1) y0 rfl
  have z1 := frozen_of (i := 1) y0
  have p2 := cell_of (i := 2) y1 rfl
  have q2 := cell_of (i := 2) y0 rfl
  have z2 := frozen_of (i := 2) y0
  have p3 := cell_of (i := 3) y1 rfl
  have q3 := cell_of (i := 3) y0 rfl
  have z3 := frozen_of (i := 3) y0
  have p4 := cell_of (i := 4) y1 rfl
  have q4 := cell_of (i := 4) y0 rfl
  have z4 := frozen_of (i := 4) y0
  have p5 := cell_of (i := 5) y1 rfl
  have q5 := cell_of (i := 5) y0 rfl
  have z5 := frozen_of (i := 5) y0
  have p6 := cell_of (i := 6) y1 rfl
  have q6 := cell_of (i := 6) y0 rfl
  have z6 := frozen_of (i := 6) y0
  have p7 := cell_of (i := 7) y1 rfl
  have q7 := cell_of (i := 7) y0 rfl
  have z7 := frozen_of (i := 7) y0
  have p8 := cell_of (i := 8) y1 rfl
  have q8 := cell_of (i := 8) y0 rfl
  have z8 := frozen_of (i := 8) y0
  simp only [List.getElem_toArray, List.getElem_cons_zero, List.getElem_cons_succ] at p0 q0 p1 q1 p2 q2 p3 q3 p4 q4 p5 q5 p6 q6 p7 q7 p8 q8
  clear y0 y1
  go_wp2
  refine bodyPost_ret (v := .agg #[.int .i64 co, .bool false, .bool false, .bool false, .string ByteArray.empty, .string ByteArray.empty, .string ByteArray.empty, .string ByteArray.empty, .slice none 0 0]) (by simp [results, Tryz.results53, go_sem, q0, q1, q2, q3, q4, q5, q6, q7, q8]) rfl ⟨rfl, ?_⟩
  repeat (refine Ext.set0 ?_ _ _)
  exact HX6.out


end Go.Proofs.YtflcmdjekmmkkaaGreatDoor
