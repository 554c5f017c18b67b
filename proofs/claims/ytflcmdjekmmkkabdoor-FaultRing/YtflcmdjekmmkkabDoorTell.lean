/-
  What an error tells by its abilities (tellOf), for an error with a place.
-/
import Derived.Test.YtflcmdjekmmkkabDoorAsk
import Derived.Test.YtflcmdjekmmkkabDoorAsLocated
import Derived.Test.YtflcmdjekmmkkabDoorAsRaised
import Derived.Test.YtflcmdjekmmkkabDoorAsLacking
namespace Go.Proofs.YtflcmdjekmmkkabDoor
open Go.RowKit Go.Shelf
attribute [local go_sem] isNCoded isNLocated isNRaised isNLacking isNUnw isNAsI isNUnws isNNoted isGCoded isGLocated isGRaised isGLacking isGUnw isGAsI isGUnws isGNoted isCCoded isCLocated isCRaised isCLacking isCUnw isCAsI isCUnws isCNoted isLCoded isLLocated isLRaised isLLacking isLUnw isLAsI isLUnws isLNoted isRCoded isRLocated isRRaised isRLacking isRUnw isRAsI isRUnws isRNoted isHCoded isHLocated isHRaised isHLacking isHUnw isHAsI isHUnws isHNoted isOCoded isOLocated isORaised isOLacking isOUnw isOAsI isOUnws isONoted toCodedCoded toCodedLocated toCodedRaised toCodedLacking toCodedNoted toLocatedCoded toLocatedLocated toLocatedRaised toLocatedLacking toLocatedNoted toRaisedCoded toRaisedLocated toRaisedRaised toRaisedLacking toRaisedNoted toLackingCoded toLackingLocated toLackingRaised toLackingLacking toLackingNoted toNotedCoded toNotedLocated toNotedRaised toNotedLacking toNotedNoted mNUnwrap mNError mCCode mCError mLCode mLWhere mLError mRCode mRWhere mRSaid mRError mOUnwrap mGUnwrap mGError mHAs mHUnwrap

theorem set_blk {w : World} {b i : Nat} {cs : Array Value} {t : TypeId} (h : w.heap[b]? = some (.cells cs t)) (v : Value) : (w.setCell ⟨b, i, none⟩ v).heap[b]? = some (.cells (cs.setIfInBounds i v) t) := by
  simp only [World.setCell]
  rw [Array.getElem?_modify, if_pos rfl, h]
  simp
theorem set_oth {w : World} {b b' i : Nat} {o : Obj} (h : w.heap[b]? = some o) (hne : b ≠ b') (v : Value) : (w.setCell ⟨b', i, none⟩ v).heap[b]? = some o :=
  (Below.heap_setCell w ⟨b', i, none⟩ v b hne).trans h

set_option maxRecDepth 100000 in
set_option maxHeartbeats 4000000 in
theorem tellOf_L (b : Nat) (co : Int) (fu : ByteArray) (a : Option Addr) (n c : Nat) (xs : List Int) (w : World) (hb : xs.length * 8 ≤ 140737488355328) (hL : LocatedAt w b co fu (.slice a n c)) (hI : Ints w (.slice a n c) xs) :
    Calls Tryd.prog 34 #[.iface 86 (.pointer (some ⟨b, 0, none⟩))] w fun r w' => ∃ v', r = .returned (.agg #[.int .i64 co, .bool true, .bool false, .bool false, .string fu, .string ByteArray.empty, .string ByteArray.empty, .string ByteArray.empty, v']) ∧ w'.ownsRow w.heap.size 3 1 v' xs.length (xs.map (Value.int .i64)) ∧ Ext w w' := by
  have hlt : b < w.heap.size := lt_of_block hL
  have HL : Hid (LocatedAt w b co fu (.slice a n c)) := hL
  have HI : Hid (Ints w (.slice a n c) xs) := hI
  have c0 : (w.alloc (.cells #[.int .i64 0, .bool false, .bool false, .bool false, .string ByteArray.empty, .string ByteArray.empty, .string ByteArray.empty, .string ByteArray.empty, .slice none 0 0] 77)).cell? ⟨b, 0, none⟩ = some (.int .i64 co) := cell_of (blkOld _ hL) rfl
  clear hL hI
  go_enter Tryd.func34, Tryd.ntmps34
  go_wp2_with (first
    | (go_at_call 76; refine (code_of b co _ c0).mono ?_; rintro r w1 ⟨rfl, rfl⟩)
    | (go_at_call 24; refine (alone_any 86 (.pointer (some ⟨b, 0, none⟩)) _).mono ?_; rintro r w1 ⟨rfl, hx1⟩))
  have r0 := hx1.block (blkOld (.cells #[.nilIface] 64) (blkOld (.cells #[.int .i64 co, .bool false, .bool false, .bool false, .string ByteArray.empty, .string ByteArray.empty, .string ByteArray.empty, .string ByteArray.empty, .slice none 0 0] 77) (blk0 w (.cells #[.int .i64 0, .bool false, .bool false, .bool false, .string ByteArray.empty, .string ByteArray.empty, .string ByteArray.empty, .string ByteArray.empty, .slice none 0 0] 77))))
  have r1 := hx1.block (blkOld (.cells #[.nilIface] 64) (blk1 w (.cells #[.int .i64 0, .bool false, .bool false, .bool false, .string ByteArray.empty, .string ByteArray.empty, .string ByteArray.empty, .string ByteArray.empty, .slice none 0 0] 77) (.cells #[.int .i64 co, .bool false, .bool false, .bool false, .string ByteArray.empty, .string ByteArray.empty, .string ByteArray.empty, .string ByteArray.empty, .slice none 0 0] 77)))
  have r2 := hx1.block (blk2 w (.cells #[.int .i64 0, .bool false, .bool false, .bool false, .string ByteArray.empty, .string ByteArray.empty, .string ByteArray.empty, .string ByteArray.empty, .slice none 0 0] 77) (.cells #[.int .i64 co, .bool false, .bool false, .bool false, .string ByteArray.empty, .string ByteArray.empty, .string ByteArray.empty, .string ByteArray.empty, .slice none 0 0] 77) (.cells #[.nilIface] 64))
  have hxw : Ext w w1 := (Ext.alloc3 _ _ _ _).trans hx1
  have hAs := As_Located_hit 86 (.pointer (some ⟨b, 0, none⟩)) (fun _ => .iface 86 (.pointer (some ⟨b, 0, none⟩))) 1 0 (by omega) (by omega) (w.heap.size + 1 + 1) .nilIface w1 r2 (fun j h => absurd h (Nat.not_lt_zero _)) (fun j h => absurd h (Nat.not_lt_zero _)) (fun j h => absurd h (Nat.not_lt_zero _)) (fun w => isLLocated _ _ _)
  have HAS : Hid (Calls Tryd.prog 14 #[.iface 60 (.agg #[.iface 86 (.pointer (some ⟨b, 0, none⟩)), .int .i64 1]), .iface 66 (.pointer (some ⟨w.heap.size + 1 + 1, 0, none⟩))] w1 fun r w' => r = .returned (.bool true) ∧ Apart (w.heap.size + 1 + 1) w1 w' ∧ w'.heap[w.heap.size + 1 + 1]? = some (.cells #[.iface 86 (.pointer (some ⟨b, 0, none⟩))] 64)) := hAs
  clear hAs
  go_wp2_with fail
  refine HAS.out.mono ?_
  rintro r w2 ⟨rfl, hA2, hB2⟩
  have s0 := (hA2.block _ (lt_of_block r0) (by omega)).trans r0
  have s1 := (hA2.block _ (lt_of_block r1) (by omega)).trans r1
  have hx2 : Ext w w2 := hA2.ext hxw (by omega)
  have cB : w2.cell? ⟨w.heap.size + 1 + 1, 0, none⟩ = some (.iface 86 (.pointer (some ⟨b, 0, none⟩))) := cell_of hB2 rfl
  have hb2 := hx2.block HL.out
  have hwh := where_of b fu a n c xs w2 hb (cell_of hb2 rfl) (cell_of hb2 rfl) (HI.out.later hx2)
  have HW : Hid (Calls Tryd.prog 78 #[.pointer (some ⟨b, 0, none⟩)] w2 fun r w' => ∃ v', r = .returned (.agg #[.string fu, v']) ∧ w'.ownsRow w2.heap.size 3 1 v' xs.length (xs.map (Value.int .i64)) ∧ Ext w2 w') := hwh
  clear hwh hb2 r0 r1 r2 HAS hA2 hx1 c0 hxw
  have HS0 : Hid _ := s0
  have HS1 : Hid _ := s1
  clear s0 s1
  go_wp2_with (go_at_call 78; refine HW.out.mono ?_; rintro r w3 ⟨v', rfl, ho, hx3⟩; obtain ⟨a', n', c', rfl⟩ := ownsRow_slice ho)
  have t0 := (blkOld (.cells #[.string fu, .slice a' n' c'] 34) (hx3.block HS0.out))
  have t1 := (blkOld (.cells #[.string fu, .slice a' n' c'] 34) (hx3.block HS1.out))
  have t2 := blk0 w3 (.cells #[.string fu, .slice a' n' c'] 34)
  have hx4 : Ext w (w3.alloc (.cells #[.string fu, .slice a' n' c'] 34)) := (hx2.trans hx3).more _
  have ho4 := row_ext ho (Ext.alloc w3 (.cells #[.string fu, .slice a' n' c'] 34))
  have hsz : w.heap.size + 1 + 1 < w2.heap.size := lt_of_block hB2
  obtain ⟨W4, hW4⟩ : ∃ W4, w3.alloc (.cells #[.string fu, .slice a' n' c'] 34) = W4 := ⟨_, rfl⟩
  rw [hW4] at t0 t1 t2 hx4 ho4 ⊢
  have k0 : W4.cell? ⟨w3.heap.size, 0, none⟩ = some (.string fu) := cell_of t2 rfl
  have k1 : W4.cell? ⟨w3.heap.size, 1, none⟩ = some (.slice a' n' c') := cell_of t2 rfl
  have m1 : W4.cell? ⟨w.heap.size + 1, 1, none⟩ = some (.bool false) := cell_of t1 rfl
  have m4 : W4.cell? ⟨w.heap.size + 1, 4, none⟩ = some (.string ByteArray.empty) := cell_of t1 rfl
  have m8 : W4.cell? ⟨w.heap.size + 1, 8, none⟩ = some (.slice none 0 0) := cell_of t1 rfl
  have f1 : W4.frozen? ⟨w.heap.size + 1, 1, none⟩ = false := frozen_of t1
  have f4 : W4.frozen? ⟨w.heap.size + 1, 4, none⟩ = false := frozen_of t1
  have f8 : W4.frozen? ⟨w.heap.size + 1, 8, none⟩ = false := frozen_of t1
  have hne : ¬ w3.heap.size = w.heap.size + 1 := by have := hx3.size; omega
  have hne' : ¬ w.heap.size + 1 = w3.heap.size := fun e => hne e.symm
  have HT0 : Hid _ := t0
  have HT1 : Hid _ := t1
  have HX4 : Hid (Ext w W4) := hx4
  have HO4 : Hid _ := ho4
  clear t0 t1 t2 hx4 ho4 ho hx3 hx2 hW4 HW HS0 HS1 cB hB2
  go_region
  have u1 : ((((W4.setCell ⟨w.heap.size + 1, 1, none⟩ (.bool true)).setCell ⟨w.heap.size + 1, 4, none⟩ (.string fu)).setCell ⟨w.heap.size + 1, 8, none⟩ (.slice a' n' c')).drew).heap[w.heap.size + 1]? = some (.cells #[.int .i64 co, .bool true, .bool false, .bool false, .string fu, .string ByteArray.empty, .string ByteArray.empty, .string ByteArray.empty, .slice a' n' c'] 77) := set_blk (set_blk (set_blk HT1.out _) _) _
  have u0 : ((((W4.setCell ⟨w.heap.size + 1, 1, none⟩ (.bool true)).setCell ⟨w.heap.size + 1, 4, none⟩ (.string fu)).setCell ⟨w.heap.size + 1, 8, none⟩ (.slice a' n' c')).drew).heap[w.heap.size]? = some (.cells #[.int .i64 0, .bool false, .bool false, .bool false, .string ByteArray.empty, .string ByteArray.empty, .string ByteArray.empty, .string ByteArray.empty, .slice none 0 0] 77) := set_oth (set_oth (set_oth HT0.out (by omega) _) (by omega) _) (by omega) _
  have hx5 : Ext w ((((W4.setCell ⟨w.heap.size + 1, 1, none⟩ (.bool true)).setCell ⟨w.heap.size + 1, 4, none⟩ (.string fu)).setCell ⟨w.heap.size + 1, 8, none⟩ (.slice a' n' c')).drew) := (((HX4.out.set1 _ _).set1 _ _).set1 _ _).drew
  have ho5 : ((((W4.setCell ⟨w.heap.size + 1, 1, none⟩ (.bool true)).setCell ⟨w.heap.size + 1, 4, none⟩ (.string fu)).setCell ⟨w.heap.size + 1, 8, none⟩ (.slice a' n' c')).drew).ownsRow w2.heap.size 3 1 (.slice a' n' c') xs.length (xs.map (Value.int .i64)) := row_set (row_set (row_set HO4.out (by omega)) (by omega)) (by omega)
  obtain ⟨W5, hW5⟩ : ∃ W5, (((W4.setCell ⟨w.heap.size + 1, 1, none⟩ (.bool true)).setCell ⟨w.heap.size + 1, 4, none⟩ (.string fu)).setCell ⟨w.heap.size + 1, 8, none⟩ (.slice a' n' c')).drew = W5 := ⟨_, rfl⟩
  rw [hW5] at u1 u0 hx5 ho5 ⊢
  have HU1 : Hid _ := u1
  have HU0 : Hid _ := u0
  have HX5 : Hid (Ext w W5) := hx5
  have HO5 : Hid _ := ho5
  clear u1 u0 hx5 ho5 hW5 HT0 HT1 HX4 HO4 k0 k1 m1 m4 m8 f1 f4 f8 hne hne'
  go_wp2_with fail
  refine (alone_any 86 (.pointer (some ⟨b, 0, none⟩)) _).mono ?_
  rintro r w6 ⟨rfl, hx6⟩
  have hR := As_Raised_miss (fun _ => .iface 86 (.pointer (some ⟨b, 0, none⟩))) 1 1 (by omega) (by omega) (by omega) (.inl rfl) W5.heap.size w6 (fun j h => absurd h (by omega)) (fun j h => ⟨_, fun w => isLRaised _ _ _⟩) (fun j h h' => absurd h' (by omega))
  have HR : Hid (Calls Tryd.prog 14 #[.iface 60 (.agg #[.iface 86 (.pointer (some ⟨b, 0, none⟩)), .int .i64 1]), .iface 128 (.pointer (some ⟨W5.heap.size, 0, none⟩))] w6 fun r w' => r = .returned (.bool false) ∧ Ext w6 w') := hR
  have HX6 : Hid (Ext W5 w6) := (Ext.alloc _ _).trans hx6
  clear hR hx6
  go_wp2_with fail
  refine HR.out.mono ?_
  rintro r w7 ⟨rfl, hx7⟩
  have HX7 : Hid (Ext W5 w7) := HX6.out.trans hx7
  clear hx7 HX6 HR
  go_wp2_with fail
  refine (alone_any 86 (.pointer (some ⟨b, 0, none⟩)) _).mono ?_
  rintro r w8 ⟨rfl, hx8⟩
  have hK := As_Lacking_miss (fun _ => .iface 86 (.pointer (some ⟨b, 0, none⟩))) 1 1 (by omega) (by omega) (by omega) (.inl rfl) w7.heap.size w8 (fun j h => absurd h (by omega)) (fun j h => ⟨_, fun w => isLLacking _ _ _⟩) (fun j h h' => absurd h' (by omega))
  have HK : Hid (Calls Tryd.prog 14 #[.iface 60 (.agg #[.iface 86 (.pointer (some ⟨b, 0, none⟩)), .int .i64 1]), .iface 131 (.pointer (some ⟨w7.heap.size, 0, none⟩))] w8 fun r w' => r = .returned (.bool false) ∧ Ext w8 w') := hK
  have HX8 : Hid (Ext W5 w8) := HX7.out.trans ((Ext.alloc _ _).trans hx8)
  clear hK hx8 HX7
  go_wp2_with fail
  refine HK.out.mono ?_
  rintro r w9 ⟨rfl, hx9⟩
  have hx5 : Ext W5 w9 := HX8.out.trans hx9
  have y1 := hx5.block HU1.out
  have y0 := hx5.block HU0.out
  have ho9 := row_ext HO5.out hx5
  have HO9 : Hid (w9.ownsRow w2.heap.size 3 1 (.slice a' n' c') xs.length (xs.map (Value.int .i64))) := ho9
  have HXW : Hid (Ext w w9) := HX5.out.trans hx5
  clear ho9 hx5 hx9 HX8 HK HU1 HU0 HO5 HX5
  have p0 := cell_of (i := 0) y1 rfl
  have q0 := cell_of (i := 0) y0 rfl
  have z0 := frozen_of (i := 0) y0
  have p1 := cell_of (i := 1) y1 rfl
  have q1 := cell_of (i := 1) y0 rfl
  have z1 := frozen_of (i := 1) y0
  have p2 := cell_of (i := 2) y1 rfl
  have q2 := cell_of (i := 2) y0 rfl
  have z2 := frozen_of (i := 2) y0
  have p3 := cell_of (i := 3) y1 rfl
  have q3 := cell_of (i := 3) y0 rfl
  have z3 := frozen_of (i := 3) y0
  have p4 := cell_of (i := 4) y1 rfl
  have q4 := cell_of (i := 4) y0 rfl
  have z4 := frozen_of (i := 4) y0
  have p5 := cell_of (i := 5) y1 rfl
  have q5 := cell_of (i := 5) y0 rfl
  have z5 := frozen_of (i := 5) y0
  have p6 := cell_of (i := 6) y1 rfl
  have q6 := cell_of (i := 6) y0 rfl
  have z6 := frozen_of (i := 6) y0
  have p7 := cell_of (i := 7) y1 rfl
  have q7 := cell_of (i := 7) y0 rfl
  have z7 := frozen_of (i := 7) y0
  have p8 := cell_of (i := 8) y1 rfl
  have q8 := cell_of (i := 8) y0 rfl
  have z8 := frozen_of (i := 8) y0
  simp only [List.getElem_toArray, List.getElem_cons_zero, List.getElem_cons_succ] at p0 p1 p2 p3 p4 p5 p6 p7 p8 q0 q1 q2 q3 q4 q5 q6 q7 q8
  clear y0 y1
  go_wp2
  refine bodyPost_ret (v := .agg #[.int .i64 co, .bool true, .bool false, .bool false, .string fu, .string ByteArray.empty, .string ByteArray.empty, .string ByteArray.empty, .slice a' n' c']) (by simp [results, Tryd.results34, go_sem, q0, q1, q2, q3, q4, q5, q6, q7, q8]) rfl ⟨_, rfl, ?_, ?_⟩
  · refine row_mono ?_ (show w.heap.size ≤ w2.heap.size by omega)
    repeat (refine row_set ?_ (by omega))
    exact HO9.out
  · repeat (refine Ext.set0 ?_ _ _)
    exact HXW.out


end Go.Proofs.YtflcmdjekmmkkabDoor
