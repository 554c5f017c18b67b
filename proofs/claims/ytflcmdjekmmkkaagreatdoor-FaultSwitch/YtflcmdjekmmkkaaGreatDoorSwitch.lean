/-
  The walk of espalierlaw1.FaultSwitch: it returns true, in whatever memory in which errors.errorType is laid.
-/
import Derived.Test.YtflcmdjekmmkkaaGreatDoorMake
import Derived.Test.YtflcmdjekmmkkaaGreatDoorBegun
import Derived.Test.YtflcmdjekmmkkaaGreatDoorGreat
import Derived.Deep.RegionWith
import Derived.Deep.QuietTactic
import Derived.BigQuiet
import Derived.Deep.Cut
import Derived.Deep.CutRange
namespace Go.Proofs.YtflcmdjekmmkkaaGreatDoor
open Go.RowKit Go.Shelf
attribute [local go_sem] isNCoded isNLocated isNRaised isNLacking isNUnw isNAsI isNUnws isNNoted isGCoded isGLocated isGRaised isGLacking isGUnw isGAsI isGUnws isGNoted isCCoded isCLocated isCRaised isCLacking isCUnw isCAsI isCUnws isCNoted isLCoded isLLocated isLRaised isLLacking isLUnw isLAsI isLUnws isLNoted isRCoded isRLocated isRRaised isRLacking isRUnw isRAsI isRUnws isRNoted isKCoded isKLocated isKRaised isKLacking isKUnw isKAsI isKUnws isKNoted isHCoded isHLocated isHRaised isHLacking isHUnw isHAsI isHUnws isHNoted toCodedCoded toCodedLocated toCodedRaised toCodedLacking toCodedNoted toLocatedCoded toLocatedLocated toLocatedRaised toLocatedLacking toLocatedNoted toRaisedCoded toRaisedLocated toRaisedRaised toRaisedLacking toRaisedNoted toLackingCoded toLackingLocated toLackingRaised toLackingLacking toLackingNoted toNotedCoded toNotedLocated toNotedRaised toNotedLacking toNotedNoted mNUnwrap mNError mCCode mCError mLCode mLWhere mLError mRCode mRWhere mRSaid mRError mKCode mKWhere mKLacks mKError mGUnwrap mGError mHAs mHUnwrap

theorem greater_Kq (b : Nat) (ki ab : ByteArray) (w : World) (hk : ki.size ≤ 140737488355328) (ha : ab.size ≤ 140737488355328) (h : w.cell? ⟨b, 3, none⟩ = some (.string ki)) (h' : w.cell? ⟨b, 4, none⟩ = some (.string ab)) : Calls Tryz.prog 21 #[.iface 132 (.pointer (some ⟨b, 0, none⟩))] w fun r w' => r = .returned (.string (⟨#[108, 97, 99, 107, 105, 110, 103, 32]⟩ ++ ki ++ ⟨#[32]⟩ ++ ab)) ∧ ∃ m, w' = w.drewN m := by
  go_enter Tryz.func21, Tryz.ntmps21
  go_wp2_with (go_at_call 124; refine (lacks_drew b ki ab _ h h').mono ?_; rintro r w1 ⟨rfl, hw1⟩)
  go_ret
  exact ⟨rfl, 1, rfl⟩


set_option maxRecDepth 100000 in
set_option maxHeartbeats 2000000 in
theorem switch_true (kd co : Int) (fu : ByteArray) (a : Option Addr) (n c : Nat) (sa ki ab : ByteArray) (na : Option Addr) (nn nc : Nat) (nt : ByteArray) (xs : List Int) (w : World) (hG : Laid w) (hb : xs.length * 8 ≤ 140737488355328) (hsa : sa.size ≤ 140737488355328) (hki : ki.size ≤ 140737488355328) (hab : ab.size ≤ 140737488355328) (hI : Ints w (.slice a n c) xs) :
    Calls Tryz.prog 7 #[.agg #[.int .i64 kd, .int .i64 co, .string fu, .slice a n c, .string sa, .string ki, .string ab, .slice na nn nc], .string nt] w fun r w' => r = .returned (.bool true) ∧ Ext w w' := by
  have HI : Hid (Ints w (.slice a n c) xs) := hI
  have HG : Hid (Laid w) := hG
  clear hI hG
  go_enter Tryz.func7, Tryz.ntmps7
  go_wp2_with fail
  refine (begun_true _ (HG.out.later (Ext.alloc _ _))).mono ?_
  rintro r w1 ⟨rfl, hx1⟩
  have X1 : Hid (Ext w w1) := (Ext.alloc w _).trans hx1
  have hO : w1.heap[w.heap.size]? = some (.cells #[.int .i64 kd, .int .i64 co, .string fu, .slice a n c, .string sa, .string ki, .string ab, .slice na nn nc] 36) := hx1.block (blk0 w _)

  have o0 := cell_of (i := 0) hO rfl
  have o1 := cell_of (i := 1) hO rfl
  have o2 := cell_of (i := 2) hO rfl
  have o3 := cell_of (i := 3) hO rfl
  have o4 := cell_of (i := 4) hO rfl
  have o5 := cell_of (i := 5) hO rfl
  have o6 := cell_of (i := 6) hO rfl
  have o7 := cell_of (i := 7) hO rfl
  simp only [List.getElem_toArray, List.getElem_cons_zero, List.getElem_cons_succ] at o0 o1 o2 o3 o4 o5 o6 o7
  clear hx1 hO
  go_wp2_with fail
  refine (make_any kd co fu a n c sa ki ab na nn nc xs _ hb (HI.out.later X1.out)).mono ?_
  rintro r w2 ⟨e, t, rfl, hM, hx2⟩
  have X2 : Hid (Ext w w2) := X1.out.trans hx2
  clear o0 o1 o2 o3 o4 o5 o6 o7
  rcases hM with ⟨rfl, rfl⟩ | ⟨b, _, rfl, hE, rfl⟩ | ⟨b, a', n', c', _, rfl, hE, hR, rfl⟩ | ⟨b, a', n', c', _, rfl, hE, hR, rfl⟩ | ⟨b, a', n', c', _, rfl, hE, hR, rfl⟩
  · clear hx2
    go_upto_region 13 with fail
    go_quiet (first | (go_at_call 21; exact Calls.quiet_of_same (greater_nil _)))
    go_wp2
    go_ret
    exact ⟨rfl, (X2.out.more _).trans (by exact below_drewN (Below.refl _ _) _)⟩

  · skip
    have HE : Hid (CodedAt w2 b co) := hE
    skip
    have hlt := lt_of_block hE
    clear hx2 hE
    go_upto_region 13 with fail
    go_quiet (first | (go_at_call 21; exact Calls.quiet_of_same (greater_C _ _)) | (go_at_call 22; exact Calls.quiet_of_same (lesser_C _ _)))
    have hq : Ext w2 ((w2.alloc (.cells #[.bool false, .int .i64 co, .bool false, .string ⟨#[]⟩, .slice none 0 0, .bool false, .string ⟨#[]⟩, .bool false, .string ⟨#[]⟩, .string ⟨#[]⟩] 31)).drewN nq) := (Ext.alloc w2 _).trans (by exact below_drewN (Below.refl _ _) _)
    have hT0 : ((w2.alloc (.cells #[.bool false, .int .i64 co, .bool false, .string ⟨#[]⟩, .slice none 0 0, .bool false, .string ⟨#[]⟩, .bool false, .string ⟨#[]⟩, .string ⟨#[]⟩] 31)).drewN nq).heap[w2.heap.size]? = some (.cells #[.bool false, .int .i64 co, .bool false, .string ⟨#[]⟩, .slice none 0 0, .bool false, .string ⟨#[]⟩, .bool false, .string ⟨#[]⟩, .string ⟨#[]⟩] 31) := (show Ext (w2.alloc (.cells #[.bool false, .int .i64 co, .bool false, .string ⟨#[]⟩, .slice none 0 0, .bool false, .string ⟨#[]⟩, .bool false, .string ⟨#[]⟩, .string ⟨#[]⟩] 31)) ((w2.alloc (.cells #[.bool false, .int .i64 co, .bool false, .string ⟨#[]⟩, .slice none 0 0, .bool false, .string ⟨#[]⟩, .bool false, .string ⟨#[]⟩, .string ⟨#[]⟩] 31)).drewN nq) by exact below_drewN (Below.refl _ _) _).block (blk0 _ _)
    obtain ⟨W3, hW3⟩ : ∃ W3, (w2.alloc (.cells #[.bool false, .int .i64 co, .bool false, .string ⟨#[]⟩, .slice none 0 0, .bool false, .string ⟨#[]⟩, .bool false, .string ⟨#[]⟩, .string ⟨#[]⟩] 31)).drewN nq = W3 := ⟨_, rfl⟩
    rw [hW3] at hq hT0 ⊢
    have HQ : Hid (Ext w2 W3) := hq
    have HT : Hid (W3.heap[w2.heap.size]? = some (.cells #[.bool false, .int .i64 co, .bool false, .string ⟨#[]⟩, .slice none 0 0, .bool false, .string ⟨#[]⟩, .bool false, .string ⟨#[]⟩, .string ⟨#[]⟩] 31)) := hT0
    clear hW3 hq hT0
    go_wp2_with fail
    refine (wrap_few nt 128 (.pointer (some ⟨b, 0, none⟩)) 1 _ _ W3 (HG.out.later (X2.out.trans HQ.out)) (chain_C b W3) rfl (by decide)).mono ?_
    rintro r w4 ⟨b1, rfl, _, hN, hx4⟩
    have HN : Hid (NotedAt w4 b1 (.iface 128 (.pointer (some ⟨b, 0, none⟩))) nt) := hN
    have HX4 : Hid (Ext W3 w4) := hx4
    clear hN hx4
    go_wp2_with (first | (go_at_call 21; refine (greater_N _ _).mono ?_; rintro r w' ⟨rfl, hw'⟩; obtain rfl := hw'.symm) | (go_at_call 22; refine (lesser_N _ _).mono ?_; rintro r w' ⟨rfl, hw'⟩; obtain rfl := hw'.symm))
    refine (noted_unwrap b1 _ nt _ HN.out).mono ?_
    rintro r w' ⟨rfl, hw'⟩
    obtain rfl := hw'.symm
    go_wp2_with fail
    have hz : Ext w2 w4 := HQ.out.trans HX4.out
    refine (told_C b co _ (hz.block HE.out)).mono ?_
    clear hz
    rintro r w5 ⟨rfl, hx5⟩
    have HX5 : Hid (Ext w4 w5) := hx5
    have hT5 := (HX4.out.trans hx5).block HT.out
    have x0 := cell_of (i := 0) hT5 rfl
    have x1 := cell_of (i := 1) hT5 rfl
    have x2 := cell_of (i := 2) hT5 rfl
    have x3 := cell_of (i := 3) hT5 rfl
    have x4 := cell_of (i := 4) hT5 rfl
    have x5 := cell_of (i := 5) hT5 rfl
    have x6 := cell_of (i := 6) hT5 rfl
    have x7 := cell_of (i := 7) hT5 rfl
    have x8 := cell_of (i := 8) hT5 rfl
    have x9 := cell_of (i := 9) hT5 rfl
    simp only [List.getElem_toArray, List.getElem_cons_zero, List.getElem_cons_succ] at x0 x1 x2 x3 x4 x5 x6 x7 x8 x9
    have hl5 : w2.heap.size < w5.heap.size := lt_of_block hT5
    clear hx5 hT5
    go_wp2_with fail
    have XW : ∀ o, Ext w (w5.alloc o) := fun o => (X2.out.trans (HQ.out.trans (HX4.out.trans HX5.out))).more o
    refine (refSame_eq false co false ⟨#[]⟩ none none 0 0 0 0 false ⟨#[]⟩ false ⟨#[]⟩ ⟨#[]⟩ [] _ (by decide) (.inl ⟨rfl, rfl⟩) (.inl ⟨rfl, rfl⟩)).mono ?_
    rintro r w6 ⟨rfl, hx6⟩
    go_wp2
    go_ret
    exact ⟨rfl, (XW _).trans hx6⟩
  · have HR : Hid (Ints w2 (.slice a' n' c') xs) := Ints.own hR
    have HE : Hid (LocatedAt w2 b co fu (.slice a' n' c')) := hE
    skip
    have hlt := lt_of_block hE
    clear hx2 hE hR
    go_upto_region 13 with fail
    go_quiet (first | (go_at_call 21; exact Calls.quiet_of_same (greater_L _ _)) | (go_at_call 22; exact Calls.quiet_of_same (lesser_L _ _)))
    have hq : Ext w2 ((w2.alloc (.cells #[.bool false, .int .i64 co, .bool true, .string fu, .slice a n c, .bool false, .string ⟨#[]⟩, .bool false, .string ⟨#[]⟩, .string ⟨#[]⟩] 31)).drewN nq) := (Ext.alloc w2 _).trans (by exact below_drewN (Below.refl _ _) _)
    have hT0 : ((w2.alloc (.cells #[.bool false, .int .i64 co, .bool true, .string fu, .slice a n c, .bool false, .string ⟨#[]⟩, .bool false, .string ⟨#[]⟩, .string ⟨#[]⟩] 31)).drewN nq).heap[w2.heap.size]? = some (.cells #[.bool false, .int .i64 co, .bool true, .string fu, .slice a n c, .bool false, .string ⟨#[]⟩, .bool false, .string ⟨#[]⟩, .string ⟨#[]⟩] 31) := (show Ext (w2.alloc (.cells #[.bool false, .int .i64 co, .bool true, .string fu, .slice a n c, .bool false, .string ⟨#[]⟩, .bool false, .string ⟨#[]⟩, .string ⟨#[]⟩] 31)) ((w2.alloc (.cells #[.bool false, .int .i64 co, .bool true, .string fu, .slice a n c, .bool false, .string ⟨#[]⟩, .bool false, .string ⟨#[]⟩, .string ⟨#[]⟩] 31)).drewN nq) by exact below_drewN (Below.refl _ _) _).block (blk0 _ _)
    obtain ⟨W3, hW3⟩ : ∃ W3, (w2.alloc (.cells #[.bool false, .int .i64 co, .bool true, .string fu, .slice a n c, .bool false, .string ⟨#[]⟩, .bool false, .string ⟨#[]⟩, .string ⟨#[]⟩] 31)).drewN nq = W3 := ⟨_, rfl⟩
    rw [hW3] at hq hT0 ⊢
    have HQ : Hid (Ext w2 W3) := hq
    have HT : Hid (W3.heap[w2.heap.size]? = some (.cells #[.bool false, .int .i64 co, .bool true, .string fu, .slice a n c, .bool false, .string ⟨#[]⟩, .bool false, .string ⟨#[]⟩, .string ⟨#[]⟩] 31)) := hT0
    clear hW3 hq hT0
    go_wp2_with fail
    refine (wrap_few nt 127 (.pointer (some ⟨b, 0, none⟩)) 1 _ _ W3 (HG.out.later (X2.out.trans HQ.out)) (chain_L b W3) rfl (by decide)).mono ?_
    rintro r w4 ⟨b1, rfl, _, hN, hx4⟩
    have HN : Hid (NotedAt w4 b1 (.iface 127 (.pointer (some ⟨b, 0, none⟩))) nt) := hN
    have HX4 : Hid (Ext W3 w4) := hx4
    clear hN hx4
    go_wp2_with (first | (go_at_call 21; refine (greater_N _ _).mono ?_; rintro r w' ⟨rfl, hw'⟩; obtain rfl := hw'.symm) | (go_at_call 22; refine (lesser_N _ _).mono ?_; rintro r w' ⟨rfl, hw'⟩; obtain rfl := hw'.symm))
    refine (noted_unwrap b1 _ nt _ HN.out).mono ?_
    rintro r w' ⟨rfl, hw'⟩
    obtain rfl := hw'.symm
    go_wp2_with fail
    have hz : Ext w2 w4 := HQ.out.trans HX4.out
    refine (told_L b co fu a' n' c' xs _ hb (hz.block HE.out) (HR.out.later hz)).mono ?_
    clear hz
    rintro r w5 ⟨dv, rfl, ho5, hx5⟩
    obtain ⟨a5, n5, c5, rfl⟩ := ownsRow_slice ho5
    have HO5 : Hid (Ints w5 (.slice a5 n5 c5) xs) := Ints.own ho5
    have HX5 : Hid (Ext w4 w5) := hx5
    have hT5 := (HX4.out.trans hx5).block HT.out
    clear ho5
    have x0 := cell_of (i := 0) hT5 rfl
    have x1 := cell_of (i := 1) hT5 rfl
    have x2 := cell_of (i := 2) hT5 rfl
    have x3 := cell_of (i := 3) hT5 rfl
    have x4 := cell_of (i := 4) hT5 rfl
    have x5 := cell_of (i := 5) hT5 rfl
    have x6 := cell_of (i := 6) hT5 rfl
    have x7 := cell_of (i := 7) hT5 rfl
    have x8 := cell_of (i := 8) hT5 rfl
    have x9 := cell_of (i := 9) hT5 rfl
    simp only [List.getElem_toArray, List.getElem_cons_zero, List.getElem_cons_succ] at x0 x1 x2 x3 x4 x5 x6 x7 x8 x9
    have hl5 : w2.heap.size < w5.heap.size := lt_of_block hT5
    clear hx5 hT5
    go_wp2_with fail
    have XW : ∀ o, Ext w (w5.alloc o) := fun o => (X2.out.trans (HQ.out.trans (HX4.out.trans HX5.out))).more o
    refine (refSame_eq false co true fu a5 a n5 n c5 c false ⟨#[]⟩ false ⟨#[]⟩ ⟨#[]⟩ xs _ hb (HO5.out.later (Ext.alloc _ _)) (HI.out.later (XW _))).mono ?_
    rintro r w6 ⟨rfl, hx6⟩
    go_wp2
    go_ret
    exact ⟨rfl, (XW _).trans hx6⟩
  · have HR : Hid (Ints w2 (.slice a' n' c') xs) := Ints.own hR
    have HE : Hid (RaisedAt w2 b 25 fu (.slice a' n' c') sa) := hE
    have c3 : (w2.alloc (.cells #[.bool false, .int .i64 25, .bool true, .string fu, .slice a n c, .bool true, .string sa, .bool false, .string ⟨#[]⟩, .string ⟨#[]⟩] 31)).cell? ⟨b, 3, none⟩ = some (.string sa) := cell_of (blkOld _ hE) rfl
    have hlt := lt_of_block hE
    clear hx2 hE hR
    go_upto_region 13 with fail
    go_quiet (first | (go_at_call 21; exact Calls.quiet_of_same (greater_R b sa _ hsa (by simpa using c3))) | (go_at_call 22; exact Calls.quiet_of_same (lesser_R _ _)))
    have hq : Ext w2 ((w2.alloc (.cells #[.bool false, .int .i64 25, .bool true, .string fu, .slice a n c, .bool true, .string sa, .bool false, .string ⟨#[]⟩, .string ⟨#[]⟩] 31)).drewN nq) := (Ext.alloc w2 _).trans (by exact below_drewN (Below.refl _ _) _)
    have hT0 : ((w2.alloc (.cells #[.bool false, .int .i64 25, .bool true, .string fu, .slice a n c, .bool true, .string sa, .bool false, .string ⟨#[]⟩, .string ⟨#[]⟩] 31)).drewN nq).heap[w2.heap.size]? = some (.cells #[.bool false, .int .i64 25, .bool true, .string fu, .slice a n c, .bool true, .string sa, .bool false, .string ⟨#[]⟩, .string ⟨#[]⟩] 31) := (show Ext (w2.alloc (.cells #[.bool false, .int .i64 25, .bool true, .string fu, .slice a n c, .bool true, .string sa, .bool false, .string ⟨#[]⟩, .string ⟨#[]⟩] 31)) ((w2.alloc (.cells #[.bool false, .int .i64 25, .bool true, .string fu, .slice a n c, .bool true, .string sa, .bool false, .string ⟨#[]⟩, .string ⟨#[]⟩] 31)).drewN nq) by exact below_drewN (Below.refl _ _) _).block (blk0 _ _)
    obtain ⟨W3, hW3⟩ : ∃ W3, (w2.alloc (.cells #[.bool false, .int .i64 25, .bool true, .string fu, .slice a n c, .bool true, .string sa, .bool false, .string ⟨#[]⟩, .string ⟨#[]⟩] 31)).drewN nq = W3 := ⟨_, rfl⟩
    rw [hW3] at hq hT0 ⊢
    have HQ : Hid (Ext w2 W3) := hq
    have HT : Hid (W3.heap[w2.heap.size]? = some (.cells #[.bool false, .int .i64 25, .bool true, .string fu, .slice a n c, .bool true, .string sa, .bool false, .string ⟨#[]⟩, .string ⟨#[]⟩] 31)) := hT0
    clear hW3 hq hT0 c3
    go_wp2_with fail
    refine (wrap_few nt 129 (.pointer (some ⟨b, 0, none⟩)) 1 _ _ W3 (HG.out.later (X2.out.trans HQ.out)) (chain_R b W3) rfl (by decide)).mono ?_
    rintro r w4 ⟨b1, rfl, _, hN, hx4⟩
    have HN : Hid (NotedAt w4 b1 (.iface 129 (.pointer (some ⟨b, 0, none⟩))) nt) := hN
    have HX4 : Hid (Ext W3 w4) := hx4
    clear hN hx4
    go_wp2_with (first | (go_at_call 21; refine (greater_N _ _).mono ?_; rintro r w' ⟨rfl, hw'⟩; obtain rfl := hw'.symm) | (go_at_call 22; refine (lesser_N _ _).mono ?_; rintro r w' ⟨rfl, hw'⟩; obtain rfl := hw'.symm))
    refine (noted_unwrap b1 _ nt _ HN.out).mono ?_
    rintro r w' ⟨rfl, hw'⟩
    obtain rfl := hw'.symm
    go_wp2_with fail
    have hz : Ext w2 w4 := HQ.out.trans HX4.out
    refine (told_R b 25 fu a' n' c' sa xs _ hb (hz.block HE.out) (HR.out.later hz)).mono ?_
    clear hz
    rintro r w5 ⟨dv, rfl, ho5, hx5⟩
    obtain ⟨a5, n5, c5, rfl⟩ := ownsRow_slice ho5
    have HO5 : Hid (Ints w5 (.slice a5 n5 c5) xs) := Ints.own ho5
    have HX5 : Hid (Ext w4 w5) := hx5
    have hT5 := (HX4.out.trans hx5).block HT.out
    clear ho5
    have x0 := cell_of (i := 0) hT5 rfl
    have x1 := cell_of (i := 1) hT5 rfl
    have x2 := cell_of (i := 2) hT5 rfl
    have x3 := cell_of (i := 3) hT5 rfl
    have x4 := cell_of (i := 4) hT5 rfl
    have x5 := cell_of (i := 5) hT5 rfl
    have x6 := cell_of (i := 6) hT5 rfl
    have x7 := cell_of (i := 7) hT5 rfl
    have x8 := cell_of (i := 8) hT5 rfl
    have x9 := cell_of (i := 9) hT5 rfl
    simp only [List.getElem_toArray, List.getElem_cons_zero, List.getElem_cons_succ] at x0 x1 x2 x3 x4 x5 x6 x7 x8 x9
    have hl5 : w2.heap.size < w5.heap.size := lt_of_block hT5
    clear hx5 hT5
    go_wp2_with fail
    have XW : ∀ o, Ext w (w5.alloc o) := fun o => (X2.out.trans (HQ.out.trans (HX4.out.trans HX5.out))).more o
    refine (refSame_eq false 25 true fu a5 a n5 n c5 c true sa false ⟨#[]⟩ ⟨#[]⟩ xs _ hb (HO5.out.later (Ext.alloc _ _)) (HI.out.later (XW _))).mono ?_
    rintro r w6 ⟨rfl, hx6⟩
    go_wp2
    go_ret
    exact ⟨rfl, (XW _).trans hx6⟩
  · have HR : Hid (Ints w2 (.slice a' n' c') xs) := Ints.own hR
    have HE : Hid (LackingAt w2 b 13 fu (.slice a' n' c') ki ab) := hE
    have c3 : (w2.alloc (.cells #[.bool false, .int .i64 13, .bool true, .string fu, .slice a n c, .bool false, .string ⟨#[]⟩, .bool true, .string ki, .string ab] 31)).cell? ⟨b, 3, none⟩ = some (.string ki) := cell_of (blkOld _ hE) rfl
    have c4 : (w2.alloc (.cells #[.bool false, .int .i64 13, .bool true, .string fu, .slice a n c, .bool false, .string ⟨#[]⟩, .bool true, .string ki, .string ab] 31)).cell? ⟨b, 4, none⟩ = some (.string ab) := cell_of (blkOld _ hE) rfl
    have hlt := lt_of_block hE
    clear hx2 hE hR
    go_upto_region 13 with fail
    go_quiet (first | (go_at_call 21; exact Calls.quiet_of (greater_Kq b ki ab _ hki hab (by simpa using c3) (by simpa using c4))) | (go_at_call 22; exact Calls.quiet_of_same (lesser_K _ _)))
    have hq : Ext w2 ((w2.alloc (.cells #[.bool false, .int .i64 13, .bool true, .string fu, .slice a n c, .bool false, .string ⟨#[]⟩, .bool true, .string ki, .string ab] 31)).drewN nq) := (Ext.alloc w2 _).trans (by exact below_drewN (Below.refl _ _) _)
    have hT0 : ((w2.alloc (.cells #[.bool false, .int .i64 13, .bool true, .string fu, .slice a n c, .bool false, .string ⟨#[]⟩, .bool true, .string ki, .string ab] 31)).drewN nq).heap[w2.heap.size]? = some (.cells #[.bool false, .int .i64 13, .bool true, .string fu, .slice a n c, .bool false, .string ⟨#[]⟩, .bool true, .string ki, .string ab] 31) := (show Ext (w2.alloc (.cells #[.bool false, .int .i64 13, .bool true, .string fu, .slice a n c, .bool false, .string ⟨#[]⟩, .bool true, .string ki, .string ab] 31)) ((w2.alloc (.cells #[.bool false, .int .i64 13, .bool true, .string fu, .slice a n c, .bool false, .string ⟨#[]⟩, .bool true, .string ki, .string ab] 31)).drewN nq) by exact below_drewN (Below.refl _ _) _).block (blk0 _ _)
    obtain ⟨W3, hW3⟩ : ∃ W3, (w2.alloc (.cells #[.bool false, .int .i64 13, .bool true, .string fu, .slice a n c, .bool false, .string ⟨#[]⟩, .bool true, .string ki, .string ab] 31)).drewN nq = W3 := ⟨_, rfl⟩
    rw [hW3] at hq hT0 ⊢
    have HQ : Hid (Ext w2 W3) := hq
    have HT : Hid (W3.heap[w2.heap.size]? = some (.cells #[.bool false, .int .i64 13, .bool true, .string fu, .slice a n c, .bool false, .string ⟨#[]⟩, .bool true, .string ki, .string ab] 31)) := hT0
    clear hW3 hq hT0 c3 c4
    go_wp2_with fail
    refine (wrap_few nt 132 (.pointer (some ⟨b, 0, none⟩)) 1 _ _ W3 (HG.out.later (X2.out.trans HQ.out)) (chain_K b W3) rfl (by decide)).mono ?_
    rintro r w4 ⟨b1, rfl, _, hN, hx4⟩
    have HN : Hid (NotedAt w4 b1 (.iface 132 (.pointer (some ⟨b, 0, none⟩))) nt) := hN
    have HX4 : Hid (Ext W3 w4) := hx4
    clear hN hx4
    go_wp2_with (first | (go_at_call 21; refine (greater_N _ _).mono ?_; rintro r w' ⟨rfl, hw'⟩; obtain rfl := hw'.symm) | (go_at_call 22; refine (lesser_N _ _).mono ?_; rintro r w' ⟨rfl, hw'⟩; obtain rfl := hw'.symm))
    refine (noted_unwrap b1 _ nt _ HN.out).mono ?_
    rintro r w' ⟨rfl, hw'⟩
    obtain rfl := hw'.symm
    go_wp2_with fail
    have hz : Ext w2 w4 := HQ.out.trans HX4.out
    refine (told_K b 13 fu a' n' c' ki ab xs _ hb (hz.block HE.out) (HR.out.later hz)).mono ?_
    clear hz
    rintro r w5 ⟨dv, rfl, ho5, hx5⟩
    obtain ⟨a5, n5, c5, rfl⟩ := ownsRow_slice ho5
    have HO5 : Hid (Ints w5 (.slice a5 n5 c5) xs) := Ints.own ho5
    have HX5 : Hid (Ext w4 w5) := hx5
    have hT5 := (HX4.out.trans hx5).block HT.out
    clear ho5
    have x0 := cell_of (i := 0) hT5 rfl
    have x1 := cell_of (i := 1) hT5 rfl
    have x2 := cell_of (i := 2) hT5 rfl
    have x3 := cell_of (i := 3) hT5 rfl
    have x4 := cell_of (i := 4) hT5 rfl
    have x5 := cell_of (i := 5) hT5 rfl
    have x6 := cell_of (i := 6) hT5 rfl
    have x7 := cell_of (i := 7) hT5 rfl
    have x8 := cell_of (i := 8) hT5 rfl
    have x9 := cell_of (i := 9) hT5 rfl
    simp only [List.getElem_toArray, List.getElem_cons_zero, List.getElem_cons_succ] at x0 x1 x2 x3 x4 x5 x6 x7 x8 x9
    have hl5 : w2.heap.size < w5.heap.size := lt_of_block hT5
    clear hx5 hT5
    go_wp2_with fail
    have XW : ∀ o, Ext w (w5.alloc o) := fun o => (X2.out.trans (HQ.out.trans (HX4.out.trans HX5.out))).more o
    refine (refSame_eq false 13 true fu a5 a n5 n c5 c false ⟨#[]⟩ true ki ab xs _ hb (HO5.out.later (Ext.alloc _ _)) (HI.out.later (XW _))).mono ?_
    rintro r w6 ⟨rfl, hx6⟩
    go_wp2
    go_ret
    exact ⟨rfl, (XW _).trans hx6⟩

end Go.Proofs.YtflcmdjekmmkkaaGreatDoor
