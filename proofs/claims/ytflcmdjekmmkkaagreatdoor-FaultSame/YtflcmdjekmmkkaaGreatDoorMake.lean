/-
  espalierlaw1.Make: the error of an Op, and what the document says of it.
-/
import Derived.Test.YtflcmdjekmmkkaaGreatDoorMakeAid
import Derived.LoopTactic
import Derived.Deep.Cut
import Derived.Deep.CutRange
import Derived.Deep.CutBlock
namespace Go.Proofs.YtflcmdjekmmkkaaGreatDoor
open Go.RowKit
attribute [local go_sem] isNCoded isNLocated isNRaised isNLacking isNUnw isNAsI isNUnws isNNoted isGCoded isGLocated isGRaised isGLacking isGUnw isGAsI isGUnws isGNoted isCCoded isCLocated isCRaised isCLacking isCUnw isCAsI isCUnws isCNoted isLCoded isLLocated isLRaised isLLacking isLUnw isLAsI isLUnws isLNoted isRCoded isRLocated isRRaised isRLacking isRUnw isRAsI isRUnws isRNoted isKCoded isKLocated isKRaised isKLacking isKUnw isKAsI isKUnws isKNoted isHCoded isHLocated isHRaised isHLacking isHUnw isHAsI isHUnws isHNoted toCodedCoded toCodedLocated toCodedRaised toCodedLacking toCodedNoted toLocatedCoded toLocatedLocated toLocatedRaised toLocatedLacking toLocatedNoted toRaisedCoded toRaisedLocated toRaisedRaised toRaisedLacking toRaisedNoted toLackingCoded toLackingLocated toLackingRaised toLackingLacking toLackingNoted toNotedCoded toNotedLocated toNotedRaised toNotedLacking toNotedNoted mNUnwrap mNError mCCode mCError mLCode mLWhere mLError mRCode mRWhere mRSaid mRError mKCode mKWhere mKLacks mKError mGUnwrap mGError mHAs mHUnwrap

/-- The error that an Op makes, and what the document says of it: none; with a number; with a place, too; raised; lacking. -/
def Made (co : Int) (fu : ByteArray) (a : Option Addr) (n c : Nat) (sa ki ab : ByteArray) (xs : List Int) (B : Nat) (w : World) (e : Value) (t : Array Value) : Prop :=
  (e = .nilIface ∧ t = #[.bool true, .int .i64 0, .bool false, .string ⟨#[]⟩, .slice none 0 0, .bool false, .string ⟨#[]⟩, .bool false, .string ⟨#[]⟩, .string ⟨#[]⟩]) ∨
  (∃ b, B ≤ b ∧ e = .iface 128 (.pointer (some ⟨b, 0, none⟩)) ∧ CodedAt w b co ∧ t = #[.bool false, .int .i64 co, .bool false, .string ⟨#[]⟩, .slice none 0 0, .bool false, .string ⟨#[]⟩, .bool false, .string ⟨#[]⟩, .string ⟨#[]⟩]) ∨
  (∃ b a' n' c', B ≤ b ∧ e = .iface 127 (.pointer (some ⟨b, 0, none⟩)) ∧ LocatedAt w b co fu (.slice a' n' c') ∧ w.ownsRow B 3 1 (.slice a' n' c') xs.length (xs.map (Value.int .i64)) ∧ t = #[.bool false, .int .i64 co, .bool true, .string fu, .slice a n c, .bool false, .string ⟨#[]⟩, .bool false, .string ⟨#[]⟩, .string ⟨#[]⟩]) ∨
  (∃ b a' n' c', B ≤ b ∧ e = .iface 129 (.pointer (some ⟨b, 0, none⟩)) ∧ RaisedAt w b 25 fu (.slice a' n' c') sa ∧ w.ownsRow B 3 1 (.slice a' n' c') xs.length (xs.map (Value.int .i64)) ∧ t = #[.bool false, .int .i64 25, .bool true, .string fu, .slice a n c, .bool true, .string sa, .bool false, .string ⟨#[]⟩, .string ⟨#[]⟩]) ∨
  (∃ b a' n' c', B ≤ b ∧ e = .iface 132 (.pointer (some ⟨b, 0, none⟩)) ∧ LackingAt w b 13 fu (.slice a' n' c') ki ab ∧ w.ownsRow B 3 1 (.slice a' n' c') xs.length (xs.map (Value.int .i64)) ∧ t = #[.bool false, .int .i64 13, .bool true, .string fu, .slice a n c, .bool false, .string ⟨#[]⟩, .bool true, .string ki, .string ab])
theorem Made.far {co : Int} {fu : ByteArray} {a : Option Addr} {n c : Nat} {sa ki ab : ByteArray} {xs : List Int} {B : Nat} {w w' : World} {e : Value} {t : Array Value} (h : Made co fu a n c sa ki ab xs B w e t) (hf : Far B w w') : Made co fu a n c sa ki ab xs B w' e t := by
  rcases h with h | ⟨b, h1, h2, h3, h4⟩ | ⟨b, a', n', c', h1, h2, h3, h4, h5⟩ | ⟨b, a', n', c', h1, h2, h3, h4, h5⟩ | ⟨b, a', n', c', h1, h2, h3, h4, h5⟩
  · exact .inl h
  · exact .inr (.inl ⟨b, h1, h2, hf b _ h1 h3, h4⟩)
  · exact .inr (.inr (.inl ⟨b, a', n', c', h1, h2, hf b _ h1 h3, hf.ints h4, h5⟩))
  · exact .inr (.inr (.inr (.inl ⟨b, a', n', c', h1, h2, hf b _ h1 h3, hf.ints h4, h5⟩)))
  · exact .inr (.inr (.inr (.inr ⟨b, a', n', c', h1, h2, hf b _ h1 h3, hf.ints h4, h5⟩)))
/-- What lies there behind the first statement: the Op, room for the answer, the place with a path of its own. -/
structure Begun (w : World) (kd co : Int) (fu : ByteArray) (a : Option Addr) (n c : Nat) (sa ki ab : ByteArray) (na : Option Addr) (nn nc : Nat) (xs : List Int) (pb : Nat) (a' : Option Addr) (n' c' : Nat) (W : World) : Prop where
  op : W.heap[w.heap.size]? = some (.cells #[.int .i64 kd, .int .i64 co, .string fu, .slice a n c, .string sa, .string ki, .string ab, .slice na nn nc] 36)
  room : W.heap[w.heap.size + 1]? = some (.cells #[.bool false, .int .i64 0, .bool false, .string ⟨#[]⟩, .slice none 0 0, .bool false, .string ⟨#[]⟩, .bool false, .string ⟨#[]⟩, .string ⟨#[]⟩] 31)
  place : W.heap[pb]? = some (.cells #[.string fu, .slice a' n' c'] 29)
  low : w.heap.size + 1 < pb
  row : W.ownsRow (w.heap.size + 1 + 1) 3 1 (.slice a' n' c') xs.length (xs.map (Value.int .i64))
  apart : ∀ g, (Value.slice a' n' c').ownBlock = some g → ¬ g = pb
  ext : Ext w W
theorem Begun.later {w : World} {kd co : Int} {fu : ByteArray} {a : Option Addr} {n c : Nat} {sa ki ab : ByteArray} {na : Option Addr} {nn nc : Nat} {xs : List Int} {pb : Nat} {a' : Option Addr} {n' c' : Nat} {W W' : World} (h : Begun w kd co fu a n c sa ki ab na nn nc xs pb a' n' c' W) (hx : Ext W W') : Begun w kd co fu a n c sa ki ab na nn nc xs pb a' n' c' W' :=
  ⟨hx.block h.op, hx.block h.room, hx.block h.place, h.low, row_ext h.row hx, h.apart, h.ext.trans hx⟩
theorem Ext.far {w w' : World} (h : Ext w w') (B : Nat) : Far B w w' := fun _ _ _ ho => h.block ho
theorem Made.shape {co : Int} {fu : ByteArray} {a : Option Addr} {n c : Nat} {sa ki ab : ByteArray} {xs : List Int} {B : Nat} {w : World} {e : Value} {t : Array Value} (h : Made co fu a n c sa ki ab xs B w e t) : ∃ b0 i1 b2 s3 x y z b5 s6 b7 s8 s9, t = #[.bool b0, .int .i64 i1, .bool b2, .string s3, .slice x y z, .bool b5, .string s6, .bool b7, .string s8, .string s9] := by
  rcases h with ⟨_, h⟩ | ⟨_, _, _, _, h⟩ | ⟨_, _, _, _, _, _, _, _, h⟩ | ⟨_, _, _, _, _, _, _, _, h⟩ | ⟨_, _, _, _, _, _, _, _, h⟩
  all_goals exact ⟨_, _, _, _, _, _, _, _, _, _, _, _, h⟩
theorem Made.mono {co : Int} {fu : ByteArray} {a : Option Addr} {n c : Nat} {sa ki ab : ByteArray} {xs : List Int} {B B' : Nat} {w : World} {e : Value} {t : Array Value} (h : Made co fu a n c sa ki ab xs B w e t) (hB : B' ≤ B) : Made co fu a n c sa ki ab xs B' w e t := by
  rcases h with h | ⟨b, h1, h2, h3, h4⟩ | ⟨b, a', n', c', h1, h2, h3, h4, h5⟩ | ⟨b, a', n', c', h1, h2, h3, h4, h5⟩ | ⟨b, a', n', c', h1, h2, h3, h4, h5⟩
  · exact .inl h
  · exact .inr (.inl ⟨b, Nat.le_trans hB h1, h2, h3, h4⟩)
  · exact .inr (.inr (.inl ⟨b, a', n', c', Nat.le_trans hB h1, h2, h3, row_mono h4 hB, h5⟩))
  · exact .inr (.inr (.inr (.inl ⟨b, a', n', c', Nat.le_trans hB h1, h2, h3, row_mono h4 hB, h5⟩)))
  · exact .inr (.inr (.inr (.inr ⟨b, a', n', c', Nat.le_trans hB h1, h2, h3, row_mono h4 hB, h5⟩)))
theorem CodedAt.far {w w' : World} {B b : Nat} {co : Int} (hf : Far B w w') (hb : B ≤ b) (h : CodedAt w b co) : CodedAt w' b co := hf b _ hb h
theorem LocatedAt.far {w w' : World} {B b : Nat} {co : Int} {fu : ByteArray} {v : Value} (hf : Far B w w') (hb : B ≤ b) (h : LocatedAt w b co fu v) : LocatedAt w' b co fu v := hf b _ hb h
theorem RaisedAt.far {w w' : World} {B b : Nat} {co : Int} {fu : ByteArray} {v : Value} {sa : ByteArray} (hf : Far B w w') (hb : B ≤ b) (h : RaisedAt w b co fu v sa) : RaisedAt w' b co fu v sa := hf b _ hb h
theorem LackingAt.far {w w' : World} {B b : Nat} {co : Int} {fu : ByteArray} {v : Value} {ki ab : ByteArray} (hf : Far B w w') (hb : B ≤ b) (h : LackingAt w b co fu v ki ab) : LackingAt w' b co fu v ki ab := hf b _ hb h
theorem set10 {w : World} {b : Nat} {t : TypeId} {a0 a1 a2 a3 a4 a5 a6 a7 a8 a9 v0 v1 v2 v3 v4 v5 v6 v7 v8 v9 : Value} (h : w.heap[b]? = some (.cells #[a0, a1, a2, a3, a4, a5, a6, a7, a8, a9] t)) : ((((((((((w.setCell ⟨b, 0, none⟩ v0).setCell ⟨b, 1, none⟩ v1).setCell ⟨b, 2, none⟩ v2).setCell ⟨b, 3, none⟩ v3).setCell ⟨b, 4, none⟩ v4).setCell ⟨b, 5, none⟩ v5).setCell ⟨b, 6, none⟩ v6).setCell ⟨b, 7, none⟩ v7).setCell ⟨b, 8, none⟩ v8).setCell ⟨b, 9, none⟩ v9).heap[b]? = some (.cells #[v0, v1, v2, v3, v4, v5, v6, v7, v8, v9] t) :=
  (set_blk (i := 9) (set_blk (i := 8) (set_blk (i := 7) (set_blk (i := 6) (set_blk (i := 5) (set_blk (i := 4) (set_blk (i := 3) (set_blk (i := 2) (set_blk (i := 1) (set_blk (i := 0) h v0) v1) v2) v3) v4) v5) v6) v7) v8) v9).trans (by simp)
theorem far10 {B : Nat} {w w' : World} (h : Far B w w') {b : Nat} (hb : b < B) (v0 v1 v2 v3 v4 v5 v6 v7 v8 v9 : Value) : Far B w ((((((((((w'.setCell ⟨b, 0, none⟩ v0).setCell ⟨b, 1, none⟩ v1).setCell ⟨b, 2, none⟩ v2).setCell ⟨b, 3, none⟩ v3).setCell ⟨b, 4, none⟩ v4).setCell ⟨b, 5, none⟩ v5).setCell ⟨b, 6, none⟩ v6).setCell ⟨b, 7, none⟩ v7).setCell ⟨b, 8, none⟩ v8).setCell ⟨b, 9, none⟩ v9) := by
  repeat (refine Far.set ?_ hb _ _)
  exact h
theorem own_lt {W : World} {B : Nat} {e : TypeId} {v : Value} {n : Nat} {xs : List Value} (h : W.ownsRow B e 1 v n xs) : ∀ g, v.ownBlock = some g → B ≤ g ∧ g < W.heap.size := by
  rcases h.2 with ⟨rfl, _⟩ | ⟨g, cap, cur, rfl, h2, h3, _⟩
  · intro g h; cases h
  · intro g' h
    have e : g = g' := by simpa [Value.ownBlock] using h
    subst e
    exact ⟨h2, lt_of_block h3⟩


set_option maxRecDepth 100000 in
set_option maxHeartbeats 2000000 in
theorem make_any (kd co : Int) (fu : ByteArray) (a : Option Addr) (n c : Nat) (sa ki ab : ByteArray) (na : Option Addr) (nn nc : Nat) (xs : List Int) (w : World) (hb : xs.length * 8 ≤ 140737488355328) (hI : Ints w (.slice a n c) xs) :
    Calls Tryz.prog 9 #[.agg #[.int .i64 kd, .int .i64 co, .string fu, .slice a n c, .string sa, .string ki, .string ab, .slice na nn nc]] w fun r w' => ∃ e t, r = .returned (.tuple #[e, .agg t]) ∧ Made co fu a n c sa ki ab xs w.heap.size w' e t ∧ Ext w w' := by
  have HI : Hid (Ints w (.slice a n c) xs) := hI
  clear hI
  go_enter Tryz.func9, Tryz.ntmps9
  go_upto_region 1 with fail
  go_cut [4] from 8 (fun s4 wx => ∃ pb a' n' c', s4 = .pointer (some ⟨pb, 0, none⟩) ∧ Begun w kd co fu a n c sa ki ab na nn nc xs pb a' n' c' wx)
  case first =>
    go_region_held_law (fun w' => w'.cell? ⟨w.heap.size, 2, none⟩ = some (.string fu) ∧ w'.cell? ⟨w.heap.size, 3, none⟩ = some (.slice a n c))
      (first
        | go_keep
        | (go_split_ands
           refine ⟨?_, ?_⟩
           · (first | exact cell_of (hx1.block (blkOld _ (blk0 w _))) rfl | exact cell_of (blkOld _ (hx1.block (blkOld _ (blk0 w _)))) rfl | exact cell_of (hx1.block (blkOld _ (blkOld _ (blk0 w _)))) rfl | exact cell_of (set_oth (set_oth (hx1.block (blkOld _ (blkOld _ (blk0 w _)))) (by omega) _) (by omega) _) rfl)
           · (first | exact cell_of (hx1.block (blkOld _ (blk0 w _))) rfl | exact cell_of (blkOld _ (hx1.block (blkOld _ (blk0 w _)))) rfl | exact cell_of (hx1.block (blkOld _ (blkOld _ (blk0 w _)))) rfl | exact cell_of (set_oth (set_oth (hx1.block (blkOld _ (blkOld _ (blk0 w _)))) (by omega) _) (by omega) _) rfl)))
      ((refine step_append_ints _ (by rfl) _ (by rfl) (by rfl) a n c xs (by rfl) hb (by first | exact HI.out.later ((Ext.alloc2 w _ _).drew) | exact HI.out.later ((Ext.alloc3 w _ _ _).drew)) ?_; intro a' n' c' w1 ho1 hx1; (try have p0 := cell_of (i := 0) (hx1.block (blk2 w _ _ _)) rfl); (try have p1 := cell_of (i := 1) (hx1.block (blk2 w _ _ _)) rfl); (try have g0 := frozen_of (i := 0) (hx1.block (blk2 w _ _ _))); (try have g1 := frozen_of (i := 1) (hx1.block (blk2 w _ _ _)))))
    · go_wp2_with fail
      go_meet
      case rel =>
        have ho2 : w1.ownsRow (w.heap.size + 1 + 1) 3 1 (.slice a' n' c') xs.length (xs.map (Value.int .i64)) := by simpa using ho1
        have hx2 : Ext ((w.alloc (.cells #[.int .i64 kd, .int .i64 co, .string fu, .slice a n c, .string sa, .string ki, .string ab, .slice na nn nc] 36)).alloc (.cells #[.bool false, .int .i64 0, .bool false, .string ⟨#[]⟩, .slice none 0 0, .bool false, .string ⟨#[]⟩, .bool false, .string ⟨#[]⟩, .string ⟨#[]⟩] 31)) w1 := Ext.trans (Ext.drew (Ext.refl _)) hx1
        refine ⟨w1.heap.size, a', n', c', rfl, ⟨blkOld _ (hx2.block (blkOld _ (blk0 w _))), blkOld _ (hx2.block (blk1 w _ _)), blk0 _ _, lt_of_block (hx2.block (blk1 w _ _)), row_ext ho2 (Ext.alloc _ _), fun g hg e => ?_, ((Ext.alloc2 w _ _).trans hx2).more _⟩⟩
        have := (own_lt ho2 g hg).2
        omega
    · go_wp2_with fail
      go_meet
      case rel =>
        have ho2 : w1.ownsRow (w.heap.size + 1 + 1 + 1) 3 1 (.slice a' n' c') xs.length (xs.map (Value.int .i64)) := by simpa using ho1
        have hx2 : Ext (((w.alloc (.cells #[.int .i64 kd, .int .i64 co, .string fu, .slice a n c, .string sa, .string ki, .string ab, .slice na nn nc] 36)).alloc (.cells #[.bool false, .int .i64 0, .bool false, .string ⟨#[]⟩, .slice none 0 0, .bool false, .string ⟨#[]⟩, .bool false, .string ⟨#[]⟩, .string ⟨#[]⟩] 31)).alloc (.cells #[.string ⟨#[]⟩, .slice none 0 0] 29)) w1 := Ext.trans (Ext.drew (Ext.refl _)) hx1
        refine ⟨w.heap.size + 1 + 1, a', n', c', rfl, ⟨set_oth (set_oth (hx2.block (blkOld _ (blkOld _ (blk0 w _)))) (by omega) _) (by omega) _, set_oth (set_oth (hx2.block (blkOld _ (blk1 w _ _))) (by omega) _) (by omega) _, set_blk (set_blk (hx2.block (blk2 w _ _ _)) _) _, by omega, row_mono (row_set (row_set ho2 (by omega)) (by omega)) (by omega), fun g hg e => ?_, (((Ext.alloc3 w _ _ _).trans hx2).set2 _ _).set2 _ _⟩⟩
        have := (own_lt ho2 g hg).1
        omega
  case rest =>
    obtain ⟨pb, a', n', c', rfl, hB⟩ := hcut
    obtain ⟨W, rfl⟩ : ∃ W, W = wc := ⟨wc, rfl⟩
    have HB : Hid (Begun w kd co fu a n c sa ki ab na nn nc xs pb a' n' c' W) := hB
    have o0 := cell_of (i := 0) hB.op rfl
    have o1 := cell_of (i := 1) hB.op rfl
    have o2 := cell_of (i := 2) hB.op rfl
    have o3 := cell_of (i := 3) hB.op rfl
    have o4 := cell_of (i := 4) hB.op rfl
    have o5 := cell_of (i := 5) hB.op rfl
    have o6 := cell_of (i := 6) hB.op rfl
    simp only [List.getElem_toArray, List.getElem_cons_zero, List.getElem_cons_succ] at o0 o1 o2 o3 o4 o5 o6
    have hlt0 : w.heap.size < W.heap.size := lt_of_block hB.op
    clear hB
    have p0 := cell_of (i := 0) HB.out.place rfl
    have p1 := cell_of (i := 1) HB.out.place rfl
    simp only [List.getElem_toArray, List.getElem_cons_zero, List.getElem_cons_succ] at p0 p1
    have hltp : pb < W.heap.size := lt_of_block HB.out.place
    go_upto_block 0 with fail
    go_cut [5] from 8 (fun s5 wx => ∃ t, Made co fu a n c sa ki ab xs (W.heap.size + 1) wx s5 t ∧ wx.heap[W.heap.size]? = some (.cells t 31) ∧ Begun w kd co fu a n c sa ki ab na nn nc xs pb a' n' c' wx)
    case first =>

      by_cases k1 : kd = 1
      · have e1 : (kd == 1) = true := by simp [k1]
        clear k1
        by_cases hc : co = 0
        · subst hc
          go_wp2_with fail
          refine (new_ok _).mono ?_
          rintro r w2 ⟨rfl, hw2⟩
          have hx2 : Ext (W.alloc (.cells #[.bool true, .int .i64 0, .bool false, .string ⟨#[]⟩, .slice none 0 0, .bool false, .string ⟨#[]⟩, .bool false, .string ⟨#[]⟩, .string ⟨#[]⟩] 31)) w2 := by rw [hw2]; exact Ext.refl _
          clear hw2
          have X2 : Hid (Ext W w2) := (Ext.alloc W _).trans hx2
          have r1 := (Below.cell X2.out hlt0 (p := ⟨w.heap.size, 1, none⟩)).trans o1
          have hl2 : w.heap.size < w2.heap.size := Nat.lt_of_lt_of_le hlt0 X2.out.size
          go_wp2_with fail
          refine (refNew_ok _).mono ?_
          rintro r w3 ⟨rfl, hx3⟩
          have X3 : Hid (Ext W w3) := X2.out.trans hx3
          have q0 : w3.heap[W.heap.size]? = some (.cells #[.bool true, .int .i64 0, .bool false, .string ⟨#[]⟩, .slice none 0 0, .bool false, .string ⟨#[]⟩, .bool false, .string ⟨#[]⟩, .string ⟨#[]⟩] 31) := (hx2.trans hx3).block (blk0 W _)
          have x0 := cell_of (i := 0) q0 rfl
          have z0 := frozen_of (i := 0) q0
          have x1 := cell_of (i := 1) q0 rfl
          have z1 := frozen_of (i := 1) q0
          have x2 := cell_of (i := 2) q0 rfl
          have z2 := frozen_of (i := 2) q0
          have x3 := cell_of (i := 3) q0 rfl
          have z3 := frozen_of (i := 3) q0
          have x4 := cell_of (i := 4) q0 rfl
          have z4 := frozen_of (i := 4) q0
          have x5 := cell_of (i := 5) q0 rfl
          have z5 := frozen_of (i := 5) q0
          have x6 := cell_of (i := 6) q0 rfl
          have z6 := frozen_of (i := 6) q0
          have x7 := cell_of (i := 7) q0 rfl
          have z7 := frozen_of (i := 7) q0
          have x8 := cell_of (i := 8) q0 rfl
          have z8 := frozen_of (i := 8) q0
          have x9 := cell_of (i := 9) q0 rfl
          have z9 := frozen_of (i := 9) q0
          simp only [List.getElem_toArray, List.getElem_cons_zero, List.getElem_cons_succ] at x0 x1 x2 x3 x4 x5 x6 x7 x8 x9
          go_wp2_with fail
          go_meet
          case rel =>
            refine ⟨#[.bool true, .int .i64 0, .bool false, .string ⟨#[]⟩, .slice none 0 0, .bool false, .string ⟨#[]⟩, .bool false, .string ⟨#[]⟩, .string ⟨#[]⟩], .inl ⟨rfl, rfl⟩, (set10 q0), HB.out.later ?_⟩
            repeat (refine Ext.set0 ?_ _ _)
            exact X3.out
        · have hc' : (co == 0) = false := by simp [hc]
          go_wp2_with fail
          refine (new_any co _ hc').mono ?_
          rintro r w2 ⟨rfl, h2, hx2⟩
          have h2' : CodedAt w2 (W.heap.size + 1) co := by simpa using h2
          have X2 : Hid (Ext W w2) := (Ext.alloc W _).trans hx2
          have r1 := (Below.cell X2.out hlt0 (p := ⟨w.heap.size, 1, none⟩)).trans o1
          have hl2 : w.heap.size < w2.heap.size := Nat.lt_of_lt_of_le hlt0 X2.out.size
          go_wp2_with fail
          refine (refNew_any co _ hc').mono ?_
          rintro r w3 ⟨rfl, hx3⟩
          have X3 : Hid (Ext W w3) := X2.out.trans hx3
          have q0 : w3.heap[W.heap.size]? = some (.cells #[.bool true, .int .i64 0, .bool false, .string ⟨#[]⟩, .slice none 0 0, .bool false, .string ⟨#[]⟩, .bool false, .string ⟨#[]⟩, .string ⟨#[]⟩] 31) := (hx2.trans hx3).block (blk0 W _)
          have x0 := cell_of (i := 0) q0 rfl
          have z0 := frozen_of (i := 0) q0
          have x1 := cell_of (i := 1) q0 rfl
          have z1 := frozen_of (i := 1) q0
          have x2 := cell_of (i := 2) q0 rfl
          have z2 := frozen_of (i := 2) q0
          have x3 := cell_of (i := 3) q0 rfl
          have z3 := frozen_of (i := 3) q0
          have x4 := cell_of (i := 4) q0 rfl
          have z4 := frozen_of (i := 4) q0
          have x5 := cell_of (i := 5) q0 rfl
          have z5 := frozen_of (i := 5) q0
          have x6 := cell_of (i := 6) q0 rfl
          have z6 := frozen_of (i := 6) q0
          have x7 := cell_of (i := 7) q0 rfl
          have z7 := frozen_of (i := 7) q0
          have x8 := cell_of (i := 8) q0 rfl
          have z8 := frozen_of (i := 8) q0
          have x9 := cell_of (i := 9) q0 rfl
          have z9 := frozen_of (i := 9) q0
          simp only [List.getElem_toArray, List.getElem_cons_zero, List.getElem_cons_succ] at x0 x1 x2 x3 x4 x5 x6 x7 x8 x9
          go_wp2_with fail
          go_meet
          case rel =>
            refine ⟨#[.bool false, .int .i64 co, .bool false, .string ⟨#[]⟩, .slice none 0 0, .bool false, .string ⟨#[]⟩, .bool false, .string ⟨#[]⟩, .string ⟨#[]⟩], .inr (.inl ⟨W.heap.size + 1, Nat.le_refl _, by simp, CodedAt.far (far10 (Ext.far hx3 _) (Nat.lt_succ_self _) _ _ _ _ _ _ _ _ _ _) (Nat.le_refl _) h2', rfl⟩), (set10 q0), HB.out.later ?_⟩
            repeat (refine Ext.set0 ?_ _ _)
            exact X3.out
      · have e1 : (kd == 1) = false := by simp [k1]
        clear k1
        by_cases k2 : kd = 2
        · have e2 : (kd == 2) = true := by simp [k2]
          clear k2
          by_cases hc : co = 0
          · subst hc
            go_wp2_with fail
            refine (at_ok fu _ _ _ _).mono ?_
            rintro r w2 ⟨rfl, hx2⟩
            have X2 : Hid (Ext W w2) := (Ext.alloc W _).trans hx2
            have r1 := (Below.cell X2.out hlt0 (p := ⟨w.heap.size, 1, none⟩)).trans o1
            have r2 := (Below.cell X2.out hlt0 (p := ⟨w.heap.size, 2, none⟩)).trans o2
            have r3 := (Below.cell X2.out hlt0 (p := ⟨w.heap.size, 3, none⟩)).trans o3
            have hl2 : w.heap.size < w2.heap.size := Nat.lt_of_lt_of_le hlt0 X2.out.size
            go_wp2_with fail
            refine (refAt_ok fu _ _ _ _).mono ?_
            rintro r w3 ⟨rfl, hx3⟩
            have X3 : Hid (Ext W w3) := X2.out.trans hx3
            have q0 : w3.heap[W.heap.size]? = some (.cells #[.bool true, .int .i64 0, .bool false, .string ⟨#[]⟩, .slice none 0 0, .bool false, .string ⟨#[]⟩, .bool false, .string ⟨#[]⟩, .string ⟨#[]⟩] 31) := (hx2.trans hx3).block (blk0 W _)
            have x0 := cell_of (i := 0) q0 rfl
            have z0 := frozen_of (i := 0) q0
            have x1 := cell_of (i := 1) q0 rfl
            have z1 := frozen_of (i := 1) q0
            have x2 := cell_of (i := 2) q0 rfl
            have z2 := frozen_of (i := 2) q0
            have x3 := cell_of (i := 3) q0 rfl
            have z3 := frozen_of (i := 3) q0
            have x4 := cell_of (i := 4) q0 rfl
            have z4 := frozen_of (i := 4) q0
            have x5 := cell_of (i := 5) q0 rfl
            have z5 := frozen_of (i := 5) q0
            have x6 := cell_of (i := 6) q0 rfl
            have z6 := frozen_of (i := 6) q0
            have x7 := cell_of (i := 7) q0 rfl
            have z7 := frozen_of (i := 7) q0
            have x8 := cell_of (i := 8) q0 rfl
            have z8 := frozen_of (i := 8) q0
            have x9 := cell_of (i := 9) q0 rfl
            have z9 := frozen_of (i := 9) q0
            simp only [List.getElem_toArray, List.getElem_cons_zero, List.getElem_cons_succ] at x0 x1 x2 x3 x4 x5 x6 x7 x8 x9
            go_wp2_with fail
            go_meet
            case rel =>
              refine ⟨#[.bool true, .int .i64 0, .bool false, .string ⟨#[]⟩, .slice none 0 0, .bool false, .string ⟨#[]⟩, .bool false, .string ⟨#[]⟩, .string ⟨#[]⟩], .inl ⟨rfl, rfl⟩, (set10 q0), HB.out.later ?_⟩
              repeat (refine Ext.set0 ?_ _ _)
              exact X3.out
          · have hc' : (co == 0) = false := by simp [hc]
            go_wp2_with fail
            refine (at_any co hc' fu _ _ _ xs _ hb ((Ints.own HB.out.row).later (Ext.alloc _ _))).mono ?_
            rintro r w2 ⟨b, v2, rfl, hbb, h2, ho2, hx2⟩
            obtain ⟨a2, n2, c2, rfl⟩ := ownsRow_slice ho2
            have hbb' : W.heap.size + 1 ≤ b := by simpa using hbb
            have ho2' : w2.ownsRow (W.heap.size + 1) 3 1 (.slice a2 n2 c2) xs.length (xs.map (Value.int .i64)) := by simpa using ho2
            have X2 : Hid (Ext W w2) := (Ext.alloc W _).trans hx2
            have r1 := (Below.cell X2.out hlt0 (p := ⟨w.heap.size, 1, none⟩)).trans o1
            have r2 := (Below.cell X2.out hlt0 (p := ⟨w.heap.size, 2, none⟩)).trans o2
            have r3 := (Below.cell X2.out hlt0 (p := ⟨w.heap.size, 3, none⟩)).trans o3
            have hl2 : w.heap.size < w2.heap.size := Nat.lt_of_lt_of_le hlt0 X2.out.size
            go_wp2_with fail
            refine (refAt_any co fu _ _ _ _ hc').mono ?_
            rintro r w3 ⟨rfl, hx3⟩
            have X3 : Hid (Ext W w3) := X2.out.trans hx3
            have q0 : w3.heap[W.heap.size]? = some (.cells #[.bool true, .int .i64 0, .bool false, .string ⟨#[]⟩, .slice none 0 0, .bool false, .string ⟨#[]⟩, .bool false, .string ⟨#[]⟩, .string ⟨#[]⟩] 31) := (hx2.trans hx3).block (blk0 W _)
            have x0 := cell_of (i := 0) q0 rfl
            have z0 := frozen_of (i := 0) q0
            have x1 := cell_of (i := 1) q0 rfl
            have z1 := frozen_of (i := 1) q0
            have x2 := cell_of (i := 2) q0 rfl
            have z2 := frozen_of (i := 2) q0
            have x3 := cell_of (i := 3) q0 rfl
            have z3 := frozen_of (i := 3) q0
            have x4 := cell_of (i := 4) q0 rfl
            have z4 := frozen_of (i := 4) q0
            have x5 := cell_of (i := 5) q0 rfl
            have z5 := frozen_of (i := 5) q0
            have x6 := cell_of (i := 6) q0 rfl
            have z6 := frozen_of (i := 6) q0
            have x7 := cell_of (i := 7) q0 rfl
            have z7 := frozen_of (i := 7) q0
            have x8 := cell_of (i := 8) q0 rfl
            have z8 := frozen_of (i := 8) q0
            have x9 := cell_of (i := 9) q0 rfl
            have z9 := frozen_of (i := 9) q0
            simp only [List.getElem_toArray, List.getElem_cons_zero, List.getElem_cons_succ] at x0 x1 x2 x3 x4 x5 x6 x7 x8 x9
            go_wp2_with fail
            go_meet
            case rel =>
              refine ⟨#[.bool false, .int .i64 co, .bool true, .string fu, .slice a n c, .bool false, .string ⟨#[]⟩, .bool false, .string ⟨#[]⟩, .string ⟨#[]⟩], .inr (.inr (.inl ⟨b, a2, n2, c2, hbb', rfl, LocatedAt.far (far10 (Ext.far hx3 _) (Nat.lt_succ_self _) _ _ _ _ _ _ _ _ _ _) hbb' h2, Far.ints (far10 (Ext.far hx3 _) (Nat.lt_succ_self _) _ _ _ _ _ _ _ _ _ _) ho2', rfl⟩)), (set10 q0), HB.out.later ?_⟩
              repeat (refine Ext.set0 ?_ _ _)
              exact X3.out
        · have e2 : (kd == 2) = false := by simp [k2]
          clear k2
          by_cases k3 : kd = 3
          · have e3 : (kd == 3) = true := by simp [k3]
            clear k3
            go_wp2_with fail
            refine (raise_any sa fu _ _ _ xs _ hb ((Ints.own HB.out.row).later (Ext.alloc _ _))).mono ?_
            rintro r w2 ⟨b, v2, rfl, hbb, h2, ho2, hx2⟩
            obtain ⟨a2, n2, c2, rfl⟩ := ownsRow_slice ho2
            have hbb' : W.heap.size + 1 ≤ b := by simpa using hbb
            have ho2' : w2.ownsRow (W.heap.size + 1) 3 1 (.slice a2 n2 c2) xs.length (xs.map (Value.int .i64)) := by simpa using ho2
            have X2 : Hid (Ext W w2) := (Ext.alloc W _).trans hx2
            have r2 := (Below.cell X2.out hlt0 (p := ⟨w.heap.size, 2, none⟩)).trans o2
            have r3 := (Below.cell X2.out hlt0 (p := ⟨w.heap.size, 3, none⟩)).trans o3
            have r4 := (Below.cell X2.out hlt0 (p := ⟨w.heap.size, 4, none⟩)).trans o4
            have hl2 : w.heap.size < w2.heap.size := Nat.lt_of_lt_of_le hlt0 X2.out.size
            go_wp2_with fail
            refine (refRaise_any fu sa _ _ _ _).mono ?_
            rintro r w3 ⟨rfl, hx3⟩
            have X3 : Hid (Ext W w3) := X2.out.trans hx3
            have q0 : w3.heap[W.heap.size]? = some (.cells #[.bool true, .int .i64 0, .bool false, .string ⟨#[]⟩, .slice none 0 0, .bool false, .string ⟨#[]⟩, .bool false, .string ⟨#[]⟩, .string ⟨#[]⟩] 31) := (hx2.trans hx3).block (blk0 W _)
            have x0 := cell_of (i := 0) q0 rfl
            have z0 := frozen_of (i := 0) q0
            have x1 := cell_of (i := 1) q0 rfl
            have z1 := frozen_of (i := 1) q0
            have x2 := cell_of (i := 2) q0 rfl
            have z2 := frozen_of (i := 2) q0
            have x3 := cell_of (i := 3) q0 rfl
            have z3 := frozen_of (i := 3) q0
            have x4 := cell_of (i := 4) q0 rfl
            have z4 := frozen_of (i := 4) q0
            have x5 := cell_of (i := 5) q0 rfl
            have z5 := frozen_of (i := 5) q0
            have x6 := cell_of (i := 6) q0 rfl
            have z6 := frozen_of (i := 6) q0
            have x7 := cell_of (i := 7) q0 rfl
            have z7 := frozen_of (i := 7) q0
            have x8 := cell_of (i := 8) q0 rfl
            have z8 := frozen_of (i := 8) q0
            have x9 := cell_of (i := 9) q0 rfl
            have z9 := frozen_of (i := 9) q0
            simp only [List.getElem_toArray, List.getElem_cons_zero, List.getElem_cons_succ] at x0 x1 x2 x3 x4 x5 x6 x7 x8 x9
            go_wp2_with fail
            go_meet
            case rel =>
              refine ⟨#[.bool false, .int .i64 25, .bool true, .string fu, .slice a n c, .bool true, .string sa, .bool false, .string ⟨#[]⟩, .string ⟨#[]⟩], .inr (.inr (.inr (.inl ⟨b, a2, n2, c2, hbb', rfl, RaisedAt.far (far10 (Ext.far hx3 _) (Nat.lt_succ_self _) _ _ _ _ _ _ _ _ _ _) hbb' h2, Far.ints (far10 (Ext.far hx3 _) (Nat.lt_succ_self _) _ _ _ _ _ _ _ _ _ _) ho2', rfl⟩))), (set10 q0), HB.out.later ?_⟩
              repeat (refine Ext.set0 ?_ _ _)
              exact X3.out
          · have e3 : (kd == 3) = false := by simp [k3]
            clear k3
            by_cases k4 : kd = 4
            · have e4 : (kd == 4) = true := by simp [k4]
              clear k4
              go_wp2_with fail
              refine (lack_any ki ab fu _ _ _ xs _ hb ((Ints.own HB.out.row).later (Ext.alloc _ _))).mono ?_
              rintro r w2 ⟨b, v2, rfl, hbb, h2, ho2, hx2⟩
              obtain ⟨a2, n2, c2, rfl⟩ := ownsRow_slice ho2
              have hbb' : W.heap.size + 1 ≤ b := by simpa using hbb
              have ho2' : w2.ownsRow (W.heap.size + 1) 3 1 (.slice a2 n2 c2) xs.length (xs.map (Value.int .i64)) := by simpa using ho2
              have X2 : Hid (Ext W w2) := (Ext.alloc W _).trans hx2
              have r2 := (Below.cell X2.out hlt0 (p := ⟨w.heap.size, 2, none⟩)).trans o2
              have r3 := (Below.cell X2.out hlt0 (p := ⟨w.heap.size, 3, none⟩)).trans o3
              have r5 := (Below.cell X2.out hlt0 (p := ⟨w.heap.size, 5, none⟩)).trans o5
              have r6 := (Below.cell X2.out hlt0 (p := ⟨w.heap.size, 6, none⟩)).trans o6
              have hl2 : w.heap.size < w2.heap.size := Nat.lt_of_lt_of_le hlt0 X2.out.size
              go_wp2_with fail
              refine (refLack_any fu ki ab _ _ _ _).mono ?_
              rintro r w3 ⟨rfl, hx3⟩
              have X3 : Hid (Ext W w3) := X2.out.trans hx3
              have q0 : w3.heap[W.heap.size]? = some (.cells #[.bool true, .int .i64 0, .bool false, .string ⟨#[]⟩, .slice none 0 0, .bool false, .string ⟨#[]⟩, .bool false, .string ⟨#[]⟩, .string ⟨#[]⟩] 31) := (hx2.trans hx3).block (blk0 W _)
              have x0 := cell_of (i := 0) q0 rfl
              have z0 := frozen_of (i := 0) q0
              have x1 := cell_of (i := 1) q0 rfl
              have z1 := frozen_of (i := 1) q0
              have x2 := cell_of (i := 2) q0 rfl
              have z2 := frozen_of (i := 2) q0
              have x3 := cell_of (i := 3) q0 rfl
              have z3 := frozen_of (i := 3) q0
              have x4 := cell_of (i := 4) q0 rfl
              have z4 := frozen_of (i := 4) q0
              have x5 := cell_of (i := 5) q0 rfl
              have z5 := frozen_of (i := 5) q0
              have x6 := cell_of (i := 6) q0 rfl
              have z6 := frozen_of (i := 6) q0
              have x7 := cell_of (i := 7) q0 rfl
              have z7 := frozen_of (i := 7) q0
              have x8 := cell_of (i := 8) q0 rfl
              have z8 := frozen_of (i := 8) q0
              have x9 := cell_of (i := 9) q0 rfl
              have z9 := frozen_of (i := 9) q0
              simp only [List.getElem_toArray, List.getElem_cons_zero, List.getElem_cons_succ] at x0 x1 x2 x3 x4 x5 x6 x7 x8 x9
              go_wp2_with fail
              go_meet
              case rel =>
                refine ⟨#[.bool false, .int .i64 13, .bool true, .string fu, .slice a n c, .bool false, .string ⟨#[]⟩, .bool true, .string ki, .string ab], .inr (.inr (.inr (.inr ⟨b, a2, n2, c2, hbb', rfl, LackingAt.far (far10 (Ext.far hx3 _) (Nat.lt_succ_self _) _ _ _ _ _ _ _ _ _ _) hbb' h2, Far.ints (far10 (Ext.far hx3 _) (Nat.lt_succ_self _) _ _ _ _ _ _ _ _ _ _) ho2', rfl⟩))), (set10 q0), HB.out.later ?_⟩
                repeat (refine Ext.set0 ?_ _ _)
                exact X3.out
            · have e4 : (kd == 4) = false := by simp [k4]
              clear k4
              go_wp2_with fail
              go_meet
              case rel => exact ⟨_, .inl ⟨rfl, rfl⟩, blk0 W _, HB.out.later (Ext.alloc _ _)⟩
    case rest =>
      obtain ⟨t, hM, hT, hB2⟩ := hcut
      obtain ⟨b0, i1, b2, s3, x, y, z, b5, s6, b7, s8, s9, rfl⟩ := hM.shape
      have HM : Hid (Made co fu a n c sa ki ab xs (W.heap.size + 1) wc u5 #[.bool b0, .int .i64 i1, .bool b2, .string s3, .slice x y z, .bool b5, .string s6, .bool b7, .string s8, .string s9]) := hM
      have hlow := HB.out.low
      have hE := hB2.ext
      have hZ := hB2.room
      have hP := hB2.place
      have hap := hB2.apart
      have hrow := hB2.row
      have hrow1 := HB.out.row
      have hbn : (xs.length : Int) ≤ 17592186044416 := by omega
      clear hM o0 o1 o2 o3 o4 o5 o6 p0 p1 HB hB2
      rcases hrow.2 with ⟨hv, h0⟩ | ⟨g, cap, cur, hv, hg, hblk, h1, h2, h3, h4⟩
      · injection hv with e1 e2 e3
        subst e1; subst e2; subst e3
        have c1 : wc.cell? ⟨pb, 1, none⟩ = some (.slice none 0 0) := cell_of hP rfl
        have hF := Far.refl (W.heap.size + 1) wc
        clear hrow hrow1 hap
        go_wp2_with fail
        refine wp_loop_rounds 1 ?_
        rw [rounds_succ]
        go_wp2_with fail
        have x0 := cell_of (i := 0) hT rfl
        have y0 := cell_of (i := 0) hZ rfl
        have f0 := frozen_of (i := 0) hZ
        have x1 := cell_of (i := 1) hT rfl
        have y1 := cell_of (i := 1) hZ rfl
        have f1 := frozen_of (i := 1) hZ
        have x2 := cell_of (i := 2) hT rfl
        have y2 := cell_of (i := 2) hZ rfl
        have f2 := frozen_of (i := 2) hZ
        have x3 := cell_of (i := 3) hT rfl
        have y3 := cell_of (i := 3) hZ rfl
        have f3 := frozen_of (i := 3) hZ
        have x4 := cell_of (i := 4) hT rfl
        have y4 := cell_of (i := 4) hZ rfl
        have f4 := frozen_of (i := 4) hZ
        have x5 := cell_of (i := 5) hT rfl
        have y5 := cell_of (i := 5) hZ rfl
        have f5 := frozen_of (i := 5) hZ
        have x6 := cell_of (i := 6) hT rfl
        have y6 := cell_of (i := 6) hZ rfl
        have f6 := frozen_of (i := 6) hZ
        have x7 := cell_of (i := 7) hT rfl
        have y7 := cell_of (i := 7) hZ rfl
        have f7 := frozen_of (i := 7) hZ
        have x8 := cell_of (i := 8) hT rfl
        have y8 := cell_of (i := 8) hZ rfl
        have f8 := frozen_of (i := 8) hZ
        have x9 := cell_of (i := 9) hT rfl
        have y9 := cell_of (i := 9) hZ rfl
        have f9 := frozen_of (i := 9) hZ
        simp only [List.getElem_toArray, List.getElem_cons_zero, List.getElem_cons_succ] at x0 y0 x1 y1 x2 y2 x3 y3 x4 y4 x5 y5 x6 y6 x7 y7 x8 y8 x9 y9
        have HF : Hid (Far (W.heap.size + 1) wc wc) := hF
        have HE : Hid (Ext w wc) := hE
        clear hF hE hT hZ
        go_region
        all_goals
          go_wp2
          refine bodyPost_ret (v := .tuple #[u5, .agg #[.bool b0, .int .i64 i1, .bool b2, .string s3, .slice x y z, .bool b5, .string s6, .bool b7, .string s8, .string s9]]) (by simp [results, Tryz.results9, go_sem, y0, y1, y2, y3, y4, y5, y6, y7, y8, y9]) rfl ⟨u5, _, rfl, (HM.out.far ?_).mono (by omega), ?_⟩
          · refine Far.drew ?_
            repeat (refine Far.set ?_ (by omega) _ _)
            exact HF.out
          · refine Ext.drew ?_
            repeat (refine Ext.set1 ?_ _ _)
            exact HE.out
      · injection hv with e1 e2 e3
        subst e1; subst e2; subst e3
        have hgp : ¬ g = pb := hap g rfl
        have hgW : g < W.heap.size := (own_lt hrow1 g rfl).2
        clear hrow hrow1 hap h4
        go_wp2_with fail
        go_loopw [7] (fun i wr => ∃ (k : Nat) (cur' : Array Value), k ≤ xs.length ∧ i = .int .i64 k ∧ wr.heap[g]? = some (.cells cur' 3) ∧ cur'.size = c' ∧ wr.heap[pb]? = some (.cells #[.string fu, .slice (some ⟨g, 0, none⟩) xs.length c'] 29) ∧ wr.heap[W.heap.size]? = some (.cells #[.bool b0, .int .i64 i1, .bool b2, .string s3, .slice x y z, .bool b5, .string s6, .bool b7, .string s8, .string s9] 31) ∧ wr.heap[w.heap.size + 1]? = some (.cells #[.bool false, .int .i64 0, .bool false, .string ⟨#[]⟩, .slice none 0 0, .bool false, .string ⟨#[]⟩, .bool false, .string ⟨#[]⟩, .string ⟨#[]⟩] 31) ∧ Far (W.heap.size + 1) wc wr ∧ Ext w wr) (fun i _ => xs.length - (intOf i).toNat)
        case atStart => exact ⟨0, cur, Nat.zero_le _, rfl, hblk, by omega, hP, hT, hZ, Far.refl _ _, hE⟩
        case round =>
          obtain ⟨k, cur', hk, rfl, r1, r2, r3, r4, r5, r6, r7⟩ := hrel
          have c1 : wr.cell? ⟨pb, 1, none⟩ = some (.slice (some ⟨g, 0, none⟩) xs.length c') := cell_of r3 rfl
          by_cases hlt : k < xs.length
          · obtain ⟨u, hu⟩ : ∃ u, cur'[k]? = some u := ⟨_, Array.getElem?_eq_getElem (by omega)⟩
            have cg : wr.cell? ⟨g, k, none⟩ = some u := cell_of r1 hu
            have fg : wr.frozen? ⟨g, k, none⟩ = false := frozen_of r1
            have hlt' : (k : Int) < xs.length := by omega
            have hrelw : ∃ (k' : Nat) (cur'' : Array Value), k' ≤ xs.length ∧ Value.int .i64 ((k : Int) + 1) = .int .i64 k' ∧ (wr.setCell ⟨g, k, none⟩ (.int .i64 (-77))).heap[g]? = some (.cells cur'' 3) ∧ cur''.size = c' ∧ (wr.setCell ⟨g, k, none⟩ (.int .i64 (-77))).heap[pb]? = some (.cells #[.string fu, .slice (some ⟨g, 0, none⟩) xs.length c'] 29) ∧ (wr.setCell ⟨g, k, none⟩ (.int .i64 (-77))).heap[W.heap.size]? = some (.cells #[.bool b0, .int .i64 i1, .bool b2, .string s3, .slice x y z, .bool b5, .string s6, .bool b7, .string s8, .string s9] 31) ∧ (wr.setCell ⟨g, k, none⟩ (.int .i64 (-77))).heap[w.heap.size + 1]? = some (.cells #[.bool false, .int .i64 0, .bool false, .string ⟨#[]⟩, .slice none 0 0, .bool false, .string ⟨#[]⟩, .bool false, .string ⟨#[]⟩, .string ⟨#[]⟩] 31) ∧ Far (W.heap.size + 1) wc (wr.setCell ⟨g, k, none⟩ (.int .i64 (-77))) ∧ Ext w (wr.setCell ⟨g, k, none⟩ (.int .i64 (-77))) :=
              ⟨k + 1, cur'.setIfInBounds k (.int .i64 (-77)), hlt, by go_num, set_blk r1 _, by simpa using r2, set_oth r3 (fun e => hgp e.symm) _, set_oth r4 (by omega) _, set_oth r5 (by omega) _, r6.set (by omega) _ _, Below.setCell r7 (by have := hg; show w.heap.size ≤ g; omega) _⟩
            clear r1 r3 r4 r5 r6 r7 hu
            go_wp2
            go_roundw
            case rel => first | exact hrelw | ((repeat apply Exists.intro); exact ⟨hrelw, rfl⟩)
            case measure => simp [intOf]; omega
          · clear r1 r2 r3
            go_wp2_with fail
            have x0 := cell_of (i := 0) r4 rfl
            have y0 := cell_of (i := 0) r5 rfl
            have f0 := frozen_of (i := 0) r5
            have x1 := cell_of (i := 1) r4 rfl
            have y1 := cell_of (i := 1) r5 rfl
            have f1 := frozen_of (i := 1) r5
            have x2 := cell_of (i := 2) r4 rfl
            have y2 := cell_of (i := 2) r5 rfl
            have f2 := frozen_of (i := 2) r5
            have x3 := cell_of (i := 3) r4 rfl
            have y3 := cell_of (i := 3) r5 rfl
            have f3 := frozen_of (i := 3) r5
            have x4 := cell_of (i := 4) r4 rfl
            have y4 := cell_of (i := 4) r5 rfl
            have f4 := frozen_of (i := 4) r5
            have x5 := cell_of (i := 5) r4 rfl
            have y5 := cell_of (i := 5) r5 rfl
            have f5 := frozen_of (i := 5) r5
            have x6 := cell_of (i := 6) r4 rfl
            have y6 := cell_of (i := 6) r5 rfl
            have f6 := frozen_of (i := 6) r5
            have x7 := cell_of (i := 7) r4 rfl
            have y7 := cell_of (i := 7) r5 rfl
            have f7 := frozen_of (i := 7) r5
            have x8 := cell_of (i := 8) r4 rfl
            have y8 := cell_of (i := 8) r5 rfl
            have f8 := frozen_of (i := 8) r5
            have x9 := cell_of (i := 9) r4 rfl
            have y9 := cell_of (i := 9) r5 rfl
            have f9 := frozen_of (i := 9) r5
            simp only [List.getElem_toArray, List.getElem_cons_zero, List.getElem_cons_succ] at x0 y0 x1 y1 x2 y2 x3 y3 x4 y4 x5 y5 x6 y6 x7 y7 x8 y8 x9 y9
            have HF : Hid (Far (W.heap.size + 1) wc wr) := r6
            have HE : Hid (Ext w wr) := r7
            clear r6 r7 r4 r5
            go_region
            all_goals
              go_wp2
              refine bodyPost_ret (v := .tuple #[u5, .agg #[.bool b0, .int .i64 i1, .bool b2, .string s3, .slice x y z, .bool b5, .string s6, .bool b7, .string s8, .string s9]]) (by simp [results, Tryz.results9, go_sem, y0, y1, y2, y3, y4, y5, y6, y7, y8, y9]) rfl ⟨u5, _, rfl, (HM.out.far ?_).mono (by omega), ?_⟩
              · refine Far.drew ?_
                repeat (refine Far.set ?_ (by omega) _ _)
                exact HF.out
              · refine Ext.drew ?_
                repeat (refine Ext.set1 ?_ _ _)
                exact HE.out


end Go.Proofs.YtflcmdjekmmkkaaGreatDoor
