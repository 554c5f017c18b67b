/-
  What NodeSized needs besides: a number's digits as a variable, chains of frames as trees, the methods of literals, variables and frames, a frame with no kids; by contracts.
-/
import Derived.Test.YtdikcdefpoolfaaNPlainF
import Derived.Test.YtdikcdefpoolfaaNMakeG
import Derived.Test.YtdikcdefpoolfaaNDig
namespace Go.Proofs.Ytdikcdefpoolfaa
open Go.RowKit
theorem digs_len : ∀ (f n : Nat), (digs f n).length ≤ f
  | 0, _ => Nat.le_refl _
  | f + 1, n => by
    rw [digs]
    split
    · simp
    · rw [List.length_append]; have := digs_len f (n / 10); simp; omega
theorem dec_len (n : Nat) (h : n ≤ 9223372036854775808) : (Lib.decDigits n).length ≤ 21 := by
  rw [← digs_dec 21 n (by decide) (Nat.lt_of_le_of_lt h (by decide)), List.length_map]
  exact digs_len 21 n
theorem itoaS_size (n : Int) (h0 : -9223372036854775808 ≤ n) (h1 : n ≤ 9223372036854775807) : (itoaS n).size ≤ 22 := by
  have e : (itoaS n).size = (Lib.itoa n).length := by simp [itoaS, ByteArray.size]
  rw [e, Lib.itoa]
  split
  · have := dec_len n.natAbs (by omega); simp; omega
  · have := dec_len n.toNat (by omega); omega
theorem use_itoa (n : Int) : useB (itoaS n).data.toList ↔ 1 ≤ n ∧ n ≤ 64 := by
  have e : (itoaS n).data.toList = Lib.itoa n := by simp [itoaS]
  rw [e, Lib.itoa]
  split
  · rename_i hn
    refine ⟨fun h => ?_, fun h => by omega⟩
    rcases h with h | ⟨m, _, _, h⟩
    · have : nameB (45 :: Lib.decDigits n.natAbs) = false := speltB_bad (k := 0) (by simp) (show nameI ((45 : UInt8).toNat : Int) = false by decide)
      rw [this] at h; cases h
    · have := dd_digits m 45 (by rw [← h]; simp)
      exact absurd this (by unfold isDg; decide)
  · rename_i hn
    have hno : nameB (Lib.decDigits n.toNat) = false := by
      refine speltB_digit (dd_len _) ?_
      exact (digI_iff _).2 (dd_digits n.toNat _ (List.getElem_mem _))
    refine ⟨fun h => ?_, fun h => .inr ⟨n.toNat, by omega, by omega, rfl⟩⟩
    rcases h with h | ⟨m, h1, h2, h⟩
    · rw [hno] at h; cases h
    · have := dd_inj h; omega
/-- The unit within so many frames. -/
def chain : Nat → T | 0 => .node nUnit 0 ⟨#[]⟩ [] | j + 1 => .node nFrame 0 ⟨#[]⟩ [chain j]
theorem chain_size : ∀ j, (chain j).size = j + 1 | 0 => rfl | j + 1 => by simp only [chain, T.size, T.sizeL, chain_size j]; omega
theorem chain_height : ∀ j, (chain j).height = j + 1 | 0 => rfl | j + 1 => by simp only [chain, T.height, T.heightL, chain_height j]; omega
theorem chain_bytes : ∀ j, (chain j).bytes = 0 | 0 => rfl | j + 1 => by simp only [chain, T.bytes, T.bytesL, chain_bytes j]; rfl
theorem chain_small (j : Nat) (h : j ≤ 200) : (chain j).small ↔ j + 1 ≤ 64 := by
  unfold T.small
  rw [chain_size, chain_height, chain_bytes]
  omega
theorem chain_kind : ∀ j : Nat, (chain j).kind ≠ ⟨#[]⟩
  | 0 => fun h => absurd (congrArg ByteArray.size h) (show ¬ nUnit.size = (ByteArray.mk #[]).size by decide)
  | j + 1 => fun h => absurd (congrArg ByteArray.size h) (show ¬ nFrame.size = (ByteArray.mk #[]).size by decide)
theorem via_lit (b : Nat) (c0 : Value) : Via 165 b c0 b := ⟨fun W _ => mLitKind b W, fun W _ => mLitNum b W, fun W _ => mLitText b W, fun W _ => mLitLen b W, fun W _ => mLitKid b W⟩
theorem via_fra (b : Nat) (c0 : Value) : Via 179 b c0 b := ⟨fun W _ => mFraKind b W, fun W _ => mFraNum b W, fun W _ => mFraText b W, fun W _ => mFraLen b W, fun W _ => mFraKid b W⟩
theorem nd_lit {w : World} {b : Nat} {k x : ByteArray} {n : Int} {v : Value} (h : LitAt w b k n x v) (hk : k.size ≤ 140737488351232) (hx : x.size ≤ 140737488351232) (d : Nat) : Nd (fun _ => True) w (d + 1) (.iface 165 (.pointer (some ⟨b, 0, none⟩))) (.node k n x []) := by
  obtain ⟨c0, c1, c2, c3, _⟩ := five_of h
  exact ⟨_, b, _, b, _, _, rfl, via_lit b _, trivial, trivial, c0, c0, c1, c2, c3, hk, hx, by simp, .inl rfl⟩
theorem nd_fra {w : World} {b base : Nat} {k x : ByteArray} {n : Int} {qa : Option Addr} {qc d : Nat} {u : Value} {t : T} (h : FrameAt w b k n x (.slice qa 1 qc)) (ho : w.ownsRow base 38 1 (.slice qa 1 qc) 1 [u]) (hk : k.size ≤ 140737488351232) (hx : x.size ≤ 140737488351232) (hu : Nd (fun _ => True) w d u t) : Nd (fun _ => True) w (d + 1) (.iface 179 (.pointer (some ⟨b, 0, none⟩))) (.node k n x [t]) := by
  obtain ⟨c0, c1, c2, c3⟩ := four_of h
  obtain ⟨g, cap, e, hc⟩ := row_one ho
  cases e
  refine ⟨_, b, _, b, _, _, rfl, via_fra b _, trivial, trivial, c0, c0, c1, c2, c3, hk, hx, by simp, .inr ⟨g, 0, rfl, trivial, fun j hj => ?_⟩⟩
  have : j = 0 := by simpa using hj
  subst this
  exact ⟨u, hc, hu⟩
set_option maxRecDepth 100000 in
set_option maxHeartbeats 2000000 in
theorem make_frame_nil (w : World) : Calls Try.prog 5 #[.agg #[.string nFrame, .int .i64 0, .string ⟨#[]⟩, .slice none 0 0], .slice none 0 0] w fun e w' => Ext w w' ∧ ∃ b, e = .returned (.tuple #[.pointer none, ErrV b]) ∧ Fa.CodedAt w' b 11 := by
  obtain ⟨M, hM⟩ : ∃ M, w.alloc (.cells #[.string nFrame, .int .i64 0, .string ⟨#[]⟩, .slice none 0 0] 30) = M := ⟨_, rfl⟩
  have XM := hid (show Ext w M from hM ▸ Ext.alloc _ _)
  have HM0 := hid (show M.heap[w.heap.size]? = some (.cells #[.string nFrame, .int .i64 0, .string ⟨#[]⟩, .slice none 0 0] 30) from hM ▸ blk0 _ _)
  obtain ⟨t0, t1, t2, t3⟩ := four_of HM0.out
  have HKF := hid find_frame
  generalize hnn : nFrame = nn at *
  have HNN := hid hnn
  clear hnn
  go_enter Try.func5, Try.ntmps5
  go_wp2_with fail
  clear hM
  go_at_call 13
  refine (kindOf_any nn M).mono ?_
  rintro e w1 ⟨hx1, hk⟩
  rw [HKF.out] at hk
  obtain ⟨g, hg, hO, rfl⟩ := hk
  rw [show kdV g 6 = .agg #[.string nFrame, .int .i64 1, .int .i64 65, .bool false, .int .i64 0, .string hFra, .func (.func 63) #[] #[]] from rfl]
  rw [HNN.out]
  generalize hhl : hFra = hl at *
  clear hhl
  obtain ⟨V, hV⟩ : ∃ V, w1.alloc (.cells #[.string nn, .int .i64 1, .int .i64 65, .bool false, .int .i64 0, .string hl, .func (.func 63) #[] #[]] 71) = V := ⟨_, rfl⟩
  have X1 := hid (show Ext M V from hV ▸ hx1.trans (Ext.alloc _ _))
  have HKB := hid (show V.heap[w1.heap.size]? = some (.cells #[.string nn, .int .i64 1, .int .i64 65, .bool false, .int .i64 0, .string hl, .func (.func 63) #[] #[]] 71) from hV ▸ blk0 _ _)
  obtain ⟨r0, r1, r2, r3, r4, r5, r6⟩ := seven_of HKB.out
  have HTB := hid (X1.out.block HM0.out)
  clear t0 t1 t2 t3 hx1 hO hg
  obtain ⟨t0, t1, t2, t3⟩ := four_of HTB.out
  go_wp2_with fail
  clear hV
  refine wp_loop_rounds 1 ?_
  rw [rounds_succ]
  go_wp2_with fail
  go_at_call 15
  refine (fits_frame nn hl (.slice none 0 0) nn _ 0 V ⟨_, _, _, rfl⟩ (by decide)).mono ?_
  rintro e w2 ⟨rfl, hx2⟩
  have X2 := hid (X1.out.trans hx2)
  clear hx2 r0 r1 r2 r3 r4 r5 r6 t0 t1 t2 t3
  rw [if_neg (by decide)]
  go_wp2_with fail
  go_at_call 14
  refine (Fa.new_any 11 w2 rfl).mono ?_
  rintro e w3 ⟨rfl, hc, hx⟩
  go_wp2_with fail
  go_ret2
  exact ⟨XM.out.trans (X2.out.trans hx), _, rfl, hc⟩
end Go.Proofs.Ytdikcdefpoolfaa
