/-
  node.Make of a frame around handles that hold nodes; by a contract.
-/
import Derived.Test.YtdikcdefpoolfaaNHoldF
namespace Go.Proofs.Ytdikcdefpoolfaa
open Go.RowKit
attribute [local go_sem] isLitLiteral isLitStrict isLitWrapped isLitOrigin isLitFramed isOrgLiteral isOrgStrict isOrgWrapped isOrgOrigin isOrgFramed isCodCoded isCodLocated isCodRaised isCodLacking isLacCoded isLacLocated isLacRaised isLacLacking isFraLiteral isFraStrict isFraWrapped isFraOrigin isFraFramed isVarLiteral isVarStrict isVarWrapped isVarOrigin isVarFramed mCodCode mLacCode mLacWhere mLacLacks mLitWorth mLitKind mLitNum mLitText mLitLen mLitKid mFraFrames mFraKind mFraNum mFraText mFraLen mFraKid mOrgFrom
def hFra : ByteArray := ⟨#[80, 117, 114, 101, 32, 84, 111, 116, 97, 108, 32, 70, 114, 97, 109, 101, 100]⟩
theorem node_cell (b : Nat) (n : Value) (w : World) (h : w.cell? ⟨b, 0, none⟩ = some n) : Calls Try.prog 7 #[.pointer (some ⟨b, 0, none⟩)] w fun e w' => e = .returned n ∧ w' = w := by
  go_enter Try.func7, Try.ntmps7
  go_wp2
  go_ret
  exact ⟨rfl, rfl⟩
theorem new_row (k x : ByteArray) (n : Int) (kv q : Value) (base j : Nat) (xs : List Value) (w : World) (hj : 1 ≤ j ∧ j ≤ 65) (h1 : ∀ u ∈ xs, u.oneCell' = true) (h : w.ownsRow base 38 1 q j xs) : Calls Try.prog 17 #[.agg #[.string k, .int .i64 n, .string x, kv], q] w fun e w' => ∃ a c, e = .returned (.agg #[.string k, .int .i64 n, .string x, .slice a j c]) ∧ w'.ownsRow w.heap.size 38 1 (.slice a j c) j xs ∧ Ext w w' := by
  have hl : xs.length = j := by have := h.1; omega
  subst hl
  rcases h.2 with ⟨_, h0⟩ | ⟨g, cap, cur, rfl, _, h3, _, _, _, h6⟩
  · omega
  refine new_some k x n kv g 0 cap xs w (by omega) h1 (fun i u hu => ?_)
  rw [Nat.zero_add]
  refine cell_of h3 ?_
  have : (cur.toList.take (xs.length * 1))[i]? = some u := by rw [h6]; exact hu
  rw [List.getElem?_take_of_lt (by have := (List.getElem?_eq_some_iff.1 hu).1; omega)] at this
  simpa using this
/-- What Make answers: a handle of the frame with the nodes in a list of its own, or the error of the count. -/
def FraR (m : Nat) (t : Nat → TypeId) (v : Nat → Value) (w : World) (e : Ending) (w' : World) : Prop := Ext w w' ∧
  if 1 ≤ m ∧ m ≤ 65 then ∃ b h qa qc, e = .returned (.tuple #[.pointer (some ⟨h, 0, none⟩), .nilIface]) ∧ w.heap.size ≤ b ∧ w.heap.size ≤ h ∧ HandAt w' h (.iface 179 (.pointer (some ⟨b, 0, none⟩))) (.iface 179 (.pointer (some ⟨b, 0, none⟩))) ∧ FrameAt w' b nFrame 0 ⟨#[]⟩ (.slice qa m qc) ∧ w'.ownsRow w.heap.size 38 1 (.slice qa m qc) m ((List.range m).map fun i => .iface (t i) (v i))
  else ∃ b, e = .returned (.tuple #[.pointer none, .iface 116 (.pointer (some ⟨b, 0, none⟩))]) ∧ Fa.CodedAt w' b 11
set_option maxRecDepth 100000 in
set_option maxHeartbeats 2000000 in
theorem make_frame (a off m c : Nat) (t : Nat → TypeId) (v : Nat → Value) (w : World) (hm : m ≤ 100000) (hh : Hands w a off m t v) : Calls Try.prog 5 #[.agg #[.string nFrame, .int .i64 0, .string ⟨#[]⟩, .slice none 0 0], .slice (some ⟨a, off, none⟩) m c] w (FraR m t v w) := by
  have HHA := hid hh
  clear hh
  unfold FraR
  obtain ⟨M, hM⟩ : ∃ M, w.alloc (.cells #[.string nFrame, .int .i64 0, .string ⟨#[]⟩, .slice none 0 0] 30) = M := ⟨_, rfl⟩
  have XM := hid (show Ext w M from hM ▸ Ext.alloc _ _)
  have HM0 := hid (show M.heap[w.heap.size]? = some (.cells #[.string nFrame, .int .i64 0, .string ⟨#[]⟩, .slice none 0 0] 30) from hM ▸ blk0 _ _)
  obtain ⟨t0, t1, t2, t3⟩ := four_of HM0.out
  have HKF := hid find_frame
  generalize hnn : nFrame = nn at *
  have HNN := hid hnn
  clear hnn
  go_enter Try.func5, Try.ntmps5
  go_wp2_with fail
  clear hM
  go_at_call 13
  refine (kindOf_any nn M).mono ?_
  rintro e w1 ⟨hx1, hk⟩
  rw [HKF.out] at hk
  obtain ⟨g, hg, hO, rfl⟩ := hk
  rw [show kdV g 6 = .agg #[.string nFrame, .int .i64 1, .int .i64 65, .bool false, .int .i64 0, .string hFra, .func (.func 63) #[] #[]] from rfl]
  rw [HNN.out]
  generalize hhl : hFra = hl at *
  clear hhl
  obtain ⟨V, hV⟩ : ∃ V, w1.alloc (.cells #[.string nn, .int .i64 1, .int .i64 65, .bool false, .int .i64 0, .string hl, .func (.func 63) #[] #[]] 71) = V := ⟨_, rfl⟩
  have X1 := hid (show Ext M V from hV ▸ hx1.trans (Ext.alloc _ _))
  have HKB := hid (show V.heap[w1.heap.size]? = some (.cells #[.string nn, .int .i64 1, .int .i64 65, .bool false, .int .i64 0, .string hl, .func (.func 63) #[] #[]] 71) from hV ▸ blk0 _ _)
  obtain ⟨r0, r1, r2, r3, r4, r5, r6⟩ := seven_of HKB.out
  have HTB := hid (X1.out.block HM0.out)
  clear t0 t1 t2 t3 hx1 hO hg
  obtain ⟨t0, t1, t2, t3⟩ := four_of HTB.out
  have HHV := hid (HHA.out.later (XM.out.trans X1.out))
  go_wp2_with fail
  clear hV
  go_loopg [22] m (fun g q22 wr => ∃ j : Nat, j + g = m ∧ q22 = .int .i64 j ∧ wr = V)
  case atStart => exact ⟨0, by omega, rfl, rfl⟩
  case round =>
    obtain ⟨j, hj, rfl, rfl⟩ := hrel
    by_cases hlt : j < m
    · have hlt' : (j : Int) < m := by omega
      obtain ⟨h, p0, p1, _, _⟩ := HHV.out j hlt
      generalize t j = tj at *
      generalize v j = vj at *
      go_wp2_with fail
      go_at_call 7
      refine (node_cell h _ _ p1).mono ?_
      rintro e w0 ⟨rfl, hw0⟩
      rw [hw0]
      clear hw0 w0
      go_wp2_with fail
      go_roundg (m - (j + 1))
      case measure => omega
      case rel => exact ⟨j + 1, by omega, by go_num, rfl⟩
    · have hje : j = m := by omega
      subst hje
      go_wp2_with fail
      go_at_call 15
      refine (fits_frame nn hl (.slice none 0 0) nn _ j wr ⟨_, _, _, rfl⟩ hm).mono ?_
      rintro e w2 ⟨rfl, hx2⟩
      have X2 := hid (X1.out.trans hx2)
      have HK2 := hid (hx2.block HKB.out)
      have HT2 := hid (hx2.block HTB.out)
      have HH2 := hid (HHV.out.later hx2)
      clear hx2 r0 r1 r2 r3 r4 r5 r6 t0 t1 t2 t3
      by_cases hok : 1 ≤ j ∧ j ≤ 65
      · simp only [if_pos hok]
        have HSK := hid (show ∀ W', Ext w2 W' → (Ext w2 W' ∧ W'.cell? ⟨w1.heap.size, 6, none⟩ = some (.func (.func 63) #[] #[]) ∧ W'.cell? ⟨w.heap.size, 0, none⟩ = some (.string nn) ∧ W'.cell? ⟨w.heap.size, 1, none⟩ = some (.int .i64 0) ∧ W'.cell? ⟨w.heap.size, 2, none⟩ = some (.string ⟨#[]⟩) ∧ W'.cell? ⟨w.heap.size, 3, none⟩ = some (.slice none 0 0)) from fun W' X => by
          obtain ⟨s0, s1, s2, s3⟩ := four_of (X.block HT2.out)
          exact ⟨X, cell_of (X.block HK2.out) rfl, s0, s1, s2, s3⟩)
        have HON := hid (show ∀ u ∈ (List.range j).map (fun i => Value.iface (t i) (v i)), u.oneCell' = true from fun u hu => by
          obtain ⟨i, _, rfl⟩ := List.mem_map.1 hu
          rfl)
        have HNO := hid (fun (u : World) (X : Ext w2 u) => nodesOf_any a off j c t v u hm (HH2.out.later X))
        generalize hxs : (List.range j).map (fun i => Value.iface (t i) (v i)) = xs at *
        have HXS := hid hxs
        clear hxs
        have HWS := hid (show w.heap.size ≤ w2.heap.size from (XM.out.trans X2.out).size)
        go_wp2_with fail
        go_region_held3 (fun W' => Ext w2 W' ∧ W'.cell? ⟨w1.heap.size, 6, none⟩ = some (.func (.func 63) #[] #[]) ∧ W'.cell? ⟨w.heap.size, 0, none⟩ = some (.string nn) ∧ W'.cell? ⟨w.heap.size, 1, none⟩ = some (.int .i64 0) ∧ W'.cell? ⟨w.heap.size, 2, none⟩ = some (.string ⟨#[]⟩) ∧ W'.cell? ⟨w.heap.size, 3, none⟩ = some (.slice none 0 0))
          (first | with_reducible exact HSK.out _ (Ext.refl _).drew | with_reducible exact HSK.out _ Z4 | with_reducible exact HSK.out _ Z3 | with_reducible exact HSK.out _ Z2 | with_reducible exact HSK.out _ Z1 | with_reducible exact HSK.out _ (Ext.refl _))
          (first
            | (go_at_call 18; refine (HNO.out _ (by repeat (first | with_reducible exact Ext.refl _ | with_reducible refine Ext.drew ?_))).mono ?_; rintro r u1 ⟨q, rfl, hq, hy⟩; have Z1 : Ext w2 u1 := Ext.trans (by repeat (first | with_reducible exact Ext.refl _ | with_reducible refine Ext.drew ?_)) hy)
            | (go_at_call 17; refine (new_row nn ⟨#[]⟩ 0 _ q _ j xs _ hok HON.out hq).mono ?_; rintro r u2 ⟨qa, qc, rfl, hq2, hy⟩; have Z2 : Ext w2 u2 := Ext.trans (by repeat (first | with_reducible exact Z1 | with_reducible refine Ext.drew ?_)) hy)
            | (go_at_call 63; refine (mkFrame_any nn ⟨#[]⟩ 0 qa j qc _).mono ?_; rintro r u3 ⟨b, rfl, hb, hf, hy⟩; have Z3 : Ext w2 u3 := Ext.trans (by repeat (first | with_reducible exact Z2 | with_reducible refine Ext.drew ?_)) hy; have hq3 := row_ext hq2 hy)
            | (go_at_call 16; refine (hold_fra _ _).mono ?_; rintro r u4 ⟨rfl, hh4, hy⟩; have Z4 : Ext w2 u4 := Ext.trans (by repeat (first | with_reducible exact Z3 | with_reducible refine Ext.drew ?_)) hy; have hf4 := hy.block hf; have hq4 := row_ext hq3 hy))
        all_goals
          go_wp2_with fail
          go_ret2
          refine ⟨XM.out.trans (X2.out.trans Z4), b, _, rfl, ?_, ?_, hh4, qa, qc, ?_, ?_⟩
          · exact Nat.le_trans HWS.out (Nat.le_trans Z2.size hb)
          · exact Nat.le_trans HWS.out Z3.size
          · exact hf4
          · rw [HXS.out]
            exact Fa.row_mono hq4 (Nat.le_trans HWS.out Z1.size)
      · simp only [if_neg hok]
        go_wp2_with fail
        go_at_call 14
        refine (Fa.new_any 11 w2 rfl).mono ?_
        rintro e w3 ⟨rfl, hc, hx⟩
        go_wp2_with fail
        go_ret2
        refine ⟨XM.out.trans (X2.out.trans hx), ?_⟩
        exact ⟨_, rfl, hc⟩
end Go.Proofs.Ytdikcdefpoolfaa
