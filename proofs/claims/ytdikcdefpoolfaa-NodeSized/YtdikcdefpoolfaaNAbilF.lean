/-
  node.Abilities of a literal: there are four; by a contract.
-/
import Derived.Test.YtdikcdefpoolfaaNMust
import Derived.Deep.CutRange
namespace Go.Proofs.Ytdikcdefpoolfaa
open Go.RowKit
attribute [local go_sem] isLitLiteral isLitStrict isLitWrapped isLitOrigin isLitFramed isOrgLiteral isOrgStrict isOrgWrapped isOrgOrigin isOrgFramed isCodCoded isCodLocated isCodRaised isCodLacking isLacCoded isLacLocated isLacRaised isLacLacking isFraLiteral isFraStrict isFraWrapped isFraOrigin isFraFramed isVarLiteral isVarStrict isVarWrapped isVarOrigin isVarFramed mCodCode mLacCode mLacWhere mLacLacks mLitWorth mLitKind mLitNum mLitText mLitLen mLitKid mFraFrames mFraKind mFraNum mFraText mFraLen mFraKid mOrgFrom
theorem strInfoN : (Try.prog.info? 9).map (fun i => (i.zero, i.size, i.bytes)) = some (some (.string ⟨#[]⟩), 1, 16) := by kernel_rfl
/-- How many of the first abilities a literal has. -/
def cntA : Nat → Nat
  | 0 => 0
  | j + 1 => cntA j + (if has_literal j = true then 1 else 0)
theorem cntA_le : ∀ j, cntA j ≤ j
  | 0 => Nat.le_refl _
  | j + 1 => by
    have := cntA_le j
    show cntA j + _ ≤ j + 1
    split <;> omega
set_option maxRecDepth 100000 in
set_option maxHeartbeats 4000000 in
theorem abil_lit (h : Nat) (v c : Value) (w : World) (hh : HandAt w h (.iface 165 v) c) : Calls Try.prog 12 #[.pointer (some ⟨h, 0, none⟩)] w fun e w' => ∃ a cap, e = .returned (.slice a 4 cap) ∧ Ext w w' := by
  obtain ⟨i0, hi0, hz0, hz1, hz2⟩ := info_parts strInfoN
  have HH := hid hh
  clear hh
  go_enter Try.func12, Try.ntmps12
  go_wp2_with fail
  go_at_call 7
  refine (node_at h _ _ w HH.out).mono ?_
  rintro e w0 ⟨rfl, hw0⟩
  rw [hw0]
  clear hw0 w0
  go_wp2_with fail
  go_at_call 29
  refine (abilities_any w).mono ?_
  rintro e w1 ⟨rfl, hw1⟩
  have X1 := hid (show Ext w w1 from hw1 ▸ Ext.alloc _ _)
  have HA := hid (show w1.heap[w.heap.size]? = some (.cells abC 105) from hw1 ▸ blk0 _ _)
  have HS1 := hid (show w1.heap.size = w.heap.size + 1 from hw1 ▸ blkS _ _)
  clear hw1
  go_wp2_with fail
  go_loopw [3, 11] (fun q3 q11 wr => ∃ (j : Nat) (xs : List Value), j ≤ 14 ∧ q11 = .int .i64 j ∧ xs.length = cntA j ∧ wr.ownsRow (w.heap.size + 1) 9 1 q3 xs.length xs ∧ Ext w1 wr) (fun _ q11 _ => 14 - (intOf q11).toNat)
  case atStart => exact ⟨0, [], Nat.zero_le _, rfl, rfl, World.ownsRow_nil _ _ _ _, Ext.refl _⟩
  case round =>
    obtain ⟨j, xs, hj, rfl, hxl, hown, hx⟩ := hrel
    obtain ⟨a3, n3, c3, rfl⟩ := Fa.ownsRow_slice hown
    have hn3 : n3 = xs.length := by
      rcases hown.2 with ⟨e, h0⟩ | ⟨g, cap, cur, e, _⟩
      · injection e with e1 e2 e3; omega
      · injection e with e1 e2 e3
    subst hn3
    have HXL := hid hxl
    have HOW := hid hown
    have XR := hid hx
    have XW := hid (X1.out.trans hx)
    have HCL := hid (cntA_le j)
    have hxb : (xs.length : Int) ≤ 14 := by rw [hxl]; have := cntA_le j; omega
    clear hown hx hxl
    by_cases hlt : j < 14
    · have hlt' : (j : Int) < 14 := by omega
      obtain ⟨a0, a1, a2⟩ := ab_at j hlt
      have HAB := XR.out.block HA.out
      have p0 : wr.cell? ⟨w.heap.size, j * 3, none⟩ = some (.string (nmA j)) := cell_of HAB a0
      have p1 : wr.cell? ⟨w.heap.size, j * 3 + 1, none⟩ = some (.bool (outA j)) := cell_of HAB a1
      have p2 : wr.cell? ⟨w.heap.size, j * 3 + 2, none⟩ = some (.func (.func (fnA j)) #[] #[]) := cell_of HAB a2
      have HCLM := hid (fun w1 => claims_literal v j hlt w1)
      have HEN := hid (enters j hlt)
      have HCN := hid (show cntA (j + 1) = cntA j + (if has_literal j = true then 1 else 0) from rfl)
      generalize nmA j = nj at *
      generalize outA j = oj at *
      generalize fnA j = fj at *
      generalize has_literal j = hj' at *
      clear a0 a1 a2 HAB
      obtain ⟨V, hV⟩ : ∃ V, wr.alloc (.cells #[.string nj, .bool oj, .func (.func fj) #[] #[]] 105) = V := ⟨_, rfl⟩
      have XV := hid (show Ext wr V from hV ▸ Ext.alloc _ _)
      have HB := hid (show V.heap[wr.heap.size]? = some (.cells #[.string nj, .bool oj, .func (.func fj) #[] #[]] 105) from hV ▸ blk0 _ _)
      have HSK := hid (show ∀ W', Ext V W' → (W'.cell? ⟨wr.heap.size, 0, none⟩ = some (.string nj) ∧ W'.cell? ⟨wr.heap.size, 1, none⟩ = some (.bool oj) ∧ W'.cell? ⟨wr.heap.size, 2, none⟩ = some (.func (.func fj) #[] #[]) ∧ W'.cell? ⟨h, 0, none⟩ = some (.iface 165 v)) from fun W' X => by
        obtain ⟨s0, s1, s2⟩ := three_of (X.block HB.out)
        exact ⟨s0, s1, s2, cell_of ((XW.out.trans (XV.out.trans X)).block HH.out) rfl⟩)
      go_upto_region 7 with fail
      clear hV p0 p1 p2
      go_cut [20] from 13 to 25 (fun s20 wx => s20 = .bool hj' ∧ Ext V wx)
      case first =>
        go_region_held3 (fun W' => W'.cell? ⟨wr.heap.size, 0, none⟩ = some (.string nj) ∧ W'.cell? ⟨wr.heap.size, 1, none⟩ = some (.bool oj) ∧ W'.cell? ⟨wr.heap.size, 2, none⟩ = some (.func (.func fj) #[] #[]) ∧ W'.cell? ⟨h, 0, none⟩ = some (.iface 165 v))
          (first | with_reducible exact HSK.out _ (Ext.refl _) | with_reducible exact HSK.out _ (Ext.refl _).drew | with_reducible exact HSK.out _ Z1 | go_keep)
          (first
            | (go_at_call 26; refine (holds_any nj oj hj' fj _ _ HEN.out (fun w2 _ => HCLM.out w2)).mono ?_; rintro r u1 ⟨rfl, hy⟩; have Z1 : Ext V u1 := Ext.trans (by repeat (first | with_reducible exact Ext.refl _ | with_reducible refine Ext.drew ?_)) hy))
        all_goals
          go_wp2_with fail
          go_meet
          case rel => exact ⟨rfl, Z1⟩
      case rest =>
      obtain ⟨rfl, hxc⟩ := hcut
      obtain ⟨U, hU⟩ : ∃ V, V = wc := ⟨wc, rfl⟩
      subst hU
      have XU := hid (XR.out.trans (XV.out.trans hxc))
      have YU := hid (XV.out.trans hxc)
      obtain ⟨s0, s1, s2, s3⟩ := HSK.out U hxc
      clear hxc
      cases hj' with
      | false =>
        go_wp2_with fail
        go_roundw
        case rel => exact ⟨j + 1, xs, by omega, by go_num, by rw [HCN.out, HXL.out]; rfl, Fa.row_ext HOW.out YU.out, XU.out⟩
        case measure => simp [intOf]; omega
      | true =>
        have HO2 := hid (show (U.alloc (.cells #[.string nj] 9)).ownsRow (w.heap.size + 1) 9 1 (.slice a3 xs.length c3) xs.length xs from Fa.row_ext HOW.out (YU.out.trans (Ext.alloc _ _)))
        have HUS := hid (show w.heap.size + 1 ≤ U.heap.size by have := HS1.out; have := XU.out.size; omega)
        go_wp2_with (at_builtin; refine wpList_append_own _ rfl _ _ 67 rfl (w.heap.size + 1) 9 i0 (.string ⟨#[]⟩) 1 16 Try.underlying67 hi0 hz0 hz1 hz2 rfl (by decide) _ _ _ rfl HO2.out ⟨U.heap.size, 0, none⟩ 1 1 [.string nj] rfl rfl ?c1 ?c2 ?c3 ?c4 ?c5 ?_)
        case c2 => first | rfl | trivial | (intro u hu; simp at hu; subst hu; rfl)
        case c3 => unfold maxLen; omega
        case c4 => omega
        case c5 => have := HUS.out; simp; omega
        intro v' w3 hown' hgrow _
        have HO' := hid (show w3.ownsRow (w.heap.size + 1) 9 1 v' (xs ++ [Value.string nj]).length (xs ++ [Value.string nj]) by simpa using hown')
        have HX' := hid (show Ext w1 w3 from (XU.out.more _).grown hgrow (by have := XU.out.size; simp; omega) (fun k hk => by have := (HO2.out.lt k hk).1; have := HS1.out; omega))
        clear hown' hgrow
        go_wp2_with fail
        go_roundw
        case rel => exact ⟨j + 1, xs ++ [.string nj], by omega, by go_num, by rw [HCN.out, List.length_append, HXL.out]; rfl, HO'.out, HX'.out⟩
        case measure => simp [intOf]; omega
    · have hje : j = 14 := by omega
      subst hje
      have h4 : xs.length = 4 := HXL.out.trans rfl
      rw [h4]
      go_wp2_with fail
      go_ret
      exact ⟨_, _, rfl, XW.out⟩
end Go.Proofs.Ytdikcdefpoolfaa
