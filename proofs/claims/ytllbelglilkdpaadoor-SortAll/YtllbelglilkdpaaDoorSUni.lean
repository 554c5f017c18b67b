/-
  Unify at a list of a variable and a list of numbers, by a contract.
-/
import Derived.Test.YtllbelglilkdpaaDoorSGiven
import Derived.Test.YtllbelglilkdpaaDoorSSort
import Derived.Test.YtllbelglilkdpaaDoorSMeet
import Derived.Test.YtllbelglilkdpaaDoorSNew
import Derived.Test.YtllbelglilkdpaaDoorSSame
namespace Go.Proofs.YtllbelglilkdpaaDoor
open Go.RowKit
abbrev xa : ByteArray := ⟨#[97]⟩
abbrev xi : ByteArray := ⟨#[105, 110, 116]⟩
def tauA (k : ByteArray) : Option Sh := if k = xa then some (0, xi) else none
theorem enc_az (j : Nat) (h : j < 26) : (Utf8.encode (97 + (j : Int))).size ≤ 4 ∧ (0 < j → Utf8.encode (97 + (j : Int)) ≠ xa) ∧ (j = 0 → Utf8.encode (97 + (j : Int)) = xa) := by
  have key : ∀ i : Fin 26, (Utf8.encode (97 + (i.val : Int))).size ≤ 4 ∧ (0 < i.val → Utf8.encode (97 + (i.val : Int)) ≠ xa) ∧ (i.val = 0 → Utf8.encode (97 + (i.val : Int)) = xa) := by decide
  exact key ⟨j, h⟩
theorem fnd_az (j : Nat) (h0 : 0 < j) (h : j < 26) : FndN tauA 0 (0, Utf8.encode (97 + (j : Int))) (0, Utf8.encode (97 + (j : Int))) := by
  obtain ⟨h1, h2, _⟩ := enc_az j h
  generalize Utf8.encode (97 + (j : Int)) = y at *
  exact ⟨⟨by show (-70368744175616 : Int) ≤ 0; decide, by show (0 : Int) ≤ 70368744175616; decide, by show y.size ≤ _; omega⟩, if_neg (h2 h0), rfl⟩
theorem fnd_a : FndN tauA 1 (0, xa) (0, xi) := by
  refine ⟨⟨by decide, by decide, by decide⟩, (0, xi), rfl, ⟨by decide, by decide, by decide⟩, ?_⟩
  exact ⟨⟨by decide, by decide, by decide⟩, if_neg (by decide), rfl⟩
/-- The givens, as far as they have been made. -/
def GsAt (j : Nat) (gs : Value) (wr : World) : Prop := (j = 0 ∧ gs = .slice none 0 0) ∨ (0 < j ∧ ∃ g k a c, gs = .slice (some ⟨g, 0, none⟩) 1 k ∧ wr.cell? ⟨g, 0, none⟩ = some (.string xa) ∧ wr.cell? ⟨g, 1, none⟩ = some (.string xi) ∧ wr.cell? ⟨g, 2, none⟩ = some (.slice a 0 c))
theorem GsAt.up {j : Nat} {gs : Value} {wr w' : World} (h : GsAt j gs wr) (h0 : ¬ j = 0) (hx : Ext wr w') : GsAt (j + 1) gs w' := by
  rcases h with ⟨h1, _⟩ | ⟨_, g, k, a, c, h1, h2, h3, h4⟩
  · exact absurd h1 h0
  · exact .inr ⟨Nat.succ_pos _, g, k, a, c, h1, (hx.kp (fun _ => True)).cell h2 trivial, (hx.kp (fun _ => True)).cell h3 trivial, (hx.kp (fun _ => True)).cell h4 trivial⟩
set_option maxRecDepth 100000 in
set_option maxHeartbeats 2000000 in
theorem unify_a {K K' : Nat → Prop} {d d' : Nat} {v v' : Value} (w : World) (h : SRd K w d v (chain 1 xa)) (h' : SRd K' w d' v' (chain 1 xi)) : Calls Tryd.prog 14 #[v, v'] w fun e w' => ∃ g k ga gc, e = .returned (.tuple #[.slice (some ⟨g, 0, none⟩) 1 k, .int .i64 0]) ∧ w'.cell? ⟨g, 0, none⟩ = some (.string xa) ∧ w'.cell? ⟨g, 1, none⟩ = some (.string xi) ∧ w'.cell? ⟨g, 2, none⟩ = some (.slice ga 0 gc) ∧ Ext w w' := by
  obtain ⟨a, c, rfl⟩ := h.shape
  obtain ⟨a', c', rfl⟩ := h'.shape
  simp only [chain, S.name, S.kids, List.length_cons, List.length_nil, Nat.zero_add] at h h' ⊢
  have HR := hid h
  have HR' := hid h'
  clear h h'
  obtain ⟨M, hM⟩ : ∃ M, (w.alloc (.cells #[.string wList, .slice a 1 c] 27)).alloc (.cells #[.string wList, .slice a' 1 c'] 27) = M := ⟨_, rfl⟩
  have XM := hid (show Ext w M from hM ▸ Ext.alloc2 _ _ _)
  obtain ⟨m0, m1⟩ := two_of (show M.heap[w.heap.size]? = some (.cells #[.string wList, .slice a 1 c] 27) from hM ▸ blkOld _ (blk0 _ _))
  obtain ⟨m2, m3⟩ := two_of (show M.heap[w.heap.size + 1]? = some (.cells #[.string wList, .slice a' 1 c'] 27) from hM ▸ blk1 _ _ _)
  go_enter Tryd.func14, Tryd.ntmps14
  go_wp2_with fail
  go_at_call 38
  refine (shapesOf_any M (HR.out.later XM.out) (HR'.out.later XM.out)).mono ?_
  rintro e w1 ⟨rfl, hx1⟩
  rw [show shsV (.node wList [.node xa []]) (.node wList [.node xi []]) = .tuple #[.agg #[.int .i64 1, .string xa], .agg #[.int .i64 1, .string xi], .int .i64 0] from rfl]
  clear hM m0 m1 m2 m3
  obtain ⟨V1, hV1⟩ : ∃ V1, (w1.alloc (.cells #[.int .i64 1, .string xa] 58)).alloc (.cells #[.int .i64 1, .string xi] 58) = V1 := ⟨_, rfl⟩
  have X1 := hid (show Ext M V1 from hV1 ▸ hx1.trans (Ext.alloc2 _ _ _))
  have HA := hid (show V1.heap[w1.heap.size]? = some (.cells #[.int .i64 1, .string xa] 58) from hV1 ▸ blkOld _ (blk0 _ _))
  have HB := hid (show V1.heap[w1.heap.size + 1]? = some (.cells #[.int .i64 1, .string xi] 58) from hV1 ▸ blk1 _ _ _)
  clear hx1
  go_wp2_with fail
  go_at_call 39
  refine (newSolver_any V1).mono ?_
  rintro e w3 ⟨kb, mb, b1, b2, b3, b5, rfl, hx3, hs3⟩
  clear hV1
  obtain ⟨V3, hV3⟩ : ∃ V3, w3.alloc (.cells #[meetF b3 b1, foundF b2, freshF b5] 72) = V3 := ⟨_, rfl⟩
  have X3 := hid (show Ext V1 V3 from hV3 ▸ hx3.trans (Ext.alloc _ _))
  have HS3 := hid (show Solv V3 V1.heap.size kb mb 0 b1 b2 b3 b5 0 (fun _ => none) from hs3.later (hV3 ▸ Ext.alloc _ _))
  have HV3 := hid (show V3.heap[w3.heap.size]? = some (.cells #[meetF b3 b1, foundF b2, freshF b5] 72) from hV3 ▸ blk0 _ _)
  have hlt : mb < w3.heap.size := hs3.sol.map.lt.2
  have HLT := hid hlt
  clear hx3 hs3 hlt
  have s0 : V3.cell? ⟨w3.heap.size, 0, none⟩ = some (meetF b3 b1) := cell_of HV3.out rfl
  obtain ⟨d0, d1⟩ := two_of (X3.out.block HA.out)
  obtain ⟨d2, d3⟩ := two_of (X3.out.block HB.out)
  go_wp2_with fail
  go_at_call 58
  refine (meet_any 0 0 (1, xa) (1, xi) (1, xa) (1, xi) V3 HS3.out.sol ⟨⟨by decide, by decide, by decide⟩, rfl, rfl⟩ ⟨⟨by decide, by decide, by decide⟩, rfl, rfl⟩ ⟨by decide, by decide, by decide⟩ ⟨by decide, by decide, by decide⟩ (by decide)).mono ?_
  intro e w5 hr
  rw [show meetPQ ((1 : Int) + -(if (1 : Int) < 1 then (1 : Int) else 1), xa) ((1 : Int) + -(if (1 : Int) < 1 then (1 : Int) else 1), xi) = ((0, xa), (0, xi)) from rfl] at hr
  have hr2 : e = .returned (.bool true) ∧ Kp (· ≠ mb) V3 w5 ∧ Sol w5 kb mb 1 b1 b2 b3 tauA := by
    rcases hr with ⟨h1, _⟩ | ⟨_, _, h1, h2, h3⟩ | ⟨_, h1, _⟩
    · exact absurd h1 (by decide)
    · exact ⟨h1, h2, h3⟩
    · exact absurd (show opS (0, xa) = true ∧ xa ≠ xi from ⟨rfl, by decide⟩) h1
  obtain ⟨rfl, hk, hsol⟩ := hr2
  have HK := hid hk
  have HSOL := hid hsol
  have HV5 := hid (hk.block' HV3.out (by have := HLT.out; omega))
  clear hr hk hsol hV3 s0 d0 d1 d2 d3
  go_wp2_with fail
  go_loopw [10, 11] (fun gs le wr => ∃ j : Nat, j ≤ 26 ∧ le = .int .i32 (97 + j) ∧ Ext w5 wr ∧ GsAt j gs wr) (fun _ le _ => 26 - (intOf le - 97).toNat)
  case atStart => exact ⟨0, by omega, rfl, Ext.refl _, .inl ⟨rfl, rfl⟩⟩
  case round =>
    obtain ⟨j, hj, rfl, hx, hg⟩ := hrel
    have HX := hid hx
    have HG := hid hg
    have HJ := hid hj
    clear hx hg
    by_cases hlt : j < 26
    · have hle : ((97 : Int) + j ≤ 122) := by omega
      have HL := hid hlt
      obtain ⟨y, hy⟩ : ∃ y, Utf8.encode (97 + (j : Int)) = y := ⟨_, rfl⟩
      have HY := hid hy
      have HE := hid (enc_az j hlt)
      have HSR := hid (HSOL.out.later HX.out)
      have s1 : wr.cell? ⟨w3.heap.size, 1, none⟩ = some (foundF b2) := cell_of (HX.out.block HV5.out) rfl
      by_cases h0 : j = 0
      · subst h0
        have hya : xa = y := by rw [← hy]; exact ((HE.out).2.2 rfl).symm
        subst hya
        have hg0 : u10 = .slice none 0 0 := by
          rcases HG.out with ⟨_, h1⟩ | ⟨h1, _⟩
          · exact h1
          · exact absurd h1 (by decide)
        subst hg0
        have he : Utf8.encode 97 = xa := hy
        go_wp2_with fail
        go_at_call 57
        refine (found_any 1 (0, xa) (0, xi) wr HSR.out.map HSR.out.c2 fnd_a).mono ?_
        rintro e w6 ⟨rfl, hx6⟩
        obtain ⟨V6, hV6⟩ : ∃ V6, w6.alloc (.cells #[.int .i64 0, .string xi] 58) = V6 := ⟨_, rfl⟩
        have X6 := hid (show Ext wr V6 from hV6 ▸ hx6.trans (Ext.alloc _ _))
        obtain ⟨p0, p1⟩ := two_of (show V6.heap[w6.heap.size]? = some (.cells #[.int .i64 0, .string xi] 58) from hV6 ▸ blk0 _ _)
        have hn : (xi.toList != xa.toList) = true := by rw [bne_iff_ne]; exact fun e => absurd (toList_inj e) (by decide)
        clear hx6 s1
        go_wp2_with fail
        go_at_call 37
        refine (sort_any 0 xi V6 (by decide) (by decide)).mono ?_
        rintro e w7 ⟨v7, rfl, hr7, hx7, _⟩
        obtain ⟨a9, c9, rfl⟩ := hr7.shape
        have X7 := hid (X6.out.trans hx7)
        simp only [chain, S.name, S.kids, List.length_nil]
        clear hr7 hx7 p0 p1 hV6
        go_wp2_with (at_builtin; refine app_given rfl _ _ rfl rfl xa xi a9 0 c9 rfl (by first | rfl | (rw [blkS]; done) | (rw [blkS]; rfl)) ?_; intro g9 k9 w8 hc8 hx8)
        refine ⟨⟨1, by decide, rfl, HX.out.trans (X7.out.trans hx8), .inr ⟨by decide, g9, k9, a9, c9, rfl, hc8.1, hc8.2.1, hc8.2.2⟩⟩, ?_⟩
        decide
      · have hw : IntKind.i32.wrap (97 + (j : Int) + 1) = 97 + (j : Int) + 1 := by rw [IntKind.wrap_i32]; omega
        have hF : FndN tauA 0 (0, y) (0, y) := hy ▸ fnd_az j (by omega) hlt
        have HF := hid hF
        have HJ0 := hid h0
        clear h0 hF
        go_wp2_with fail
        go_at_call 57
        refine (found_any 0 (0, y) (0, y) wr HSR.out.map HSR.out.c2 HF.out).mono ?_
        rintro e w6 ⟨rfl, hx6⟩
        obtain ⟨V6, hV6⟩ : ∃ V6, w6.alloc (.cells #[.int .i64 0, .string y] 58) = V6 := ⟨_, rfl⟩
        have X6 := hid (show Ext wr V6 from hV6 ▸ hx6.trans (Ext.alloc _ _))
        obtain ⟨p0, p1⟩ := two_of (show V6.heap[w6.heap.size]? = some (.cells #[.int .i64 0, .string y] 58) from hV6 ▸ blk0 _ _)
        have hn : (y.toList != y.toList) = false := by simp
        clear hx6 s1
        go_wp2_with fail
        refine ⟨⟨j + 1, by have := HL.out; omega, by go_num, HX.out.trans X6.out, HG.out.up HJ0.out X6.out⟩, ?_⟩
        have := HL.out
        show 26 - ((97 : Int) + j + 1 - 97).toNat < 26 - ((97 : Int) + j - 97).toNat
        omega
    · have hj26 : j = 26 := by have := HJ.out; omega
      subst hj26
      rcases HG.out with ⟨h1, _⟩ | ⟨_, g, k, ga, gc, rfl, h2, h3, h4⟩
      · exact absurd h1 (by decide)
      have H2 := hid h2
      have H3 := hid h3
      have H4 := hid h4
      clear h2 h3 h4 hlt
      go_wp2_with fail
      go_ret2
      exact ⟨g, k, ga, gc, rfl, H2.out, H3.out, H4.out, (Kp.extOf ((XM.out.trans X1.out).trans X3.out) HK.out (Nat.le_trans (XM.out.trans X1.out).size HS3.out.ge.2.1)).trans HX.out⟩
end Go.Proofs.YtllbelglilkdpaaDoor
