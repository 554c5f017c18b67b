/-
  begun: what every statement of layer 4 asks ahead: it returns true, in whatever memory.
-/
import Derived.Test.YthdmoghooaccgaaEachIt
import Derived.Test.YthdmoghooaccgaaKinds
import Derived.Test.YthdmoghooaccgaaFaceAt
import Derived.Test.YthdmoghooaccgaaPutNil
import Derived.Test.YthdmoghooaccgaaRefEq
namespace Go.Proofs.Ythdmoghooaccgaa
open Go.RowKit Go.Shelf
attribute [local go_sem] Oper.semAt_some
abbrev kAB : ByteArray := ⟨#[97, 46, 98]⟩
abbrev kCD : ByteArray := ⟨#[99, 46, 100]⟩
abbrev kEF : ByteArray := ⟨#[101, 46, 102]⟩
abbrev kGH : ByteArray := ⟨#[103, 46, 104]⟩
abbrev kXY : ByteArray := ⟨#[120, 46, 121]⟩
def tLeaf (k : ByteArray) : T := .node k 0 ⟨#[]⟩ []
def tB : T := .node kAB 0 ⟨#[]⟩ [tLeaf kCD, .node kEF 0 ⟨#[]⟩ [tLeaf kGH]]
theorem tB_small : tB.small := by decide
theorem tB_size : tB.size = 4 := by decide
theorem tB_sizeV : sizeV tB = .tuple #[.int .i64 4, .int .i64 3, .int .i64 0] := by
  unfold sizeV; rw [if_pos tB_small]; rfl
theorem tB_may : mayN tB = 0 := by decide
theorem tX_may : mayN (tLeaf ⟨#[97, 98]⟩) = 10 := by decide
theorem tB_kinds : (kindsOf (T.all [] tB)).length = 4 := by decide
theorem tB_all : T.all [] tB = [([], tB), ([0], tLeaf kCD), ([1], .node kEF 0 ⟨#[]⟩ [tLeaf kGH]), ([1, 0], tLeaf kGH)] := by simp [tB, tLeaf, T.all, T.allL]
theorem tB_at : T.at? tB [1, 0] = some (tLeaf kGH) := by rfl
theorem tB_at2 : T.at? tB [2] = none := by rfl
theorem leaf_small (k : ByteArray) : (tLeaf k).small := by unfold T.small tLeaf; simp only [T.size, T.sizeL, T.height, T.heightL, T.bytes, T.bytesL]; decide
def begI (b : Nat) (M' : Nat → Prop) (i : Nat) (Z : World) : Prop := (M' = fun q => q = b) ∧ Z.heap[b]? = some (.cells #[.int .i64 i] 3)
theorem tB_paths (i : Nat) (y : List Int × T) (h : (T.all [] tB)[i]? = some y) : y.1.length * 8 ≤ 140737488355328 := by
  rw [tB_all] at h
  have := List.mem_of_getElem? h
  simp at this
  rcases this with rfl | rfl | rfl | rfl <;> decide
set_option maxRecDepth 100000 in
set_option maxHeartbeats 4000000 in
theorem begun_true (w : World) : CallsIn Fence.wide 0 Try.prog 8 #[] w fun e w' => e = .returned (.bool true) ∧ Ext w w' := by
  refine callsIn_of_wp_marks Try.func8 rfl trivial ?_ rfl
  show Code.wpIn _ _ _ _ _ _ _
  simp only [Try.ntmps8, List.size_toArray, List.length_nil, Nat.reduceSub, Array.replicate_succ, Array.replicate_zero, List.push_toArray, List.append_toArray, List.nil_append, List.cons_append]
  gi_wp2_with fail
  refine ⟨trivial, rfl, (callsIn_wide.2 (leaf_any kCD _)).mono ?_⟩
  rintro e w1 ⟨rfl, hx1⟩
  gi_wp2_with fail
  refine ⟨trivial, rfl, (callsIn_wide.2 (leaf_any kGH _)).mono ?_⟩
  rintro e w2 ⟨rfl, hx2⟩
  gi_wp2_with fail
  obtain ⟨V, hV⟩ : ∃ V, ((w2.alloc (.cells #[.string kGH, .int .i64 0, .string ⟨#[]⟩, .slice none 0 0] 26)).alloc (.cells #[.string kCD, .int .i64 0, .string ⟨#[]⟩, .slice none 0 0, .string ⟨#[101, 46, 102]⟩, .int .i64 0, .string ⟨#[]⟩, .slice (some ⟨w2.heap.size, 0, none⟩) 1 1] 26)).alloc (.cells #[.string ⟨#[97, 46, 98]⟩, .int .i64 0, .string ⟨#[]⟩, .slice (some ⟨w2.heap.size + 1, 0, none⟩) 2 2] 26) = V := ⟨_, rfl⟩
  have v0 : V.heap[w2.heap.size]? = some (.cells #[.string kGH, .int .i64 0, .string ⟨#[]⟩, .slice none 0 0] 26) := hV ▸ blkOld _ (blkOld _ (blk0 _ _))
  have v1 : V.heap[w2.heap.size + 1]? = some (.cells #[.string kCD, .int .i64 0, .string ⟨#[]⟩, .slice none 0 0, .string ⟨#[101, 46, 102]⟩, .int .i64 0, .string ⟨#[]⟩, .slice (some ⟨w2.heap.size, 0, none⟩) 1 1] 26) := hV ▸ blkOld _ (blk1 _ _ _)
  have v2 : V.heap[w2.heap.size + 1 + 1]? = some (.cells #[.string kAB, .int .i64 0, .string ⟨#[]⟩, .slice (some ⟨w2.heap.size + 1, 0, none⟩) 2 2] 26) := hV ▸ blk2 _ _ _ _
  have hXV : Ext (w.alloc (.cells #[.bool false] 4)) V := hV ▸ (hx1.trans hx2).trans (Ext.alloc3 _ _ _ _)
  have hres : V.heap[w.heap.size]? = some (.cells #[.bool false] 4) := hXV.block (blk0 w _)
  have HXW := hid ((Ext.alloc w _).trans hXV)
  have HRV := hid (show Rd (fun _ => True) V 3 (.agg #[.string kAB, .int .i64 0, .string ⟨#[]⟩, .slice (some ⟨w2.heap.size + 1, 0, none⟩) 2 2]) tB from ⟨_, _, rfl, by decide, by decide, by decide, .inr ⟨w2.heap.size + 1, 0, rfl, trivial, fun j hj => by
    match j, hj with
    | 0, _ => exact ⟨_, _, _, _, ⟨cell_of v1 rfl, cell_of v1 rfl, cell_of v1 rfl, cell_of v1 rfl⟩, none, 0, rfl, by decide, by decide, by decide, .inl rfl⟩
    | 1, _ => exact ⟨_, _, _, _, ⟨cell_of v1 rfl, cell_of v1 rfl, cell_of v1 rfl, cell_of v1 rfl⟩, _, _, rfl, by decide, by decide, by decide, .inr ⟨w2.heap.size, 0, rfl, trivial, fun j hj => by
        match j, hj with
        | 0, _ => exact ⟨_, _, _, _, ⟨cell_of v0 rfl, cell_of v0 rfl, cell_of v0 rfl, cell_of v0 rfl⟩, none, 0, rfl, by decide, by decide, by decide, .inl rfl⟩⟩⟩⟩⟩)
  have HV2 := hid v2
  have HRES := hid hres
  rw [hV]
  clear v0 v1 v2 hV hx1 hx2 hres hXV
  have hsz := size_any V HRV.out
  rw [tB_sizeV] at hsz
  refine ⟨trivial, rfl, (callsIn_wide.2 hsz).mono ?_⟩
  rintro e w3 ⟨rfl, hx3⟩
  clear hsz
  obtain ⟨p0, p1, p2, p3⟩ := four_of (hx3.block HV2.out)
  have HX3 := hid hx3
  clear hx3
  gi_wp2_with fail
  refine ⟨trivial, rfl, (callsIn_wide.2 (at_face (w3.alloc (.cells #[.int .i64 1, .int .i64 0] 3)) (some ⟨w3.heap.size, 0, none⟩) 2 [1, 0] (HRV.out.later (HX3.out.trans (Ext.alloc _ _))) (.inr ⟨w3.heap.size, 0, 2, rfl, fun j u hu => by
    match j, hu with
    | 0, hu => cases hu; exact cell_of (blk0 w3 _) rfl
    | 1, hu => cases hu; exact cell_of (blk0 w3 _) rfl⟩) (by decide))).mono ?_⟩
  rintro e w4 ⟨hx4, hc⟩
  rcases hc with ⟨hn, _⟩ | ⟨_, hn, _⟩ | ⟨_, u, d4, hu, v4, bs4, rfl, ho4, hg4, hn4⟩
  · exact absurd tB_small hn
  · rw [tB_at] at hn; cases hn
  obtain rfl : tLeaf kGH = u := by rw [tB_at] at hu; exact Option.some.inj hu
  obtain ⟨u0, u1, u2, u3, rfl⟩ := ho4.rd.agg
  obtain ⟨k4, n4, x4, a4, c4, rfl, rfl, rfl, rfl⟩ := ho4.rd.shape
  have HX4 := hid ((HX3.out.trans (Ext.alloc _ _)).trans hx4)
  have HO4 := hid ho4.rd
  clear p0 p1 p2 p3 hx4 hu ho4 hg4 hn4
  generalize (T.kids (tLeaf kGH)).length = l4 at HO4
  obtain ⟨p0, p1, p2, p3⟩ := four_of ((Ext.alloc w4 (.cells #[.string k4, .int .i64 n4, .string x4, .slice a4 l4 c4] 26)).block (HX4.out.block HV2.out))
  gi_wp2_with fail
  refine ⟨trivial, rfl, (callsIn_wide.2 (at_face ((w4.alloc (.cells #[.string k4, .int .i64 n4, .string x4, .slice a4 l4 c4] 26)).alloc (.cells #[.int .i64 2] 3)) (some ⟨w4.heap.size + 1, 0, none⟩) 1 [2] (HRV.out.later (HX4.out.trans (Ext.alloc2 _ _ _))) (.inr ⟨w4.heap.size + 1, 0, 1, rfl, fun j u hu => by
    match j, hu with
    | 0, hu => cases hu; exact cell_of (blk1 w4 _ _) rfl⟩) (by decide))).mono ?_⟩
  rintro e w5 ⟨hx5, hc⟩
  rcases hc with ⟨hn, _⟩ | ⟨_, _, rfl⟩ | ⟨_, u, d5, hu, _⟩
  · exact absurd tB_small hn
  rotate_left
  · rw [tB_at2] at hu; cases hu
  have HX5 := hid ((HX4.out.trans (Ext.alloc2 _ _ _)).trans hx5)
  have HQ5 := hid (hx5.block (blkOld _ (blk0 w4 _)))
  have HO5 := hid (HO4.out.later ((Ext.alloc2 w4 (.cells #[.string k4, .int .i64 n4, .string x4, .slice a4 l4 c4] 26) (.cells #[.int .i64 2] 3)).trans hx5))
  clear p0 p1 p2 p3 hx5
  gi_wp2_with fail
  refine ⟨trivial, rfl, (callsIn_wide.2 (leaf_any kAB _)).mono ?_⟩
  rintro e w6 ⟨rfl, hx6⟩
  gi_wp2_with fail
  refine ⟨trivial, rfl, (callsIn_wide.2 (leaf_any kXY _)).mono ?_⟩
  rintro e w7 ⟨rfl, hx7⟩
  gi_wp2_with fail
  refine ⟨trivial, rfl, (callsIn_wide.2 (put_root w7 (leaf_rd (fun _ => True) w7 kAB (by decide)) (leaf_rd (fun _ => True) w7 kXY (by decide)) (leaf_small kAB) (leaf_small kXY))).mono ?_⟩
  rintro e w8 ⟨hx8, v8, bs8, rfl, ho8, _, _⟩
  obtain ⟨u0, u1, u2, u3, rfl⟩ := ho8.rd.agg
  obtain ⟨k8, n8, x8, a8, c8, rfl, rfl, rfl, rfl⟩ := ho8.rd.shape
  have hx58 := (((Ext.alloc w5 _).trans hx6).trans hx7).trans hx8
  have HX8 := hid (HX5.out.trans hx58)
  have HQ8 := hid (hx58.block HQ5.out)
  have HO48 := hid (HO5.out.later hx58)
  have HO8 := hid ho8.rd
  clear hx6 hx7 hx8 hx58 ho8
  generalize (T.kids (T.node kXY 0 ⟨#[]⟩ [])).length = l8 at HO8
  obtain ⟨p0, p1, p2, p3⟩ := four_of ((Ext.alloc w8 (.cells #[.string k8, .int .i64 n8, .string x8, .slice a8 l8 c8] 26)).block (HX8.out.block HV2.out))
  gi_wp2_with fail
  refine ⟨trivial, rfl, (callsIn_wide.2 (kinds_face _ (HRV.out.later (HX8.out.trans (Ext.alloc _ _))))).mono ?_⟩
  rintro e w9 ⟨a9, c9, ns, rfl, hns, _, hx9⟩
  have hl9 : ns.length = 4 := by rw [hns, if_pos tB_small]; exact tB_kinds
  rw [hl9]
  have HX9 := hid ((HX8.out.trans (Ext.alloc _ _)).trans hx9)
  have HQ9 := hid (And.intro (hx9.block (blkOld _ HQ8.out)) (hx9.block (blk0 w8 _)))
  have HO49 := hid (HO48.out.later ((Ext.alloc w8 (.cells #[.string k8, .int .i64 n8, .string x8, .slice a8 l8 c8] 26)).trans hx9))
  have HO9 := hid (HO8.out.later ((Ext.alloc w8 (.cells #[.string k8, .int .i64 n8, .string x8, .slice a8 l8 c8] 26)).trans hx9))
  clear p0 p1 p2 p3 hx9 hns hl9
  obtain ⟨p0, p1, p2, p3⟩ := four_of (HX9.out.block HV2.out)
  gi_wp2_with fail
  refine ⟨trivial, rfl, (callsIn_wide.2 (each_face _ (HRV.out.later HX9.out))).mono ?_⟩
  rintro e w10 ⟨hx10, eb, ob, kk, nn, xx, aa, ll, cc, rfl, heb, hob, hbo, (⟨_, hbe, bs, hown, hbs⟩ | ⟨hn, _⟩)⟩
  rotate_left
  · exact absurd tB_small hn
  have HX10 := hid (HX9.out.trans hx10)
  have HE10 := hid (And.intro hbo (And.intro hbe hown.rd))
  have HLT10 := hid hown.lt
  have HLOW := hid (And.intro heb (And.intro hob hbs))
  have H910 := hid hx10
  clear p0 p1 p2 p3 hx10 hbo hbe hown heb hob hbs
  have hnil : ∀ w, (binOp .eql 39 (.func (.func 45) #[] #[.pointer (some ⟨eb, 0, none⟩), .pointer (some ⟨ob, 0, none⟩)]) .nilFunc).run Try.prog w = .ok (.bool false) w := fun w => by kernel_rfl
  gi_wp2_with fail
  obtain ⟨Y, hY⟩ : ∃ Y, w10.alloc (.cells #[.int .i64 0] 3) = Y := ⟨_, rfl⟩
  have hmb : Y.heap[w10.heap.size]? = some (.cells #[.int .i64 0] 3) := hY ▸ blk0 _ _
  have hXY : Ext w10 Y := hY ▸ Ext.alloc _ _
  have hsY : w10.heap.size < Y.heap.size := by rw [← hY]; simp
  rw [hY]
  clear hY hnil
  have hs910 := H910.out.size
  refine rangeM rfl (enters_of Try.func45 (by kernel_rfl) rfl) tB.size (fun q => q = w10.heap.size) (eachX tB Y.heap.size) (each_iter (d := 3) (hXY.block HE10.out.2.1) (hXY.block HE10.out.1) ((HE10.out.2.2.later hXY).mono (fun q _ hq e => by have := HLT10.out q hq; omega)) tB_small.2.1 tB_paths) eachX_size eachX_mono eachX_new
    (begI w10.heap.size) (fun _ _ _ => False)
    (fun M' i Z h q hq => by rw [h.1] at hq; subst hq; exact lt_of_block h.2) (fun M' i Z Z' h hk => ⟨h.1, hk.block' h.2 (.inl hsY)⟩)
    (fun c M' Z h => h.elim) (fun c M' Z Z' h => h.elim) ⟨rfl, hmb⟩ ?round ?done ?stop
  case round =>
    rintro l2 M' i Z args E hl2 ⟨r2, hr2⟩ hml hel hi ⟨rfl, hcb⟩ ⟨pv, tv, p, u, d', bs', rfl, hL, hpw, hown, _, _, rfl, hE⟩ hk5 h4
    obtain ⟨u0, u1, u2, u3, rfl⟩ := hown.rd.agg
    obtain ⟨k', n', x', a', c', rfl, rfl, rfl, rfl⟩ := hown.rd.shape
    obtain ⟨hke, hks⟩ := hown.rd.kindOf
    obtain ⟨pa, pc, rfl⟩ := hpw.shape
    have HPW := hid hpw
    generalize (T.kids u).length = kl at hown
    clear hown
    gi_wp2_with fail
    refine ⟨Ext.alloc _ _, fun W₂ hk2 r3 hr3 => ?_⟩
    have hzl : Z.heap.size ≠ l2 := by have := lt_of_block hr2; omega
    have hbx := hk2.block' (blk0 Z _) hzl
    have hcb2 := hk2.block' (blkOld _ hcb) (show w10.heap.size ≠ l2 by omega)
    have hkz : Kp (· ≠ l2) Z W₂ := ((Ext.alloc Z _).kp _).trans hk2
    have HI2 := hid (show Ints W₂ (.slice pa p.length pc) p from HPW.out.ints.keep hkz (fun g hg => by obtain ⟨v, hv⟩ := hg; exact cell_loop hr2 hv))
    have HCB := hid hcb2
    obtain ⟨q0, q1, q2, q3⟩ := four_of hbx
    have c0 := cell_of (i := 0) hcb2 rfl
    have f0 := frozen_of (i := 0) hcb2
    simp only [List.getElem_toArray, List.getElem_cons_zero] at c0
    have hbl := lt_of_block hcb2
    have hsz : Z.heap.size < W₂.heap.size := lt_of_block hbx
    have HBX := hid hbx
    rw [tB_size] at hi
    rw [tB_all] at hL
    have fin : ∀ (W₃ : World) (n : Int), Ext W₂ W₃ → n = ((i + 1 : Nat) : Int) → bodyR (begI w10.heap.size) (fun _ _ _ => False) (fun q => q = w10.heap.size) (fun k => (Value.slice pa p.length pc).ownBlock = some k ∨ k ∈ bs') i Z W₂ .normal { tmps := #[], defers := [] } (W₃.setCell ⟨w10.heap.size, 0, none⟩ (.int .i64 n)) := fun W₃ n hx e =>
      ⟨(hx.kp _).trans (Kp.set _ _ _ _ (fun h => h (.inl rfl))), fun q => q = w10.heap.size, ⟨rfl, by rw [e]; exact set_one (hx.block HCB.out)⟩, fun q hq => .inl hq⟩
    have HF := hid fin
    clear fin hk2 hkz hr3 hr2 hcb hbx hcb2 hE hpw
    have wf : ∀ f, Fence.wide.fn f := fun _ => trivial
    have wd : Fence.wide.depth = none := rfl
    rcases (show i = 0 ∨ i = 1 ∨ i = 2 ∨ i = 3 by omega) with rfl | rfl | rfl | rfl
    · gi_wp2_with fail
      exact HF.out _ _ (Ext.refl _) rfl
    · gi_wp2_with fail
      exact HF.out _ _ (Ext.refl _) rfl
    · obtain ⟨rfl, rfl⟩ : p = [1] ∧ u = .node kEF 0 ⟨#[]⟩ [tLeaf kGH] := by
        have h := Option.some.inj hL
        exact ⟨(congrArg Prod.fst h).symm, (congrArg Prod.snd h).symm⟩
      have q : (T.node kEF 0 ⟨#[]⟩ [tLeaf kGH]).kind.toList = [101, 46, 102] := by show (⟨#[101, 46, 102]⟩ : ByteArray).toList = _; rw [ByteArray.toList_eq]
      have q' : (!(T.node kEF 0 ⟨#[]⟩ [tLeaf kGH]).kind.toList == [101, 46, 102]) = false := by rw [q]; rfl
      clear hks
      have y0 := cell_of (i := 0) (blkOld (.cells #[.int .i64 1] 3) HBX.out) rfl
      simp only [List.getElem_toArray, List.getElem_cons_zero] at y0
      have HC := hid (show Calls Try.prog 12 #[.slice pa [(1 : Int)].length pc, .slice (some ⟨W₂.heap.size, 0, none⟩) 1 1] (W₂.alloc (.cells #[.int .i64 1] 3)) fun e w' => e = .returned (.bool true) ∧ Ext (W₂.alloc (.cells #[.int .i64 1] 3)) w' from
        eqPath_any pa (some ⟨W₂.heap.size, 0, none⟩) pc 1 [1] [1] _ (by decide) (by decide) (HI2.out.later (Ext.alloc _ _)) (.inr ⟨W₂.heap.size, 0, 1, rfl, fun j u hu => by
          match j, hu with
          | 0, hu => cases hu; exact cell_of (blk0 W₂ _) rfl⟩))
      gi_wp2_with (gi_at_call 12; refine (CallsIn.inRound l2 (callsIn_wide.2 HC.out)).mono ?_; rintro e W₃ ⟨rfl, hx3⟩; have X3 : Ext W₂ W₃ := (Ext.alloc _ _).trans hx3; have y1 := cell_of (i := 0) (X3.block HBX.out) rfl; have d0 := cell_of (i := 0) (X3.block HCB.out) rfl; have g0 := frozen_of (i := 0) (X3.block HCB.out); simp only [List.getElem_toArray, List.getElem_cons_zero] at y1 d0)
      exact HF.out _ _ X3 rfl
    · gi_wp2_with fail
      exact HF.out _ _ (Ext.refl _) rfl
  case done =>
    rintro D Z M' hD ⟨rfl, hcb⟩ hd hmd hsub hk
    rw [tB_size] at hcb
    have hkY : Kp (fun q => ¬ q = w10.heap.size) w10 Z := (hXY.kp _).trans hk
    have hXZ : Ext w10 Z := hkY.ext (fun q hq e => by omega)
    have c0 := cell_of (i := 0) hcb rfl
    simp only [List.getElem_toArray, List.getElem_cons_zero] at c0
    have HXZ := hid hXZ
    clear hkY hk
    have hZ9 : Ext w9 Z := H910.out.trans hXZ
    have hVZ : Ext V Z := HX9.out.trans hZ9
    have HVZ := hid hVZ
    have HSK := hid (show ∀ W', Ext Z W' → W'.cell? ⟨w2.heap.size + 1 + 1, 0, none⟩ = some (.string kAB) ∧ W'.cell? ⟨w2.heap.size + 1 + 1, 1, none⟩ = some (.int .i64 0) ∧ W'.cell? ⟨w2.heap.size + 1 + 1, 2, none⟩ = some (.string ⟨#[]⟩) ∧ W'.cell? ⟨w2.heap.size + 1 + 1, 3, none⟩ = some (.slice (some ⟨w2.heap.size + 1, 0, none⟩) 2 2) ∧ W'.cell? ⟨w4.heap.size, 0, none⟩ = some (.string k4) ∧ W'.cell? ⟨w4.heap.size, 1, none⟩ = some (.int .i64 n4) ∧ W'.cell? ⟨w4.heap.size, 2, none⟩ = some (.string x4) ∧ W'.cell? ⟨w4.heap.size, 3, none⟩ = some (.slice a4 l4 c4) ∧ W'.cell? ⟨w8.heap.size, 0, none⟩ = some (.string k8) ∧ W'.cell? ⟨w8.heap.size, 1, none⟩ = some (.int .i64 n8) ∧ W'.cell? ⟨w8.heap.size, 2, none⟩ = some (.string x8) ∧ W'.cell? ⟨w8.heap.size, 3, none⟩ = some (.slice a8 l8 c8) from fun W' Y => by
      obtain ⟨a0, a1, a2, a3⟩ := four_of ((hVZ.trans Y).block HV2.out)
      obtain ⟨b0, b1, b2, b3⟩ := four_of ((hZ9.trans Y).block HQ9.out.1)
      obtain ⟨d0, d1, d2, d3⟩ := four_of ((hZ9.trans Y).block HQ9.out.2)
      exact ⟨a0, a1, a2, a3, b0, b1, b2, b3, d0, d1, d2, d3⟩)
    have hnb : ∀ {b : Nat} {o : Array Value}, Z.heap[b]? = some (.cells o 26) → b ≠ w.heap.size := fun hb e => by
      subst e
      rw [hVZ.block HRES.out] at hb
      injection hb with hb
      injection hb with _ h2
      revert h2
      decide
    have HSS := hid (show ∀ W', Ext Z W' → (W'.setCell ⟨w.heap.size, 0, none⟩ (.bool true)).cell? ⟨w2.heap.size + 1 + 1, 0, none⟩ = some (.string kAB) ∧ (W'.setCell ⟨w.heap.size, 0, none⟩ (.bool true)).cell? ⟨w2.heap.size + 1 + 1, 1, none⟩ = some (.int .i64 0) ∧ (W'.setCell ⟨w.heap.size, 0, none⟩ (.bool true)).cell? ⟨w2.heap.size + 1 + 1, 2, none⟩ = some (.string ⟨#[]⟩) ∧ (W'.setCell ⟨w.heap.size, 0, none⟩ (.bool true)).cell? ⟨w2.heap.size + 1 + 1, 3, none⟩ = some (.slice (some ⟨w2.heap.size + 1, 0, none⟩) 2 2) ∧ (W'.setCell ⟨w.heap.size, 0, none⟩ (.bool true)).cell? ⟨w4.heap.size, 0, none⟩ = some (.string k4) ∧ (W'.setCell ⟨w.heap.size, 0, none⟩ (.bool true)).cell? ⟨w4.heap.size, 1, none⟩ = some (.int .i64 n4) ∧ (W'.setCell ⟨w.heap.size, 0, none⟩ (.bool true)).cell? ⟨w4.heap.size, 2, none⟩ = some (.string x4) ∧ (W'.setCell ⟨w.heap.size, 0, none⟩ (.bool true)).cell? ⟨w4.heap.size, 3, none⟩ = some (.slice a4 l4 c4) ∧ (W'.setCell ⟨w.heap.size, 0, none⟩ (.bool true)).cell? ⟨w8.heap.size, 0, none⟩ = some (.string k8) ∧ (W'.setCell ⟨w.heap.size, 0, none⟩ (.bool true)).cell? ⟨w8.heap.size, 1, none⟩ = some (.int .i64 n8) ∧ (W'.setCell ⟨w.heap.size, 0, none⟩ (.bool true)).cell? ⟨w8.heap.size, 2, none⟩ = some (.string x8) ∧ (W'.setCell ⟨w.heap.size, 0, none⟩ (.bool true)).cell? ⟨w8.heap.size, 3, none⟩ = some (.slice a8 l8 c8) from fun W' Y => by
      have kk := Kp.set (K := (· ≠ w.heap.size)) W' w.heap.size 0 (.bool true) (fun h => h rfl)
      obtain ⟨a0, a1, a2, a3, b0, b1, b2, b3, d0, d1, d2, d3⟩ := HSK.out W' Y
      have n1 := hnb (hVZ.block HV2.out)
      have n2 := hnb (hZ9.block HQ9.out.1)
      have n3 := hnb (hZ9.block HQ9.out.2)
      exact ⟨kk.cell a0 n1, kk.cell a1 n1, kk.cell a2 n1, kk.cell a3 n1, kk.cell b0 n2, kk.cell b1 n2, kk.cell b2 n2, kk.cell b3 n2, kk.cell d0 n3, kk.cell d1 n3, kk.cell d2 n3, kk.cell d3 n3⟩)
    have HRC := hid (show ∀ W', Ext Z W' → W'.cell? ⟨w.heap.size, 0, none⟩ = some (.bool false) ∧ W'.frozen? ⟨w.heap.size, 0, none⟩ = false from fun W' Y => ⟨cell_of ((hVZ.trans Y).block HRES.out) rfl, frozen_of ((hVZ.trans Y).block HRES.out)⟩)
    clear hnb
    have C1 := hid (fun W' (_ : Ext Z W') => leaf_any kGH W')
    have C2 := hid (show ∀ W', Ext Z W' → Calls Try.prog 24 #[.agg #[.string k4, .int .i64 n4, .string x4, .slice a4 l4 c4], leafV kGH] W' fun e w' => e = .returned (.bool true) ∧ Ext W' w' from fun W' Y => eq_any d4 _ _ (tLeaf kGH) (tLeaf kGH) _ (fun _ => True) W' 1 (HO49.out.later (hZ9.trans Y)) (leaf_rd _ W' kGH (by decide)))
    have C3 := hid (fun W' (_ : Ext Z W') => leaf_any kXY W')
    have C4 := hid (show ∀ W', Ext Z W' → Calls Try.prog 24 #[.agg #[.string k8, .int .i64 n8, .string x8, .slice a8 l8 c8], leafV kXY] W' fun e w' => e = .returned (.bool true) ∧ Ext W' w' from fun W' Y => eq_any 1 _ _ (tLeaf kXY) (tLeaf kXY) _ (fun _ => True) W' 1 (HO9.out.later (hZ9.trans Y)) (leaf_rd _ W' kXY (by decide)))
    have C5 := hid (show ∀ W', Ext Z W' → Calls Try.prog 21 #[(.agg #[.string kAB, .int .i64 0, .string ⟨#[]⟩, .slice (some ⟨w2.heap.size + 1, 0, none⟩) 2 2])] W' fun e w' => e = .returned (.int .i64 0) ∧ Ext W' w' from fun W' Y => by
      have h := may_face W' (HRV.out.later (hVZ.trans Y))
      rw [tB_may] at h
      exact h)
    have C6 := hid (fun W' (_ : Ext Z W') => leaf_any ⟨#[97, 98]⟩ W')
    have C7 := hid (show ∀ W', Ext Z W' → Calls Try.prog 21 #[leafV ⟨#[97, 98]⟩] W' fun e w' => e = .returned (.int .i64 10) ∧ Ext W' w' from fun W' Y => by
      have h := may_face W' (t := tLeaf ⟨#[97, 98]⟩) (leaf_rd (fun _ => True) W' ⟨#[97, 98]⟩ (by decide))
      rw [tX_may] at h
      exact h)
    have C8 := hid (show ∀ W', Ext Z W' → Calls Try.prog 17 #[(.agg #[.string kAB, .int .i64 0, .string ⟨#[]⟩, .slice (some ⟨w2.heap.size + 1, 0, none⟩) 2 2]), (.agg #[.string kAB, .int .i64 0, .string ⟨#[]⟩, .slice (some ⟨w2.heap.size + 1, 0, none⟩) 2 2])] W' fun e w' => e = .returned (.bool true) ∧ Ext W' w' from fun W' Y => by
      have h := same_face W' (HRV.out.later (hVZ.trans Y)) (HRV.out.later (hVZ.trans Y))
      rw [show (decide tB.small && decide tB.small && T.beq tB tB) = true by decide] at h
      exact h)
    have HXD := hid (show ∀ W', Ext Z W' → W'.heap[D]? = some (.deferred (some [])) from fun W' Y => Y.block hd)
    have hDge : w.heap.size ≤ D := by have h1 := HXW.out.size; have h2 := HX10.out.size; omega
    have hDne : D ≠ w.heap.size := fun e => by
      have h1 := hVZ.block HRES.out
      rw [← e, hd] at h1
      cases h1
    have hmem : w.heap.size < V.heap.size := lt_of_block HRES.out
    clear hcb hmb hXY hsub hmd hd hXZ hZ9 hVZ
    gi_wp2_with fail
    clear c0
    have SK0 := HSK.out Z (Ext.refl _)
    refine wpIn_wide.2 ?_
    go_region_held3 (fun W' => W'.cell? ⟨w2.heap.size + 1 + 1, 0, none⟩ = some (.string kAB) ∧ W'.cell? ⟨w2.heap.size + 1 + 1, 1, none⟩ = some (.int .i64 0) ∧ W'.cell? ⟨w2.heap.size + 1 + 1, 2, none⟩ = some (.string ⟨#[]⟩) ∧ W'.cell? ⟨w2.heap.size + 1 + 1, 3, none⟩ = some (.slice (some ⟨w2.heap.size + 1, 0, none⟩) 2 2) ∧ W'.cell? ⟨w4.heap.size, 0, none⟩ = some (.string k4) ∧ W'.cell? ⟨w4.heap.size, 1, none⟩ = some (.int .i64 n4) ∧ W'.cell? ⟨w4.heap.size, 2, none⟩ = some (.string x4) ∧ W'.cell? ⟨w4.heap.size, 3, none⟩ = some (.slice a4 l4 c4) ∧ W'.cell? ⟨w8.heap.size, 0, none⟩ = some (.string k8) ∧ W'.cell? ⟨w8.heap.size, 1, none⟩ = some (.int .i64 n8) ∧ W'.cell? ⟨w8.heap.size, 2, none⟩ = some (.string x8) ∧ W'.cell? ⟨w8.heap.size, 3, none⟩ = some (.slice a8 l8 c8)) (first | exact HSS.out v8 Y8 | exact SK8 | exact SK7 | exact SK6 | exact SK5 | exact SK4 | exact SK3 | exact SK2 | exact SK1 | exact SK0 | go_keep)
      (first
        | (go_at_call 32; (fail_if_success (have g1 := s1)); refine (C1.out _ ((Ext.refl Z).drew)).mono ?_; rintro r v1 ⟨rfl, hv1⟩; have Y1 : Ext Z v1 := Ext.trans ((Ext.refl Z).drew) hv1; have s1 : True := trivial; have SK1 := HSK.out v1 Y1)
        | (go_at_call 24; have g1 := s1; (fail_if_success (have g2 := s2)); refine (C2.out _ Y1).mono ?_; rintro r v2 ⟨rfl, hv2⟩; have Y2 : Ext Z v2 := Ext.trans Y1 hv2; have s2 : True := trivial; have SK2 := HSK.out v2 Y2)
        | (go_at_call 32; have g1 := s1; have g2 := s2; (fail_if_success (have g3 := s3)); refine (C3.out _ Y2).mono ?_; rintro r v3 ⟨rfl, hv3⟩; have Y3 : Ext Z v3 := Ext.trans Y2 hv3; have s3 : True := trivial; have SK3 := HSK.out v3 Y3)
        | (go_at_call 24; have g1 := s1; have g2 := s2; have g3 := s3; (fail_if_success (have g4 := s4)); refine (C4.out _ Y3).mono ?_; rintro r v4 ⟨rfl, hv4⟩; have Y4 : Ext Z v4 := Ext.trans Y3 hv4; have s4 : True := trivial; have SK4 := HSK.out v4 Y4)
        | (go_at_call 21; have g1 := s1; have g2 := s2; have g3 := s3; have g4 := s4; (fail_if_success (have g5 := s5)); refine (C5.out _ Y4).mono ?_; rintro r v5 ⟨rfl, hv5⟩; have Y5 : Ext Z v5 := Ext.trans Y4 hv5; have s5 : True := trivial; have SK5 := HSK.out v5 Y5)
        | (go_at_call 32; have g1 := s1; have g2 := s2; have g3 := s3; have g4 := s4; have g5 := s5; (fail_if_success (have g6 := s6)); refine (C6.out _ Y5).mono ?_; rintro r v6 ⟨rfl, hv6⟩; have Y6 : Ext Z v6 := Ext.trans Y5 hv6; have s6 : True := trivial; have SK6 := HSK.out v6 Y6)
        | (go_at_call 21; have g1 := s1; have g2 := s2; have g3 := s3; have g4 := s4; have g5 := s5; have g6 := s6; (fail_if_success (have g7 := s7)); refine (C7.out _ Y6).mono ?_; rintro r v7 ⟨rfl, hv7⟩; have Y7 : Ext Z v7 := Ext.trans Y6 hv7; have s7 : True := trivial; have SK7 := HSK.out v7 Y7)
        | (go_at_call 17; have g1 := s1; have g2 := s2; have g3 := s3; have g4 := s4; have g5 := s5; have g6 := s6; have g7 := s7; (fail_if_success (have g8 := s8)); refine (C8.out _ Y7).mono ?_; rintro r v8 ⟨rfl, hv8⟩; have Y8 : Ext Z v8 := Ext.trans Y7 hv8; have s8 : True := trivial; have SK8 := HSK.out v8 Y8; obtain ⟨rc8, rf8⟩ := HRC.out v8 Y8))
    all_goals
      have hd8 := set_other (i := 0) ((HXD.out v8 Y8)) hDne (.bool true)
      have hb8 := set_one (u := .bool true) ((HVZ.out.trans Y8).block HRES.out)
      have hk8 := Kp.putObj (v8.setCell ⟨w.heap.size, 0, none⟩ (.bool true)) D (.deferred none)
      have hb9 := hk8.block' hb8 (Ne.symm hDne)
      have z0 := cell_of (i := 0) hb9 rfl
      simp only [List.getElem_toArray, List.getElem_cons_zero] at z0
      have hE := Kp.extOf (Kp.extOf (HXW.out.trans (HVZ.out.trans Y8)) (Kp.set v8 w.heap.size 0 (.bool true) (fun h => h rfl)) (Nat.le_refl _)) hk8 hDge
      gi_wp2_with fail
      refine ⟨by simp, .inl ⟨_, _, rfl, run_takeDeferred hd8, ?_⟩⟩
      exact ⟨.bool true, by simp [results, Try.results8, go_sem, z0], rfl, hE⟩
  case stop => rintro D Z c' M' hD h; exact h.elim
end Go.Proofs.Ythdmoghooaccgaa
