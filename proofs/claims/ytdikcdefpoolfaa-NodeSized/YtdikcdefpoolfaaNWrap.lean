/-
  node.Wrap around a node, with all that this calls; by contracts.
-/
import Derived.Test.YtdikcdefpoolfaaNVoid
import Derived.Test.YtdikcdefpoolfaaSpelt
namespace Go.Proofs.Ytdikcdefpoolfaa.Fa
open Go.RowKit

set_option maxRecDepth 100000 in
set_option maxHeartbeats 1000000 in
theorem copiedN_any (fu : ByteArray) (a : Option Addr) (n c : Nat) (xs : List Int) (w : World) (hb : xs.length * 8 ≤ 140737488355328) (h : Ints w (.slice a n c) xs) :
    Calls Try.prog 24 #[.agg #[.string fu, .slice a n c]] w fun r w' => ∃ v', r = .returned (.agg #[.string fu, v']) ∧ w'.ownsRow w.heap.size 3 1 v' xs.length (xs.map (Value.int .i64)) ∧ Ext w w' := by
  have HI : Hid (Ints w (.slice a n c) xs) := h
  clear h
  go_enter Try.func24, Try.ntmps24
  go_wp2
  go_region_with (go_at_call 37; refine (clone_any _ xs _ hb ((HI.out.later (Ext.alloc2 _ _ _)).later (Ext.refl _).drew)).mono ?_; rintro r w1 ⟨v', rfl, ho, hx⟩; obtain ⟨a', n', c', rfl⟩ := ownsRow_slice ho; have b0 := hx.block (show (((w.alloc (.cells #[.string fu, .slice a n c] 54)).alloc (.cells #[.string ByteArray.empty, .slice none 0 0] 54)).drew).heap[w.heap.size]? = _ from blkOld _ (blk0 _ _)); have b1 := hx.block (show (((w.alloc (.cells #[.string fu, .slice a n c] 54)).alloc (.cells #[.string ByteArray.empty, .slice none 0 0] 54)).drew).heap[w.heap.size + 1]? = _ from blk1 _ _ _); have c0 := cell_of (i := 0) b0 rfl; have c1 := cell_of (i := 1) b0 rfl; have d0 := cell_of (i := 0) b1 rfl; have d1 := cell_of (i := 1) b1 rfl; have g0 := frozen_of (i := 0) b1; have g1 := frozen_of (i := 1) b1)
  all_goals
    have ho' : w1.ownsRow (w.heap.size + 1 + 1) 3 1 (.slice a' n' c') xs.length (xs.map (Value.int .i64)) := by simpa using ho
    clear ho
    go_wp2
    refine bodyPost_ret (v := .agg #[.string fu, .slice a' n' c']) (by simp [results, Try.results24, go_sem, d0, d1]) rfl ⟨_, rfl, ?_, ?_⟩
    · exact row_mono (row_set (row_set ho' (by omega)) (by omega)) (by omega)
    · exact ((((Ext.alloc2 _ _ _).drew).trans hx).set1 _ _).set1 _ _




end Go.Proofs.Ytdikcdefpoolfaa.Fa
namespace Go.Proofs.Ytdikcdefpoolfaa
open Go.RowKit
attribute [local go_sem] isLitLiteral isLitStrict isLitWrapped isLitOrigin isLitFramed isOrgLiteral isOrgStrict isOrgWrapped isOrgOrigin isOrgFramed isCodCoded isCodLocated isCodRaised isCodLacking isLacCoded isLacLocated isLacRaised isLacLacking isFraLiteral isFraStrict isFraWrapped isFraOrigin isFraFramed isVarLiteral isVarStrict isVarWrapped isVarOrigin isVarFramed mCodCode mLacCode mLacWhere mLacLacks mLitWorth mLitKind mLitNum mLitText mLitLen mLitKid mFraFrames mFraKind mFraNum mFraText mFraLen mFraKid mOrgFrom
set_option maxRecDepth 100000 in
theorem path_one (gs c : Nat) (w : World) (h : w.cell? ⟨gs, 0, none⟩ = some (.int .i64 1)) : Calls Try.prog 36 #[.slice (some ⟨gs, 0, none⟩) 1 c] w fun e w' => e = .returned (.bool true) ∧ w' = w := by
  go_enter Try.func36, Try.ntmps36
  go_wp2
  refine wp_loop_rounds 2 ?_
  rw [rounds_succ]
  go_wp2
  rw [rounds_succ]
  go_wp2
  go_ret
  exact ⟨rfl, rfl⟩
/-- The letter f. -/
def bF : ByteArray := ⟨#[102]⟩
set_option maxRecDepth 100000 in
theorem place_one (gs c : Nat) (w : World) (h : w.cell? ⟨gs, 0, none⟩ = some (.int .i64 1)) : Calls Try.prog 23 #[.agg #[.string bF, .slice (some ⟨gs, 0, none⟩) 1 c]] w fun e w' => e = .returned (.bool true) ∧ Ext w w' := by
  have HG := hid (show ∀ W', Ext w W' → W'.cell? ⟨gs, 0, none⟩ = some (.int .i64 1) from fun W' X => (X.kp (fun _ => True)).cell h trivial)
  clear h
  have HNM := hid (fun w1 => name_any bF w1)
  rw [show speltB nameI 32 bF.data.toList = true by decide] at HNM
  have hb : (bF.toList == []) = false := by rw [ByteArray.toList_eq]; rfl
  obtain ⟨M, hM⟩ : ∃ M, w.alloc (.cells #[.string bF, .slice (some ⟨gs, 0, none⟩) 1 c] 54) = M := ⟨_, rfl⟩
  have XM := hid (show Ext w M from hM ▸ Ext.alloc _ _)
  have HM0 := hid (show M.heap[w.heap.size]? = some (.cells #[.string bF, .slice (some ⟨gs, 0, none⟩) 1 c] 54) from hM ▸ blk0 _ _)
  have t0 : M.cell? ⟨w.heap.size, 0, none⟩ = some (.string bF) := cell_of HM0.out rfl
  have t1 : M.cell? ⟨w.heap.size, 1, none⟩ = some (.slice (some ⟨gs, 0, none⟩) 1 c) := cell_of HM0.out rfl
  generalize bF = bf at *
  go_enter Try.func23, Try.ntmps23
  go_wp2_with fail
  clear hM
  go_at_call 35
  refine (HNM.out M).mono ?_
  rintro e w1 ⟨rfl, hx⟩
  have X1 := hid (XM.out.trans hx)
  have p1 : w1.cell? ⟨w.heap.size, 1, none⟩ = some (.slice (some ⟨gs, 0, none⟩) 1 c) := cell_of (hx.block HM0.out) rfl
  clear hx t0 t1
  go_wp2_with fail
  go_at_call 36
  refine (path_one gs c w1 (HG.out w1 X1.out)).mono ?_
  rintro e w2 ⟨rfl, rfl⟩
  go_wp2_with fail
  go_ret
  exact ⟨rfl, X1.out⟩
/-- A node with a place around it. -/
abbrev OrgAt (w : World) (b : Nat) (c n : Value) (fu : ByteArray) (pv : Value) : Prop := w.heap[b]? = some (.cells #[c, n, .string fu, pv] 102)
set_option maxRecDepth 100000 in
set_option maxHeartbeats 4000000 in
theorem wrap_ok (h : Nat) (nt ct : TypeId) (nv cv : Value) (fu : ByteArray) (a : Option Addr) (n c : Nat) (xs : List Int) (w : World) (hh : HandAt w h (.iface nt nv) (.iface ct cv)) (hb : xs.length * 8 ≤ 140737488355328) (hI : Fa.Ints w (.slice a n c) xs)
    (hp : ∀ w1, Ext w w1 → Calls Try.prog 23 #[.agg #[.string fu, .slice a n c]] w1 fun e w' => e = .returned (.bool true) ∧ Ext w1 w') :
    Calls Try.prog 10 #[.pointer (some ⟨h, 0, none⟩), .agg #[.string fu, .slice a n c]] w fun e w' => ∃ h2 ob pv, e = .returned (.tuple #[.pointer (some ⟨h2, 0, none⟩), .nilIface]) ∧ w.heap.size ≤ h2 ∧ w.heap.size ≤ ob ∧ HandAt w' h2 (.iface 97 (.pointer (some ⟨ob, 0, none⟩))) (.iface ct cv) ∧ OrgAt w' ob (.iface ct cv) (.iface nt nv) fu pv ∧ w'.ownsRow w.heap.size 3 1 pv xs.length (xs.map (Value.int .i64)) ∧ Ext w w' := by
  have HH := hid hh
  have HI := hid hI
  have HP := hid hp
  clear hh hI hp
  obtain ⟨M, hM⟩ : ∃ M, w.alloc (.cells #[.string fu, .slice a n c] 54) = M := ⟨_, rfl⟩
  have XM := hid (show Ext w M from hM ▸ Ext.alloc _ _)
  have HM0 := hid (show M.heap[w.heap.size]? = some (.cells #[.string fu, .slice a n c] 54) from hM ▸ blk0 _ _)
  have HMS := hid (show M.heap.size = w.heap.size + 1 from hM ▸ blkS _ _)
  have t0 : M.cell? ⟨w.heap.size, 0, none⟩ = some (.string fu) := cell_of HM0.out rfl
  have t1 : M.cell? ⟨w.heap.size, 1, none⟩ = some (.slice a n c) := cell_of HM0.out rfl
  go_enter Try.func10, Try.ntmps10
  go_wp2_with fail
  clear hM
  go_at_call 7
  refine (node_at h _ _ M (XM.out.block HH.out)).mono ?_
  rintro e w1 ⟨rfl, rfl⟩
  go_wp2_with fail
  go_at_call 23
  refine (HP.out w1 XM.out).mono ?_
  rintro e w2 ⟨rfl, hx⟩
  have X2 := hid (XM.out.trans hx)
  have Y2 := hid hx.size
  have HSK := hid (show ∀ W', Ext w2 W' → (W'.cell? ⟨h, 0, none⟩ = some (.iface nt nv) ∧ W'.cell? ⟨h, 1, none⟩ = some (.iface ct cv) ∧ W'.cell? ⟨w.heap.size, 0, none⟩ = some (.string fu) ∧ W'.cell? ⟨w.heap.size, 1, none⟩ = some (.slice a n c)) from fun W' X =>
    ⟨cell_of (X.block (X2.out.block HH.out)) rfl, cell_of (X.block (X2.out.block HH.out)) rfl, cell_of (X.block (hx.block HM0.out)) rfl, cell_of (X.block (hx.block HM0.out)) rfl⟩)
  clear hx t0 t1
  go_wp2_with fail
  go_region_held3 (fun W' => W'.cell? ⟨h, 0, none⟩ = some (.iface nt nv) ∧ W'.cell? ⟨h, 1, none⟩ = some (.iface ct cv) ∧ W'.cell? ⟨w.heap.size, 0, none⟩ = some (.string fu) ∧ W'.cell? ⟨w.heap.size, 1, none⟩ = some (.slice a n c))
    (first | with_reducible exact HSK.out _ (Ext.refl _) | with_reducible exact HSK.out _ (Ext.refl _).drew | with_reducible exact HSK.out _ Z1 | with_reducible exact HSK.out _ (Z1.trans (Ext.alloc _ _)) | with_reducible exact HSK.out _ (Z1.trans (Ext.alloc2 _ _ _)) | go_keep)
    (first
      | (go_at_call 24; refine (Fa.copiedN_any fu a n c xs _ hb ((HI.out.later X2.out).later (by repeat (first | with_reducible exact Ext.refl _ | with_reducible refine Ext.drew ?_)))).mono ?_; rintro r u1 ⟨pv, rfl, hown, hy⟩; have Z1 : Ext w2 u1 := Ext.trans (by repeat (first | with_reducible exact Ext.refl _ | with_reducible refine Ext.drew ?_)) hy; obtain ⟨a1, n1, c1, rfl⟩ := Fa.ownsRow_slice hown))
  all_goals
    go_wp2_with fail
    go_ret2
    have hle : w.heap.size ≤ u1.heap.size := Nat.le_trans X2.out.size Z1.size
    exact ⟨u1.heap.size + 1, u1.heap.size, .slice a1 n1 c1, rfl, Nat.le_succ_of_le hle, hle, blk1 _ _ _, blkOld _ (blk0 _ _), Fa.row_ext (Fa.row_mono hown X2.out.size) (Ext.alloc2 _ _ _), X2.out.trans (Z1.trans (Ext.alloc2 _ _ _))⟩
end Go.Proofs.Ytdikcdefpoolfaa
