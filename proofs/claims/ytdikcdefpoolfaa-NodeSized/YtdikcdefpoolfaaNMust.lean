/-
  node.Must where a literal within a place lacks an ability, with all that this calls; what such an error tells; by contracts.
-/
import Derived.Test.YtdikcdefpoolfaaNWrap
namespace Go.Proofs.Ytdikcdefpoolfaa.Fa
open Go.RowKit
attribute [local go_sem] isLitLiteral isLitStrict isLitWrapped isLitOrigin isLitFramed isOrgLiteral isOrgStrict isOrgWrapped isOrgOrigin isOrgFramed isCodCoded isCodLocated isCodRaised isCodLacking isLacCoded isLacLocated isLacRaised isLacLacking isFraLiteral isFraStrict isFraWrapped isFraOrigin isFraFramed isVarLiteral isVarStrict isVarWrapped isVarOrigin isVarFramed mCodCode mLacCode mLacWhere mLacLacks mLitWorth mLitKind mLitNum mLitText mLitLen mLitKid mFraFrames mFraKind mFraNum mFraText mFraLen mFraKid mOrgFrom

set_option maxRecDepth 100000 in
theorem where_of (b : Nat) (fu : ByteArray) (a : Option Addr) (n c : Nat) (xs : List Int) (w : World) (hb : xs.length * 8 ≤ 140737488355328) (h1 : w.cell? ⟨b, 1, none⟩ = some (.string fu)) (h2 : w.cell? ⟨b, 2, none⟩ = some (.slice a n c)) (hI : Ints w (.slice a n c) xs) :
    Calls Try.prog 95 #[.pointer (some ⟨b, 0, none⟩)] w fun r w' => ∃ v', r = .returned (.agg #[.string fu, v']) ∧ w'.ownsRow w.heap.size 3 1 v' xs.length (xs.map (Value.int .i64)) ∧ Ext w w' := by
  have HI : Hid (Ints w (.slice a n c) xs) := hI
  clear hI
  have hlt : b < w.heap.size := lt_of_cell h1
  go_enter Try.func95, Try.ntmps95
  go_wp2_with (go_at_call 67; refine (copied_any fu a n c xs _ hb (HI.out.later (Ext.alloc _ _))).mono ?_; rintro r w1 ⟨v', rfl, ho, hx⟩; obtain ⟨a', n', c', rfl⟩ := ownsRow_slice ho; have b0 := hx.block (blk0 w (.cells #[.string ByteArray.empty, .slice none 0 0] 54)); have d0 := cell_of (i := 0) b0 rfl; have d1 := cell_of (i := 1) b0 rfl; have g0 := frozen_of (i := 0) b0; have g1 := frozen_of (i := 1) b0)
  have ho' : w1.ownsRow (w.heap.size + 1) 3 1 (.slice a' n' c') xs.length (xs.map (Value.int .i64)) := by simpa using ho
  clear ho
  refine bodyPost_ret (v := .agg #[.string fu, .slice a' n' c']) (by simp [results, Try.results95, go_sem, d0, d1]) rfl ⟨_, rfl, ?_, ?_⟩
  · exact row_mono (row_set (row_set ho' (by omega)) (by omega)) (by omega)
  · exact (((Ext.alloc _ _).trans hx).set0 _ _).set0 _ _
set_option maxRecDepth 100000 in
theorem from_of (b : Nat) (fu : ByteArray) (a : Option Addr) (n c : Nat) (xs : List Int) (w : World) (hb : xs.length * 8 ≤ 140737488355328) (h1 : w.cell? ⟨b, 2, none⟩ = some (.string fu)) (h2 : w.cell? ⟨b, 3, none⟩ = some (.slice a n c)) (hI : Ints w (.slice a n c) xs) :
    Calls Try.prog 89 #[.pointer (some ⟨b, 0, none⟩)] w fun r w' => ∃ v', r = .returned (.agg #[.string fu, v']) ∧ w'.ownsRow w.heap.size 3 1 v' xs.length (xs.map (Value.int .i64)) ∧ Ext w w' := by
  have HI : Hid (Ints w (.slice a n c) xs) := hI
  clear hI
  have hlt : b < w.heap.size := lt_of_cell h1
  go_enter Try.func89, Try.ntmps89
  go_wp2_with (go_at_call 24; refine (copiedN_any fu a n c xs _ hb (HI.out.later (Ext.alloc _ _))).mono ?_; rintro r w1 ⟨v', rfl, ho, hx⟩; obtain ⟨a', n', c', rfl⟩ := ownsRow_slice ho; have b0 := hx.block (blk0 w (.cells #[.string ByteArray.empty, .slice none 0 0] 54)); have d0 := cell_of (i := 0) b0 rfl; have d1 := cell_of (i := 1) b0 rfl; have g0 := frozen_of (i := 0) b0; have g1 := frozen_of (i := 1) b0)
  have ho' : w1.ownsRow (w.heap.size + 1) 3 1 (.slice a' n' c') xs.length (xs.map (Value.int .i64)) := by simpa using ho
  clear ho
  refine bodyPost_ret (v := .agg #[.string fu, .slice a' n' c']) (by simp [results, Try.results89, go_sem, d0, d1]) rfl ⟨_, rfl, ?_, ?_⟩
  · exact row_mono (row_set (row_set ho' (by omega)) (by omega)) (by omega)
  · exact (((Ext.alloc _ _).trans hx).set0 _ _).set0 _ _
theorem lacks_drew (b : Nat) (ki ab : ByteArray) (w : World) (h : w.cell? ⟨b, 3, none⟩ = some (.string ki)) (h' : w.cell? ⟨b, 4, none⟩ = some (.string ab)) :
    Calls Try.prog 94 #[.pointer (some ⟨b, 0, none⟩)] w fun r w' => r = .returned (.tuple #[.string ki, .string ab]) ∧ w' = w.drew := by
  go_enter Try.func94, Try.ntmps94
  go_wp2
  go_region
  all_goals
    go_wp2
    go_ret2
    exact ⟨rfl, rfl⟩



end Go.Proofs.Ytdikcdefpoolfaa.Fa
namespace Go.Proofs.Ytdikcdefpoolfaa
open Go.RowKit
attribute [local go_sem] isLitLiteral isLitStrict isLitWrapped isLitOrigin isLitFramed isOrgLiteral isOrgStrict isOrgWrapped isOrgOrigin isOrgFramed isCodCoded isCodLocated isCodRaised isCodLacking isLacCoded isLacLocated isLacRaised isLacLacking isFraLiteral isFraStrict isFraWrapped isFraOrigin isFraFramed isVarLiteral isVarStrict isVarWrapped isVarOrigin isVarFramed mCodCode mLacCode mLacWhere mLacLacks mLitWorth mLitKind mLitNum mLitText mLitLen mLitKid mFraFrames mFraKind mFraNum mFraText mFraLen mFraKid mOrgFrom
set_option maxRecDepth 100000 in
set_option maxHeartbeats 1000000 in
theorem placeOf_org (ob : Nat) (cv nv : Value) (fu : ByteArray) (a : Option Addr) (n c : Nat) (xs : List Int) (w : World) (ho : OrgAt w ob cv nv fu (.slice a n c)) (hb : xs.length * 8 ≤ 140737488355328) (hI : Fa.Ints w (.slice a n c) xs) :
    Calls Try.prog 28 #[.iface 97 (.pointer (some ⟨ob, 0, none⟩))] w fun e w' => ∃ a1 n1 c1, e = .returned (.agg #[.string fu, .slice a1 n1 c1]) ∧ w'.ownsRow w.heap.size 3 1 (.slice a1 n1 c1) xs.length (xs.map (Value.int .i64)) ∧ Ext w w' := by
  have HO := hid ho
  have HI := hid hI
  clear ho hI
  obtain ⟨M, hM⟩ : ∃ M, w.alloc (.cells #[.string ⟨#[]⟩, .slice none 0 0] 54) = M := ⟨_, rfl⟩
  have XM := hid (show Ext w M from hM ▸ Ext.alloc _ _)
  have HM0 := hid (show M.heap[w.heap.size]? = some (.cells #[.string ⟨#[]⟩, .slice none 0 0] 54) from hM ▸ blk0 _ _)
  have HMS := hid (show M.heap.size = w.heap.size + 1 from hM ▸ blkS _ _)
  go_enter Try.func28, Try.ntmps28
  go_wp2_with fail
  clear hM
  refine wp_loop_rounds 1 ?_
  rw [rounds_succ]
  go_wp2_with fail
  go_at_call 89
  refine (Fa.from_of ob fu a n c xs M hb (cell_of (XM.out.block HO.out) rfl) (cell_of (XM.out.block HO.out) rfl) (HI.out.later XM.out)).mono ?_
  rintro e w1 ⟨pv, rfl, hown, hx⟩
  obtain ⟨a1, n1, c1, rfl⟩ := Fa.ownsRow_slice hown
  have HZ := hid (hx.block HM0.out)
  have X1 := hid (XM.out.trans hx)
  have HW := hid hown
  clear hx hown
  have r0 : w1.cell? ⟨w.heap.size, 0, none⟩ = some (.string ⟨#[]⟩) := cell_of HZ.out rfl
  have r1 : w1.cell? ⟨w.heap.size, 1, none⟩ = some (.slice none 0 0) := cell_of HZ.out rfl
  have f0 : w1.frozen? ⟨w.heap.size, 0, none⟩ = false := frozen_of HZ.out
  have f1 : w1.frozen? ⟨w.heap.size, 1, none⟩ = false := frozen_of HZ.out
  go_wp2_with fail
  have hb2 := (set_at (set_at HZ.out 0 (.string fu)) 1 (.slice a1 n1 c1)).trans rfl
  have z0 : ((w1.setCell ⟨w.heap.size, 0, none⟩ (.string fu)).setCell ⟨w.heap.size, 1, none⟩ (.slice a1 n1 c1)).cell? ⟨w.heap.size, 0, none⟩ = some (.string fu) := cell_of hb2 rfl
  have z1 : ((w1.setCell ⟨w.heap.size, 0, none⟩ (.string fu)).setCell ⟨w.heap.size, 1, none⟩ (.slice a1 n1 c1)).cell? ⟨w.heap.size, 1, none⟩ = some (.slice a1 n1 c1) := cell_of hb2 rfl
  refine bodyPost_ret (v := .agg #[.string fu, .slice a1 n1 c1]) (by simp [results, Try.results28, go_sem, z0, z1]) rfl ?_
  have hk : Kp (· ≠ w.heap.size) w1 _ := (Kp.set w1 w.heap.size 0 (.string fu) (fun h => h rfl)).trans (Kp.set _ w.heap.size 1 (.slice a1 n1 c1) (fun h => h rfl))
  refine ⟨a1, n1, c1, rfl, ?_, Kp.extOf X1.out hk (Nat.le_refl _)⟩
  have hlt : w.heap.size < M.heap.size := by have := HMS.out; omega
  exact Fa.row_mono (Fa.row_set (Fa.row_set HW.out hlt) hlt) (Nat.le_of_lt hlt)
theorem kind_of (b : Nat) (k : ByteArray) (w : World) (h : w.cell? ⟨b, 0, none⟩ = some (.string k)) : Calls Try.prog 97 #[.pointer (some ⟨b, 0, none⟩)] w fun e w' => e = .returned (.string k) ∧ w' = w := by
  go_enter Try.func97, Try.ntmps97
  go_wp2
  go_ret
  exact ⟨rfl, rfl⟩
theorem find_lazy : abFind (nmA 2) = some 2 := by decide
set_option maxRecDepth 100000 in
set_option maxHeartbeats 4000000 in
theorem must_lazy (h ob b : Nat) (nv v : Value) (k x fu : ByteArray) (m : Int) (a : Option Addr) (n c : Nat) (xs : List Int) (w : World) (hh : HandAt w h (.iface 97 (.pointer (some ⟨ob, 0, none⟩))) (.iface 165 (.pointer (some ⟨b, 0, none⟩)))) (ho : OrgAt w ob (.iface 165 (.pointer (some ⟨b, 0, none⟩))) nv fu (.slice a n c)) (hl : LitAt w b k m x v) (hb : xs.length * 8 ≤ 140737488355328) (hI : Fa.Ints w (.slice a n c) xs) :
    Calls Try.prog 11 #[.pointer (some ⟨h, 0, none⟩), .string (nmA 2)] w fun e w' => ∃ kb pv, e = .returned (.iface 137 (.pointer (some ⟨kb, 0, none⟩))) ∧ w.heap.size ≤ kb ∧ Fa.LackingAt w' kb 13 fu pv k (nmA 2) ∧ w'.ownsRow w.heap.size 3 1 pv xs.length (xs.map (Value.int .i64)) ∧ Ext w w' := by
  have HH := hid hh
  have HO := hid ho
  have HL := hid hl
  have HI := hid hI
  clear hh ho hl hI
  have HFL := hid find_lazy
  have HCL := hid (fun w1 (_ : Ext w w1) => claims_literal (.pointer (some ⟨b, 0, none⟩)) 2 (by omega) w1)
  have HEN := hid (enters 2 (by omega))
  rw [show has_literal 2 = false from rfl] at HCL
  obtain ⟨lz, hlz⟩ : ∃ z, nmA 2 = z := ⟨_, rfl⟩
  obtain ⟨fz, hfz⟩ : ∃ z, fnA 2 = z := ⟨_, rfl⟩
  have HV := hid (show abV (nmA 2) (outA 2) (fnA 2) = .agg #[.string lz, .bool false, .func (.func fz) #[] #[]] by rw [← hlz, ← hfz]; rfl)
  rw [hlz] at HFL ⊢
  rw [hfz] at HCL HEN
  clear hfz hlz
  go_enter Try.func11, Try.ntmps11
  go_wp2_with fail
  go_at_call 7
  refine (node_at h _ _ w HH.out).mono ?_
  rintro e w0 ⟨rfl, hw0⟩
  rw [hw0]
  clear hw0 w0
  go_wp2_with fail
  go_at_call 25
  refine (abilityOf_any lz w).mono ?_
  rintro e w1 ⟨hx1, hk⟩
  rw [HFL.out] at hk
  have hk : e = .returned (.tuple #[abV (nmA 2) (outA 2) (fnA 2), .bool true]) := hk
  rw [HV.out] at hk
  subst hk
  obtain ⟨V, hV⟩ : ∃ V, w1.alloc (.cells #[.string lz, .bool false, .func (.func fz) #[] #[]] 105) = V := ⟨_, rfl⟩
  have XV := hid (show Ext w V from hV ▸ hx1.trans (Ext.alloc _ _))
  have HAB := hid (show V.heap[w1.heap.size]? = some (.cells #[.string lz, .bool false, .func (.func fz) #[] #[]] 105) from hV ▸ blk0 _ _)
  obtain ⟨q0, q1, q2⟩ := three_of HAB.out
  have h0 : V.cell? ⟨h, 0, none⟩ = some (.iface 97 (.pointer (some ⟨ob, 0, none⟩))) := cell_of (XV.out.block HH.out) rfl
  have h1 : V.cell? ⟨h, 1, none⟩ = some (.iface 165 (.pointer (some ⟨b, 0, none⟩))) := cell_of (XV.out.block HH.out) rfl
  clear hx1
  go_wp2_with fail
  clear hV
  go_at_call 26
  refine (holds_any lz false false fz _ V HEN.out (fun w2 hx2 => HCL.out w2 (XV.out.trans hx2))).mono ?_
  rintro e w2 ⟨rfl, hx2⟩
  have X2 := hid (XV.out.trans hx2)
  have HSK := hid (show ∀ W', Ext w2 W' → (Ext w W' ∧ W'.cell? ⟨h, 0, none⟩ = some (.iface 97 (.pointer (some ⟨ob, 0, none⟩))) ∧ W'.cell? ⟨h, 1, none⟩ = some (.iface 165 (.pointer (some ⟨b, 0, none⟩))) ∧ W'.cell? ⟨b, 0, none⟩ = some (.string k)) from fun W' X =>
    ⟨X2.out.trans X, cell_of ((X2.out.trans X).block HH.out) rfl, cell_of ((X2.out.trans X).block HH.out) rfl, cell_of ((X2.out.trans X).block HL.out) rfl⟩)
  clear hx2 q0 q1 q2 h0 h1
  go_wp2_with fail
  go_region_held3 (fun W' => Ext w W' ∧ W'.cell? ⟨h, 0, none⟩ = some (.iface 97 (.pointer (some ⟨ob, 0, none⟩))) ∧ W'.cell? ⟨h, 1, none⟩ = some (.iface 165 (.pointer (some ⟨b, 0, none⟩))) ∧ W'.cell? ⟨b, 0, none⟩ = some (.string k))
    (first | with_reducible exact HSK.out _ (Ext.refl _) | with_reducible exact HSK.out _ (Ext.refl _).drew | with_reducible exact HSK.out _ Z3 | with_reducible exact HSK.out _ Z1 | go_keep)
    (first
      | (go_at_call 28; refine (placeOf_org ob _ nv fu a n c xs _ ((X2.out.trans (by repeat (first | with_reducible exact Ext.refl _ | with_reducible refine Ext.drew ?_))).block HO.out) hb (HI.out.later (X2.out.trans (by repeat (first | with_reducible exact Ext.refl _ | with_reducible refine Ext.drew ?_))))).mono ?_; rintro r u1 ⟨a1, n1, c1, rfl, hown, hy⟩; have Z1 : Ext w2 u1 := Ext.trans (by repeat (first | with_reducible exact Ext.refl _ | with_reducible refine Ext.drew ?_)) hy)
      | (go_at_call 97; first | refine (kind_of b k _ (HSK.out _ (by repeat (first | with_reducible exact Ext.refl _ | with_reducible exact Z1 | with_reducible refine Ext.drew ?_))).2.2.2).mono ?_; rintro r u2 ⟨rfl, rfl⟩)
      | (go_at_call 27; refine (Fa.lack_any k lz fu a1 n1 c1 xs _ hb ((Fa.Ints.own hown).later (by repeat (first | with_reducible exact Ext.refl _ | with_reducible refine Ext.drew ?_)))).mono ?_; rintro r u3 ⟨kb, pv, rfl, hkb, hla, hown2, hy⟩; have Z3 : Ext w2 u3 := Ext.trans (by repeat (first | with_reducible exact Z1 | with_reducible refine Ext.drew ?_)) hy; have ZS := Z1.size))
  all_goals
    go_wp2_with fail
    go_ret
    exact ⟨kb, pv, rfl, Nat.le_trans X2.out.size (Nat.le_trans ZS hkb), hla, Fa.row_mono hown2 (Nat.le_trans X2.out.size ZS), X2.out.trans Z3⟩
end Go.Proofs.Ytdikcdefpoolfaa
