/-
  fault.Code of an error that fault.New gave: its number.
-/
import Derived.Test.YtnmcmjgfnncdmaaGreatDoorZzEAs
import Derived.Test.YtnmcmjgfnncdmaaGreatDoorZzBase
import Derived.Test.YtnmcmjgfnncdmaaGreatDoorZzBLaw
namespace Go.Proofs.YtnmcmjgfnncdmaaGreatDoor.Er
open Go.RowKit
attribute [local go_sem] isNCoded isNLocated isNRaised isNLacking isNUnw isNAsI isNUnws isNNoted isCCoded isCLocated isCRaised isCLacking isCUnw isCAsI isCUnws isCNoted isLCoded isLLocated isLRaised isLLacking isLUnw isLAsI isLUnws isLNoted isKCoded isKLocated isKRaised isKLacking isKUnw isKAsI isKUnws isKNoted isHCoded isHLocated isHRaised isHLacking isHUnw isHAsI isHUnws isHNoted toCodedCoded toCodedLocated toCodedRaised toCodedLacking toCodedNoted toLocatedCoded toLocatedLocated toLocatedRaised toLocatedLacking toLocatedNoted toRaisedCoded toRaisedLocated toRaisedRaised toRaisedLacking toRaisedNoted toLackingCoded toLackingLocated toLackingRaised toLackingLacking toLackingNoted toNotedCoded toNotedLocated toNotedRaised toNotedLacking toNotedNoted mNUnwrap mNError mCCode mCError mLCode mLWhere mLError mKCode mKWhere mKLacks mKError mHAs mHUnwrap

theorem lt_of_cell {w : World} {a : Addr} {v : Value} (h : w.cell? a = some v) : a.block < w.heap.size := by
  rcases Nat.lt_or_ge a.block w.heap.size with h' | h'
  · exact h'
  · simp [World.cell?, Array.getElem?_eq_none h'] at h
theorem from_any (t : TypeId) (v : Value) (w : World) :
    Calls Tryz.prog 72 #[.iface t v] w fun r w' => r = .returned (.agg #[.iface t v, .int .i64 1024]) ∧ Ext w w' := by
  go_enter Tryz.func72, Tryz.ntmps72
  go_wp2
  refine bodyPost_ret (v := .agg #[.iface t v, .int .i64 1024]) (by simp [results, Tryz.results72, go_sem]) rfl ⟨rfl, ?_⟩
  first | exact Ext.alloc _ _ | exact ((Ext.alloc _ _).set0 _ _).set0 _ _
theorem code_of (b : Nat) (co : Int) (w : World) (h : w.cell? ⟨b, 0, none⟩ = some (.int .i64 co)) :
    Calls Tryz.prog 332 #[.pointer (some ⟨b, 0, none⟩)] w fun r w' => r = .returned (.int .i64 co) ∧ w' = w := by
  go_enter Tryz.func332, Tryz.ntmps332
  go_wp2
  go_ret
  exact ⟨rfl, rfl⟩

set_option maxRecDepth 100000 in
set_option maxHeartbeats 2000000 in
theorem code_C (t0 : TypeId) (v0 : Value) (b k : Nat) (num : Int) (es : Nat → Value) (w : World) (hk : k < 1024) (he0 : es 0 = .iface t0 v0) (hek : es k = .iface 199 (.pointer (some ⟨b, 0, none⟩))) (hc : w.cell? ⟨b, 0, none⟩ = some (.int .i64 num))
    (hi : ∀ i, i < k → ∃ t v, es (i + 1) = .iface t v) (hno : ∀ i, i < k → ∃ v, Asks 147 (es i) v false) (hu : ∀ i, i < k → Unwraps w (es i) (es (i + 1))) :
    Calls Tryz.prog 30 #[.iface t0 v0] w fun r w' => r = .returned (.int .i64 num) ∧ Ext w w' := by
  have HAS : Hid (∀ w1, Ext (w.alloc (.cells #[.nilIface] 147)) w1 → Calls Tryz.prog 71 #[.iface 150 (.agg #[.iface t0 v0, .int .i64 1024]), .iface 152 (.pointer (some ⟨w.heap.size, 0, none⟩))] w1 fun r w' => r = .returned (.bool true) ∧ Apart w.heap.size w1 w' ∧ w'.heap[w.heap.size]? = some (.cells #[.iface 199 (.pointer (some ⟨b, 0, none⟩))] 147)) := fun w1 hx => by
    have h := As_Coded_hit 199 (.pointer (some ⟨b, 0, none⟩)) es 1024 k hk (Nat.le_refl _) w.heap.size .nilIface w1 (hx.block (blk0 _ _)) hi hno (fun i h => (hu i h).later ((Ext.alloc _ _).trans hx)) (by rw [hek]; exact fun w => isCCoded _ _ _)
    rw [he0] at h
    exact h
  have hlt := lt_of_cell hc
  have HC : Hid (w.cell? ⟨b, 0, none⟩ = some (.int .i64 num)) := hc
  clear hi hno hu hek he0 hc
  have hna : ∀ (w : World), (nilAhead 627 199 (.pointer (some ⟨b, 0, none⟩)) "Code").run Tryz.prog w = .ok (some false) w := fun w => by kernel_rfl
  have hmf : ∀ (fn : Fn) (first cap : Array Value) (w : World), (Instr.makeFunc fn first cap).run Tryz.prog w = .ok (.func fn first cap) w := fun _ _ _ _ => rfl
  go_enter Tryz.func30, Tryz.ntmps30
  go_wp2_with (first
    | (go_at_call 72; refine (from_any t0 v0 _).mono ?_; rintro r w1 ⟨rfl, hx1⟩)
    | (go_at_call 71; refine (HAS.out w1 hx1).mono ?_; rintro r w2 ⟨rfl, hA, hB⟩; have cB : w2.cell? ⟨w.heap.size, 0, none⟩ = some (.iface 199 (.pointer (some ⟨b, 0, none⟩))) := cell_of hB rfl; have hx2 : Ext w w2 := hA.ext ((Ext.alloc w _).trans hx1) (Nat.le_refl _); have HC2 : Hid (w2.cell? ⟨b, 0, none⟩ = some (.int .i64 num)) := (Below.cell hx2 hlt).trans HC.out)
    | (go_at_call 73; refine (guarded_Errno_C b (.int .i64 num) w2 (fun w3 h3 => (code_of b num w3 ((Below.cell h3 (Nat.lt_of_lt_of_le hlt hx2.size)).trans HC2.out)).mono (by rintro r w4 ⟨rfl, rfl⟩; exact ⟨rfl, Ext.refl _⟩))).mono ?_; rintro r w3 ⟨rfl, hx3⟩))
  go_ret
  exact ⟨rfl, hx2.trans hx3⟩


end Go.Proofs.YtnmcmjgfnncdmaaGreatDoor.Er
/-
  fault.New and fault.Code of what it gave, by contracts.
-/
namespace Go.Proofs.YtnmcmjgfnncdmaaGreatDoor.Nd
open Go.RowKit
theorem fnew_any (c : Int) (hc : (c == 0) = false) (w : World) : Calls Tryz.prog 64 #[.int .i64 c] w fun e w' => e = .returned (.iface 199 (.pointer (some ⟨w.heap.size, 0, none⟩))) ∧ w' = w.alloc (.cells #[.int .i64 c] 201) := by
  go_enter Tryz.func64, Tryz.ntmps64
  go_wp2_with fail
  go_ret
  exact ⟨rfl, rfl⟩
theorem fcode_any (b : Nat) (c : Int) (w : World) (h : w.cell? ⟨b, 0, none⟩ = some (.int .i64 c)) : Calls Tryz.prog 30 #[.iface 199 (.pointer (some ⟨b, 0, none⟩))] w fun e w' => e = .returned (.int .i64 c) ∧ Ext w w' :=
  Er.code_C 199 (.pointer (some ⟨b, 0, none⟩)) b 0 c (fun _ => .iface 199 (.pointer (some ⟨b, 0, none⟩))) w (by decide) rfl rfl h (fun i hi => absurd hi (Nat.not_lt_zero _)) (fun i hi => absurd hi (Nat.not_lt_zero _)) (fun i hi => absurd hi (Nat.not_lt_zero _))
end Go.Proofs.YtnmcmjgfnncdmaaGreatDoor.Nd
/-
  (*Kit).Make of a kit by a table where the node's name does not fit: the error that tells why; by contracts.
-/
namespace Go.Proofs.YtnmcmjgfnncdmaaGreatDoor.Nd
open Go.RowKit
def MakeBad (w : World) (c : Int) (e : Ending) (w' : World) : Prop := ∃ b, e = .returned (.tuple #[.pointer none, .iface 199 (.pointer (some ⟨b, 0, none⟩))]) ∧ w'.cell? ⟨b, 0, none⟩ = some (.int .i64 c) ∧ Ext w w'
set_option maxRecDepth 100000 in
set_option maxHeartbeats 8000000 in
theorem makeK_bad {base kb mb : Nat} {nme : ByteArray} {lv : Value} {acc : List Rw} (bx : Nat) (k x : ByteArray) (ao ka : Option Addr) (kl kc nk c : Nat) (bs : Nat → Nat) (w : World) (hkm : KitM w base kb mb nme (.func (.func 124) #[] #[.pointer (some ⟨bx, 0, none⟩)]) lv acc) (hn : nk ≤ 100000) (hh : HandsP w ao nk c (fun _ => 388) (fun i => .pointer (some ⟨bs i, 0, none⟩)))
    (hks : k.size ≤ 4000) (hxs : x.size ≤ 140737488351232) (ix : Nat) (hix : kIx acc k = some ix) (hil : ix < acc.length) (hrk : acc[ix].kind = k) (hrn : acc[ix].num = false) (hrt : acc[ix].text = 0 ∨ acc[ix].text = 2) (hmn : acc[ix].min ≤ nk) (hmx : acc[ix].max = -1 ∨ (nk : Int) ≤ acc[ix].max) (ev : Int) (hev : (ev == 0) = false) (hfq : fitQ acc[ix].text x = ev) :
    Calls Tryz.prog 29 #[.pointer (some ⟨kb, 0, none⟩), .agg #[.string k, .int .i64 0, .string x, .slice ka kl kc], .slice ao nk c] w (MakeBad w ev) := by
  obtain ⟨rg, rcap, ra, rc, hlv, ⟨p0, p1, p2, p3, p4, p5⟩, htb⟩ := hkm.rows.read ix hil
  subst hlv
  obtain ⟨k0, k1', k2, k3⟩ := hkm.four
  have hnk : (nk : Int) ≤ 100000 := by omega
  have hil' : (ix : Int) < acc.length := by omega
  have HNO := hid (fun w1 (hx : Ext w w1) => knodesOf_any ao nk c (fun _ => 388) (fun i => .pointer (some ⟨bs i, 0, none⟩)) w1 hn (hh.o.later hx))
  have HLOOK := hid (show ∀ w1, Ext w w1 → (Instr.lookup 124 (.map (some mb)) (.string k) true).run Tryz.prog w1 = .ok (.tuple #[.int .i64 (ix : Int), .bool true]) w1 from fun w1 hx => by
    have := (hkm.map.later hx).look k (by omega)
    rw [hix] at this
    exact this)
  have HFIT := hid (fun w1 => fits_gen k x acc[ix].min acc[ix].max acc[ix].text hrt ra acc[ix].abs.length rc ka kl kc nk w1 hmn hmx hxs)
  rw [hfq] at HFIT
  rw [hrk] at p0
  rw [hrn] at p3
  have hev2 : (ev != 0) = true := by unfold bne; rw [hev]; rfl
  have HEV := hid hev
  clear hkm hn hh hix hrk hrn hrt hmn hmx hfq htb hev
  generalize acc[ix].min = rmin at *
  generalize acc[ix].max = rmax at *
  generalize acc[ix].text = rtx at *
  generalize acc[ix].abs.length = rl at *
  generalize acc.length = rn at *
  have hMKNE : ∀ (w : World), (binOp .eql 126 (.func (.func 124) #[] #[.pointer (some ⟨bx, 0, none⟩)]) .nilFunc).run Tryz.prog w = .ok (.bool false) w := fun _ => by kernel_rfl
  obtain ⟨M, hM⟩ : ∃ M, w.alloc (.cells #[.string k, .int .i64 0, .string x, .slice ka kl kc] 69) = M := ⟨_, rfl⟩
  have XM := hid (show Ext w M from hM ▸ Ext.alloc _ _)
  have HM0 := hid (show M.heap[w.heap.size]? = some (.cells #[.string k, .int .i64 0, .string x, .slice ka kl kc] 69) from hM ▸ blk0 _ _)
  have hkbl := lt_of_cell k0
  have HS3 := hid (show ∀ W', Ext M W' → (W'.cell? ⟨kb, 2, none⟩ = some (.map (some mb)) ∧ W'.cell? ⟨w.heap.size, 0, none⟩ = some (.string k) ∧ (Instr.lookup 124 (.map (some mb)) (.string k) true).run Tryz.prog W' = .ok (.tuple #[.int .i64 (ix : Int), .bool true]) W') from fun W' X => by
    obtain ⟨s0, s1, s2, s3⟩ := four_of (X.block HM0.out)
    exact ⟨((XM.out.trans X).kp (fun _ => True)).cell k2 trivial, s0, HLOOK.out _ (XM.out.trans X)⟩)
  have HS9 := hid (show ∀ W', Ext M W' → (W'.cell? ⟨kb, 1, none⟩ = some (.slice (some ⟨rg, 0, none⟩) rn rcap) ∧ W'.cell? ⟨rg, ix * 6, none⟩ = some (.string k) ∧ W'.cell? ⟨rg, ix * 6 + 1, none⟩ = some (.int .i64 rmin) ∧ W'.cell? ⟨rg, ix * 6 + 2, none⟩ = some (.int .i64 rmax) ∧ W'.cell? ⟨rg, ix * 6 + 3, none⟩ = some (.bool false) ∧ W'.cell? ⟨rg, ix * 6 + 4, none⟩ = some (.int .i64 rtx) ∧ W'.cell? ⟨rg, ix * 6 + 5, none⟩ = some (.slice ra rl rc) ∧ W'.cell? ⟨w.heap.size, 0, none⟩ = some (.string k) ∧ W'.cell? ⟨w.heap.size, 1, none⟩ = some (.int .i64 0) ∧ W'.cell? ⟨w.heap.size, 2, none⟩ = some (.string x) ∧ W'.cell? ⟨w.heap.size, 3, none⟩ = some (.slice ka kl kc)) from fun W' X => by
    obtain ⟨s0, s1, s2, s3⟩ := four_of (X.block HM0.out)
    have Y : ∀ {q : Addr} {v : Value}, w.cell? q = some v → W'.cell? q = some v := fun e => ((XM.out.trans X).kp (fun _ => True)).cell e trivial
    exact ⟨Y k1', Y p0, Y p1, Y p2, Y p3, Y p4, Y p5, s0, s1, s2, s3⟩)
  have k3M : M.cell? ⟨kb, 3, none⟩ = some (.func (.func 124) #[] #[.pointer (some ⟨bx, 0, none⟩)]) := (XM.out.kp (fun _ => True)).cell k3 trivial
  clear k0 k1' k2 k3 p0 p1 p2 p3 p4 p5
  go_enter Tryz.func29, Tryz.ntmps29
  go_upto_region 3 with fail
  first | rw [hM] | skip
  clear hM k3M
  go_cut [8, 9] from 25 to 34 (fun s8 s9 wx => s8 = .int .i64 (ix : Int) ∧ s9 = .bool true ∧ Ext M wx)
  case first =>
    go_region_held3 (fun W' => W'.cell? ⟨kb, 2, none⟩ = some (.map (some mb)) ∧ W'.cell? ⟨w.heap.size, 0, none⟩ = some (.string k) ∧ (Instr.lookup 124 (.map (some mb)) (.string k) true).run Tryz.prog W' = .ok (.tuple #[.int .i64 (ix : Int), .bool true]) W') (first | with_reducible exact HS3.out _ (Ext.refl _) | with_reducible exact HS3.out _ (Ext.refl _).drew | with_reducible exact HS3.out _ Z1 | go_keep) (first | fail)
    all_goals
      go_wp2_with fail
      go_meet
      case rel => exact ⟨rfl, rfl, (by repeat (first | with_reducible exact Ext.refl _ | with_reducible refine Ext.drew ?_))⟩
  case rest =>
    obtain ⟨rfl, rfl, hx1⟩ := hcut
    have X1 := hid hx1
    clear hx1
    go_wp2_with fail
    refine (HNO.out _ (XM.out.trans X1.out)).mono ?_
    rintro e w2 ⟨q, rfl, hq, hx2⟩
    obtain ⟨qa, cq, rfl⟩ := ownsRow_slice hq
    have HQ := hid hq
    have X2 := hid (X1.out.trans hx2)
    clear hq hx2
    go_upto_region 9 with fail
    have HS9b := hid (show ∀ W', Ext w2 W' → (W'.cell? ⟨kb, 1, none⟩ = some (.slice (some ⟨rg, 0, none⟩) rn rcap) ∧ W'.cell? ⟨rg, ix * 6, none⟩ = some (.string k) ∧ W'.cell? ⟨rg, ix * 6 + 1, none⟩ = some (.int .i64 rmin) ∧ W'.cell? ⟨rg, ix * 6 + 2, none⟩ = some (.int .i64 rmax) ∧ W'.cell? ⟨rg, ix * 6 + 3, none⟩ = some (.bool false) ∧ W'.cell? ⟨rg, ix * 6 + 4, none⟩ = some (.int .i64 rtx) ∧ W'.cell? ⟨rg, ix * 6 + 5, none⟩ = some (.slice ra rl rc) ∧ W'.cell? ⟨w.heap.size, 0, none⟩ = some (.string k) ∧ W'.cell? ⟨w.heap.size, 1, none⟩ = some (.int .i64 0) ∧ W'.cell? ⟨w.heap.size, 2, none⟩ = some (.string x) ∧ W'.cell? ⟨w.heap.size, 3, none⟩ = some (.slice ka kl kc)) from fun W' X => HS9.out W' (X2.out.trans X))
    go_cut [11] from 46 to 56 (fun s11 wx => s11 = .int .i64 ev ∧ Ext w2 wx)
    case first =>
      go_region_held3 (fun W' => W'.cell? ⟨kb, 1, none⟩ = some (.slice (some ⟨rg, 0, none⟩) rn rcap) ∧ W'.cell? ⟨rg, ix * 6, none⟩ = some (.string k) ∧ W'.cell? ⟨rg, ix * 6 + 1, none⟩ = some (.int .i64 rmin) ∧ W'.cell? ⟨rg, ix * 6 + 2, none⟩ = some (.int .i64 rmax) ∧ W'.cell? ⟨rg, ix * 6 + 3, none⟩ = some (.bool false) ∧ W'.cell? ⟨rg, ix * 6 + 4, none⟩ = some (.int .i64 rtx) ∧ W'.cell? ⟨rg, ix * 6 + 5, none⟩ = some (.slice ra rl rc) ∧ W'.cell? ⟨w.heap.size, 0, none⟩ = some (.string k) ∧ W'.cell? ⟨w.heap.size, 1, none⟩ = some (.int .i64 0) ∧ W'.cell? ⟨w.heap.size, 2, none⟩ = some (.string x) ∧ W'.cell? ⟨w.heap.size, 3, none⟩ = some (.slice ka kl kc)) (first | with_reducible exact HS9b.out _ (Ext.refl _) | with_reducible exact HS9b.out _ (Ext.refl _).drew | with_reducible exact HS9b.out _ Z1 | go_keep)
        (first
          | (go_at_call 66; refine (HFIT.out _).mono ?_; rintro r u1 ⟨rfl, hy⟩; have Z1 : Ext w2 u1 := Ext.trans (by repeat (first | with_reducible exact Ext.refl _ | with_reducible refine Ext.drew ?_)) hy))
      all_goals
        go_wp2_with fail
        go_meet
        case rel => exact ⟨rfl, Z1⟩
    case rest =>
      obtain ⟨rfl, hx3⟩ := hcut
      have X3 := hid (X2.out.trans hx3)
      clear hx3 HS9b
      go_wp2_with fail
      refine (fnew_any ev HEV.out _).mono ?_
      rintro e w4 ⟨rfl, hw4⟩
      have HC4 := hid (show w4.cell? ⟨wc.heap.size, 0, none⟩ = some (.int .i64 ev) from hw4 ▸ cell_of (blk0 _ _) rfl)
      have X4 := hid (show Ext wc w4 from hw4 ▸ Ext.alloc _ _)
      clear hw4
      go_wp2_with fail
      go_ret2
      exact ⟨_, rfl, HC4.out, XM.out.trans (X3.out.trans X4.out)⟩

end Go.Proofs.YtnmcmjgfnncdmaaGreatDoor.Nd
/-
  made of the statements of call, where the node is refused: none; by contracts.
-/
namespace Go.Proofs.YtnmcmjgfnncdmaaGreatDoor.Nd
open Go.RowKit
set_option maxRecDepth 100000 in
set_option maxHeartbeats 4000000 in
theorem lawMadeCbad (ev : Int) (kb : Nat) (k x : ByteArray) (n : Nat) (w : World) (hn : n ≤ 1000)
    (hmk : ∀ (w1 : World) (a : Option Addr) (c : Nat) (bs : Nat → Nat), Ext w w1 → HandsP w1 a n c (fun _ => 388) (fun i => .pointer (some ⟨bs i, 0, none⟩)) → Calls Tryz.prog 29 #[.pointer (some ⟨kb, 0, none⟩), .agg #[.string k, .int .i64 0, .string x, .slice none 0 0], .slice a n c] w1 (MakeBad w1 ev)) :
    Calls Tryz.prog 28 #[.pointer (some ⟨kb, 0, none⟩), .agg #[.string k, .int .i64 0, .string x, .slice none 0 0], .int .i64 n] w fun e w' => e = .returned .nilIface ∧ Ext w w' := by
  obtain ⟨i0, hi0, hz0, hz1, hz2⟩ := info_parts hpInfo
  have HMK := hid hmk
  have hn' : (n : Int) ≤ 1000 := by omega
  clear hmk
  obtain ⟨M, hM⟩ : ∃ M, w.alloc (.cells #[.string k, .int .i64 0, .string x, .slice none 0 0] 69) = M := ⟨_, rfl⟩
  have XM := hid (show Ext w M from hM ▸ Ext.alloc _ _)
  have HM0 := hid (show M.heap[w.heap.size]? = some (.cells #[.string k, .int .i64 0, .string x, .slice none 0 0] 69) from hM ▸ blk0 _ _)
  go_enter Tryz.func28, Tryz.ntmps28
  go_wp2_with fail
  first | rw [hM] | skip
  clear hM
  go_loopw [7, 8] (fun q7 q8 wr => ∃ j : Nat, j ≤ n ∧ q8 = .int .i64 j ∧ KidsLp M j q7 wr) (fun _ q8 _ => n - (intOf q8).toNat)
  case atStart => exact ⟨0, Nat.zero_le _, rfl, ⟨[], [], rfl, rfl, World.ownsRow_nil _ _ _ _, fun i h => absurd h (Nat.not_lt_zero _), Ext.refl _⟩⟩
  case round =>
    obtain ⟨j, hj, rfl, hk⟩ := hrel
    obtain ⟨a3, c3, rfl⟩ := hk.slice
    have HK := hid hk
    clear hk
    by_cases hlt : j < n
    · have hlt' : (j : Int) < n := by omega
      go_wp2_with fail
      refine (make_yes _).mono ?_
      rintro e w2 ⟨b, h, rfl, hb, hh, hhd, hlit, hx2⟩
      have HHD := hid hhd
      have X2 := hid hx2
      have HHL := hid hh
      clear hb hh hhd hlit hx2
      obtain ⟨hs, bs, h1, h2, ho, hc, hx⟩ := HK.out
      have HO2 := hid (row_ext ho (X2.out.trans (Ext.alloc w2 (.cells #[.pointer (some ⟨h, 0, none⟩)] 70))))
      have HN := hid (new_one w2 (.pointer (some ⟨h, 0, none⟩)) 70)
      have HUS := hid (hx.trans X2.out).size
      have HC := hid hc
      have HXX := hid hx
      have HL1 := hid h1
      have HL2 := hid h2
      clear ho hc hx h1 h2
      go_wp2_with (at_builtin; refine wpList_append_own_at _ rfl _ _ 121 rfl M.heap.size 70 i0 (.pointer none) 1 8 Tryz.underlying121 hi0 hz0 hz1 hz2 rfl (by decide) _ _ _ rfl HO2.out ⟨w2.heap.size, 0, none⟩ 1 1 [.pointer (some ⟨h, 0, none⟩)] rfl rfl HN.out (by simp [Value.oneCell']) (by unfold maxLen; omega) (by omega) (by have := HUS.out; simp; omega) ?_; intro v9 w9 hown9 hgrow9 _ _; have HO9 := hid hown9; have HG9 : Hid (World.grownBy (w2.alloc (.cells #[.pointer (some ⟨h, 0, none⟩)] 70)) w9 (Value.slice a3 j c3).ownBlock) := hid hgrow9; clear hown9 hgrow9)
      go_roundw
      case measure => simp [intOf]; omega
      case rel =>
        have hkp := grown_kp HG9.out
        have hcell : ∀ (q : Nat) (u1 u2 : Value), HandAt w2 q u1 u2 → HandAt w9 q u1 u2 := fun q u1 u2 hq => by
          have hq' : (w2.alloc (.cells #[.pointer (some ⟨h, 0, none⟩)] 70)).heap[q]? = some (.cells #[u1, u2] 198) := blkOld _ hq
          refine hkp.block' hq' (fun e => ?_)
          rcases HO2.out.2 with ⟨hv, _⟩ | ⟨gg, cap, cur, hv, _, hbk, _⟩
          · rw [hv] at e; simp [Value.ownBlock] at e
          · rw [hv] at e
            simp [Value.ownBlock] at e
            subst e
            rw [hbk] at hq'
            simp at hq'
        refine ⟨j + 1, by omega, by go_num, ⟨hs ++ [h], bs ++ [b], by simp [HL1.out], by simp [HL2.out], by rw [List.map_append]; exact HO9.out, fun i h1 h2 => ?_, ((HXX.out.trans X2.out).more _).grown HG9.out (by have := HUS.out; simp; omega) (fun k hk => (HO2.out.lt k hk).1)⟩⟩
        by_cases hi : i < hs.length
        · have hi2 : i < bs.length := by rw [HL2.out, ← HL1.out]; exact hi
          rw [List.getElem_append_left hi, List.getElem_append_left hi2]
          exact hcell _ _ _ (X2.out.block (HC.out i hi hi2))
        · have hie : i = hs.length := by simp at h1; omega
          subst hie
          have hbe : bs.length = hs.length := by rw [HL2.out, HL1.out]
          simp only [List.getElem_append_right (Nat.le_refl _), Nat.sub_self, List.getElem_cons_zero]
          rw [List.getElem_append_right (by omega)]
          simp only [hbe, Nat.sub_self, List.getElem_cons_zero]
          exact hcell _ _ _ HHD.out
    · obtain rfl : j = n := by omega
      obtain ⟨bs, hP⟩ := HK.out.hands
      obtain ⟨_, _, _, _, _, _, hx⟩ := HK.out
      have HXX := hid hx
      have HMR := hid (HMK.out _ a3 c3 bs (XM.out.trans hx) hP)
      obtain ⟨t0, t1, t2, t3⟩ := four_of (hx.block HM0.out)
      have hwl := lt_of_cell t0
      have hlt3 : ¬ (j : Int) < j := by omega
      clear hx hP
      go_wp2_with fail
      refine HMR.out.mono ?_
      rintro e w4 ⟨b, rfl, _, hx4⟩
      have X4 := hid (XM.out.trans (HXX.out.trans hx4))
      clear hx4
      go_wp2_with fail
      refine (node_nil _).mono ?_
      rintro e w5 ⟨rfl, hw5⟩
      rw [hw5]
      clear hw5 w5
      go_wp2_with fail
      go_ret
      exact ⟨rfl, X4.out⟩

end Go.Proofs.YtnmcmjgfnncdmaaGreatDoor.Nd
