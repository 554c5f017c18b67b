/-
  The walk of espalierlaw1.FaultRing: it returns true, in whatever memory in which errors.errorType is laid.
-/
import Derived.Test.YtflcmdjekmmkkabDoorRingBase
import Derived.Test.YtflcmdjekmmkkabDoorBegun
import Derived.LoopTactic
import Derived.WalkMore
namespace Go.Proofs.YtflcmdjekmmkkabDoor
open Go.RowKit Go.Shelf
attribute [local go_sem] isNCoded isNLocated isNRaised isNLacking isNUnw isNAsI isNUnws isNNoted isGCoded isGLocated isGRaised isGLacking isGUnw isGAsI isGUnws isGNoted isCCoded isCLocated isCRaised isCLacking isCUnw isCAsI isCUnws isCNoted isLCoded isLLocated isLRaised isLLacking isLUnw isLAsI isLUnws isLNoted isRCoded isRLocated isRRaised isRLacking isRUnw isRAsI isRUnws isRNoted isHCoded isHLocated isHRaised isHLacking isHUnw isHAsI isHUnws isHNoted isOCoded isOLocated isORaised isOLacking isOUnw isOAsI isOUnws isONoted toCodedCoded toCodedLocated toCodedRaised toCodedLacking toCodedNoted toLocatedCoded toLocatedLocated toLocatedRaised toLocatedLacking toLocatedNoted toRaisedCoded toRaisedLocated toRaisedRaised toRaisedLacking toRaisedNoted toLackingCoded toLackingLocated toLackingRaised toLackingLacking toLackingNoted toNotedCoded toNotedLocated toNotedRaised toNotedLacking toNotedNoted mNUnwrap mNError mCCode mCError mLCode mLWhere mLError mRCode mRWhere mRSaid mRError mOUnwrap mGUnwrap mGError mHAs mHUnwrap

/-- The errors of a ring, over and over. -/
def rs (B n i : Nat) : Value := .iface 24 (.pointer (some ⟨B + i % (n + 1), 0, none⟩))
def RingOf (w : World) (B n : Nat) : Prop := ∀ j, j ≤ n → RingAt w (B + j) (B + (j + 1) % (n + 1))
theorem RingOf.later {w w' : World} {B n : Nat} (h : RingOf w B n) (hx : Ext w w') : RingOf w' B n := fun j hj => hx.block (h j hj)
theorem rs_zero (B n : Nat) : rs B n 0 = .iface 24 (.pointer (some ⟨B, 0, none⟩)) := by simp [rs]
theorem rs_unw {w : World} {B n : Nat} (h : RingOf w B n) (i : Nat) : Unwraps w (rs B n i) (rs B n (i + 1)) := by
  have h1 := h (i % (n + 1)) (Nat.le_of_lt_succ (Nat.mod_lt i (Nat.succ_pos n)))
  rw [Nat.mod_add_mod] at h1
  exact unwraps_ring _ _ w h1
theorem rs_form (B n i : Nat) : ∃ t v, rs B n i = .iface t v := ⟨_, _, rfl⟩
theorem rs_coded (B n i : Nat) : ∃ v, Asks 47 (rs B n i) v false := ⟨_, fun w => isOCoded _ _ w⟩
theorem rs_located (B n i : Nat) : ∃ v, Asks 64 (rs B n i) v false := ⟨_, fun w => isOLocated _ _ w⟩
theorem chain_ring {w : World} {B n : Nat} (h : RingOf w B n) : Chain w 1024 (rs B n) (fun _ => Option.none) :=
  ⟨by omega, Nat.le_refl _, .inl rfl, fun i _ _ => rs_unw h i, fun i _ => .inr ⟨_, _, rfl, fun w => isONoted _ _ w, rfl⟩⟩
theorem notedTo_none : ∀ m, notedTo (fun _ => Option.none) m = []
  | 0 => rfl
  | m + 1 => by show notedTo _ m ++ _ = _; rw [notedTo_none m]; rfl
theorem notedTo_one (y : ByteArray) (m : Nat) : notedTo (ahead (some y) (fun _ => Option.none)) (m + 1) = [.string y] := by rw [notedTo_cons, notedTo_none]
abbrev ws (b B n : Nat) : Nat → Value := ahead (.iface 53 (.pointer (some ⟨b, 0, none⟩))) (rs B n)
theorem ws_unw {w : World} {b B n : Nat} {y : ByteArray} (h : RingOf w B n) (hb : NotedAt w b (rs B n 0) y) (i : Nat) : Unwraps w (ws b B n i) (ws b B n (i + 1)) := by
  cases i with
  | zero => exact unwraps_noted b _ y w hb
  | succ i => exact rs_unw h i
theorem ws_form (b B n i : Nat) : ∃ t v, ws b B n i = .iface t v := by
  cases i with
  | zero => exact ⟨_, _, rfl⟩
  | succ i => exact ⟨_, _, rfl⟩
theorem ws_coded (b B n i : Nat) : ∃ v, Asks 47 (ws b B n i) v false := by
  cases i with
  | zero => exact ⟨_, fun w => isNCoded _ _ w⟩
  | succ i => exact rs_coded B n i
theorem ws_located (b B n i : Nat) : ∃ v, Asks 64 (ws b B n i) v false := by
  cases i with
  | zero => exact ⟨_, fun w => isNLocated _ _ w⟩
  | succ i => exact rs_located B n i
theorem chain_ws {w : World} {b B n : Nat} {y : ByteArray} (h : RingOf w B n) (hb : NotedAt w b (rs B n 0) y) : Chain w 1024 (ws b B n) (ahead (some y) (fun _ => Option.none)) :=
  ⟨by omega, Nat.le_refl _, .inl rfl, fun i _ _ => ws_unw h hb i, fun i _ => by
    cases i with
    | zero => exact .inl ⟨b, _, y, rfl, hb, rfl⟩
    | succ i => exact .inr ⟨_, _, rfl, fun w => isONoted _ _ w, rfl⟩⟩
/-- So many errors of another package ahead of one. -/
def farE (e : Value) : Nat → Value
  | 0 => e
  | k + 1 => .iface 42 (.agg #[.string ⟨#[102, 97, 114]⟩, farE e k])
def fs (e : Value) (k i : Nat) : Value := farE e (k - i)
theorem fs_unw (e : Value) (k i : Nat) (h : i < k) (w : World) : Unwraps w (fs e k i) (fs e k (i + 1)) := by
  unfold fs
  obtain ⟨j, hj⟩ : ∃ j, k - i = j + 1 := ⟨k - i - 1, by omega⟩
  rw [hj, show k - (i + 1) = j by omega]
  exact unwraps_foreign _ _ w
theorem fs_at (e : Value) (k i : Nat) (h : i < k) : ∃ v, fs e k i = .iface 42 v := by
  unfold fs
  obtain ⟨j, hj⟩ : ∃ j, k - i = j + 1 := ⟨k - i - 1, by omega⟩
  rw [hj]
  exact ⟨_, rfl⟩
theorem fs_coded (e : Value) (k i : Nat) (h : i < k) : ∃ v, Asks 47 (fs e k i) v false := by
  obtain ⟨v, hv⟩ := fs_at e k i h
  rw [hv]; exact ⟨_, fun w => isGCoded _ _ w⟩
theorem fs_located (e : Value) (k i : Nat) (h : i < k) : ∃ v, Asks 64 (fs e k i) v false := by
  obtain ⟨v, hv⟩ := fs_at e k i h
  rw [hv]; exact ⟨_, fun w => isGLocated _ _ w⟩
theorem row_one' {w : World} {base : Nat} {e : TypeId} {v y : Value} (h : w.ownsRow base e 1 v 1 [y]) : ∃ g cap, v = .slice (some ⟨g, 0, none⟩) 1 cap ∧ w.cell? ⟨g, 0, none⟩ = some y := by
  rcases h.2 with ⟨_, h0⟩ | ⟨g, cap, cur, rfl, _, hb, h1, h2, h3, h4⟩
  · cases h0
  · refine ⟨g, cap, rfl, cell_of hb ?_⟩
    have e0 : (cur.toList.take (1 * 1))[0]? = some y := by rw [h4]; rfl
    rw [List.getElem?_take_of_lt (by omega)] at e0
    simpa using e0
set_option maxRecDepth 100000 in
set_option maxHeartbeats 8000000 in
theorem ring_true (n far : Nat) (hn : n ≤ 255) (hf : far ≤ 65535) (w : World) (hG : Laid w) :
    Calls Tryd.prog 3 #[.int .u8 n, .int .u16 far] w fun r w' => r = .returned (.bool true) ∧ Ext w w' := by
  have HG : Hid (Laid w) := hG
  have hn' : (n : Int) ≤ 255 := by omega
  have hf' : (far : Int) ≤ 65535 := by omega
  clear hG
  go_enter Tryd.func3, Tryd.ntmps3
  go_wp2_with fail
  refine (begun_true _ HG.out).mono ?_
  rintro r V ⟨rfl, hx⟩
  have HV : Hid (Ext w V) := hx
  clear hx
  go_wp2_with fail
  go_loopw [6, 7] (fun t6 t7 wr => ∃ k : Nat, k ≤ n ∧ t7 = .int .i64 k ∧ t6 = .pointer (some ⟨V.heap.size + k, 0, none⟩) ∧ wr.heap.size = V.heap.size + k + 1 ∧ (∀ j, j < k → RingAt wr (V.heap.size + j) (V.heap.size + j + 1)) ∧ wr.heap[V.heap.size + k]? = some (.cells #[.pointer none] 26) ∧ Ext V wr) (fun _ t7 _ => n - (intOf t7).toNat)
  case atStart => exact ⟨0, Nat.zero_le _, rfl, rfl, by simp, fun j h => absurd h (Nat.not_lt_zero _), blk0 V _, Ext.alloc _ _⟩
  case round =>
    obtain ⟨k, hk, rfl, rfl, hsz, hri, hlast, hx⟩ := hrel
    have c0 : wr.cell? ⟨V.heap.size + k, 0, none⟩ = some (.pointer none) := cell_of hlast rfl
    have z0 : wr.frozen? ⟨V.heap.size + k, 0, none⟩ = false := frozen_of hlast
    have HR : Hid (∀ j, j < k → RingAt wr (V.heap.size + j) (V.heap.size + j + 1)) := hri
    have HLA : Hid (wr.heap[V.heap.size + k]? = some (.cells #[.pointer none] 26)) := hlast
    have HX : Hid (Ext V wr) := hx
    have HSZ : Hid (wr.heap.size = V.heap.size + k + 1) := hsz
    have hlw : V.heap.size + k < wr.heap.size := by omega
    clear hri hlast hx hsz
    by_cases hlt : k < n
    · have hlt' : (k : Int) < n := by omega
      have HW : Hid (Ext V ((wr.setCell ⟨V.heap.size + k, 0, none⟩ (.pointer (some ⟨wr.heap.size, 0, none⟩))).alloc (.cells #[.pointer none] 26))) := Ext.more (Below.setCell HX.out (by show V.heap.size ≤ V.heap.size + k; omega) _) _
      have hss : (wr.setCell ⟨V.heap.size + k, 0, none⟩ (.pointer (some ⟨wr.heap.size, 0, none⟩))).heap.size = wr.heap.size := by simp
      have HSS : Hid ((wr.setCell ⟨V.heap.size + k, 0, none⟩ (.pointer (some ⟨wr.heap.size, 0, none⟩))).heap.size = wr.heap.size) := hss
      clear hss
      go_wp2
      go_roundw
      case rel =>
        have hs := HSZ.out
        refine ⟨k + 1, hlt, by go_num, by rw [hs]; rfl, ?_, fun j hj => ?_, ?_, HW.out⟩
        · rw [blkS, HSS.out, hs]; omega
        · rcases Nat.lt_or_eq_of_le (Nat.le_of_lt_succ hj) with h | h
          · exact blkOld _ (set_oth (HR.out j h) (by omega) _)
          · subst h
            refine blkOld _ ((set_blk HLA.out _).trans ?_)
            rw [hs]; simp
        · have e : V.heap.size + (k + 1) = (wr.setCell ⟨V.heap.size + k, 0, none⟩ (.pointer (some ⟨wr.heap.size, 0, none⟩))).heap.size := by rw [HSS.out, hs]; omega
          rw [e]; exact blk0 _ _
      case measure => simp [intOf]; omega
    · have hlt' : ¬ (k : Int) < n := by omega
      obtain rfl : k = n := by omega
      have HRW : Hid (RingOf (wr.setCell ⟨V.heap.size + k, 0, none⟩ (.pointer (some ⟨V.heap.size, 0, none⟩))) V.heap.size k) := fun j hj => by
        rcases Nat.lt_or_eq_of_le hj with h | h
        · have e : (j + 1) % (k + 1) = j + 1 := Nat.mod_eq_of_lt (by omega)
          rw [e]
          exact set_oth (HR.out j h) (by omega) _
        · subst h
          rw [Nat.mod_self]
          exact set_blk HLA.out _
      have HXW : Hid (Ext V (wr.setCell ⟨V.heap.size + k, 0, none⟩ (.pointer (some ⟨V.heap.size, 0, none⟩)))) := Below.setCell HX.out (by show V.heap.size ≤ V.heap.size + k; omega) _
      go_wp2_with fail
      clear c0 z0 HR HLA HX HSZ hlw
      obtain ⟨W, hW⟩ : ∃ W, wr.setCell ⟨V.heap.size + k, 0, none⟩ (.pointer (some ⟨V.heap.size, 0, none⟩)) = W := ⟨_, rfl⟩
      rw [hW] at HRW HXW ⊢
      clear hW
      obtain ⟨B, hB⟩ : ∃ B, V.heap.size = B := ⟨_, rfl⟩
      rw [hB] at HRW ⊢
      clear hB
      have hz0 := rs_zero B k
      have HZ0 : Hid (rs B k 0 = .iface 24 (.pointer (some ⟨B, 0, none⟩))) := hz0
      clear hz0
      refine (wrap_few ⟨#[120]⟩ _ _ 1024 (rs B k) (fun _ => Option.none) W (HG.out.later (HV.out.trans HXW.out)) (chain_ring HRW.out) HZ0.out (by rw [notedTo_none]; decide)).mono ?_
      rintro r w1 ⟨b, rfl, _, hN1, hx1⟩
      have X1 : Hid (Ext W w1) := hx1
      have HR1 : Hid (RingOf w1 B k) := HRW.out.later hx1
      have HN1 : Hid (NotedAt w1 b (rs B k 0) ⟨#[120]⟩) := by rw [HZ0.out]; exact hN1
      clear hx1 hN1
      have HWN : Hid (ws b B k 0 = .iface 53 (.pointer (some ⟨b, 0, none⟩))) := rfl
      have HG1 : Hid (Laid w1) := HG.out.later (HV.out.trans (HXW.out.trans X1.out))
      have CNW : Hid (∀ W', Ext w1 W' → Calls Tryd.prog 6 #[.iface 53 (.pointer (some ⟨b, 0, none⟩))] W' fun r w' => ∃ v, r = .returned v ∧ w'.ownsRow W'.heap.size 9 1 v 1 [.string ⟨#[120]⟩] ∧ Ext W' w') := fun W' h => by
        have h1 := notes_calls 1024 (ws b B k) (ahead (some ⟨#[120]⟩) (fun _ => Option.none)) W' (HG1.out.later h) (chain_ws (HR1.out.later h) (h.block HN1.out))
        rw [show notedTo (ahead (some (⟨#[120]⟩ : ByteArray)) (fun _ => Option.none)) 1024 = [.string ⟨#[120]⟩] from notedTo_one _ 1023] at h1
        exact h1
      have CNR : Hid (∀ W', Ext w1 W' → Calls Tryd.prog 6 #[.iface 24 (.pointer (some ⟨B, 0, none⟩))] W' fun r w' => ∃ v, r = .returned v ∧ w'.ownsRow W'.heap.size 9 1 v 0 [] ∧ Ext W' w') := fun W' h => by
        have h1 := notes_calls 1024 (rs B k) (fun _ => Option.none) W' (HG1.out.later h) (chain_ring (HR1.out.later h))
        rw [notedTo_none, HZ0.out] at h1
        exact h1
      have CPW : Hid (∀ W', Ext w1 W' → Calls Tryd.prog 7 #[.iface 53 (.pointer (some ⟨b, 0, none⟩))] W' fun r w' => r = .returned (.tuple #[.agg #[.string ⟨#[]⟩, .slice none 0 0], .bool false]) ∧ Ext W' w') := fun W' h =>
        place_none _ _ 1024 (ws b B k) W' (by omega) (Nat.le_refl _) (.inl rfl) rfl (fun i _ => ws_form b B k _) (fun i _ => ws_located b B k i) (fun i _ _ => ws_unw (HR1.out.later h) (h.block HN1.out) i)
      have CCW : Hid (∀ W', Ext w1 W' → Calls Tryd.prog 8 #[.iface 53 (.pointer (some ⟨b, 0, none⟩))] W' fun r w' => r = .returned (.int .i64 1) ∧ Ext W' w') := fun W' h =>
        code_none _ _ 1024 (ws b B k) W' (by omega) (Nat.le_refl _) (.inl rfl) rfl (fun i _ => ws_form b B k _) (fun i _ => ws_coded b B k i) (fun i _ _ => ws_unw (HR1.out.later h) (h.block HN1.out) i)
      have CCR : Hid (∀ W', Ext w1 W' → Calls Tryd.prog 8 #[.iface 24 (.pointer (some ⟨B, 0, none⟩))] W' fun r w' => r = .returned (.int .i64 1) ∧ Ext W' w') := fun W' h =>
        code_none _ _ 1024 (rs B k) W' (by omega) (Nat.le_refl _) (.inl rfl) HZ0.out (fun i _ => rs_form B k _) (fun i _ => rs_coded B k i) (fun i _ _ => rs_unw (HR1.out.later h) i)
      have CSR : Hid (∀ W', Ext w1 W' → Calls Tryd.prog 9 #[.iface 24 (.pointer (some ⟨B, 0, none⟩)), .iface 24 (.pointer (some ⟨B, 0, none⟩))] W' fun r w' => r = .returned (.bool false) ∧ Ext W' w') := fun W' h =>
        same_un _ _ _ _ W' (tell_none _ _ 1024 (rs B k) W' (by omega) (Nat.le_refl _) (.inl rfl) HZ0.out (fun i _ => rs_form B k _) (fun i _ => rs_coded B k i) (fun i _ _ => rs_unw (HR1.out.later h) i))
      have CSW : Hid (∀ W', Ext w1 W' → Calls Tryd.prog 9 #[.iface 53 (.pointer (some ⟨b, 0, none⟩)), .iface 24 (.pointer (some ⟨B, 0, none⟩))] W' fun r w' => r = .returned (.bool false) ∧ Ext W' w') := fun W' h =>
        same_un _ _ _ _ W' (tell_none _ _ 1024 (ws b B k) W' (by omega) (Nat.le_refl _) (.inl rfl) rfl (fun i _ => ws_form b B k _) (fun i _ => ws_coded b B k i) (fun i _ _ => ws_unw (HR1.out.later h) (h.block HN1.out) i))
      clear HRW HR1 HN1 HWN HZ0
      go_wp2_with fail
      refine (CNW.out _ (Ext.refl _)).mono ?_
      rintro r w2 ⟨v, rfl, ho, hx2⟩
      obtain ⟨g, cap, rfl, hc⟩ := row_one' ho
      have X2 : Hid (Ext w1 w2) := hx2
      have hlg : g < w2.heap.size := lt_of_cell hc
      have HC : Hid (w2.cell? ⟨g, 0, none⟩ = some (.string ⟨#[120]⟩)) := hc
      clear ho hx2 hc
      go_wp2_with fail
      refine (CPW.out _ X2.out).mono ?_
      rintro r w3 ⟨rfl, hx3⟩
      have X3 : Hid (Ext w2 w3) := hx3
      clear hx3
      go_wp2_with fail
      refine (CCR.out _ (X2.out.trans (X3.out.more _))).mono ?_
      rintro r w4 ⟨rfl, hx4⟩
      have X4 : Hid (Ext w2 w4) := (X3.out.more _).trans hx4
      clear hx4
      go_wp2_with fail
      refine (CCW.out _ (X2.out.trans X4.out)).mono ?_
      rintro r w5 ⟨rfl, hx5⟩
      have X5 : Hid (Ext w2 w5) := X4.out.trans hx5
      clear hx5
      go_wp2_with fail
      refine (CNR.out _ (X2.out.trans X5.out)).mono ?_
      rintro r w6 ⟨v, rfl, ho, hx6⟩
      obtain ⟨a6, c6, rfl⟩ := ownsRow_len ho
      have X6 : Hid (Ext w2 w6) := X5.out.trans hx6
      have hc : w6.cell? ⟨g, 0, none⟩ = some (.string ⟨#[120]⟩) := (Below.cell X6.out hlg).trans HC.out
      clear hx6 ho
      go_wp2_with fail
      refine (CSR.out _ (X2.out.trans X6.out)).mono ?_
      rintro r w7 ⟨rfl, hx7⟩
      have X7 : Hid (Ext w2 w7) := X6.out.trans hx7
      clear hx7 hc
      go_wp2_with fail
      refine (CSW.out _ (X2.out.trans X7.out)).mono ?_
      rintro r w8 ⟨rfl, hx8⟩
      have X8 : Hid (Ext w w8) := HV.out.trans (HXW.out.trans (X1.out.trans (X2.out.trans (X7.out.trans hx8))))
      clear hx8 CNW CNR CPW CCW CCR CSR CSW
      go_wp2_with fail
      refine (at_any 22 rfl ⟨#[102]⟩ none 0 0 [] _ (by decide) (.inl ⟨rfl, rfl⟩)).mono ?_
      rintro r w9 ⟨b9, v9, rfl, _, hL, ho, hx9⟩
      obtain ⟨a9, n9, c9, rfl⟩ := ownsRow_slice ho
      have HL : Hid (LocatedAt w9 b9 22 ⟨#[102]⟩ (.slice a9 n9 c9)) := hL
      have HI : Hid (Ints w9 (.slice a9 n9 c9) []) := Ints.own ho
      have X9 : Hid (Ext w w9) := X8.out.trans hx9
      clear hL ho hx9
      go_wp2_with fail
      obtain ⟨K, hK⟩ : ∃ K : Nat, K = 1000 + far % 50 := ⟨_, rfl⟩
      have hKI : (1000 + (far : Int) % 50) = (K : Int) := by omega
      have hK1 : (K : Int) ≤ 1049 := by omega
      have hK0 : 1000 ≤ K := by omega
      rw [hKI]
      clear hKI hK
      obtain ⟨e0, he0⟩ : ∃ e0, Value.iface 86 (.pointer (some ⟨b9, 0, none⟩)) = e0 := ⟨_, rfl⟩
      have HE0 : Hid (Value.iface 86 (.pointer (some ⟨b9, 0, none⟩)) = e0) := he0
      rw [he0]
      clear he0
      have HFF : Hid (∀ j, ∃ t v, farE e0 j = .iface t v) := fun j => by
        cases j with
        | zero => exact ⟨_, _, HE0.out.symm⟩
        | succ j => exact ⟨_, _, rfl⟩
      go_loop [13, 14] (fun t13 t14 => ∃ j : Nat, j ≤ K ∧ t14 = .int .i64 j ∧ t13 = farE e0 j) (fun _ t14 => K - (intOf t14).toNat)
      case atStart => exact ⟨0, Nat.zero_le _, rfl, rfl⟩
      case round =>
        obtain ⟨j, hj, rfl, rfl⟩ := hrel
        obtain ⟨tj, vj, hfj⟩ := HFF.out j
        have HFJ : Hid (farE e0 j = .iface tj vj) := hfj
        by_cases hjk : j < K
        · have hjk' : (j : Int) < K := by omega
          rw [hfj]
          clear hfj
          go_wp2
          go_round
          case rel => exact ⟨j + 1, hjk, by go_num, by show _ = Value.iface 42 (.agg #[.string ⟨#[102, 97, 114]⟩, farE e0 j]); rw [HFJ.out]⟩
          case measure => simp [intOf]; omega
        · have hjk' : ¬ (j : Int) < K := by omega
          obtain rfl : j = K := by omega
          rw [hfj]
          clear hfj hjk
          by_cases h24 : j < 1024
          · have h24' : (j : Int) < 1024 := by omega
            have CP : Hid (∀ W', Ext w9 W' → Calls Tryd.prog 7 #[.iface tj vj] W' fun r w' => (∃ v', r = .returned (.tuple #[.agg #[.string ⟨#[102]⟩, v'], .bool true]) ∧ ∃ a' n' c', v' = .slice a' n' c') ∧ Ext W' w') := fun W' h =>
              place_L tj vj j (fs e0 j) b9 22 ⟨#[102]⟩ a9 n9 c9 [] W' (by decide) (h.block HL.out) (HI.out.later h) h24 (by unfold fs; rw [Nat.sub_zero]; exact HFJ.out) (by unfold fs; rw [Nat.sub_self]; exact HE0.out.symm) (fun i _ => HFF.out _) (fun i hi => fs_located e0 j i hi) (fun i hi => fs_unw e0 j i hi W')
            have CC : Hid (∀ W', Ext w9 W' → Calls Tryd.prog 8 #[.iface tj vj] W' fun r w' => r = .returned (.int .i64 22) ∧ Ext W' w') := fun W' h =>
              code_L tj vj b9 j 22 (fs e0 j) W' h24 (by unfold fs; rw [Nat.sub_zero]; exact HFJ.out) (by unfold fs; rw [Nat.sub_self]; exact HE0.out.symm) (cell_of (h.block HL.out) rfl) (fun i _ => HFF.out _) (fun i hi => fs_coded e0 j i hi) (fun i hi => fs_unw e0 j i hi W')
            clear h24
            go_wp2_with fail
            refine (CP.out _ (Ext.refl _)).mono ?_
            rintro r w10 ⟨⟨v', rfl, a', n', c', rfl⟩, hx10⟩
            have X10 : Hid (Ext w9 w10) := hx10
            clear hx10
            go_wp2_with fail
            refine (CC.out _ (X10.out.more _)).mono ?_
            rintro r w11 ⟨rfl, hx11⟩
            have X11 : Hid (Ext w w11) := X9.out.trans ((X10.out.more _).trans hx11)
            clear hx11
            go_wp2
            go_ret
            exact ⟨rfl, X11.out⟩
          · have h24' : ¬ (j : Int) < 1024 := by omega
            have CP : Hid (∀ W', Ext w9 W' → Calls Tryd.prog 7 #[.iface tj vj] W' fun r w' => r = .returned (.tuple #[.agg #[.string ⟨#[]⟩, .slice none 0 0], .bool false]) ∧ Ext W' w') := fun W' h =>
              place_none tj vj 1024 (fs e0 j) W' (by omega) (Nat.le_refl _) (.inl rfl) (by unfold fs; rw [Nat.sub_zero]; exact HFJ.out) (fun i _ => HFF.out _) (fun i hi => fs_located e0 j i (by omega)) (fun i hi _ => fs_unw e0 j i (by omega) W')
            have CC : Hid (∀ W', Ext w9 W' → Calls Tryd.prog 8 #[.iface tj vj] W' fun r w' => r = .returned (.int .i64 1) ∧ Ext W' w') := fun W' h =>
              code_none tj vj 1024 (fs e0 j) W' (by omega) (Nat.le_refl _) (.inl rfl) (by unfold fs; rw [Nat.sub_zero]; exact HFJ.out) (fun i _ => HFF.out _) (fun i hi => fs_coded e0 j i (by omega)) (fun i hi _ => fs_unw e0 j i (by omega) W')
            clear h24
            go_wp2_with fail
            refine (CP.out _ (Ext.refl _)).mono ?_
            rintro r w10 ⟨rfl, hx10⟩
            have X10 : Hid (Ext w9 w10) := hx10
            clear hx10
            go_wp2_with fail
            refine (CC.out _ (X10.out.more _)).mono ?_
            rintro r w11 ⟨rfl, hx11⟩
            have X11 : Hid (Ext w w11) := X9.out.trans ((X10.out.more _).trans hx11)
            clear hx11
            go_wp2
            go_ret
            exact ⟨rfl, X11.out⟩


end Go.Proofs.YtflcmdjekmmkkabDoor
