/-
  list.Work of count, and of the calls of the statements' set-up part: the answers as data.
-/
import Derived.Test.YtaafcmmmkalgjaaGreatDoorLKinds
import Derived.Test.YtaafcmmmkalgjaaGreatDoorKBlk
import Derived.Test.YtaafcmmmkalgjaaGreatDoorBFind
namespace Go.Proofs.YtaafcmmmkalgjaaGreatDoor
open Go.RowKit
def nCount : ByteArray := ⟨#[108, 105, 115, 116, 46, 99, 111, 117, 110, 116]⟩
def nAt : ByteArray := ⟨#[108, 105, 115, 116, 46, 97, 116]⟩
def nSize : ByteArray := ⟨#[108, 105, 115, 116, 46, 115, 105, 122, 101]⟩
/-- A list of these values, as a plain value. -/
def listT (ks : List T) : T := .node 5 0 ⟨#[]⟩ ks
def upT (m : Nat) : T := listT ((List.range m).map fun (i : Nat) => intT (i : Int))
theorem sizeL_ints : ∀ l : List Nat, T.sizeL (l.map fun (i : Nat) => intT (i : Int)) = l.length
  | [] => rfl
  | _ :: r => by
    rw [List.map_cons]
    show T.size (T.node 3 _ ⟨#[]⟩ []) + T.sizeL _ = _
    rw [sizeL_ints r]
    simp only [T.size, T.sizeL, size0, List.length_cons]
    omega
theorem deepL_ints : ∀ l : List Nat, T.deepL (l.map fun (i : Nat) => intT (i : Int)) = 0
  | [] => rfl
  | _ :: r => by
    rw [List.map_cons]
    show max (T.deep (T.node 3 _ ⟨#[]⟩ [])) (T.deepL _) = _
    rw [deepL_ints r]
    simp [T.deep]
theorem upT_may {m : Nat} (h : m ≤ 65535) : (upT m).may := by
  refine ⟨⟨.inr (.inr (.inr (.inr ⟨rfl, rfl, rfl⟩))), goodL_of fun u hu => ?_⟩, ?_, ?_⟩
  · obtain ⟨i, _, rfl⟩ := List.mem_map.1 hu
    exact (intT_may _).1
  · show (T.node 5 0 ⟨#[]⟩ _).size ≤ 65536
    simp only [T.size, sizeL_ints, size0, List.length_range]; omega
  · show (T.node 5 0 ⟨#[]⟩ _).deep ≤ 64
    simp only [T.deep, deepL_ints]; decide
theorem upT_vrd {w : World} {b m : Nat} (h : NumsAt w b m) (hm : m ≤ 65535) : VRd (fun _ => True) w 2 (.iface 81 (.slice (some ⟨b, 0, none⟩) m m)) (upT m) := by
  obtain ⟨cs, hb, hs, hc⟩ := h
  have hl : ((List.range m).map fun (i : Nat) => intT (i : Int)).length = m := by rw [List.length_map, List.length_range]
  refine .inr (.inr (.inr (.inr ⟨rfl, rfl, rfl, by rw [hl]; omega, some ⟨b, 0, none⟩, m, by rw [hl], .inr ⟨b, 0, rfl, trivial, fun j hj => ?_⟩⟩)))
  rw [hl] at hj
  refine ⟨.iface 83 (.int .i64 (j : Int)), by rw [Nat.zero_add]; exact cell_of hb (hc j hj), ?_⟩
  rw [List.getElem_map, List.getElem_range]
  exact .inr (.inr (.inl ⟨rfl, rfl, rfl, rfl⟩))
/-- What list.count comes to. -/
def countF (n : Int) : Ans := if n < 0 then .one 23 else if 65535 < n then .one 2 else .good (upT n.toNat)
theorem listFind7 : kdFind listK nCount = some listK[7] := by kernel_rfl
theorem listFind2 : kdFind listK nAt = some listK[2] := by kernel_rfl
theorem listFind1 : kdFind listK nSize = some listK[1] := by kernel_rfl
theorem entCount : Enters 46 := fun a w => by simp [callFunc, go_sem, Tryz.func46]; rfl
theorem entAt : Enters 41 := fun a w => by simp [callFunc, go_sem, Tryz.func41]; rfl
theorem entSize : Enters 40 := fun a w => by simp [callFunc, go_sem, Tryz.func40]; rfl
theorem lwCount (n : Int) (a : Option Addr) (c : Nat) (w : World) (hm : MaxAt w) (hp : PRow w a [intT n]) : Calls Tryz.prog 8 #[.string nCount, .slice a 1 c] w fun e w' => ∃ V, e = .returned V ∧ ((∃ c0, countF n = .one c0 ∧ V = refX c0 ⟨#[]⟩) ∨ ∃ (m b : Nat), m ≤ 65535 ∧ n = (m : Int) ∧ V = .tuple #[.iface 81 (.slice (some ⟨b, 0, none⟩) m m), .int .i64 0, .string ⟨#[]⟩] ∧ NumsAt w' b m) ∧ Ext w w' := by
  have hQ : ∀ (Q : World → Value → Prop) w1 V, WorkQ listK nCount [intT n] Q w1 V → Q w1 V := fun Q w1 V h => by
    unfold WorkQ at h
    rw [listFind7] at h
    have h2 : if cntOk listK[7] 1 = false then V = refV 11 else if ∀ t ∈ [intT n], t.may then (if rightB listK[7].signs.data.toList ([intT n].map T.kind) = true then Q w1 V else V = refV 20) else V = refV 1 := h
    rw [if_neg (show ¬ cntOk listK[7] 1 = false by rw [show cntOk listK[7] 1 = true from by kernel_rfl]; decide), if_pos (by intro q hq; simp only [List.mem_cons, List.not_mem_nil, or_false] at hq; subst hq; exact intT_may n), if_pos (show rightB listK[7].signs.data.toList ([intT n].map T.kind) = true from by kernel_rfl)] at h2
    exact h2
  refine workL_gen nCount a 1 c w (fun w' V => (∃ c0, countF n = .one c0 ∧ V = refX c0 ⟨#[]⟩) ∨ ∃ (m b : Nat), m ≤ 65535 ∧ n = (m : Int) ∧ V = .tuple #[.iface 81 (.slice (some ⟨b, 0, none⟩) m m), .int .i64 0, .string ⟨#[]⟩] ∧ NumsAt w' b m) fun w1 tb hx1 ht => ?_
  refine (work_gen listK tb nCount a c [intT n] (fun w' V => (∃ c0, countF n = .one c0 ∧ V = refX c0 ⟨#[]⟩) ∨ ∃ (m b : Nat), m ≤ 65535 ∧ n = (m : Int) ∧ V = .tuple #[.iface 81 (.slice (some ⟨b, 0, none⟩) m m), .int .i64 0, .string ⟨#[]⟩] ∧ NumsAt w' b m) w1 (by rw [listLen]; decide) ht (hm.later hx1) (hp.later hx1) (by simp) (fun k hk => ?_) ?_ ?_).mono fun e w' ⟨V, he, hq, h3, hx⟩ => ⟨V, he, hQ _ _ _ hq, h3, hx⟩
  · rw [listFind7] at hk
    obtain rfl := Option.some.inj hk
    exact ⟨rfl, Nat.le_of_ble_eq_true rfl⟩
  · intro k f h1 h2 _ _ _ w2 g hx2 hv
    rw [listFind7] at h1
    obtain rfl := Option.some.inj h1
    obtain rfl : 46 = f := Option.some.inj h2
    obtain ⟨K, d, v, h0, r0⟩ := hv 0 (Nat.le_of_ble_eq_true rfl)
    rw [VRd.int (n := n) r0] at h0
    by_cases hn : n < 0
    · refine (count_low g n w2 h0 hn).mono fun e w' ⟨he, hw⟩ => ⟨_, he, .inl ⟨23, ⟨#[]⟩, by decide, rfl, fun _ _ => .inl ⟨23, by unfold countF; rw [if_pos hn], rfl⟩⟩, by rw [hw]; exact Ext.refl _⟩
    by_cases hb : 65535 < n
    · refine (count_high g n w2 h0 hb).mono fun e w' ⟨he, hw⟩ => ⟨_, he, .inl ⟨2, ⟨#[]⟩, by decide, rfl, fun _ _ => .inl ⟨2, by unfold countF; rw [if_neg hn, if_pos hb], rfl⟩⟩, by rw [hw]; exact Ext.refl _⟩
    obtain ⟨m, rfl⟩ : ∃ m : Nat, n = (m : Int) := ⟨n.toNat, by omega⟩
    have hm2 : m ≤ 65535 := by omega
    refine (count_ok g m w2 h0 hm2).mono fun e w' ⟨b, he, hN, hbb, hx⟩ => ⟨_, he, .inr ⟨_, _, true, rfl, fun w3 hx3 => ?_, fun w3 hx3 => .inr ⟨m, b, hm2, rfl, rfl, ?_⟩⟩, hx⟩
    · have := cmay_any w3 ((upT_vrd hN hm2).later hx3)
      rwa [decide_eq_true (upT_may hm2)] at this
    · obtain ⟨cs, h5, h6, h7⟩ := hN
      exact ⟨cs, hx3.block h5, h6, h7⟩
  · intro k f h1 h2
    rw [listFind7] at h1
    obtain rfl := Option.some.inj h1
    obtain rfl : 46 = f := Option.some.inj h2
    exact entCount
theorem emptyT_may : (listT []).may := by
  refine ⟨⟨.inr (.inr (.inr (.inr ⟨rfl, rfl, rfl⟩))), trivial⟩, ?_, ?_⟩
  · show (T.node 5 0 ⟨#[]⟩ []).size ≤ 65536
    simp only [T.size, T.sizeL]; decide
  · show (T.node 5 0 ⟨#[]⟩ []).deep ≤ 64
    simp only [T.deep, T.deepL]; decide
theorem lwAt (a : Option Addr) (c : Nat) (w : World) (hm : MaxAt w) (hp : PRow w a [listT [], intT 0]) : Calls Tryz.prog 8 #[.string nAt, .slice a 2 c] w fun e w' => e = .returned (refX 23 ⟨#[]⟩) ∧ Ext w w' := by
  have hQ : ∀ (Q : World → Value → Prop) w1 V, WorkQ listK nAt [listT [], intT 0] Q w1 V → Q w1 V := fun Q w1 V h => by
    unfold WorkQ at h
    rw [listFind2] at h
    have h2 : if cntOk listK[2] 2 = false then V = refV 11 else if ∀ t ∈ [listT [], intT 0], t.may then (if rightB listK[2].signs.data.toList ([listT [], intT 0].map T.kind) = true then Q w1 V else V = refV 20) else V = refV 1 := h
    rw [if_neg (show ¬ cntOk listK[2] 2 = false by rw [show cntOk listK[2] 2 = true from by kernel_rfl]; decide), if_pos (by intro q hq; simp only [List.mem_cons, List.not_mem_nil, or_false] at hq; rcases hq with rfl | rfl; exact emptyT_may; exact intT_may 0), if_pos (show rightB listK[2].signs.data.toList ([listT [], intT 0].map T.kind) = true from by kernel_rfl)] at h2
    exact h2
  refine (workL_gen nAt a 2 c w (fun _ V => V = refX 23 ⟨#[]⟩) fun w1 tb hx1 ht => ?_).mono fun e w' ⟨V, he, hv, hx⟩ => ⟨by rw [he, hv], hx⟩
  refine (work_gen listK tb nAt a c [listT [], intT 0] (fun _ V => V = refX 23 ⟨#[]⟩) w1 (by rw [listLen]; decide) ht (hm.later hx1) (hp.later hx1) (by simp) (fun k hk => ?_) ?_ ?_).mono fun e w' ⟨V, he, hq, h3, hx⟩ => ⟨V, he, hQ _ _ _ hq, h3, hx⟩
  · rw [listFind2] at hk
    obtain rfl := Option.some.inj hk
    exact ⟨rfl, Nat.le_of_ble_eq_true rfl⟩
  · intro k f h1 h2 _ _ _ w2 g hx2 hv
    rw [listFind2] at h1
    obtain rfl := Option.some.inj h1
    obtain rfl : 41 = f := Option.some.inj h2
    obtain ⟨K, d, v, h0, r0⟩ := hv 0 (Nat.le_of_ble_eq_true rfl)
    obtain ⟨K', d', v', h0', r0'⟩ := hv 1 (Nat.le_of_ble_eq_true rfl)
    rw [VRd.int (n := 0) r0'] at h0'
    obtain ⟨a1, c1, rfl⟩ : ∃ a1 c1, v = .iface 81 (.slice a1 0 c1) := by
      cases d with
      | zero => exact r0.elim
      | succ d =>
        rcases r0 with ⟨h, _⟩ | ⟨h, _⟩ | ⟨h, _⟩ | ⟨h, _⟩ | ⟨_, _, _, _, a1, c1, h, _⟩
        · exact absurd h (by decide)
        · exact absurd h (by decide)
        · exact absurd h (by decide)
        · exact absurd h (by decide)
        · exact ⟨a1, c1, h⟩
    exact (at_bad g a1 0 c1 0 w2 h0 h0' (.inr (by decide))).mono fun e w' ⟨he, hw⟩ => ⟨_, he, .inl ⟨23, ⟨#[]⟩, by decide, rfl, fun _ _ => rfl⟩, by rw [hw]; exact Ext.refl _⟩
  · intro k f h1 h2
    rw [listFind2] at h1
    obtain rfl := Option.some.inj h1
    obtain rfl : 41 = f := Option.some.inj h2
    exact entAt
theorem lwSize (n : Int) (a : Option Addr) (c : Nat) (w : World) (hm : MaxAt w) (hp : PRow w a [intT n]) : Calls Tryz.prog 8 #[.string nSize, .slice a 1 c] w fun e w' => e = .returned (refX 20 ⟨#[]⟩) ∧ Ext w w' := by
  have hno : rightB listK[1].signs.data.toList ([intT n].map T.kind) = false := by kernel_rfl
  have hQ : ∀ (Q : World → Value → Prop) w1 V, WorkQ listK nSize [intT n] Q w1 V → V = refV 20 := fun Q w1 V h => by
    unfold WorkQ at h
    rw [listFind1] at h
    have h2 : if cntOk listK[1] 1 = false then V = refV 11 else if ∀ t ∈ [intT n], t.may then (if rightB listK[1].signs.data.toList ([intT n].map T.kind) = true then Q w1 V else V = refV 20) else V = refV 1 := h
    rw [if_neg (show ¬ cntOk listK[1] 1 = false by rw [show cntOk listK[1] 1 = true from by kernel_rfl]; decide), if_pos (by intro q hq; simp only [List.mem_cons, List.not_mem_nil, or_false] at hq; subst hq; exact intT_may n), hno] at h2
    exact h2
  refine (workL_gen nSize a 1 c w (fun _ V => V = refV 20) fun w1 tb hx1 ht => ?_).mono fun e w' ⟨V, he, hv, hx⟩ => ⟨by rw [he, hv]; rfl, hx⟩
  refine (work_gen listK tb nSize a c [intT n] (fun _ V => V = refV 20) w1 (by rw [listLen]; decide) ht (hm.later hx1) (hp.later hx1) (by simp) (fun k hk => ?_) ?_ ?_).mono fun e w' ⟨V, he, hq, h3, hx⟩ => ⟨V, he, hQ _ _ _ hq, h3, hx⟩
  · rw [listFind1] at hk
    obtain rfl := Option.some.inj hk
    exact ⟨rfl, Nat.le_of_ble_eq_true rfl⟩
  · intro k f h1 h2 _ _ h5
    rw [listFind1] at h1
    obtain rfl := Option.some.inj h1
    rw [hno] at h5
    cases h5
  · intro k f h1 h2
    rw [listFind1] at h1
    obtain rfl := Option.some.inj h1
    obtain rfl : 40 = f := Option.some.inj h2
    exact entSize
end Go.Proofs.YtaafcmmmkalgjaaGreatDoor
