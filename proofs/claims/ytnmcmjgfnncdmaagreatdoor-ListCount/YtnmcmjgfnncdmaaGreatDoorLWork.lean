/-
  list.items, number, came, refused, size, at, count by contracts.
-/
import Derived.Test.YtnmcmjgfnncdmaaGreatDoorCWorkG
import Derived.Test.YtnmcmjgfnncdmaaGreatDoorLKinds
import Derived.Test.YtnmcmjgfnncdmaaGreatDoorCMayL
import Derived.Test.YtnmcmjgfnncdmaaGreatDoorYAns
namespace Go.Proofs.YtnmcmjgfnncdmaaGreatDoor
open Go.RowKit
theorem lto_in (v : Value) (w : World) : (Instr.typeAssert (.iface 55 v) 33 55 false).run Tryz.prog w = .ok v w := by kernel_rfl
theorem lto_li (v : Value) (w : World) : (Instr.typeAssert (.iface 59 v) 33 59 false).run Tryz.prog w = .ok v w := by kernel_rfl
theorem number0_any (g m : Nat) (hm : 0 < m) (n : Int) (w : World) (h0 : w.cell? ⟨g, 0, none⟩ = some (.iface 55 (.int .i64 n))) : Calls Tryz.prog 169 #[.slice (some ⟨g, 0, none⟩) m m, .int .i64 0] w fun e w' => e = .returned (.int .i64 n) ∧ w' = w := by
  have hta := lto_in (.int .i64 n)
  have hm' : (0 : Int) < (m : Int) := by omega
  go_enter Tryz.func169, Tryz.ntmps169
  go_wp2_with fail
  go_ret
  exact ⟨rfl, rfl⟩
theorem number1_any (g m : Nat) (hm : 1 < m) (n : Int) (w : World) (h0 : w.cell? ⟨g, 1, none⟩ = some (.iface 55 (.int .i64 n))) : Calls Tryz.prog 169 #[.slice (some ⟨g, 0, none⟩) m m, .int .i64 1] w fun e w' => e = .returned (.int .i64 n) ∧ w' = w := by
  have hta := lto_in (.int .i64 n)
  have hm' : (1 : Int) < (m : Int) := by omega
  go_enter Tryz.func169, Tryz.ntmps169
  go_wp2_with fail
  go_ret
  exact ⟨rfl, rfl⟩
theorem number2_any (g m : Nat) (hm : 2 < m) (n : Int) (w : World) (h0 : w.cell? ⟨g, 2, none⟩ = some (.iface 55 (.int .i64 n))) : Calls Tryz.prog 169 #[.slice (some ⟨g, 0, none⟩) m m, .int .i64 2] w fun e w' => e = .returned (.int .i64 n) ∧ w' = w := by
  have hta := lto_in (.int .i64 n)
  have hm' : (2 : Int) < (m : Int) := by omega
  go_enter Tryz.func169, Tryz.ntmps169
  go_wp2_with fail
  go_ret
  exact ⟨rfl, rfl⟩
theorem items0_any (g m : Nat) (hm : 0 < m) (a : Option Addr) (l c : Nat) (w : World) (h0 : w.cell? ⟨g, 0, none⟩ = some (.iface 59 (.slice a l c))) : Calls Tryz.prog 168 #[.slice (some ⟨g, 0, none⟩) m m, .int .i64 0] w fun e w' => e = .returned (.slice a l c) ∧ w' = w := by
  have hta := lto_li (.slice a l c)
  have hm' : (0 : Int) < (m : Int) := by omega
  go_enter Tryz.func168, Tryz.ntmps168
  go_wp2_with fail
  go_ret
  exact ⟨rfl, rfl⟩
theorem items1_any (g m : Nat) (hm : 1 < m) (a : Option Addr) (l c : Nat) (w : World) (h0 : w.cell? ⟨g, 1, none⟩ = some (.iface 59 (.slice a l c))) : Calls Tryz.prog 168 #[.slice (some ⟨g, 0, none⟩) m m, .int .i64 1] w fun e w' => e = .returned (.slice a l c) ∧ w' = w := by
  have hta := lto_li (.slice a l c)
  have hm' : (1 : Int) < (m : Int) := by omega
  go_enter Tryz.func168, Tryz.ntmps168
  go_wp2_with fail
  go_ret
  exact ⟨rfl, rfl⟩

theorem lcame_any (v : Value) (w : World) : Calls Tryz.prog 166 #[v] w fun e w' => e = .returned (.tuple #[v, .int .i64 0, .string ⟨#[]⟩]) ∧ w' = w := by
  go_enter Tryz.func166, Tryz.ntmps166
  go_wp2_with fail
  go_ret3
  exact ⟨rfl, rfl⟩
theorem lref_any (c : Int) (w : World) : Calls Tryz.prog 170 #[.int .i64 c] w fun e w' => e = .returned (refX c ⟨#[]⟩) ∧ w' = w := by
  unfold refX
  go_enter Tryz.func170, Tryz.ntmps170
  go_wp2_with fail
  go_ret3
  exact ⟨rfl, rfl⟩
set_option maxRecDepth 100000 in
set_option maxHeartbeats 1000000 in
theorem at_bad (g : Nat) (a : Option Addr) (l c : Nat) (n : Int) (w : World) (h0 : w.cell? ⟨g, 0, none⟩ = some (.iface 59 (.slice a l c))) (h1 : w.cell? ⟨g, 1, none⟩ = some (.iface 55 (.int .i64 n))) (hn : n < 0 ∨ (l : Int) ≤ n) : Calls Tryz.prog 113 #[.slice (some ⟨g, 0, none⟩) 2 2] w fun e w' => e = .returned (refX 23 ⟨#[]⟩) ∧ w' = w := by
  have HI := hid (items0_any g 2 (by decide) a l c w h0)
  have HN := hid (number1_any g 2 (by decide) n w h1)
  have HR := hid (lref_any 23 w)
  unfold refX at HR ⊢
  clear h0 h1
  by_cases hb : n < 0
  · clear hn
    go_enter Tryz.func113, Tryz.ntmps113
    go_wp2_with fail
    refine HI.out.mono ?_
    rintro e w1 ⟨rfl, hw1⟩
    rw [hw1]
    clear hw1 w1
    go_wp2_with fail
    refine HN.out.mono ?_
    rintro e w1 ⟨rfl, hw1⟩
    rw [hw1]
    clear hw1 w1
    go_wp2_with fail
    refine HR.out.mono ?_
    rintro e w1 ⟨rfl, hw1⟩
    rw [hw1]
    clear hw1 w1
    go_wp2_with fail
    go_ret3
    exact ⟨rfl, rfl⟩
  · have hb2 : (l : Int) ≤ n := by omega
    have hb3 : ¬ n < (l : Int) := by omega
    clear hn
    go_enter Tryz.func113, Tryz.ntmps113
    go_wp2_with fail
    refine HI.out.mono ?_
    rintro e w1 ⟨rfl, hw1⟩
    rw [hw1]
    clear hw1 w1
    go_wp2_with fail
    refine HN.out.mono ?_
    rintro e w1 ⟨rfl, hw1⟩
    rw [hw1]
    clear hw1 w1
    go_wp2_with fail
    refine HR.out.mono ?_
    rintro e w1 ⟨rfl, hw1⟩
    rw [hw1]
    clear hw1 w1
    go_wp2_with fail
    go_ret3
    exact ⟨rfl, rfl⟩
set_option maxRecDepth 100000 in
set_option maxHeartbeats 1000000 in
theorem count_low (g : Nat) (n : Int) (w : World) (h0 : w.cell? ⟨g, 0, none⟩ = some (.iface 55 (.int .i64 n))) (hn : n < 0) : Calls Tryz.prog 118 #[.slice (some ⟨g, 0, none⟩) 1 1] w fun e w' => e = .returned (refX 23 ⟨#[]⟩) ∧ w' = w := by
  have HN := hid (number0_any g 1 (by decide) n w h0)
  have HR := hid (lref_any 23 w)
  unfold refX at HR ⊢
  clear h0
  go_enter Tryz.func118, Tryz.ntmps118
  go_wp2_with fail
  refine HN.out.mono ?_
  rintro e w1 ⟨rfl, hw1⟩
  rw [hw1]
  clear hw1 w1
  go_wp2_with fail
  refine HR.out.mono ?_
  rintro e w1 ⟨rfl, hw1⟩
  rw [hw1]
  clear hw1 w1
  go_wp2_with fail
  go_ret3
  exact ⟨rfl, rfl⟩
set_option maxRecDepth 100000 in
set_option maxHeartbeats 1000000 in
theorem count_high (g : Nat) (n : Int) (w : World) (h0 : w.cell? ⟨g, 0, none⟩ = some (.iface 55 (.int .i64 n))) (hn : 65535 < n) : Calls Tryz.prog 118 #[.slice (some ⟨g, 0, none⟩) 1 1] w fun e w' => e = .returned (refX 2 ⟨#[]⟩) ∧ w' = w := by
  have HN := hid (number0_any g 1 (by decide) n w h0)
  have HR := hid (lref_any 2 w)
  unfold refX at HR ⊢
  have hn2 : ¬ n < 0 := by omega
  clear h0
  go_enter Tryz.func118, Tryz.ntmps118
  go_wp2_with fail
  refine HN.out.mono ?_
  rintro e w1 ⟨rfl, hw1⟩
  rw [hw1]
  clear hw1 w1
  go_wp2_with fail
  refine HR.out.mono ?_
  rintro e w1 ⟨rfl, hw1⟩
  rw [hw1]
  clear hw1 w1
  go_wp2_with fail
  go_ret3
  exact ⟨rfl, rfl⟩
/-- The numbers below, as a list of values in a block. -/
def NumsAt (w : World) (b m : Nat) : Prop := ∃ cs, w.heap[b]? = some (.cells cs 33) ∧ cs.size = m ∧ ∀ j, j < m → cs[j]? = some (.iface 55 (.int .i64 (j : Int)))
def CountR (w : World) (m : Nat) (e : Ending) (w' : World) : Prop := ∃ b, e = .returned (.tuple #[.iface 59 (.slice (some ⟨b, 0, none⟩) m m), .int .i64 0, .string ⟨#[]⟩]) ∧ NumsAt w' b m ∧ w.heap.size ≤ b ∧ Ext w w'
set_option maxRecDepth 100000 in
set_option maxHeartbeats 1000000 in
theorem count_ok (g m : Nat) (w : World) (h0 : w.cell? ⟨g, 0, none⟩ = some (.iface 55 (.int .i64 (m : Int)))) (hm : m ≤ 65535) : Calls Tryz.prog 118 #[.slice (some ⟨g, 0, none⟩) 1 1] w (CountR w m) := by
  have HN := hid (number0_any g 1 (by decide) (m : Int) w h0)
  have hm2 : ¬ (65535 : Int) < (m : Int) := by omega
  have hm3 : ¬ (m : Int) < 0 := by omega
  have hm4 : (m : Int) ≤ 65535 := by omega
  obtain ⟨ti, hi, hz0, hz1, hz2⟩ := info_parts valueInfoC
  obtain ⟨cz, hcz, hmk⟩ : ∃ cz : Array Value, cz.size = m ∧ ∀ w, (Instr.makeSlice 59 (.int .i64 (m : Int)) (.int .i64 (m : Int))).run Tryz.prog w = .ok (.slice (some ⟨w.heap.size, 0, none⟩) m m) (w.alloc (.cells cz 33)) := by
    refine ⟨madeCells (Value.nilIface).cells (m * 1), by rw [size_madeCells]; omega, fun w => ?_⟩
    have := run_make (P := Tryz.prog) w 59 33 ti _ Tryz.underlying59 hi hz0 .i64 .i64 m m (by omega) (Int.le_refl _) (by rw [hz2]; omega) (by omega)
    rw [hz1] at this
    simpa using this
  have HCZ := hid hcz
  clear hcz hi hz0 hz1 hz2 h0
  go_enter Tryz.func118, Tryz.ntmps118
  go_wp2_with fail
  refine HN.out.mono ?_
  rintro e w1 ⟨rfl, hw1⟩
  rw [hw1]
  clear hw1 w1
  go_wp2_with fail
  have HMK := hid hmk
  clear hmk
  go_loopw [28] (fun q28 wr => ∃ (j : Nat) (cs : Array Value), j ≤ m ∧ q28 = .int .i64 j ∧ wr.heap[w.heap.size]? = some (.cells cs 33) ∧ cs.size = m ∧ (∀ i, i < j → cs[i]? = some (.iface 55 (.int .i64 (i : Int)))) ∧ Ext w wr) (fun q28 _ => m - (intOf q28).toNat)
  case atStart => exact ⟨0, cz, Nat.zero_le _, rfl, blk0 _ _, HCZ.out, fun i h => absurd h (Nat.not_lt_zero _), Ext.alloc _ _⟩
  case round =>
    obtain ⟨j, cs, hj, rfl, hb, hcs, hall, hx⟩ := hrel
    have HB := hid hb
    have HCS := hid hcs
    have HALL := hid hall
    have HX := hid hx
    clear hb hcs hall hx
    by_cases hlt : j < m
    · have hlt' : (j : Int) < m := by omega
      have hf3 : wr.frozen? ⟨w.heap.size, j, none⟩ = false := frozen_of HB.out
      have hc3 : wr.cell? ⟨w.heap.size, j, none⟩ = some cs[j]! := cell_of HB.out (by
        have hs : j < cs.size := by rw [HCS.out]; exact hlt
        rw [Array.getElem?_eq_getElem hs, getElem!_pos cs j hs])
      go_wp2_with fail
      go_roundw
      case rel =>
        refine ⟨j + 1, cs.setIfInBounds j (.iface 55 (.int .i64 (j : Int))), by omega, by go_num, set_at HB.out j _, by rw [Array.size_setIfInBounds]; exact HCS.out, fun i hi => ?_, Kp.extOf HX.out (Kp.set wr _ j _ (fun h => h rfl)) (Nat.le_refl _)⟩
        by_cases e : i = j
        · subst e; exact set_get _ (by rw [HCS.out]; exact hlt)
        · rw [set_get_other _ e]; exact HALL.out i (by omega)
      case measure => simp [intOf]; omega
    · have hlt3 : ¬ (j : Int) < m := by omega
      have HJ := hid (show j = m by omega)
      go_wp2_with fail
      refine (lcame_any _ _).mono ?_
      rintro e w1 ⟨rfl, hw1⟩
      rw [hw1]
      clear hw1 w1
      go_wp2_with fail
      go_ret3
      exact ⟨_, rfl, ⟨cs, HB.out, HCS.out, fun i hi => HALL.out i (by have := HJ.out; omega)⟩, Nat.le_refl _, HX.out⟩
end Go.Proofs.YtnmcmjgfnncdmaaGreatDoor
/-
  list.Work of count, and of the calls of the statements' set-up part: the answers as data.
-/
namespace Go.Proofs.YtnmcmjgfnncdmaaGreatDoor
open Go.RowKit
def nCount : ByteArray := ⟨#[108, 105, 115, 116, 46, 99, 111, 117, 110, 116]⟩
def nAt : ByteArray := ⟨#[108, 105, 115, 116, 46, 97, 116]⟩
def nSize : ByteArray := ⟨#[108, 105, 115, 116, 46, 115, 105, 122, 101]⟩
/-- A list of these values, as a plain value. -/
def listT (ks : List T) : T := .node 5 0 ⟨#[]⟩ ks
def upT (m : Nat) : T := listT ((List.range m).map fun (i : Nat) => intT (i : Int))
theorem sizeL_ints : ∀ l : List Nat, T.sizeL (l.map fun (i : Nat) => intT (i : Int)) = l.length
  | [] => rfl
  | _ :: r => by
    rw [List.map_cons]
    show T.size (T.node 3 _ ⟨#[]⟩ []) + T.sizeL _ = _
    rw [sizeL_ints r]
    simp only [T.size, T.sizeL, size0, List.length_cons]
    omega
theorem deepL_ints : ∀ l : List Nat, T.deepL (l.map fun (i : Nat) => intT (i : Int)) = 0
  | [] => rfl
  | _ :: r => by
    rw [List.map_cons]
    show max (T.deep (T.node 3 _ ⟨#[]⟩ [])) (T.deepL _) = _
    rw [deepL_ints r]
    simp [T.deep]
theorem upT_may {m : Nat} (h : m ≤ 65535) : (upT m).may := by
  refine ⟨⟨.inr (.inr (.inr (.inr ⟨rfl, rfl, rfl⟩))), goodL_of fun u hu => ?_⟩, ?_, ?_⟩
  · obtain ⟨i, _, rfl⟩ := List.mem_map.1 hu
    exact (intT_may _).1
  · show (T.node 5 0 ⟨#[]⟩ _).size ≤ 65536
    simp only [T.size, sizeL_ints, size0, List.length_range]; omega
  · show (T.node 5 0 ⟨#[]⟩ _).deep ≤ 64
    simp only [T.deep, deepL_ints]; decide
theorem upT_vrd {w : World} {b m : Nat} (h : NumsAt w b m) (hm : m ≤ 65535) : VRd (fun _ => True) w 2 (.iface 59 (.slice (some ⟨b, 0, none⟩) m m)) (upT m) := by
  obtain ⟨cs, hb, hs, hc⟩ := h
  have hl : ((List.range m).map fun (i : Nat) => intT (i : Int)).length = m := by rw [List.length_map, List.length_range]
  refine .inr (.inr (.inr (.inr ⟨rfl, rfl, rfl, by rw [hl]; omega, some ⟨b, 0, none⟩, m, by rw [hl], .inr ⟨b, 0, rfl, trivial, fun j hj => ?_⟩⟩)))
  rw [hl] at hj
  refine ⟨.iface 55 (.int .i64 (j : Int)), by rw [Nat.zero_add]; exact cell_of hb (hc j hj), ?_⟩
  rw [List.getElem_map, List.getElem_range]
  exact .inr (.inr (.inl ⟨rfl, rfl, rfl, rfl⟩))
/-- What list.count comes to. -/
def countF (n : Int) : Ans := if n < 0 then .one 23 else if 65535 < n then .one 2 else .good (upT n.toNat)
theorem listFind7 : kdFind listK nCount = some listK[7] := by kernel_rfl
theorem listFind2 : kdFind listK nAt = some listK[2] := by kernel_rfl
theorem listFind1 : kdFind listK nSize = some listK[1] := by kernel_rfl
theorem entCount : Enters 118 := fun a w => by simp [callFunc, go_sem, Tryz.func118]; rfl
theorem entAt : Enters 113 := fun a w => by simp [callFunc, go_sem, Tryz.func113]; rfl
theorem entSize : Enters 112 := fun a w => by simp [callFunc, go_sem, Tryz.func112]; rfl
theorem lwCount (n : Int) (a : Option Addr) (c : Nat) (w : World) (hm : MaxAt w) (hp : PRow w a [intT n]) : Calls Tryz.prog 21 #[.string nCount, .slice a 1 c] w fun e w' => ∃ V, e = .returned V ∧ ((∃ c0, countF n = .one c0 ∧ V = refX c0 ⟨#[]⟩) ∨ ∃ (m b : Nat), m ≤ 65535 ∧ n = (m : Int) ∧ V = .tuple #[.iface 59 (.slice (some ⟨b, 0, none⟩) m m), .int .i64 0, .string ⟨#[]⟩] ∧ NumsAt w' b m) ∧ Ext w w' := by
  have hQ : ∀ (Q : World → Value → Prop) w1 V, WorkQ listK nCount [intT n] Q w1 V → Q w1 V := fun Q w1 V h => by
    unfold WorkQ at h
    rw [listFind7] at h
    have h2 : if cntOk listK[7] 1 = false then V = refV 11 else if ∀ t ∈ [intT n], t.may then (if rightB listK[7].signs.data.toList ([intT n].map T.kind) = true then Q w1 V else V = refV 20) else V = refV 1 := h
    rw [if_neg (show ¬ cntOk listK[7] 1 = false by rw [show cntOk listK[7] 1 = true from by kernel_rfl]; decide), if_pos (by intro q hq; simp only [List.mem_cons, List.not_mem_nil, or_false] at hq; subst hq; exact intT_may n), if_pos (show rightB listK[7].signs.data.toList ([intT n].map T.kind) = true from by kernel_rfl)] at h2
    exact h2
  refine workL_gen nCount a 1 c w (fun w' V => (∃ c0, countF n = .one c0 ∧ V = refX c0 ⟨#[]⟩) ∨ ∃ (m b : Nat), m ≤ 65535 ∧ n = (m : Int) ∧ V = .tuple #[.iface 59 (.slice (some ⟨b, 0, none⟩) m m), .int .i64 0, .string ⟨#[]⟩] ∧ NumsAt w' b m) fun w1 tb hx1 ht => ?_
  refine (work_gen listK tb nCount a c [intT n] (fun w' V => (∃ c0, countF n = .one c0 ∧ V = refX c0 ⟨#[]⟩) ∨ ∃ (m b : Nat), m ≤ 65535 ∧ n = (m : Int) ∧ V = .tuple #[.iface 59 (.slice (some ⟨b, 0, none⟩) m m), .int .i64 0, .string ⟨#[]⟩] ∧ NumsAt w' b m) w1 (by rw [listLen]; decide) ht (hm.later hx1) (hp.later hx1) (by simp) (fun k hk => ?_) ?_ ?_).mono fun e w' ⟨V, he, hq, h3, hx⟩ => ⟨V, he, hQ _ _ _ hq, h3, hx⟩
  · rw [listFind7] at hk
    obtain rfl := Option.some.inj hk
    exact ⟨rfl, Nat.le_of_ble_eq_true rfl⟩
  · intro k f h1 h2 _ _ _ w2 g hx2 hv
    rw [listFind7] at h1
    obtain rfl := Option.some.inj h1
    obtain rfl : 118 = f := Option.some.inj h2
    obtain ⟨K, d, v, h0, r0⟩ := hv 0 (Nat.le_of_ble_eq_true rfl)
    rw [VRd.int (n := n) r0] at h0
    by_cases hn : n < 0
    · refine (count_low g n w2 h0 hn).mono fun e w' ⟨he, hw⟩ => ⟨_, he, .inl ⟨23, ⟨#[]⟩, by decide, rfl, fun _ _ => .inl ⟨23, by unfold countF; rw [if_pos hn], rfl⟩⟩, by rw [hw]; exact Ext.refl _⟩
    by_cases hb : 65535 < n
    · refine (count_high g n w2 h0 hb).mono fun e w' ⟨he, hw⟩ => ⟨_, he, .inl ⟨2, ⟨#[]⟩, by decide, rfl, fun _ _ => .inl ⟨2, by unfold countF; rw [if_neg hn, if_pos hb], rfl⟩⟩, by rw [hw]; exact Ext.refl _⟩
    obtain ⟨m, rfl⟩ : ∃ m : Nat, n = (m : Int) := ⟨n.toNat, by omega⟩
    have hm2 : m ≤ 65535 := by omega
    refine (count_ok g m w2 h0 hm2).mono fun e w' ⟨b, he, hN, hbb, hx⟩ => ⟨_, he, .inr ⟨_, _, true, rfl, fun w3 hx3 => ?_, fun w3 hx3 => .inr ⟨m, b, hm2, rfl, rfl, ?_⟩⟩, hx⟩
    · have := cmay_any w3 ((upT_vrd hN hm2).later hx3)
      rwa [decide_eq_true (upT_may hm2)] at this
    · obtain ⟨cs, h5, h6, h7⟩ := hN
      exact ⟨cs, hx3.block h5, h6, h7⟩
  · intro k f h1 h2
    rw [listFind7] at h1
    obtain rfl := Option.some.inj h1
    obtain rfl : 118 = f := Option.some.inj h2
    exact entCount
theorem emptyT_may : (listT []).may := by
  refine ⟨⟨.inr (.inr (.inr (.inr ⟨rfl, rfl, rfl⟩))), trivial⟩, ?_, ?_⟩
  · show (T.node 5 0 ⟨#[]⟩ []).size ≤ 65536
    simp only [T.size, T.sizeL]; decide
  · show (T.node 5 0 ⟨#[]⟩ []).deep ≤ 64
    simp only [T.deep, T.deepL]; decide
theorem lwAt (a : Option Addr) (c : Nat) (w : World) (hm : MaxAt w) (hp : PRow w a [listT [], intT 0]) : Calls Tryz.prog 21 #[.string nAt, .slice a 2 c] w fun e w' => e = .returned (refX 23 ⟨#[]⟩) ∧ Ext w w' := by
  have hQ : ∀ (Q : World → Value → Prop) w1 V, WorkQ listK nAt [listT [], intT 0] Q w1 V → Q w1 V := fun Q w1 V h => by
    unfold WorkQ at h
    rw [listFind2] at h
    have h2 : if cntOk listK[2] 2 = false then V = refV 11 else if ∀ t ∈ [listT [], intT 0], t.may then (if rightB listK[2].signs.data.toList ([listT [], intT 0].map T.kind) = true then Q w1 V else V = refV 20) else V = refV 1 := h
    rw [if_neg (show ¬ cntOk listK[2] 2 = false by rw [show cntOk listK[2] 2 = true from by kernel_rfl]; decide), if_pos (by intro q hq; simp only [List.mem_cons, List.not_mem_nil, or_false] at hq; rcases hq with rfl | rfl; exact emptyT_may; exact intT_may 0), if_pos (show rightB listK[2].signs.data.toList ([listT [], intT 0].map T.kind) = true from by kernel_rfl)] at h2
    exact h2
  refine (workL_gen nAt a 2 c w (fun _ V => V = refX 23 ⟨#[]⟩) fun w1 tb hx1 ht => ?_).mono fun e w' ⟨V, he, hv, hx⟩ => ⟨by rw [he, hv], hx⟩
  refine (work_gen listK tb nAt a c [listT [], intT 0] (fun _ V => V = refX 23 ⟨#[]⟩) w1 (by rw [listLen]; decide) ht (hm.later hx1) (hp.later hx1) (by simp) (fun k hk => ?_) ?_ ?_).mono fun e w' ⟨V, he, hq, h3, hx⟩ => ⟨V, he, hQ _ _ _ hq, h3, hx⟩
  · rw [listFind2] at hk
    obtain rfl := Option.some.inj hk
    exact ⟨rfl, Nat.le_of_ble_eq_true rfl⟩
  · intro k f h1 h2 _ _ _ w2 g hx2 hv
    rw [listFind2] at h1
    obtain rfl := Option.some.inj h1
    obtain rfl : 113 = f := Option.some.inj h2
    obtain ⟨K, d, v, h0, r0⟩ := hv 0 (Nat.le_of_ble_eq_true rfl)
    obtain ⟨K', d', v', h0', r0'⟩ := hv 1 (Nat.le_of_ble_eq_true rfl)
    rw [VRd.int (n := 0) r0'] at h0'
    obtain ⟨a1, c1, rfl⟩ : ∃ a1 c1, v = .iface 59 (.slice a1 0 c1) := by
      cases d with
      | zero => exact r0.elim
      | succ d =>
        rcases r0 with ⟨h, _⟩ | ⟨h, _⟩ | ⟨h, _⟩ | ⟨h, _⟩ | ⟨_, _, _, _, a1, c1, h, _⟩
        · exact absurd h (by decide)
        · exact absurd h (by decide)
        · exact absurd h (by decide)
        · exact absurd h (by decide)
        · exact ⟨a1, c1, h⟩
    exact (at_bad g a1 0 c1 0 w2 h0 h0' (.inr (by decide))).mono fun e w' ⟨he, hw⟩ => ⟨_, he, .inl ⟨23, ⟨#[]⟩, by decide, rfl, fun _ _ => rfl⟩, by rw [hw]; exact Ext.refl _⟩
  · intro k f h1 h2
    rw [listFind2] at h1
    obtain rfl := Option.some.inj h1
    obtain rfl : 113 = f := Option.some.inj h2
    exact entAt
theorem lwSize (n : Int) (a : Option Addr) (c : Nat) (w : World) (hm : MaxAt w) (hp : PRow w a [intT n]) : Calls Tryz.prog 21 #[.string nSize, .slice a 1 c] w fun e w' => e = .returned (refX 20 ⟨#[]⟩) ∧ Ext w w' := by
  have hno : rightB listK[1].signs.data.toList ([intT n].map T.kind) = false := by kernel_rfl
  have hQ : ∀ (Q : World → Value → Prop) w1 V, WorkQ listK nSize [intT n] Q w1 V → V = refV 20 := fun Q w1 V h => by
    unfold WorkQ at h
    rw [listFind1] at h
    have h2 : if cntOk listK[1] 1 = false then V = refV 11 else if ∀ t ∈ [intT n], t.may then (if rightB listK[1].signs.data.toList ([intT n].map T.kind) = true then Q w1 V else V = refV 20) else V = refV 1 := h
    rw [if_neg (show ¬ cntOk listK[1] 1 = false by rw [show cntOk listK[1] 1 = true from by kernel_rfl]; decide), if_pos (by intro q hq; simp only [List.mem_cons, List.not_mem_nil, or_false] at hq; subst hq; exact intT_may n), hno] at h2
    exact h2
  refine (workL_gen nSize a 1 c w (fun _ V => V = refV 20) fun w1 tb hx1 ht => ?_).mono fun e w' ⟨V, he, hv, hx⟩ => ⟨by rw [he, hv]; rfl, hx⟩
  refine (work_gen listK tb nSize a c [intT n] (fun _ V => V = refV 20) w1 (by rw [listLen]; decide) ht (hm.later hx1) (hp.later hx1) (by simp) (fun k hk => ?_) ?_ ?_).mono fun e w' ⟨V, he, hq, h3, hx⟩ => ⟨V, he, hQ _ _ _ hq, h3, hx⟩
  · rw [listFind1] at hk
    obtain rfl := Option.some.inj hk
    exact ⟨rfl, Nat.le_of_ble_eq_true rfl⟩
  · intro k f h1 h2 _ _ h5
    rw [listFind1] at h1
    obtain rfl := Option.some.inj h1
    rw [hno] at h5
    cases h5
  · intro k f h1 h2
    rw [listFind1] at h1
    obtain rfl := Option.some.inj h1
    obtain rfl : 112 = f := Option.some.inj h2
    exact entSize
end Go.Proofs.YtnmcmjgfnncdmaaGreatDoor
