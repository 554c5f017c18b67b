/-
  truth.Work on any values, operation by operation.
-/
import Derived.Test.YtnmcmjgfnncdmaaGreatDoorTKinds
import Derived.Test.YtnmcmjgfnncdmaaGreatDoorKItems
import Derived.Test.YtnmcmjgfnncdmaaGreatDoorBLaw
namespace Go.Proofs.YtnmcmjgfnncdmaaGreatDoor
open Go.RowKit
/-- A truth as a plain value. -/
def truthT (b : Bool) : T := .node 2 (if b then 1 else 0) ⟨#[]⟩ []
theorem truthT_may (b : Bool) : (truthT b).may := by
  refine ⟨⟨.inr (.inl ⟨rfl, by cases b <;> simp, rfl, rfl⟩), trivial⟩, ?_, ?_⟩
  · show (T.node 2 _ ⟨#[]⟩ []).size ≤ 65536
    simp only [T.size, T.sizeL]; decide
  · show (T.node 2 _ ⟨#[]⟩ []).deep ≤ 64
    simp only [T.deep]; simp
theorem VRd.truth {K : Nat → Prop} {w : World} {d : Nat} {v : Value} {b : Bool} (h : VRd K w d v (truthT b)) : v = .iface 85 (.bool b) := by
  cases d with
  | zero => exact h.elim
  | succ d =>
    rcases h with ⟨h, _⟩ | ⟨_, _, _, c, hc, h⟩ | ⟨h, _⟩ | ⟨h, _⟩ | ⟨h, _⟩
    · exact absurd h (by decide)
    · have e : b = c := by cases b <;> cases c <;> simp at hc ⊢
      rw [e]; exact h
    · exact absurd h (by decide)
    · exact absurd h (by decide)
    · exact absurd h (by decide)
theorem tfind_not : kdFind truthK ⟨#[116, 114, 117, 116, 104, 46, 110, 111, 116]⟩ = some truthK[0] := by kernel_rfl
theorem tfind_same : kdFind truthK ⟨#[116, 114, 117, 116, 104, 46, 115, 97, 109, 101]⟩ = some truthK[1] := by kernel_rfl
theorem tfind_if : kdFind truthK ⟨#[116, 114, 117, 116, 104, 46, 105, 102]⟩ = some truthK[2] := by kernel_rfl
theorem tent_not : Enters 143 := fun a w => by simp [callFunc, go_sem, Tryz.func143]; rfl
theorem tent_same : Enters 144 := fun a w => by simp [callFunc, go_sem, Tryz.func144]; rfl
theorem tw_not (x : Bool) (a : Option Addr) (c : Nat) (w : World) (hm : MaxAt w) (hp : PRow w a [truthT x]) : Calls Tryz.prog 35 #[.string ⟨#[116, 114, 117, 116, 104, 46, 110, 111, 116]⟩, .slice a 1 c] w fun e w' => e = .returned (toldV (!x)) ∧ Ext w w' := by
  refine workT_of _ a 1 c w _ ⟨_, _, _, rfl⟩ fun w1 tb hx1 ht0 => ?_
  have hwk := work_any truthK tb ⟨#[116, 114, 117, 116, 104, 46, 110, 111, 116]⟩ a c [truthT x] (toldV (!x)) w1 (by rw [truthLen]; decide) ht0 (hm.later hx1) (hp.later hx1) (Nat.le_of_ble_eq_true rfl) truthJ
    (fun k f h1 h2 _ _ _ => by
      rw [tfind_not] at h1
      obtain rfl := Option.some.inj h1
      obtain rfl : 143 = f := Option.some.inj h2
      refine ⟨NRes.told _, fun w1 g hxx hv => not_any g x w1 ?_⟩
      obtain ⟨_, _, v, h0, r0⟩ := hv 0 (Nat.le_of_ble_eq_true rfl)
      rw [h0, VRd.truth (b := x) r0])
    (fun k f h1 h2 => by
      rw [tfind_not] at h1
      obtain rfl := Option.some.inj h1
      obtain rfl : 143 = f := Option.some.inj h2
      exact tent_not)
  have hV : workV truthK ⟨#[116, 114, 117, 116, 104, 46, 110, 111, 116]⟩ [truthT x] (toldV (!x)) = toldV (!x) := by
    unfold workV
    rw [tfind_not]
    show (if cntOk truthK[0] 1 = false then refV 11 else if ∀ q ∈ [truthT x], q.may then (if rightB truthK[0].signs.data.toList ([truthT x].map T.kind) = true then toldV (!x) else refV 20) else refV 1) = _
    rw [if_neg (show ¬ cntOk truthK[0] 1 = false by rw [show cntOk truthK[0] 1 = true from by kernel_rfl]; decide), if_pos (by intro q hq; simp only [List.mem_cons, List.not_mem_nil, or_false] at hq; subst hq; exact truthT_may _), if_pos (show rightB truthK[0].signs.data.toList ([truthT x].map T.kind) = true from by kernel_rfl)]
  rw [hV] at hwk
  exact hwk
theorem tw_not_int (x : Int) (a : Option Addr) (c : Nat) (w : World) (hm : MaxAt w) (hp : PRow w a [intT x]) : Calls Tryz.prog 35 #[.string ⟨#[116, 114, 117, 116, 104, 46, 110, 111, 116]⟩, .slice a 1 c] w fun e w' => e = .returned (refV 20) ∧ Ext w w' := by
  refine workT_of _ a 1 c w _ ⟨_, _, _, rfl⟩ fun w1 tb hx1 ht0 => ?_
  have hno : rightB truthK[0].signs.data.toList ([intT x].map T.kind) = false := by kernel_rfl
  have hwk := work_any truthK tb ⟨#[116, 114, 117, 116, 104, 46, 110, 111, 116]⟩ a c [intT x] (refV 20) w1 (by rw [truthLen]; decide) ht0 (hm.later hx1) (hp.later hx1) (Nat.le_of_ble_eq_true rfl) truthJ
    (fun k f h1 h2 _ _ h3 => by
      rw [tfind_not] at h1
      obtain rfl := Option.some.inj h1
      rw [hno] at h3
      cases h3)
    (fun k f h1 h2 => by
      rw [tfind_not] at h1
      obtain rfl := Option.some.inj h1
      obtain rfl : 143 = f := Option.some.inj h2
      exact tent_not)
  have hV : workV truthK ⟨#[116, 114, 117, 116, 104, 46, 110, 111, 116]⟩ [intT x] (refV 20) = refV 20 := by
    unfold workV
    rw [tfind_not]
    show (if cntOk truthK[0] 1 = false then refV 11 else if ∀ q ∈ [intT x], q.may then (if rightB truthK[0].signs.data.toList ([intT x].map T.kind) = true then refV 20 else refV 20) else refV 1) = _
    rw [if_neg (show ¬ cntOk truthK[0] 1 = false by rw [show cntOk truthK[0] 1 = true from by kernel_rfl]; decide), if_pos (by intro q hq; simp only [List.mem_cons, List.not_mem_nil, or_false] at hq; subst hq; exact intT_may _), hno]
    rfl
  rw [hV] at hwk
  exact hwk
theorem tw_if (ts : List T) (hn : ts.length ≤ 1000000) (a : Option Addr) (c : Nat) (w : World) (hm : MaxAt w) (hp : PRow w a ts) : Calls Tryz.prog 35 #[.string ⟨#[116, 114, 117, 116, 104, 46, 105, 102]⟩, .slice a ts.length c] w fun e w' => e = .returned (refV 1) ∧ Ext w w' := by
  refine workT_of _ a _ c w _ ⟨_, _, _, rfl⟩ fun w1 tb hx1 ht0 => ?_
  have hwk := work_any truthK tb ⟨#[116, 114, 117, 116, 104, 46, 105, 102]⟩ a c ts (refV 1) w1 (by rw [truthLen]; decide) ht0 (hm.later hx1) (hp.later hx1) hn truthJ
    (fun k f h1 h2 _ _ _ => by
      rw [tfind_if] at h1
      obtain rfl := Option.some.inj h1
      cases h2)
    (fun k f h1 h2 => by
      rw [tfind_if] at h1
      obtain rfl := Option.some.inj h1
      cases h2)
  have hV : workV truthK ⟨#[116, 114, 117, 116, 104, 46, 105, 102]⟩ ts (refV 1) = refV 1 := by
    unfold workV
    rw [tfind_if]
    rfl
  rw [hV] at hwk
  exact hwk
open Classical in
/-- What truth.same answers. -/
noncomputable def sameV (t t' : T) : Value := if t.may ∧ t'.may then toldV (T.beq t t') else refV 1
theorem sameV_yes {t t' : T} (h : t.may) (h' : t'.may) : sameV t t' = toldV (T.beq t t') := if_pos ⟨h, h'⟩
theorem sameV_no {t t' : T} (h : ¬ (t.may ∧ t'.may)) : sameV t t' = refV 1 := if_neg h
theorem tw_same (t t' : T) (a : Option Addr) (c : Nat) (w : World) (hm : MaxAt w) (hp : PRow w a [t, t']) : Calls Tryz.prog 35 #[.string ⟨#[116, 114, 117, 116, 104, 46, 115, 97, 109, 101]⟩, .slice a 2 c] w fun e w' => e = .returned (sameV t t') ∧ Ext w w' := by
  have h3 : ∃ x y z, sameV t t' = .tuple #[x, y, z] := by
    by_cases h : t.may ∧ t'.may
    · rw [sameV_yes h.1 h.2]; exact ⟨_, _, _, rfl⟩
    · rw [sameV_no h]; exact ⟨_, _, _, rfl⟩
  refine workT_of _ a 2 c w _ h3 fun w1 tb hx1 ht0 => ?_
  have hwk := work_any truthK tb ⟨#[116, 114, 117, 116, 104, 46, 115, 97, 109, 101]⟩ a c [t, t'] (toldV (T.beq t t')) w1 (by rw [truthLen]; decide) ht0 (hm.later hx1) (hp.later hx1) (Nat.le_of_ble_eq_true rfl) truthJ
    (fun k f h1 h2 _ _ _ => by
      rw [tfind_same] at h1
      obtain rfl := Option.some.inj h1
      obtain rfl : 144 = f := Option.some.inj h2
      refine ⟨NRes.told _, fun w1 g hxx hv => ?_⟩
      obtain ⟨_, _, v, h0, r0⟩ := hv 0 (Nat.le_of_ble_eq_true rfl)
      obtain ⟨_, _, v', h0', r0'⟩ := hv 1 (Nat.le_of_ble_eq_true rfl)
      exact same_any g v v' t t' w1 h0 h0' r0 r0')
    (fun k f h1 h2 => by
      rw [tfind_same] at h1
      obtain rfl := Option.some.inj h1
      obtain rfl : 144 = f := Option.some.inj h2
      exact tent_same)
  have hV : workV truthK ⟨#[116, 114, 117, 116, 104, 46, 115, 97, 109, 101]⟩ [t, t'] (toldV (T.beq t t')) = sameV t t' := by
    unfold workV
    rw [tfind_same]
    show (if cntOk truthK[1] 2 = false then refV 11 else if ∀ q ∈ [t, t'], q.may then (if rightB truthK[1].signs.data.toList ([t, t'].map T.kind) = true then toldV (T.beq t t') else refV 20) else refV 1) = _
    rw [if_neg (show ¬ cntOk truthK[1] 2 = false by rw [show cntOk truthK[1] 2 = true from by kernel_rfl]; decide)]
    by_cases h : t.may ∧ t'.may
    · rw [sameV_yes h.1 h.2, if_pos (by intro q hq; simp only [List.mem_cons, List.not_mem_nil, or_false] at hq; rcases hq with rfl | rfl; exact h.1; exact h.2), if_pos (show rightB truthK[1].signs.data.toList ([t, t'].map T.kind) = true from by kernel_rfl)]
    · rw [sameV_no h, if_neg (fun hh => h ⟨hh t (by simp), hh t' (by simp)⟩)]
  rw [hV] at hwk
  exact hwk

end Go.Proofs.YtnmcmjgfnncdmaaGreatDoor
/-
  truths of the statements: truths as plain values, by a contract.
-/
namespace Go.Proofs.YtnmcmjgfnncdmaaGreatDoor
open Go.RowKit
theorem PItems.prowT {w : World} {base N d m c : Nat} {ao : Option Addr} {acc : List T} (h : PItems w base N d (.slice ao m c) acc) (hlim : acc.length ≤ 2000000) : PRow w ao acc := by
  obtain ⟨a', c', he, _, _, hk⟩ := h.list hlim
  rcases hk with hk | ⟨g, off, ha, _, hc⟩
  · exact .inl hk
  · simp only [Value.agg.injEq, Array.mk.injEq, List.cons.injEq, and_true, Value.slice.injEq] at he
    obtain ⟨_, _, _, rfl, _, _⟩ := he
    exact .inr ⟨g, off, ha, fun j hj => by
      obtain ⟨u0, u1, u2, u3, h4, hr⟩ := hc j hj
      exact ⟨_, d, u0, u1, u2, u3, h4, hr⟩⟩
theorem truthRd (K : Nat → Prop) (w : World) (b : Bool) : Rd K w 1 (.agg #[.int .i64 2, .int .i64 (if b then 1 else 0), .string ⟨#[]⟩, .slice none 0 0]) (truthT b) := ⟨none, 0, rfl, by decide, by decide, .inl rfl⟩
def TruthsR (w : World) (bs : List Bool) (n : Nat) (e : Ending) (w' : World) : Prop := ∃ ao c, e = .returned (.slice ao n c) ∧ PRow w' ao (bs.map truthT) ∧ Ext w w'
set_option maxRecDepth 100000 in
set_option maxHeartbeats 2000000 in
theorem truths_any (bs : List Bool) (g : Nat) (w : World) (hn : bs.length ≤ 10) (hc : ∀ j, (h : j < bs.length) → w.cell? ⟨g, j, none⟩ = some (.bool bs[j])) :
    Calls Tryz.prog 36 #[.slice (some ⟨g, 0, none⟩) bs.length bs.length] w (TruthsR w bs bs.length) := by
  have HC := hid hc
  obtain ⟨n, hne⟩ : ∃ n, bs.length = n := ⟨_, rfl⟩
  have HNE := hid hne
  rw [hne] at hn ⊢
  have hn' : (n : Int) ≤ 10 := by omega
  clear hc hne
  go_enter Tryz.func36, Tryz.ntmps36
  go_wp2_with fail
  go_loopw [3, 4] (fun q3 q4 wr => ∃ (j : Nat) (ao : Option Addr) (c : Nat), j ≤ n ∧ q4 = .int .i64 j ∧ q3 = .slice ao j c ∧ PItems wr w.heap.size wr.heap.size 1 (.slice ao j c) ((bs.take j).map truthT) ∧ Ext w wr) (fun _ q4 _ => n - (intOf q4).toNat)
  case atStart => exact ⟨0, none, 0, Nat.zero_le _, rfl, rfl, PItems.nil _ _, Ext.refl _⟩
  case round =>
    obtain ⟨j, ao, c, hj, rfl, rfl, hit, hx⟩ := hrel
    have HIT := hid hit
    have HX := hid hx
    clear hit hx
    by_cases hlt : j < n
    · have hlt' : (j : Int) < n := by omega
      have hjx : j < bs.length := by rw [HNE.out]; exact hlt
      have hcell : wr.cell? ⟨g, j, none⟩ = some (.bool bs[j]) := (Below.cell HX.out (lt_of_cell (HC.out j hjx))).trans (HC.out j hjx)
      have hgl := lt_of_cell hcell
      have HL := hid (show ((bs.take j).map truthT).length = j by rw [List.length_map, List.length_take, Nat.min_eq_left (Nat.le_of_lt hjx)])
      have HS := hid (show (bs.take j).map truthT ++ [truthT bs[j]] = (bs.take (j + 1)).map truthT by rw [List.take_succ_eq_append_getElem hjx, List.map_append]; rfl)
      generalize bs[j] = x at *
      generalize (bs.take j).map truthT = acc at *
      clear hjx
      cases x with
      | true =>
        go_wp2_with (at_builtin; go_loud (refine app_pitem rfl _ _ rfl rfl w.heap.size wr.heap.size 1 (.slice ao j c) acc 2 1 ⟨#[]⟩ none 0 0 (truthT true) rfl (by first | rfl | (rw [blkS]; rfl)) (Nat.le_trans HX.out.size (Ext.alloc _ _).size) (HIT.out.keep ((Ext.alloc wr _).kp (fun _ => True)) (fun _ _ => trivial)) (truthRd _ _ true) HX.out.size (by rw [HL.out]; omega) ?_); intro a5 c5 w5 hit5 hb5; rw [HL.out] at hit5 ⊢)
        go_roundw
        case rel => exact ⟨j + 1, a5, c5, by omega, by go_num, rfl, by rw [← HS.out]; exact hit5, Below.trans (HX.out.trans (Ext.alloc _ _)) hb5⟩
        case measure => simp [intOf]; omega
      | false =>
        go_wp2_with (at_builtin; go_loud (refine app_pitem rfl _ _ rfl rfl w.heap.size wr.heap.size 1 (.slice ao j c) acc 2 0 ⟨#[]⟩ none 0 0 (truthT false) rfl (by first | rfl | (rw [blkS]; rfl)) (Nat.le_trans HX.out.size (Ext.alloc _ _).size) (HIT.out.keep ((Ext.alloc wr _).kp (fun _ => True)) (fun _ _ => trivial)) (truthRd _ _ false) HX.out.size (by rw [HL.out]; omega) ?_); intro a5 c5 w5 hit5 hb5; rw [HL.out] at hit5 ⊢)
        go_roundw
        case rel => exact ⟨j + 1, a5, c5, by omega, by go_num, rfl, by rw [← HS.out]; exact hit5, Below.trans (HX.out.trans (Ext.alloc _ _)) hb5⟩
        case measure => simp [intOf]; omega
    · have hje : j = n := by omega
      have hlt3 : ¬ (j : Int) < n := by omega
      have HP := hid (show PRow wr ao (bs.map truthT) by
        have := HIT.out.prowT (by simp; omega)
        rwa [List.take_of_length_le (by have := HNE.out; omega)] at this)
      subst hje
      go_wp2_with fail
      go_ret
      exact ⟨_, _, rfl, HP.out, HX.out⟩
end Go.Proofs.YtnmcmjgfnncdmaaGreatDoor
/-
  truth.Kit by a contract; a node of truth.if.
-/
namespace Go.Proofs.YtnmcmjgfnncdmaaGreatDoor.Nd
open Go.RowKit
def truthPre : List UInt8 := [116, 114, 117, 116, 104]
def truthB : ByteArray := ⟨#[116, 114, 117, 116, 104]⟩
theorem truthWord : speltB wordI 16 truthPre = true := by kernel_rfl
theorem goodT0 : GoodR truthPre (kdRow truthK[0]) where
  name := ⟨[110, 111, 116], rfl, by kernel_rfl⟩
  nod := by decide
  word := truthWord
  size := Nat.le_of_ble_eq_true rfl
  min := by decide
  max := .inr ⟨by decide, by decide⟩
  text := ⟨by decide, by decide⟩
  names := by decide
  ord := by kernel_rfl
  len := Nat.le_of_ble_eq_true (by kernel_rfl)
theorem hasT0 : (truthK[0]).has.size ≤ 4000 ∧ (truthK[0]).has.data.toList.all (fun b => decide (b.toNat < 128)) = true := ⟨Nat.le_of_ble_eq_true rfl, by kernel_rfl⟩
theorem goodT1 : GoodR truthPre (kdRow truthK[1]) where
  name := ⟨[115, 97, 109, 101], rfl, by kernel_rfl⟩
  nod := by decide
  word := truthWord
  size := Nat.le_of_ble_eq_true rfl
  min := by decide
  max := .inr ⟨by decide, by decide⟩
  text := ⟨by decide, by decide⟩
  names := by decide
  ord := by kernel_rfl
  len := Nat.le_of_ble_eq_true (by kernel_rfl)
theorem hasT1 : (truthK[1]).has.size ≤ 4000 ∧ (truthK[1]).has.data.toList.all (fun b => decide (b.toNat < 128)) = true := ⟨Nat.le_of_ble_eq_true rfl, by kernel_rfl⟩
theorem goodT2 : GoodR truthPre (kdRow truthK[2]) where
  name := ⟨[105, 102], rfl, by kernel_rfl⟩
  nod := by decide
  word := truthWord
  size := Nat.le_of_ble_eq_true rfl
  min := by decide
  max := .inr ⟨by decide, by decide⟩
  text := ⟨by decide, by decide⟩
  names := by decide
  ord := by kernel_rfl
  len := Nat.le_of_ble_eq_true (by kernel_rfl)
theorem hasT2 : (truthK[2]).has.size ≤ 4000 ∧ (truthK[2]).has.data.toList.all (fun b => decide (b.toNat < 128)) = true := ⟨Nat.le_of_ble_eq_true rfl, by kernel_rfl⟩
theorem goodT3 : GoodR truthPre (kdRow truthK[3]) where
  name := ⟨[97, 110, 100], rfl, by kernel_rfl⟩
  nod := by decide
  word := truthWord
  size := Nat.le_of_ble_eq_true rfl
  min := by decide
  max := .inr ⟨by decide, by decide⟩
  text := ⟨by decide, by decide⟩
  names := by decide
  ord := by kernel_rfl
  len := Nat.le_of_ble_eq_true (by kernel_rfl)
theorem hasT3 : (truthK[3]).has.size ≤ 4000 ∧ (truthK[3]).has.data.toList.all (fun b => decide (b.toNat < 128)) = true := ⟨Nat.le_of_ble_eq_true rfl, by kernel_rfl⟩
theorem goodT4 : GoodR truthPre (kdRow truthK[4]) where
  name := ⟨[111, 114], rfl, by kernel_rfl⟩
  nod := by decide
  word := truthWord
  size := Nat.le_of_ble_eq_true rfl
  min := by decide
  max := .inr ⟨by decide, by decide⟩
  text := ⟨by decide, by decide⟩
  names := by decide
  ord := by kernel_rfl
  len := Nat.le_of_ble_eq_true (by kernel_rfl)
theorem hasT4 : (truthK[4]).has.size ≤ 4000 ∧ (truthK[4]).has.data.toList.all (fun b => decide (b.toNat < 128)) = true := ⟨Nat.le_of_ble_eq_true rfl, by kernel_rfl⟩
theorem truthGood : GoodK truthPre truthK where
  pos := by decide
  lim := by decide
  rows := by
    intro k hk
    obtain ⟨i, hi, rfl⟩ := List.getElem_of_mem hk
    have hl : truthK.length = 5 := rfl
    rw [hl] at hi
    match i, hi with
    | 0, _ => exact goodT0
    | 1, _ => exact goodT1
    | 2, _ => exact goodT2
    | 3, _ => exact goodT3
    | 4, _ => exact goodT4
    | n + 5, h => exact absurd h (by omega)
  has := by
    intro k hk
    obtain ⟨i, hi, rfl⟩ := List.getElem_of_mem hk
    have hl : truthK.length = 5 := rfl
    rw [hl] at hi
    match i, hi with
    | 0, _ => exact hasT0
    | 1, _ => exact hasT1
    | 2, _ => exact hasT2
    | 3, _ => exact hasT3
    | 4, _ => exact hasT4
    | n + 5, h => exact absurd h (by omega)
  nodup := by decide
  word := truthWord

set_option maxRecDepth 100000 in
set_option maxHeartbeats 1000000 in
theorem truthKit_any (w : World) (hl : Laid w) : Calls Tryz.prog 33 #[] w (CKitR w truthB truthK) := by
  have HL := hid hl
  clear hl
  go_enter Tryz.func33, Tryz.ntmps33
  go_wp2_with fail
  refine (kindsT_any w).mono ?_
  rintro e w1 ⟨rfl, hx1⟩
  have X1 := hid hx1
  clear hx1
  rw [truthA_agg]
  have hsz : truthC.size = 45 := truthC_size
  go_wp2_with fail
  rw [storeT w1 _ _ rfl]
  simp only [Result.andThen_ok, Oper.upon_skip]
  have HT := hid (show TabAt (w1.alloc (.cells truthC 158)) w1.heap.size truthK from ⟨158, by rw [← truthC_tab]; exact blk0 _ _⟩)
  go_wp2_with fail
  refine (ckit_any (pre := truthPre) truthB rfl w1.heap.size truthK _ truthGood HT.out (HL.out.later (X1.out.trans (Ext.alloc _ _)))).mono ?_
  rintro e w2 ⟨base, kb, mb, lv', bx, rfl, hkm, htab, hb, hx2⟩
  have HKM := hid hkm
  have HTB := hid htab
  have HX2 := hid ((X1.out.trans (Ext.alloc _ _)).trans hx2)
  have HBS := hid (Nat.le_trans (X1.out.trans (Ext.alloc w1 (.cells truthC 158))).size hb)
  clear hkm hx2 hb htab
  go_wp2_with fail
  go_ret
  exact ⟨base, kb, mb, lv', bx, rfl, HKM.out, HTB.out, HBS.out, HX2.out⟩
  exact rfl
theorem absLz : ∀ j, j < 14 → hasLz j = inS (nmQ j) ((truthK.map kdRow)[2]'(by decide)).abs
  | 0, _ => by kernel_rfl
  | 1, _ => by kernel_rfl
  | 2, _ => by kernel_rfl
  | 3, _ => by kernel_rfl
  | 4, _ => by kernel_rfl
  | 5, _ => by kernel_rfl
  | 6, _ => by kernel_rfl
  | 7, _ => by kernel_rfl
  | 8, _ => by kernel_rfl
  | 9, _ => by kernel_rfl
  | 10, _ => by kernel_rfl
  | 11, _ => by kernel_rfl
  | 12, _ => by kernel_rfl
  | 13, _ => by kernel_rfl
  | n + 14, h => absurd h (by omega)
/-- Make of truth.if over three. -/
theorem makeIf {base kb mb : Nat} {lv : Value} (g cp bx : Nat) (w : World) (hkm : KitM w base kb mb truthB (.func (.func 124) #[] #[.pointer (some ⟨bx, 0, none⟩)]) lv (truthK.map kdRow)) (hb : w.heap[bx]? = some (.cells #[.slice (some ⟨g, 0, none⟩) truthK.length cp] 104)) (hk : KRow w g truthK) (w1 : World) (a : Option Addr) (c : Nat) (bs : Nat → Nat) (hxx : Ext w w1) (hh : HandsP w1 a 3 c (fun _ => 388) (fun i => .pointer (some ⟨bs i, 0, none⟩))) :
    Calls Tryz.prog 29 #[.pointer (some ⟨kb, 0, none⟩), .agg #[.string ⟨#[116, 114, 117, 116, 104, 46, 105, 102]⟩, .int .i64 0, .string ⟨#[]⟩, .slice none 0 0], .slice a 3 c] w1 (MakeR w1 351 ⟨#[116, 114, 117, 116, 104, 46, 105, 102]⟩ ⟨#[]⟩ 3 bs) :=
  makeK_Lz truthK g cp bx ⟨#[116, 114, 117, 116, 104, 46, 105, 102]⟩ ⟨#[]⟩ a none 0 0 3 c bs truthK[2] w1 (hkm.later hxx) (by decide) (hxx.block hb) (hk.later hxx) (by kernel_rfl) rfl rfl (by decide) hh (by decide) (by decide) 2 (by kernel_rfl) (by decide) rfl rfl (.inl rfl) (by decide) (.inr (by decide)) (by kernel_rfl) (by decide) absLz

end Go.Proofs.YtnmcmjgfnncdmaaGreatDoor.Nd
/-
  espalierlaw9.begun: it tells true.
-/
namespace Go.Proofs.YtnmcmjgfnncdmaaGreatDoor.Nd
open Go.RowKit
theorem eqTu (b c : Bool) (w : World) : (binOp .eql 33 (.iface 85 (.bool b)) (.iface 85 (.bool c))).run Tryz.prog w = .ok (.bool (b == c)) w := by cases b <;> cases c <;> kernel_rfl
theorem prow1 {w : World} {g : Nat} {ty : TypeId} {k0 n0 : Int} (h : w.heap[g]? = some (.cells #[.int .i64 k0, .int .i64 n0, .string ⟨#[]⟩, .slice none 0 0] ty)) : PRow w (some ⟨g, 0, none⟩) [.node k0 n0 ⟨#[]⟩ []] := by
  refine .inr ⟨g, 0, rfl, fun j hj => ?_⟩
  match j, hj with
  | 0, _ => exact ⟨fun _ => True, 1, _, _, _, _, ⟨cell_of h rfl, cell_of h rfl, cell_of h rfl, cell_of h rfl⟩, ⟨none, 0, rfl, by decide, by decide, .inl rfl⟩⟩
  | n + 1, h => exact absurd h (by simp)
attribute [local go_sem] isLzLazy isLzStrict
set_option maxRecDepth 100000 in
set_option maxHeartbeats 4000000 in
theorem begunT_any (w : World) (hl : Laid w) (hm : MaxAt w) : Calls Tryz.prog 9 #[] w fun e w' => e = .returned (.bool true) ∧ Ext w w' := by
  have HK := hid (truthKit_any w hl)
  have HM := hid hm
  have heq := fun (w : World) => eqTu false false w
  clear hl hm
  go_enter Tryz.func9, Tryz.ntmps9
  go_wp2_with fail
  refine HK.out.mono ?_
  rintro e w1 ⟨base, kb, mb, lv', bx, rfl, hkm, ⟨g, cp, htb, hkr⟩, _, hx1⟩
  have X1 := hid hx1
  have HIF := hid (lawMadeT _ kb _ ⟨#[]⟩ 3 w1 (by decide) (fun w2 a c bs hx hh => makeIf g cp bx w1 hkm htb hkr w2 a c bs hx hh))
  clear hx1 hkm htb hkr
  go_wp2_with fail
  refine HIF.out.mono ?_
  rintro e w2 ⟨b1, a1, c1, rfl, hn1, hx2⟩
  have X2 := hid (X1.out.trans hx2)
  clear hx2 hn1
  go_wp2_with fail
  refine (truths_any [true] w2.heap.size _ (by decide) (fun j hj => by
    match j, hj with
    | 0, _ => exact cell_of (blk0 w2 _) rfl
    | n + 1, h => exact absurd h (by simp))).mono ?_
  rintro e w3 ⟨a3, c3, rfl, hp3, hx3⟩
  have HP3 := hid hp3
  have X3 := hid (X2.out.trans ((Ext.alloc _ _).trans hx3))
  clear hp3 hx3
  go_wp2_with fail
  refine (tw_not true a3 c3 w3 (HM.out.later X3.out) HP3.out).mono ?_
  rintro e w4 ⟨rfl, hx4⟩
  have X4 := hid (X3.out.trans hx4)
  clear hx4
  unfold toldV
  go_wp2_with fail
  refine (truths_any [true, true, true] w4.heap.size _ (by decide) (fun j hj => by
    match j, hj with
    | 0, _ => exact cell_of (blk0 w4 _) rfl
    | 1, _ => exact cell_of (blk0 w4 _) rfl
    | 2, _ => exact cell_of (blk0 w4 _) rfl
    | n + 3, h => exact absurd h (by simp))).mono ?_
  rintro e w5 ⟨a5, c5, rfl, hp5, hx5⟩
  have HP5 := hid hp5
  have X5 := hid (X4.out.trans ((Ext.alloc _ _).trans hx5))
  clear hp5 hx5
  go_wp2_with fail
  refine (tw_if [truthT true, truthT true, truthT true] (by decide) a5 c5 w5 (HM.out.later X5.out) HP5.out).mono ?_
  rintro e w6 ⟨rfl, hx6⟩
  have X6 := hid (X5.out.trans hx6)
  clear hx6
  unfold refV
  go_wp2_with fail
  refine (tw_not_int 0 _ _ _ (HM.out.later (X6.out.trans (Ext.alloc _ _))) (prow1 (blk0 w6 _))).mono ?_
  rintro e w7 ⟨rfl, hx7⟩
  have X7 := hid (X6.out.trans ((Ext.alloc _ _).trans hx7))
  clear hx7
  unfold refV
  go_wp2_with fail
  go_ret
  exact ⟨rfl, X7.out⟩
end Go.Proofs.YtnmcmjgfnncdmaaGreatDoor.Nd
