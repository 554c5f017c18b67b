/-
  guard.raise, check by contracts; craft.may of the unit.
-/
import Derived.Test.YtnmcmjgfnncdmabGreatDoorCWorkG
import Derived.Test.YtnmcmjgfnncdmabGreatDoorGKinds
import Derived.Test.YtnmcmjgfnncdmabGreatDoorYAns
namespace Go.Proofs.YtnmcmjgfnncdmabGreatDoor
open Go.RowKit
theorem tto_tx1 (v : Value) (w : World) : (Instr.typeAssert (.iface 134 v) 33 134 false).run Tryz.prog w = .ok v w := by kernel_rfl
theorem tto_tu1 (v : Value) (w : World) : (Instr.typeAssert (.iface 135 v) 33 135 false).run Tryz.prog w = .ok v w := by kernel_rfl
set_option maxRecDepth 100000 in
set_option maxHeartbeats 1000000 in
theorem raise0_any (g : Nat) (s : ByteArray) (w : World) (h0 : w.cell? ⟨g, 0, none⟩ = some (.iface 134 (.string s))) : Calls Tryz.prog 28 #[.slice (some ⟨g, 0, none⟩) 1 1] w fun e w' => e = .returned (refX 25 s) ∧ Ext w w' := by
  have hta := tto_tx1 (.string s)
  unfold refX
  go_enter Tryz.func28, Tryz.ntmps28
  go_wp2_with fail
  go_region
  all_goals
    go_wp2_with fail
    go_ret3
    exact ⟨rfl, (Ext.refl _).drew⟩
set_option maxRecDepth 100000 in
set_option maxHeartbeats 1000000 in
theorem raise1_any (g : Nat) (s : ByteArray) (w : World) (h0 : w.cell? ⟨g, 1, none⟩ = some (.iface 134 (.string s))) : Calls Tryz.prog 28 #[.slice (some ⟨g, 1, none⟩) 1 1] w fun e w' => e = .returned (refX 25 s) ∧ Ext w w' := by
  have hta := tto_tx1 (.string s)
  unfold refX
  go_enter Tryz.func28, Tryz.ntmps28
  go_wp2_with fail
  go_region
  all_goals
    go_wp2_with fail
    go_ret3
    exact ⟨rfl, (Ext.refl _).drew⟩

def unitV : Value := .tuple #[.iface 38 (.agg #[]), .int .i64 0, .string ⟨#[]⟩]
set_option maxRecDepth 100000 in
set_option maxHeartbeats 1000000 in
theorem check_yes (g : Nat) (w : World) (h0 : w.cell? ⟨g, 0, none⟩ = some (.iface 135 (.bool true))) : Calls Tryz.prog 29 #[.slice (some ⟨g, 0, none⟩) 2 2] w fun e w' => e = .returned unitV ∧ Ext w w' := by
  have hta := tto_tu1 (.bool true)
  unfold unitV
  go_enter Tryz.func29, Tryz.ntmps29
  go_wp2_with fail
  go_ret3
  exact ⟨rfl, by first | exact Ext.refl _ | exact Ext.alloc _ _⟩
set_option maxRecDepth 100000 in
set_option maxHeartbeats 1000000 in
theorem check_no (g : Nat) (s : ByteArray) (w : World) (h0 : w.cell? ⟨g, 0, none⟩ = some (.iface 135 (.bool false))) (h1 : w.cell? ⟨g, 1, none⟩ = some (.iface 134 (.string s))) : Calls Tryz.prog 29 #[.slice (some ⟨g, 0, none⟩) 2 2] w fun e w' => e = .returned (refX 25 s) ∧ Ext w w' := by
  have hta := tto_tu1 (.bool false)
  have HR := hid (raise1_any g s w h1)
  unfold refX at HR ⊢
  go_enter Tryz.func29, Tryz.ntmps29
  go_wp2_with fail
  refine HR.out.mono ?_
  rintro e w1 ⟨rfl, hx1⟩
  have X1 := hid hx1
  clear hx1
  go_wp2_with fail
  go_ret3
  exact ⟨rfl, X1.out⟩
theorem cas_un_tx (v : Value) (w : World) : (Instr.typeAssert (.iface 38 v) 33 134 true).run Tryz.prog w = .ok (.tuple #[(.string ByteArray.empty), .bool false]) w := by kernel_rfl
theorem cas_un_li (v : Value) (w : World) : (Instr.typeAssert (.iface 38 v) 33 184 true).run Tryz.prog w = .ok (.tuple #[(.slice none 0 0), .bool false]) w := by kernel_rfl
set_option maxRecDepth 100000 in
theorem choldsx_un (b : Nat) (w : World) (h : w.heap[b]? = some (.cells #[.int .i64 65536] 189)) : Calls Tryz.prog 77 #[.pointer (some ⟨b, 0, none⟩), .iface 38 (.agg #[]), .int .i64 64] w fun e w' => e = .returned (.bool true) ∧ Kp (· ≠ b) w w' := by
  have c0 : w.cell? ⟨b, 0, none⟩ = some (.int .i64 65536) := cell_of h rfl
  have f0 : w.frozen? ⟨b, 0, none⟩ = false := frozen_of h
  have h1 := cas_un_tx (.agg #[])
  have h2 := cas_un_li (.agg #[])
  clear h
  go_enter Tryz.func77, Tryz.ntmps77
  go_wp2_with fail
  go_ret
  exact ⟨rfl, Kp.set w b 0 _ (fun h => h rfl)⟩
set_option maxRecDepth 100000 in
theorem cmay_un (w : World) : Calls Tryz.prog 57 #[.iface 38 (.agg #[])] w fun e w' => e = .returned (.bool true) ∧ Ext w w' := by
  go_enter Tryz.func57, Tryz.ntmps57
  go_wp2_with fail
  refine (choldsx_un _ _ (blk0 _ _)).mono ?_
  rintro e w1 ⟨rfl, hk⟩
  go_wp2_with fail
  go_ret
  exact ⟨rfl, Kp.extOf (Ext.alloc _ _) hk (Nat.le_refl _)⟩
end Go.Proofs.YtnmcmjgfnncdmabGreatDoor
/-
  guard.Work and the document's Work on any operation and any plain values: the same answer.
-/
namespace Go.Proofs.YtnmcmjgfnncdmabGreatDoor
open Go.RowKit
def nRaise : ByteArray := ⟨#[103, 117, 97, 114, 100, 46, 114, 97, 105, 115, 101]⟩
def nCheck : ByteArray := ⟨#[103, 117, 97, 114, 100, 46, 99, 104, 101, 99, 107]⟩
/-- What an operation of the kit guard comes to. -/
def guardF (ts : List T) : Ans := match ts with
  | [.node _ _ x _] => .bad 25 x
  | [.node _ n _ _, .node _ _ x _] => if n = 0 then .bad 25 x else .good unitT
  | _ => .one 1
theorem guardAt {op : ByteArray} {k : Kd} {f : Nat} (h : kdFind guardK op = some k) (hd : k.does = some f) : (op = nRaise ∧ k = guardK[0] ∧ f = 28) ∨ (op = nCheck ∧ k = guardK[1] ∧ f = 29) := by
  have h1 := List.mem_of_find?_eq_some h
  have h2 := List.find?_some h
  obtain ⟨i, hi, rfl⟩ := List.getElem_of_mem h1
  have h3 := (of_decide_eq_true h2).symm
  rw [guardLen] at hi
  match i, hi with
  | 0, _ => exact .inl ⟨h3, rfl, (Option.some.inj hd).symm⟩
  | 1, _ => exact .inr ⟨h3, rfl, (Option.some.inj hd).symm⟩
  | 2, _ => cases hd
  | 3, _ => cases hd
  | n + 4, h => exact absurd h (by omega)
theorem guardFind0 : kdFind guardK nRaise = some guardK[0] := by kernel_rfl
theorem guardFind1 : kdFind guardK nCheck = some guardK[1] := by kernel_rfl
theorem guardJ : ∀ k ∈ guardK, k.joins = false ∧ k.signs.size ≤ 4000 := by
  intro k hk
  obtain ⟨i, hi, rfl⟩ := List.getElem_of_mem hk
  rw [guardLen] at hi
  match i, hi with
  | 0, _ => exact ⟨rfl, Nat.le_of_ble_eq_true rfl⟩
  | 1, _ => exact ⟨rfl, Nat.le_of_ble_eq_true rfl⟩
  | 2, _ => exact ⟨rfl, Nat.le_of_ble_eq_true rfl⟩
  | 3, _ => exact ⟨rfl, Nat.le_of_ble_eq_true rfl⟩
  | n + 4, h => exact absurd h (by omega)
theorem cntG0 (n : Nat) : cntOk guardK[0] n = decide (n = 1) := by
  unfold cntOk
  show (decide (((1 : Int)) ≤ n) && (decide (((1 : Int)) < 0) || decide ((n : Int) ≤ 1))) = _
  rw [Bool.eq_iff_iff]
  simp only [Bool.and_eq_true, Bool.or_eq_true, decide_eq_true_eq]
  omega
theorem cntG1 (n : Nat) : cntOk guardK[1] n = decide (n = 2) := by
  unfold cntOk
  show (decide (((2 : Int)) ≤ n) && (decide (((2 : Int)) < 0) || decide ((n : Int) ≤ 2))) = _
  rw [Bool.eq_iff_iff]
  simp only [Bool.and_eq_true, Bool.or_eq_true, decide_eq_true_eq]
  omega
theorem rightG0 : ∀ k1 : Int, (k1 = 1 ∨ k1 = 2 ∨ k1 = 3 ∨ k1 = 4 ∨ k1 = 5) → rightB guardK[0].signs.data.toList [k1] = decide (k1 = 4) := by
  rintro k1 (rfl | rfl | rfl | rfl | rfl) <;> kernel_rfl
theorem rightG1 : ∀ k1 k2 : Int, (k1 = 1 ∨ k1 = 2 ∨ k1 = 3 ∨ k1 = 4 ∨ k1 = 5) → (k2 = 1 ∨ k2 = 2 ∨ k2 = 3 ∨ k2 = 4 ∨ k2 = 5) → rightB guardK[1].signs.data.toList [k1, k2] = (decide (k1 = 2) && decide (k2 = 4)) := by
  rintro k1 k2 (rfl | rfl | rfl | rfl | rfl) (rfl | rfl | rfl | rfl | rfl) <;> kernel_rfl
theorem entG0 : Enters 28 := fun a w => by simp [callFunc, go_sem, Tryz.func28]; rfl
theorem entG1 : Enters 29 := fun a w => by simp [callFunc, go_sem, Tryz.func29]; rfl
theorem list_one {ts : List T} (h : ts.length = 1) : ∃ t, ts = [t] := by
  rcases ts with _ | ⟨t, _ | ⟨u, r⟩⟩
  · simp at h
  · exact ⟨t, rfl⟩
  · simp at h
theorem list_two {ts : List T} (h : ts.length = 2) : ∃ t u, ts = [t, u] := by
  rcases ts with _ | ⟨t, _ | ⟨u, _ | ⟨v, r⟩⟩⟩
  · simp at h
  · simp at h
  · exact ⟨t, u, rfl⟩
  · simp at h
theorem VRd.tr {K : Nat → Prop} {w : World} {d : Nat} {v : Value} {b : Bool} (h : VRd K w d v (trT b)) : v = .iface 135 (.bool b) := by
  cases d with
  | zero => exact h.elim
  | succ d =>
    rcases h with ⟨h, _⟩ | ⟨_, _, _, c, hc, h⟩ | ⟨h, _⟩ | ⟨h, _⟩ | ⟨h, _⟩
    · exact absurd h (by decide)
    · have e : b = c := by unfold truthI at hc; cases b <;> cases c <;> simp at hc ⊢
      rw [e]; exact h
    · exact absurd h (by decide)
    · exact absurd h (by decide)
    · exact absurd h (by decide)
/-- guard.Work: the answer as data. -/
theorem guardWork_any (op : ByteArray) (ts : List T) (hlen : ts.length ≤ 1000000) (a : Option Addr) (c : Nat) (w : World) (hm : MaxAt w) (hp : PRow w a ts) : Calls Tryz.prog 8 #[.string op, .slice a ts.length c] w fun e w' => ∃ V, e = .returned V ∧ AnsV (ansOf guardK op ts (guardF ts)) w' V ∧ Ext w w' := by
  refine workG_gen op a ts.length c w (AnsV (ansOf guardK op ts (guardF ts))) fun w1 tb hx1 ht => ?_
  refine (work_gen guardK tb op a c ts (AnsV (guardF ts)) w1 (by rw [guardLen]; decide) ht (hm.later hx1) (hp.later hx1) hlen (fun k hk => guardJ k (List.mem_of_find?_eq_some hk)) ?_ ?_).mono fun e w' ⟨V, he, hq, h3, hx⟩ => ⟨V, he, ansOf_of hq, h3, hx⟩
  · intro k f h1 h2 h3 h4 h5 w2 g hx2 hv
    rcases guardAt h1 h2 with ⟨rfl, rfl, rfl⟩ | ⟨rfl, rfl, rfl⟩
    · rw [cntG0, decide_eq_true_eq] at h3
      obtain ⟨t, rfl⟩ := list_one h3
      have hk := kind_five (h4 t (by simp))
      rw [List.map_cons, List.map_nil, rightG0 _ hk, decide_eq_true_eq] at h5
      obtain ⟨s, hs, rfl⟩ := text_of (h4 t (by simp)) h5
      obtain ⟨K, d, v, h0, r0⟩ := hv 0 (Nat.le_of_ble_eq_true rfl)
      rw [VRd.text (s := s) r0] at h0
      refine (raise0_any g s w2 h0).mono fun e w' ⟨he, hw⟩ => ⟨_, he, .inl ⟨25, s, by decide, rfl, fun w1 _ => ⟨by decide, rfl⟩⟩, hw⟩
    · rw [cntG1, decide_eq_true_eq] at h3
      obtain ⟨t, u, rfl⟩ := list_two h3
      have hk := kind_five (h4 t (by simp))
      have hk2 := kind_five (h4 u (by simp))
      rw [List.map_cons, List.map_cons, List.map_nil, rightG1 _ _ hk hk2, Bool.and_eq_true, decide_eq_true_eq, decide_eq_true_eq] at h5
      obtain ⟨b, rfl⟩ := truth_of (h4 t (by simp)) h5.1
      obtain ⟨s, hs, rfl⟩ := text_of (h4 u (by simp)) h5.2
      obtain ⟨K, d, v, h0, r0⟩ := hv 0 (Nat.le_of_ble_eq_true rfl)
      obtain ⟨K', d', v', h0', r0'⟩ := hv 1 (Nat.le_of_ble_eq_true rfl)
      rw [VRd.tr (b := b) r0] at h0
      rw [VRd.text (s := s) r0'] at h0'
      cases b with
      | true => exact (check_yes g w2 h0).mono fun e w' ⟨he, hx⟩ => ⟨_, he, .inr ⟨_, _, true, rfl, fun w1 _ => cmay_un w1, fun w1 _ => ⟨unitT_may, fun _ => True, 1, _, rfl, .inl ⟨rfl, rfl, rfl, rfl, rfl⟩⟩⟩, hx⟩
      | false => exact (check_no g s w2 h0 h0').mono fun e w' ⟨he, hx⟩ => ⟨_, he, .inl ⟨25, s, by decide, rfl, fun w1 _ => ⟨by decide, rfl⟩⟩, hx⟩
  · intro k f h1 h2
    rcases guardAt h1 h2 with ⟨_, _, rfl⟩ | ⟨_, _, rfl⟩
    · exact entG0
    · exact entG1
theorem guardRaise (s : ByteArray) (hs : s.size ≤ 65535) : ansOf guardK nRaise [textT s] (guardF [textT s]) = .bad 25 s := by
  unfold ansOf
  rw [guardFind0]
  show (if cntOk guardK[0] 1 = false then Ans.one 11 else if ∀ t ∈ [textT s], t.may then (if rightB guardK[0].signs.data.toList ([textT s].map T.kind) = true then guardF [textT s] else Ans.one 20) else Ans.one 1) = _
  rw [if_neg (by rw [cntG0]; decide), if_pos (by intro q hq; simp only [List.mem_cons, List.not_mem_nil, or_false] at hq; subst hq; exact textT_may hs), if_pos (show rightB guardK[0].signs.data.toList ([textT s].map T.kind) = true from by kernel_rfl)]
  rfl
theorem gw_raise (s : ByteArray) (hs : s.size ≤ 65535) (a : Option Addr) (c : Nat) (w : World) (hm : MaxAt w) (hp : PRow w a [textT s]) : Calls Tryz.prog 8 #[.string nRaise, .slice a 1 c] w fun e w' => e = .returned (refX 25 s) ∧ Ext w w' := by
  have h := guardWork_any nRaise [textT s] (by simp) a c w hm hp
  rw [guardRaise s hs] at h
  exact h.mono fun e w' ⟨V, he, hv, hx⟩ => ⟨by rw [he, hv.2], hx⟩
end Go.Proofs.YtnmcmjgfnncdmabGreatDoor
