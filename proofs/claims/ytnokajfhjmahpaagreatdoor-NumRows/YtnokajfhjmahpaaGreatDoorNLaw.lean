/-
  espalierlaw8.whole and work by contracts: an operation on numbers, as the statements call it.
-/
import Derived.Test.YtnokajfhjmahpaaGreatDoorNWork
import Derived.Test.YtnokajfhjmahpaaGreatDoorPItems
namespace Go.Proofs.YtnokajfhjmahpaaGreatDoor
open Go.RowKit
theorem as_in_in (v : Value) (w : World) : (Instr.typeAssert (.iface 82 v) 34 82 true).run Tryz.prog w = .ok (.tuple #[v, .bool true]) w := by kernel_rfl
theorem as_nil_in (w : World) : (Instr.typeAssert .nilIface 34 82 true).run Tryz.prog w = .ok (.tuple #[.int .i64 0, .bool false]) w := by kernel_rfl
theorem whole_any (n : Int) (w : World) : Calls Tryz.prog 20 #[.int .i64 n] w fun e w' => e = .returned (.agg #[.int .i64 3, .int .i64 n, .string ⟨#[]⟩, .slice none 0 0]) ∧ Ext w w' := by
  go_enter Tryz.func20, Tryz.ntmps20
  go_wp2_with fail
  obtain ⟨z0, z1, z2, z3⟩ := four_of (blk0 w (.cells #[.int .i64 3, .int .i64 n, .string ⟨#[]⟩, .slice none 0 0] 39))
  refine bodyPost_ret (v := .agg #[.int .i64 3, .int .i64 n, .string ⟨#[]⟩, .slice none 0 0]) (by simp [results, Tryz.results20, go_sem, z0, z1, z2, z3]) rfl ?_
  exact ⟨rfl, Ext.alloc _ _⟩
theorem PItems.prow {w : World} {base N d m c : Nat} {ao : Option Addr} {acc : List T} (h : PItems w base N d (.slice ao m c) acc) (hlim : acc.length ≤ 2000000) : PRow w ao acc := by
  obtain ⟨a', c', he, _, _, hk⟩ := h.list hlim
  rcases hk with hk | ⟨g, off, ha, _, hc⟩
  · exact .inl hk
  · simp only [Value.agg.injEq, Array.mk.injEq, List.cons.injEq, and_true, Value.slice.injEq] at he
    obtain ⟨_, _, _, rfl, _, _⟩ := he
    exact .inr ⟨g, off, ha, fun j hj => by
      obtain ⟨u0, u1, u2, u3, h4, hr⟩ := hc j hj
      exact ⟨_, d, u0, u1, u2, u3, h4, hr⟩⟩
/-- What work makes of an answer. -/
def lawV : Value → Value
  | .tuple #[.iface _ (.int .i64 n), _, _] => .tuple #[.int .i64 n, .int .i64 0]
  | .tuple #[.nilIface, .int .i64 c, _] => .tuple #[.int .i64 0, .int .i64 c]
  | _ => .nilIface
theorem lawV_came (n : Int) : lawV (cameV n) = .tuple #[.int .i64 n, .int .i64 0] := rfl
theorem lawV_ref (c : Int) : lawV (refV c) = .tuple #[.int .i64 0, .int .i64 c] := rfl
/-- A number, or a fault. -/
def IRes (R : Value) : Prop := (∃ n, R = cameV n) ∨ (∃ c, (c == 0) = false ∧ R = refV c)
theorem intRd (K : Nat → Prop) (w : World) (n : Int) : Rd K w 1 (.agg #[.int .i64 3, .int .i64 n, .string ⟨#[]⟩, .slice none 0 0]) (intT n) := ⟨none, 0, rfl, by decide, by decide, .inl rfl⟩
set_option maxRecDepth 100000 in
set_option maxHeartbeats 2000000 in
theorem lawWork (op : ByteArray) (xs : List Int) (g : Nat) (R : Value) (w : World) (hm : MaxAt w) (hn : xs.length ≤ 10) (hc : ∀ j, (h : j < xs.length) → w.cell? ⟨g, j, none⟩ = some (.int .i64 xs[j])) (hR : IRes R)
    (hwk : ∀ w1 a c, MaxAt w1 → PRow w1 a (xs.map intT) → Calls Tryz.prog 13 #[.string op, .slice a xs.length c] w1 fun e w' => e = .returned R ∧ Ext w1 w') :
    Calls Tryz.prog 17 #[.string op, .slice (some ⟨g, 0, none⟩) xs.length xs.length] w fun e w' => e = .returned (lawV R) ∧ Ext w w' := by
  have HM := hid hm
  have HC := hid hc
  have HW := hid hwk
  have HR := hid hR
  obtain ⟨n, hne⟩ : ∃ n, xs.length = n := ⟨_, rfl⟩
  have HNE := hid hne
  rw [hne] at hn HW ⊢
  have hn' : (n : Int) ≤ 10 := by omega
  have ha1 := fun (v : Value) (w : World) => as_in_in v w
  have ha2 := fun (w : World) => as_nil_in w
  clear hm hc hwk hR hne
  go_enter Tryz.func17, Tryz.ntmps17
  go_wp2_with fail
  go_loopw [6, 7] (fun q6 q7 wr => ∃ (j : Nat) (ao : Option Addr) (c : Nat), j ≤ n ∧ q7 = .int .i64 j ∧ q6 = .slice ao j c ∧ PItems wr w.heap.size wr.heap.size 1 (.slice ao j c) ((xs.take j).map intT) ∧ Ext w wr) (fun _ q7 _ => n - (intOf q7).toNat)
  case atStart => exact ⟨0, none, 0, Nat.zero_le _, rfl, rfl, PItems.nil _ _, Ext.refl _⟩
  case round =>
    obtain ⟨j, ao, c, hj, rfl, rfl, hit, hx⟩ := hrel
    have HIT := hid hit
    have HX := hid hx
    clear hit hx
    by_cases hlt : j < n
    · have hlt' : (j : Int) < n := by omega
      have hjx : j < xs.length := by rw [HNE.out]; exact hlt
      have hcell : wr.cell? ⟨g, j, none⟩ = some (.int .i64 xs[j]) := (Below.cell HX.out (lt_of_cell (HC.out j hjx))).trans (HC.out j hjx)
      have HL := hid (show ((xs.take j).map intT).length = j by rw [List.length_map, List.length_take, Nat.min_eq_left (Nat.le_of_lt hjx)])
      have HS := hid (show (xs.take j).map intT ++ [intT xs[j]] = (xs.take (j + 1)).map intT by rw [List.take_succ_eq_append_getElem hjx, List.map_append]; rfl)
      generalize xs[j] = x at *
      generalize (xs.take j).map intT = acc at *
      clear hjx
      go_wp2_with fail
      refine (whole_any x wr).mono ?_
      rintro e w2 ⟨rfl, hx2⟩
      have HX2 := hid hx2
      clear hx2
      go_wp2_with (at_builtin; go_loud (refine app_pitem rfl _ _ rfl rfl w.heap.size wr.heap.size 1 (.slice ao j c) acc 3 x ⟨#[]⟩ none 0 0 (intT x) rfl rfl (Nat.le_trans HX.out.size HX2.out.size) (HIT.out.keep (HX2.out.kp (fun _ => True)) (fun _ _ => trivial)) (intRd _ _ _) HX.out.size (by rw [HL.out]; omega) ?_); intro a5 c5 w5 hit5 hb5; rw [HL.out] at hit5 ⊢)
      go_roundw
      case rel => exact ⟨j + 1, a5, c5, by omega, by go_num, rfl, by rw [← HS.out]; exact hit5, Below.trans (HX.out.trans HX2.out) hb5⟩
      case measure => simp [intOf]; omega
    · have hje : j = n := by omega
      have hlt2 : decide ((j : Int) < n) = false := decide_eq_false (by omega)
      have hlt3 : ¬ (j : Int) < n := by omega
      have HP := hid (show PRow wr ao (xs.map intT) by
        have := HIT.out.prow (by simp; omega)
        rwa [List.take_of_length_le (by have := HNE.out; omega)] at this)
      subst hje
      go_wp2_with fail
      refine (HW.out wr ao c (HM.out.later HX.out) HP.out).mono ?_
      rintro e w2 ⟨rfl, hx2⟩
      have HX2 := hid (HX.out.trans hx2)
      clear hx2
      rcases HR.out with ⟨m, rfl⟩ | ⟨cc, hcc, rfl⟩
      · have HLV := hid (lawV_came m)
        unfold cameV
        go_wp2_with fail
        go_ret2
        exact ⟨by rw [HLV.out]; rfl, HX2.out⟩
      · have HLV := hid (lawV_ref cc)
        unfold refV
        go_wp2_with fail
        go_ret2
        exact ⟨by rw [HLV.out]; rfl, HX2.out⟩
end Go.Proofs.YtnokajfhjmahpaaGreatDoor
