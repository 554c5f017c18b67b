/-
  craft.find by a contract: the first kind of that name in a copied table, or the zero kind.
-/
import Derived.Test.YtnmcmjgfnncdmaaGreatDoorKKit
import Derived.Test.YtnmcmjgfnncdmaaGreatDoorBNew
import Derived.Deep.RegionHeld3
namespace Go.Proofs.YtnmcmjgfnncdmaaGreatDoor
open Go.RowKit
set_option maxRecDepth 100000 in
set_option maxHeartbeats 2000000 in
theorem findK_any (ks : List Kd) (tb cp : Nat) (name : ByteArray) (w : World) (hl : ks.length ≤ 1000) (ht : KRow w tb ks) : Calls Tryz.prog 90 #[.slice (some ⟨tb, 0, none⟩) ks.length cp, .string name] w fun e w' => e = .returned (.tuple #[kdVal (kdFind ks name), .bool (kdFind ks name).isSome]) ∧ Ext w w' := by
  have hl' : (ks.length : Int) ≤ 1000 := by omega
  obtain ⟨M, hM⟩ : ∃ M, w.alloc (.cells #[.string ⟨#[]⟩, .int .i64 0, .int .i64 0, .int .i64 0, .string ⟨#[]⟩, .string ⟨#[]⟩, .nilFunc, .nilFunc, .bool false] 100) = M := ⟨_, rfl⟩
  have XM := hid (show Ext w M from hM ▸ Ext.alloc _ _)
  have HM0 := hid (show M.heap[w.heap.size]? = some (.cells #[.string ⟨#[]⟩, .int .i64 0, .int .i64 0, .int .i64 0, .string ⟨#[]⟩, .string ⟨#[]⟩, .nilFunc, .nilFunc, .bool false] 100) from hM ▸ blk0 _ _)
  have HT := hid ht
  have HL := hid hl
  obtain ⟨n, hn⟩ : ∃ n, ks.length = n := ⟨_, rfl⟩
  have HN := hid hn
  rw [hn] at hl' ⊢
  clear ht hl hn
  go_enter Tryz.func90, Tryz.ntmps90
  go_wp2_with fail
  clear hM
  go_loopw [10] (fun q10 wr => ∃ j : Nat, j ≤ n ∧ q10 = .int .i64 j ∧ (∀ i, (hi : i < ks.length) → i < j → ks[i].name ≠ name) ∧ Ext M wr) (fun q10 _ => n - (intOf q10).toNat)
  case atStart => exact ⟨0, Nat.zero_le _, rfl, fun i _ h => absurd h (Nat.not_lt_zero _), Ext.refl _⟩
  case round =>
    obtain ⟨j, hj, rfl, hno, hx⟩ := hrel
    have HNO := hid hno
    have XR := hid hx
    have HZ := hid (hx.block HM0.out)
    have XW := hid (XM.out.trans hx)
    obtain ⟨f0, f1, f2, f3, f4, f5, f6, f7, f8⟩ := nine_free HZ.out
    obtain ⟨r0, r1, r2, r3, r4, r5, r6, r7, r8⟩ := nine_of HZ.out
    have hlw : w.heap.size < wr.heap.size := lt_of_block HZ.out
    clear hno hx
    by_cases hlt : j < n
    · have hlt' : (j : Int) < n := by omega
      have hjk : j < ks.length := by rw [HN.out]; exact hlt
      obtain ⟨p0, p1, p2, p3, p4, p5, p6, p7, p8⟩ := HT.out.later (XM.out.trans XR.out) j hjk
      have heq := str_eqb ks[j].name name
      have HF := hid (fun h => kdFind_at hjk h (fun i hi => HNO.out i (by omega) hi))
      have HS := hid (show ks[j].name ≠ name → ∀ i, (hi : i < ks.length) → i < j + 1 → ks[i].name ≠ name from fun h i hi hij => by
        by_cases e : i = j
        · subst e; exact h
        · exact HNO.out i hi (by omega))
      generalize ks[j] = kj at *
      have HV := hid (show kdVal (some kj) = .agg #[.string kj.name, .int .i64 kj.min, .int .i64 kj.max, .int .i64 kj.text, .string kj.has, .string kj.signs, .func (.func kj.make) #[] #[], fnV kj.does, .bool kj.joins] from rfl)
      clear hjk
      obtain ⟨k0, k1, k2, k3, k4, k5, k6, k7, k8⟩ := kj
      dsimp only at *
      have p6' : wr.cell? ⟨tb, j * 9 + 6, none⟩ = some (.func (.func k6) #[] #[]) := p6
      clear p6
      cases k7 with
      | none =>
        have p7' : wr.cell? ⟨tb, j * 9 + 7, none⟩ = some .nilFunc := p7
        clear p7
        by_cases he : k0 = name
        · rw [decide_eq_true he] at heq
          have HFD := hid (HF.out he)
          clear he
          go_wp2_with fail
          obtain ⟨z0, z1, z2, z3, z4, z5, z6, z7, z8⟩ := nine_of (blkOld (.cells #[.string k0, .int .i64 k1, .int .i64 k2, .int .i64 k3, .string k4, .string k5, .func (.func k6) #[] #[], .nilFunc, .bool k8] 100) (nine_set (u0 := .string k0) (u1 := .int .i64 k1) (u2 := .int .i64 k2) (u3 := .int .i64 k3) (u4 := .string k4) (u5 := .string k5) (u6 := .func (.func k6) #[] #[]) (u7 := .nilFunc) (u8 := .bool k8) HZ.out))
          refine bodyPost_ret (v := .tuple #[.agg #[.string k0, .int .i64 k1, .int .i64 k2, .int .i64 k3, .string k4, .string k5, .func (.func k6) #[] #[], .nilFunc, .bool k8], .bool true]) (by simp [results, Tryz.results90, go_sem, z0, z1, z2, z3, z4, z5, z6, z7, z8]) rfl ?_
          have HK := Kp.set9 wr w.heap.size (.string k0) (.int .i64 k1) (.int .i64 k2) (.int .i64 k3) (.string k4) (.string k5) (.func (.func k6) #[] #[]) .nilFunc (.bool k8)
          have HX := Kp.extOf XW.out HK (Nat.le_refl _)
          exact ⟨by rw [HFD.out, HV.out]; rfl, HX.trans (Ext.alloc _ _)⟩
        · rw [decide_eq_false he] at heq
          have HNX := hid (HS.out he)
          clear he
          go_wp2_with fail
          go_roundw
          case rel => exact ⟨j + 1, by omega, by go_num, HNX.out, XR.out.trans (Ext.alloc _ _)⟩
          case measure => simp [intOf]; omega
      | some fd =>
        have p7' : wr.cell? ⟨tb, j * 9 + 7, none⟩ = some (.func (.func fd) #[] #[]) := p7
        clear p7
        by_cases he : k0 = name
        · rw [decide_eq_true he] at heq
          have HFD := hid (HF.out he)
          clear he
          go_wp2_with fail
          obtain ⟨z0, z1, z2, z3, z4, z5, z6, z7, z8⟩ := nine_of (blkOld (.cells #[.string k0, .int .i64 k1, .int .i64 k2, .int .i64 k3, .string k4, .string k5, .func (.func k6) #[] #[], .func (.func fd) #[] #[], .bool k8] 100) (nine_set (u0 := .string k0) (u1 := .int .i64 k1) (u2 := .int .i64 k2) (u3 := .int .i64 k3) (u4 := .string k4) (u5 := .string k5) (u6 := .func (.func k6) #[] #[]) (u7 := .func (.func fd) #[] #[]) (u8 := .bool k8) HZ.out))
          refine bodyPost_ret (v := .tuple #[.agg #[.string k0, .int .i64 k1, .int .i64 k2, .int .i64 k3, .string k4, .string k5, .func (.func k6) #[] #[], .func (.func fd) #[] #[], .bool k8], .bool true]) (by simp [results, Tryz.results90, go_sem, z0, z1, z2, z3, z4, z5, z6, z7, z8]) rfl ?_
          have HK := Kp.set9 wr w.heap.size (.string k0) (.int .i64 k1) (.int .i64 k2) (.int .i64 k3) (.string k4) (.string k5) (.func (.func k6) #[] #[]) (.func (.func fd) #[] #[]) (.bool k8)
          have HX := Kp.extOf XW.out HK (Nat.le_refl _)
          exact ⟨by rw [HFD.out, HV.out]; rfl, HX.trans (Ext.alloc _ _)⟩
        · rw [decide_eq_false he] at heq
          have HNX := hid (HS.out he)
          clear he
          go_wp2_with fail
          go_roundw
          case rel => exact ⟨j + 1, by omega, by go_num, HNX.out, XR.out.trans (Ext.alloc _ _)⟩
          case measure => simp [intOf]; omega
    · have hje : j = n := by omega
      have hlt' : ¬ (j : Int) < n := by omega
      have hlt2 : decide ((j : Int) < n) = false := decide_eq_false hlt'
      have HFN := hid (kdFind_none (ks := ks) (name := name) (fun i hi => HNO.out i hi (by have := HN.out; omega)))
      clear hje hlt
      go_wp2_with fail
      obtain ⟨z0, z1, z2, z3, z4, z5, z6, z7, z8⟩ := nine_of (nine_set (u0 := .string ⟨#[]⟩) (u1 := .int .i64 0) (u2 := .int .i64 0) (u3 := .int .i64 0) (u4 := .string ⟨#[]⟩) (u5 := .string ⟨#[]⟩) (u6 := .nilFunc) (u7 := .nilFunc) (u8 := .bool false) HZ.out)
      refine bodyPost_ret (v := .tuple #[.agg #[.string ⟨#[]⟩, .int .i64 0, .int .i64 0, .int .i64 0, .string ⟨#[]⟩, .string ⟨#[]⟩, .nilFunc, .nilFunc, .bool false], .bool false]) (by simp [results, Tryz.results90, go_sem, z0, z1, z2, z3, z4, z5, z6, z7, z8]) rfl ?_
      refine ⟨?_, Kp.extOf XW.out (Kp.set9 wr w.heap.size _ _ _ _ _ _ _ _ _) (Nat.le_refl _)⟩
      rw [HFN.out]
      rfl
end Go.Proofs.YtnmcmjgfnncdmaaGreatDoor
/-
  What the maker of a kit by a table does: the base with its kids, the kind's node, its handle; by contracts.
-/
namespace Go.Proofs.YtnmcmjgfnncdmaaGreatDoor.Nd
open Go.RowKit
/-- A node in memory: its kind, number, text and kids. -/
def NodeB (w : World) (b : Nat) (k : ByteArray) (n : Int) (x : ByteArray) (kv : Value) : Prop := ∃ cs ty, w.heap[b]? = some (.cells cs ty) ∧ cs[0]? = some (.string k) ∧ cs[1]? = some (.int .i64 n) ∧ cs[2]? = some (.string x) ∧ cs[3]? = some kv
theorem NodeB.later {w w' : World} {b : Nat} {k : ByteArray} {n : Int} {x : ByteArray} {kv : Value} (h : NodeB w b k n x kv) (hx : Ext w w') : NodeB w' b k n x kv := by
  obtain ⟨cs, ty, hb, hr⟩ := h
  exact ⟨cs, ty, hx.block hb, hr⟩
theorem NodeB.cells {w : World} {b : Nat} {k : ByteArray} {n : Int} {x : ByteArray} {kv : Value} (h : NodeB w b k n x kv) : w.cell? ⟨b, 0, none⟩ = some (.string k) ∧ w.cell? ⟨b, 1, none⟩ = some (.int .i64 n) ∧ w.cell? ⟨b, 2, none⟩ = some (.string x) ∧ w.cell? ⟨b, 3, none⟩ = some kv := by
  obtain ⟨cs, ty, hb, h0, h1, h2, h3⟩ := h
  exact ⟨cell_of hb h0, cell_of hb h1, cell_of hb h2, cell_of hb h3⟩
/-- What a type must not be: a wrapper. -/
def Bare (τ : TypeId) : Prop := ∀ (v : Value) (xT : TypeId) (w : World), (Instr.typeAssert (.iface τ v) xT 318 true).run Tryz.prog w = .ok (.tuple #[.nilIface, .bool false]) w
theorem coreOf_gen (τ : TypeId) (hW : Bare τ) (v : Value) (w : World) : Calls Tryz.prog 178 #[.iface τ v] w fun e w' => e = .returned (.iface τ v) ∧ w' = w := by
  unfold Bare at hW
  go_enter Tryz.func178, Tryz.ntmps178
  go_wp2
  refine wp_loop_rounds 1 ?_
  rw [rounds_succ]
  go_wp2
  go_ret
  exact ⟨rfl, rfl⟩
theorem hold_gen (τ : TypeId) (hW : Bare τ) (v : Value) (w : World) : Calls Tryz.prog 125 #[.iface τ v] w fun e w' => e = .returned (.pointer (some ⟨w.heap.size, 0, none⟩)) ∧ HandAt w' w.heap.size (.iface τ v) (.iface τ v) ∧ Ext w w' := by
  have HC := hid (fun w => coreOf_gen τ hW v w)
  have hnil := nil_iface τ v
  clear hW
  go_enter Tryz.func125, Tryz.ntmps125
  go_wp2_with fail
  refine (HC.out _).mono ?_
  rintro r w1 ⟨rfl, rfl⟩
  go_wp2_with fail
  go_ret
  exact ⟨rfl, blk0 _ _, Ext.alloc _ _⟩
/-- What a maker of a kind's nodes does. -/
def MakerR (m : Nat) (τ : TypeId) : Prop := ∀ (k x sg : ByteArray) (n : Int) (a : Option Addr) (l c : Nat) (w : World), Calls Tryz.prog m #[.agg #[.string k, .int .i64 n, .string x, .slice a l c], .string sg] w fun e w' => ∃ b, e = .returned (.iface τ (.pointer (some ⟨b, 0, none⟩))) ∧ w.heap.size ≤ b ∧ NodeB w' b k n x (.slice a l c) ∧ Ext w w'
theorem bareBy : Bare 289 := fun v xT w => isByWrapped v xT w
theorem makerBy : MakerR 128 289 := by
  intro k x sg n a l c w
  go_enter Tryz.func128, Tryz.ntmps128
  go_wp2_with fail
  go_ret
  exact ⟨_, rfl, Nat.le_succ _, ⟨_, _, blk1 _ _ _, rfl, rfl, rfl, rfl⟩, Ext.alloc2 _ _ _⟩
theorem enterBy (a : Array Value) (w : World) : (callFunc 128 a).run Tryz.prog w = .ok (.enter 128 a) w := by simp [callFunc, go_sem, Tryz.func128]; rfl
theorem bareTo : Bare 286 := fun v xT w => isToWrapped v xT w
theorem makerTo : MakerR 127 286 := by
  intro k x sg n a l c w
  go_enter Tryz.func127, Tryz.ntmps127
  go_wp2_with fail
  go_ret
  exact ⟨_, rfl, Nat.le_succ _, ⟨_, _, blk1 _ _ _, rfl, rfl, rfl, rfl⟩, Ext.alloc2 _ _ _⟩
theorem enterTo (a : Array Value) (w : World) : (callFunc 127 a).run Tryz.prog w = .ok (.enter 127 a) w := by simp [callFunc, go_sem, Tryz.func127]; rfl
theorem bareLz : Bare 351 := fun v xT w => isLzWrapped v xT w
theorem makerLz : MakerR 145 351 := by
  intro k x sg n a l c w
  go_enter Tryz.func145, Tryz.ntmps145
  go_wp2_with fail
  go_ret
  exact ⟨_, rfl, Nat.le_succ _, ⟨_, _, blk1 _ _ _, rfl, rfl, rfl, rfl⟩, Ext.alloc2 _ _ _⟩
theorem enterLz (a : Array Value) (w : World) : (callFunc 145 a).run Tryz.prog w = .ok (.enter 145 a) w := by simp [callFunc, go_sem, Tryz.func145]; rfl
theorem bareEc : Bare 275 := fun v xT w => isEcWrapped v xT w
theorem makerEc : MakerR 119 275 := by
  intro k x sg n a l c w
  go_enter Tryz.func119, Tryz.ntmps119
  go_wp2_with fail
  go_ret
  exact ⟨_, rfl, Nat.le_succ _, ⟨_, _, blk1 _ _ _, rfl, rfl, rfl, rfl⟩, Ext.alloc2 _ _ _⟩
theorem enterEc (a : Array Value) (w : World) : (callFunc 119 a).run Tryz.prog w = .ok (.enter 119 a) w := by simp [callFunc, go_sem, Tryz.func119]; rfl

theorem new_row (k x : ByteArray) (n : Int) (kv q : Value) (B m : Nat) (xs : List Value) (w : World) (hm : m ≤ 100000) (h1 : ∀ u ∈ xs, u.oneCell' = true) (h : w.ownsRow B 65 1 q m xs) : Calls Tryz.prog 126 #[.agg #[.string k, .int .i64 n, .string x, kv], q] w fun e w' => ∃ a c, e = .returned (.agg #[.string k, .int .i64 n, .string x, .slice a m c]) ∧ w'.ownsRow w.heap.size 65 1 (.slice a m c) m xs ∧ Ext w w' := by
  have hl : xs.length = m := by have := h.1; omega
  rcases h.2 with ⟨hv, h0⟩ | ⟨g, cap, cur, hv, hb, hbk, h3, h4, h5, h6⟩
  · subst hv; subst h0
    obtain rfl := List.eq_nil_of_length_eq_zero hl
    refine (new_none k x n kv w).mono ?_
    rintro e w' ⟨rfl, hx⟩
    exact ⟨none, 0, rfl, World.ownsRow_nil _ _ _ _, hx⟩
  · subst hv
    subst hl
    exact new_some k x n kv g 0 cap xs w (by omega) h1 (fun j u hu => by
      rw [Nat.zero_add]
      refine cell_of hbk ?_
      rw [← h6] at hu
      have hj : j < xs.length * 1 := by
        have := (List.getElem?_eq_some_iff.1 hu).1
        rw [List.length_take] at this
        omega
      rw [List.getElem?_take_of_lt hj] at hu
      simpa using hu)
end Go.Proofs.YtnmcmjgfnncdmaaGreatDoor.Nd
/-
  The maker of a kit by a table (craft.Kit$1), for each kind's type; by contracts.
-/
namespace Go.Proofs.YtnmcmjgfnncdmaaGreatDoor.Nd
open Go.RowKit
/-- A node that was made, in its handle. -/
def MadeN (w : World) (τ : TypeId) (k : ByteArray) (n : Int) (x : ByteArray) (nk : Nat) (t : Nat → TypeId) (v : Nat → Value) (h : Nat) (w' : World) : Prop := ∃ b a c, HandAt w' h (.iface τ (.pointer (some ⟨b, 0, none⟩))) (.iface τ (.pointer (some ⟨b, 0, none⟩))) ∧ NodeB w' b k n x (.slice a nk c) ∧ w'.ownsRow w.heap.size 65 1 (.slice a nk c) nk ((List.range nk).map fun i => .iface (t i) (v i)) ∧ w.heap.size ≤ b ∧ w.heap.size ≤ h
def Kit1R (w : World) (τ : TypeId) (k : ByteArray) (n : Int) (x : ByteArray) (nk : Nat) (t : Nat → TypeId) (v : Nat → Value) (e : Ending) (w' : World) : Prop := ∃ h, e = .returned (.pointer (some ⟨h, 0, none⟩)) ∧ MadeN w τ k n x nk t v h w' ∧ Ext w w'
theorem one_cells (nk : Nat) (t : Nat → TypeId) (v : Nat → Value) : ∀ u ∈ ((List.range nk).map fun i => Value.iface (t i) (v i)), u.oneCell' = true := by
  intro u hu
  obtain ⟨i, _, rfl⟩ := List.mem_map.1 hu
  rfl
theorem row_base {w : World} {B B' : Nat} {t : TypeId} {v : Value} {n : Nat} {xs : List Value} (h : w.ownsRow B t 1 v n xs) (hb : B' ≤ B) : w.ownsRow B' t 1 v n xs := by
  refine ⟨h.1, ?_⟩
  rcases h.2 with h | ⟨g, cap, cur, hv, hg, hr⟩
  · exact .inl h
  · exact .inr ⟨g, cap, cur, hv, Nat.le_trans hb hg, hr⟩
set_option maxRecDepth 100000 in
set_option maxHeartbeats 4000000 in
theorem kit1_By (ks : List Kd) (g cp bx : Nat) (k x : ByteArray) (n : Int) (ao : Option Addr) (nk c : Nat) (t : Nat → TypeId) (v : Nat → Value) (kd : Kd) (w : World) (hl : ks.length ≤ 1000) (hb : w.heap[bx]? = some (.cells #[.slice (some ⟨g, 0, none⟩) ks.length cp] 104)) (hk : KRow w g ks) (hf : Go.Proofs.YtnmcmjgfnncdmaaGreatDoor.kdFind ks k = some kd) (hm : kd.make = 128) (hd : kd.does = none) (hn : nk ≤ 100000) (hh : HandsO w ao nk t v) :
    Calls Tryz.prog 124 #[.agg #[.string k, .int .i64 n, .string x, .slice none 0 0], .slice ao nk c, .pointer (some ⟨bx, 0, none⟩)] w (Kit1R w 289 k n x nk t v) := by
  have HF := hid (fun w1 (hx : Ext w w1) => findK_any ks g cp k w1 hl (hk.later hx))
  rw [hf] at HF
  have HNO := hid (fun w1 (hx : Ext w w1) => knodesOf_any ao nk c t v w1 hn (hh.later hx))
  have HXS := hid (one_cells nk t v)
  have HNEW := hid (fun q B xs w1 h1 h => new_row k x n (.slice none 0 0) q B nk xs w1 hn h1 h)
  have HBX := hid hb
  obtain ⟨q0, q1, q2, q3, q4, q5, q6, q7, q8⟩ := kd
  obtain rfl : q6 = 128 := hm
  obtain rfl : q7 = none := hd
  clear hl hb hk hf hn hh
  generalize ks.length = kn at *
  obtain ⟨M, hM⟩ : ∃ M, w.alloc (.cells #[.string k, .int .i64 n, .string x, .slice none 0 0] 69) = M := ⟨_, rfl⟩
  have XM := hid (show Ext w M from hM ▸ Ext.alloc _ _)
  have HM0 := hid (show M.heap[w.heap.size]? = some (.cells #[.string k, .int .i64 n, .string x, .slice none 0 0] 69) from hM ▸ blk0 _ _)
  obtain ⟨t0, t1, t2, t3⟩ := four_of HM0.out
  have c0 : M.cell? ⟨bx, 0, none⟩ = some (.slice (some ⟨g, 0, none⟩) kn cp) := cell_of (XM.out.block HBX.out) rfl
  go_enter Tryz.func124, Tryz.ntmps124
  go_wp2_with fail
  clear hM c0
  refine (HF.out _ XM.out).mono ?_
  rintro e w1 ⟨rfl, hx1⟩
  unfold kdVal Kd.val fnV
  dsimp only
  obtain ⟨V, hV⟩ : ∃ V, w1.alloc (.cells #[.string q0, .int .i64 q1, .int .i64 q2, .int .i64 q3, .string q4, .string q5, .func (.func 128) #[] #[], .nilFunc, .bool q8] 100) = V := ⟨_, rfl⟩
  have XV := hid (show Ext M V from hV ▸ hx1.trans (Ext.alloc _ _))
  have HKB := hid (show V.heap[w1.heap.size]? = some (.cells #[.string q0, .int .i64 q1, .int .i64 q2, .int .i64 q3, .string q4, .string q5, .func (.func 128) #[] #[], .nilFunc, .bool q8] 100) from hV ▸ blk0 _ _)
  clear hx1 t0 t1 t2 t3
  have henter := enterBy
  have HMK := hid (fun a l c w1 => makerBy k x q5 n a l c w1)
  go_wp2_with fail
  first | rw [hV] | skip
  clear hV
  generalize w1.heap.size = kx at HKB ⊢
  refine (HNO.out _ (XM.out.trans XV.out)).mono ?_
  rintro r u1 ⟨q, rfl, hq, hy⟩
  obtain ⟨qa, qc, rfl⟩ := ownsRow_slice hq
  have HQ := hid hq
  have Z1 := hid hy
  clear hq hy
  have HSK := hid (show ∀ W', Ext u1 W' → (W'.cell? ⟨kx, 6, none⟩ = some (.func (.func 128) #[] #[]) ∧ W'.cell? ⟨kx, 5, none⟩ = some (.string q5) ∧ W'.cell? ⟨w.heap.size, 0, none⟩ = some (.string k) ∧ W'.cell? ⟨w.heap.size, 1, none⟩ = some (.int .i64 n) ∧ W'.cell? ⟨w.heap.size, 2, none⟩ = some (.string x) ∧ W'.cell? ⟨w.heap.size, 3, none⟩ = some (.slice none 0 0)) from fun W' X => by
    obtain ⟨s0, s1, s2, s3⟩ := four_of ((XV.out.trans (Z1.out.trans X)).block HM0.out)
    exact ⟨cell_of ((Z1.out.trans X).block HKB.out) rfl, cell_of ((Z1.out.trans X).block HKB.out) rfl, s0, s1, s2, s3⟩)
  go_wp2_with fail
  go_region_held3 (fun W' => W'.cell? ⟨kx, 6, none⟩ = some (.func (.func 128) #[] #[]) ∧ W'.cell? ⟨kx, 5, none⟩ = some (.string q5) ∧ W'.cell? ⟨w.heap.size, 0, none⟩ = some (.string k) ∧ W'.cell? ⟨w.heap.size, 1, none⟩ = some (.int .i64 n) ∧ W'.cell? ⟨w.heap.size, 2, none⟩ = some (.string x) ∧ W'.cell? ⟨w.heap.size, 3, none⟩ = some (.slice none 0 0))
    (first | with_reducible exact HSK.out _ (Ext.refl _) | with_reducible exact HSK.out _ (Ext.refl _).drew | with_reducible exact HSK.out _ Z4 | with_reducible exact HSK.out _ Z3 | with_reducible exact HSK.out _ Z2 | go_keep)
    (first
      | (go_at_call 126; with_reducible refine (HNEW.out _ _ _ _ HXS.out (row_ext HQ.out (by repeat (first | with_reducible exact Ext.refl _ | with_reducible refine Ext.drew ?_)))).mono ?_; rintro r u2 ⟨ra, rc, rfl, hr, hy⟩; have Z2 : Ext u1 u2 := Ext.trans (by repeat (first | with_reducible exact Ext.refl _ | with_reducible refine Ext.drew ?_)) hy; have HR2 := hid hr)
      | (go_at_call 128; with_reducible refine (HMK.out ra nk rc _).mono ?_; rintro r u3 ⟨b, rfl, hbb, hnb, hy⟩; have Z3 : Ext u1 u3 := Ext.trans (by repeat (first | with_reducible exact Z2 | with_reducible refine Ext.drew ?_)) hy; have ZY3 := hy)
      | (go_at_call 125; with_reducible refine (hold_gen 289 bareBy _ _).mono ?_; rintro r u4 ⟨rfl, hhd, hy⟩; have Z4 : Ext u1 u4 := Ext.trans (by repeat (first | with_reducible exact Z3 | with_reducible refine Ext.drew ?_)) hy; have ZY4 := hy))
  all_goals
    go_wp2_with fail
    go_ret
    exact ⟨u3.heap.size, rfl, ⟨b, ra, rc, hhd, hnb.later ZY4, row_base (row_ext (row_ext HR2.out ZY3) ZY4) (Nat.le_trans (XM.out.trans (XV.out.trans Z1.out)).size (Nat.le_refl _)), Nat.le_trans (XM.out.trans (XV.out.trans (Z1.out.trans Z2))).size hbb, (XM.out.trans (XV.out.trans (Z1.out.trans Z3))).size⟩, XM.out.trans (XV.out.trans (Z1.out.trans Z4))⟩
set_option maxRecDepth 100000 in
set_option maxHeartbeats 4000000 in
theorem kit1_To (ks : List Kd) (g cp bx : Nat) (k x : ByteArray) (n : Int) (ao : Option Addr) (nk c : Nat) (t : Nat → TypeId) (v : Nat → Value) (kd : Kd) (w : World) (hl : ks.length ≤ 1000) (hb : w.heap[bx]? = some (.cells #[.slice (some ⟨g, 0, none⟩) ks.length cp] 104)) (hk : KRow w g ks) (hf : Go.Proofs.YtnmcmjgfnncdmaaGreatDoor.kdFind ks k = some kd) (hm : kd.make = 127) (hd : kd.does = none) (hn : nk ≤ 100000) (hh : HandsO w ao nk t v) :
    Calls Tryz.prog 124 #[.agg #[.string k, .int .i64 n, .string x, .slice none 0 0], .slice ao nk c, .pointer (some ⟨bx, 0, none⟩)] w (Kit1R w 286 k n x nk t v) := by
  have HF := hid (fun w1 (hx : Ext w w1) => findK_any ks g cp k w1 hl (hk.later hx))
  rw [hf] at HF
  have HNO := hid (fun w1 (hx : Ext w w1) => knodesOf_any ao nk c t v w1 hn (hh.later hx))
  have HXS := hid (one_cells nk t v)
  have HNEW := hid (fun q B xs w1 h1 h => new_row k x n (.slice none 0 0) q B nk xs w1 hn h1 h)
  have HBX := hid hb
  obtain ⟨q0, q1, q2, q3, q4, q5, q6, q7, q8⟩ := kd
  obtain rfl : q6 = 127 := hm
  obtain rfl : q7 = none := hd
  clear hl hb hk hf hn hh
  generalize ks.length = kn at *
  obtain ⟨M, hM⟩ : ∃ M, w.alloc (.cells #[.string k, .int .i64 n, .string x, .slice none 0 0] 69) = M := ⟨_, rfl⟩
  have XM := hid (show Ext w M from hM ▸ Ext.alloc _ _)
  have HM0 := hid (show M.heap[w.heap.size]? = some (.cells #[.string k, .int .i64 n, .string x, .slice none 0 0] 69) from hM ▸ blk0 _ _)
  obtain ⟨t0, t1, t2, t3⟩ := four_of HM0.out
  have c0 : M.cell? ⟨bx, 0, none⟩ = some (.slice (some ⟨g, 0, none⟩) kn cp) := cell_of (XM.out.block HBX.out) rfl
  go_enter Tryz.func124, Tryz.ntmps124
  go_wp2_with fail
  clear hM c0
  refine (HF.out _ XM.out).mono ?_
  rintro e w1 ⟨rfl, hx1⟩
  unfold kdVal Kd.val fnV
  dsimp only
  obtain ⟨V, hV⟩ : ∃ V, w1.alloc (.cells #[.string q0, .int .i64 q1, .int .i64 q2, .int .i64 q3, .string q4, .string q5, .func (.func 127) #[] #[], .nilFunc, .bool q8] 100) = V := ⟨_, rfl⟩
  have XV := hid (show Ext M V from hV ▸ hx1.trans (Ext.alloc _ _))
  have HKB := hid (show V.heap[w1.heap.size]? = some (.cells #[.string q0, .int .i64 q1, .int .i64 q2, .int .i64 q3, .string q4, .string q5, .func (.func 127) #[] #[], .nilFunc, .bool q8] 100) from hV ▸ blk0 _ _)
  clear hx1 t0 t1 t2 t3
  have henter := enterTo
  have HMK := hid (fun a l c w1 => makerTo k x q5 n a l c w1)
  go_wp2_with fail
  first | rw [hV] | skip
  clear hV
  generalize w1.heap.size = kx at HKB ⊢
  refine (HNO.out _ (XM.out.trans XV.out)).mono ?_
  rintro r u1 ⟨q, rfl, hq, hy⟩
  obtain ⟨qa, qc, rfl⟩ := ownsRow_slice hq
  have HQ := hid hq
  have Z1 := hid hy
  clear hq hy
  have HSK := hid (show ∀ W', Ext u1 W' → (W'.cell? ⟨kx, 6, none⟩ = some (.func (.func 127) #[] #[]) ∧ W'.cell? ⟨kx, 5, none⟩ = some (.string q5) ∧ W'.cell? ⟨w.heap.size, 0, none⟩ = some (.string k) ∧ W'.cell? ⟨w.heap.size, 1, none⟩ = some (.int .i64 n) ∧ W'.cell? ⟨w.heap.size, 2, none⟩ = some (.string x) ∧ W'.cell? ⟨w.heap.size, 3, none⟩ = some (.slice none 0 0)) from fun W' X => by
    obtain ⟨s0, s1, s2, s3⟩ := four_of ((XV.out.trans (Z1.out.trans X)).block HM0.out)
    exact ⟨cell_of ((Z1.out.trans X).block HKB.out) rfl, cell_of ((Z1.out.trans X).block HKB.out) rfl, s0, s1, s2, s3⟩)
  go_wp2_with fail
  go_region_held3 (fun W' => W'.cell? ⟨kx, 6, none⟩ = some (.func (.func 127) #[] #[]) ∧ W'.cell? ⟨kx, 5, none⟩ = some (.string q5) ∧ W'.cell? ⟨w.heap.size, 0, none⟩ = some (.string k) ∧ W'.cell? ⟨w.heap.size, 1, none⟩ = some (.int .i64 n) ∧ W'.cell? ⟨w.heap.size, 2, none⟩ = some (.string x) ∧ W'.cell? ⟨w.heap.size, 3, none⟩ = some (.slice none 0 0))
    (first | with_reducible exact HSK.out _ (Ext.refl _) | with_reducible exact HSK.out _ (Ext.refl _).drew | with_reducible exact HSK.out _ Z4 | with_reducible exact HSK.out _ Z3 | with_reducible exact HSK.out _ Z2 | go_keep)
    (first
      | (go_at_call 126; with_reducible refine (HNEW.out _ _ _ _ HXS.out (row_ext HQ.out (by repeat (first | with_reducible exact Ext.refl _ | with_reducible refine Ext.drew ?_)))).mono ?_; rintro r u2 ⟨ra, rc, rfl, hr, hy⟩; have Z2 : Ext u1 u2 := Ext.trans (by repeat (first | with_reducible exact Ext.refl _ | with_reducible refine Ext.drew ?_)) hy; have HR2 := hid hr)
      | (go_at_call 127; with_reducible refine (HMK.out ra nk rc _).mono ?_; rintro r u3 ⟨b, rfl, hbb, hnb, hy⟩; have Z3 : Ext u1 u3 := Ext.trans (by repeat (first | with_reducible exact Z2 | with_reducible refine Ext.drew ?_)) hy; have ZY3 := hy)
      | (go_at_call 125; with_reducible refine (hold_gen 286 bareTo _ _).mono ?_; rintro r u4 ⟨rfl, hhd, hy⟩; have Z4 : Ext u1 u4 := Ext.trans (by repeat (first | with_reducible exact Z3 | with_reducible refine Ext.drew ?_)) hy; have ZY4 := hy))
  all_goals
    go_wp2_with fail
    go_ret
    exact ⟨u3.heap.size, rfl, ⟨b, ra, rc, hhd, hnb.later ZY4, row_base (row_ext (row_ext HR2.out ZY3) ZY4) (Nat.le_trans (XM.out.trans (XV.out.trans Z1.out)).size (Nat.le_refl _)), Nat.le_trans (XM.out.trans (XV.out.trans (Z1.out.trans Z2))).size hbb, (XM.out.trans (XV.out.trans (Z1.out.trans Z3))).size⟩, XM.out.trans (XV.out.trans (Z1.out.trans Z4))⟩
set_option maxRecDepth 100000 in
set_option maxHeartbeats 4000000 in
theorem kit1_Lz (ks : List Kd) (g cp bx : Nat) (k x : ByteArray) (n : Int) (ao : Option Addr) (nk c : Nat) (t : Nat → TypeId) (v : Nat → Value) (kd : Kd) (w : World) (hl : ks.length ≤ 1000) (hb : w.heap[bx]? = some (.cells #[.slice (some ⟨g, 0, none⟩) ks.length cp] 104)) (hk : KRow w g ks) (hf : Go.Proofs.YtnmcmjgfnncdmaaGreatDoor.kdFind ks k = some kd) (hm : kd.make = 145) (hd : kd.does = none) (hn : nk ≤ 100000) (hh : HandsO w ao nk t v) :
    Calls Tryz.prog 124 #[.agg #[.string k, .int .i64 n, .string x, .slice none 0 0], .slice ao nk c, .pointer (some ⟨bx, 0, none⟩)] w (Kit1R w 351 k n x nk t v) := by
  have HF := hid (fun w1 (hx : Ext w w1) => findK_any ks g cp k w1 hl (hk.later hx))
  rw [hf] at HF
  have HNO := hid (fun w1 (hx : Ext w w1) => knodesOf_any ao nk c t v w1 hn (hh.later hx))
  have HXS := hid (one_cells nk t v)
  have HNEW := hid (fun q B xs w1 h1 h => new_row k x n (.slice none 0 0) q B nk xs w1 hn h1 h)
  have HBX := hid hb
  obtain ⟨q0, q1, q2, q3, q4, q5, q6, q7, q8⟩ := kd
  obtain rfl : q6 = 145 := hm
  obtain rfl : q7 = none := hd
  clear hl hb hk hf hn hh
  generalize ks.length = kn at *
  obtain ⟨M, hM⟩ : ∃ M, w.alloc (.cells #[.string k, .int .i64 n, .string x, .slice none 0 0] 69) = M := ⟨_, rfl⟩
  have XM := hid (show Ext w M from hM ▸ Ext.alloc _ _)
  have HM0 := hid (show M.heap[w.heap.size]? = some (.cells #[.string k, .int .i64 n, .string x, .slice none 0 0] 69) from hM ▸ blk0 _ _)
  obtain ⟨t0, t1, t2, t3⟩ := four_of HM0.out
  have c0 : M.cell? ⟨bx, 0, none⟩ = some (.slice (some ⟨g, 0, none⟩) kn cp) := cell_of (XM.out.block HBX.out) rfl
  go_enter Tryz.func124, Tryz.ntmps124
  go_wp2_with fail
  clear hM c0
  refine (HF.out _ XM.out).mono ?_
  rintro e w1 ⟨rfl, hx1⟩
  unfold kdVal Kd.val fnV
  dsimp only
  obtain ⟨V, hV⟩ : ∃ V, w1.alloc (.cells #[.string q0, .int .i64 q1, .int .i64 q2, .int .i64 q3, .string q4, .string q5, .func (.func 145) #[] #[], .nilFunc, .bool q8] 100) = V := ⟨_, rfl⟩
  have XV := hid (show Ext M V from hV ▸ hx1.trans (Ext.alloc _ _))
  have HKB := hid (show V.heap[w1.heap.size]? = some (.cells #[.string q0, .int .i64 q1, .int .i64 q2, .int .i64 q3, .string q4, .string q5, .func (.func 145) #[] #[], .nilFunc, .bool q8] 100) from hV ▸ blk0 _ _)
  clear hx1 t0 t1 t2 t3
  have henter := enterLz
  have HMK := hid (fun a l c w1 => makerLz k x q5 n a l c w1)
  go_wp2_with fail
  first | rw [hV] | skip
  clear hV
  generalize w1.heap.size = kx at HKB ⊢
  refine (HNO.out _ (XM.out.trans XV.out)).mono ?_
  rintro r u1 ⟨q, rfl, hq, hy⟩
  obtain ⟨qa, qc, rfl⟩ := ownsRow_slice hq
  have HQ := hid hq
  have Z1 := hid hy
  clear hq hy
  have HSK := hid (show ∀ W', Ext u1 W' → (W'.cell? ⟨kx, 6, none⟩ = some (.func (.func 145) #[] #[]) ∧ W'.cell? ⟨kx, 5, none⟩ = some (.string q5) ∧ W'.cell? ⟨w.heap.size, 0, none⟩ = some (.string k) ∧ W'.cell? ⟨w.heap.size, 1, none⟩ = some (.int .i64 n) ∧ W'.cell? ⟨w.heap.size, 2, none⟩ = some (.string x) ∧ W'.cell? ⟨w.heap.size, 3, none⟩ = some (.slice none 0 0)) from fun W' X => by
    obtain ⟨s0, s1, s2, s3⟩ := four_of ((XV.out.trans (Z1.out.trans X)).block HM0.out)
    exact ⟨cell_of ((Z1.out.trans X).block HKB.out) rfl, cell_of ((Z1.out.trans X).block HKB.out) rfl, s0, s1, s2, s3⟩)
  go_wp2_with fail
  go_region_held3 (fun W' => W'.cell? ⟨kx, 6, none⟩ = some (.func (.func 145) #[] #[]) ∧ W'.cell? ⟨kx, 5, none⟩ = some (.string q5) ∧ W'.cell? ⟨w.heap.size, 0, none⟩ = some (.string k) ∧ W'.cell? ⟨w.heap.size, 1, none⟩ = some (.int .i64 n) ∧ W'.cell? ⟨w.heap.size, 2, none⟩ = some (.string x) ∧ W'.cell? ⟨w.heap.size, 3, none⟩ = some (.slice none 0 0))
    (first | with_reducible exact HSK.out _ (Ext.refl _) | with_reducible exact HSK.out _ (Ext.refl _).drew | with_reducible exact HSK.out _ Z4 | with_reducible exact HSK.out _ Z3 | with_reducible exact HSK.out _ Z2 | go_keep)
    (first
      | (go_at_call 126; with_reducible refine (HNEW.out _ _ _ _ HXS.out (row_ext HQ.out (by repeat (first | with_reducible exact Ext.refl _ | with_reducible refine Ext.drew ?_)))).mono ?_; rintro r u2 ⟨ra, rc, rfl, hr, hy⟩; have Z2 : Ext u1 u2 := Ext.trans (by repeat (first | with_reducible exact Ext.refl _ | with_reducible refine Ext.drew ?_)) hy; have HR2 := hid hr)
      | (go_at_call 145; with_reducible refine (HMK.out ra nk rc _).mono ?_; rintro r u3 ⟨b, rfl, hbb, hnb, hy⟩; have Z3 : Ext u1 u3 := Ext.trans (by repeat (first | with_reducible exact Z2 | with_reducible refine Ext.drew ?_)) hy; have ZY3 := hy)
      | (go_at_call 125; with_reducible refine (hold_gen 351 bareLz _ _).mono ?_; rintro r u4 ⟨rfl, hhd, hy⟩; have Z4 : Ext u1 u4 := Ext.trans (by repeat (first | with_reducible exact Z3 | with_reducible refine Ext.drew ?_)) hy; have ZY4 := hy))
  all_goals
    go_wp2_with fail
    go_ret
    exact ⟨u3.heap.size, rfl, ⟨b, ra, rc, hhd, hnb.later ZY4, row_base (row_ext (row_ext HR2.out ZY3) ZY4) (Nat.le_trans (XM.out.trans (XV.out.trans Z1.out)).size (Nat.le_refl _)), Nat.le_trans (XM.out.trans (XV.out.trans (Z1.out.trans Z2))).size hbb, (XM.out.trans (XV.out.trans (Z1.out.trans Z3))).size⟩, XM.out.trans (XV.out.trans (Z1.out.trans Z4))⟩
set_option maxRecDepth 100000 in
set_option maxHeartbeats 4000000 in
theorem kit1_Ec (ks : List Kd) (g cp bx : Nat) (k x : ByteArray) (n : Int) (ao : Option Addr) (nk c : Nat) (t : Nat → TypeId) (v : Nat → Value) (kd : Kd) (w : World) (hl : ks.length ≤ 1000) (hb : w.heap[bx]? = some (.cells #[.slice (some ⟨g, 0, none⟩) ks.length cp] 104)) (hk : KRow w g ks) (hf : Go.Proofs.YtnmcmjgfnncdmaaGreatDoor.kdFind ks k = some kd) (hm : kd.make = 119) (hd : kd.does = none) (hn : nk ≤ 100000) (hh : HandsO w ao nk t v) :
    Calls Tryz.prog 124 #[.agg #[.string k, .int .i64 n, .string x, .slice none 0 0], .slice ao nk c, .pointer (some ⟨bx, 0, none⟩)] w (Kit1R w 275 k n x nk t v) := by
  have HF := hid (fun w1 (hx : Ext w w1) => findK_any ks g cp k w1 hl (hk.later hx))
  rw [hf] at HF
  have HNO := hid (fun w1 (hx : Ext w w1) => knodesOf_any ao nk c t v w1 hn (hh.later hx))
  have HXS := hid (one_cells nk t v)
  have HNEW := hid (fun q B xs w1 h1 h => new_row k x n (.slice none 0 0) q B nk xs w1 hn h1 h)
  have HBX := hid hb
  obtain ⟨q0, q1, q2, q3, q4, q5, q6, q7, q8⟩ := kd
  obtain rfl : q6 = 119 := hm
  obtain rfl : q7 = none := hd
  clear hl hb hk hf hn hh
  generalize ks.length = kn at *
  obtain ⟨M, hM⟩ : ∃ M, w.alloc (.cells #[.string k, .int .i64 n, .string x, .slice none 0 0] 69) = M := ⟨_, rfl⟩
  have XM := hid (show Ext w M from hM ▸ Ext.alloc _ _)
  have HM0 := hid (show M.heap[w.heap.size]? = some (.cells #[.string k, .int .i64 n, .string x, .slice none 0 0] 69) from hM ▸ blk0 _ _)
  obtain ⟨t0, t1, t2, t3⟩ := four_of HM0.out
  have c0 : M.cell? ⟨bx, 0, none⟩ = some (.slice (some ⟨g, 0, none⟩) kn cp) := cell_of (XM.out.block HBX.out) rfl
  go_enter Tryz.func124, Tryz.ntmps124
  go_wp2_with fail
  clear hM c0
  refine (HF.out _ XM.out).mono ?_
  rintro e w1 ⟨rfl, hx1⟩
  unfold kdVal Kd.val fnV
  dsimp only
  obtain ⟨V, hV⟩ : ∃ V, w1.alloc (.cells #[.string q0, .int .i64 q1, .int .i64 q2, .int .i64 q3, .string q4, .string q5, .func (.func 119) #[] #[], .nilFunc, .bool q8] 100) = V := ⟨_, rfl⟩
  have XV := hid (show Ext M V from hV ▸ hx1.trans (Ext.alloc _ _))
  have HKB := hid (show V.heap[w1.heap.size]? = some (.cells #[.string q0, .int .i64 q1, .int .i64 q2, .int .i64 q3, .string q4, .string q5, .func (.func 119) #[] #[], .nilFunc, .bool q8] 100) from hV ▸ blk0 _ _)
  clear hx1 t0 t1 t2 t3
  have henter := enterEc
  have HMK := hid (fun a l c w1 => makerEc k x q5 n a l c w1)
  go_wp2_with fail
  first | rw [hV] | skip
  clear hV
  generalize w1.heap.size = kx at HKB ⊢
  refine (HNO.out _ (XM.out.trans XV.out)).mono ?_
  rintro r u1 ⟨q, rfl, hq, hy⟩
  obtain ⟨qa, qc, rfl⟩ := ownsRow_slice hq
  have HQ := hid hq
  have Z1 := hid hy
  clear hq hy
  have HSK := hid (show ∀ W', Ext u1 W' → (W'.cell? ⟨kx, 6, none⟩ = some (.func (.func 119) #[] #[]) ∧ W'.cell? ⟨kx, 5, none⟩ = some (.string q5) ∧ W'.cell? ⟨w.heap.size, 0, none⟩ = some (.string k) ∧ W'.cell? ⟨w.heap.size, 1, none⟩ = some (.int .i64 n) ∧ W'.cell? ⟨w.heap.size, 2, none⟩ = some (.string x) ∧ W'.cell? ⟨w.heap.size, 3, none⟩ = some (.slice none 0 0)) from fun W' X => by
    obtain ⟨s0, s1, s2, s3⟩ := four_of ((XV.out.trans (Z1.out.trans X)).block HM0.out)
    exact ⟨cell_of ((Z1.out.trans X).block HKB.out) rfl, cell_of ((Z1.out.trans X).block HKB.out) rfl, s0, s1, s2, s3⟩)
  go_wp2_with fail
  go_region_held3 (fun W' => W'.cell? ⟨kx, 6, none⟩ = some (.func (.func 119) #[] #[]) ∧ W'.cell? ⟨kx, 5, none⟩ = some (.string q5) ∧ W'.cell? ⟨w.heap.size, 0, none⟩ = some (.string k) ∧ W'.cell? ⟨w.heap.size, 1, none⟩ = some (.int .i64 n) ∧ W'.cell? ⟨w.heap.size, 2, none⟩ = some (.string x) ∧ W'.cell? ⟨w.heap.size, 3, none⟩ = some (.slice none 0 0))
    (first | with_reducible exact HSK.out _ (Ext.refl _) | with_reducible exact HSK.out _ (Ext.refl _).drew | with_reducible exact HSK.out _ Z4 | with_reducible exact HSK.out _ Z3 | with_reducible exact HSK.out _ Z2 | go_keep)
    (first
      | (go_at_call 126; with_reducible refine (HNEW.out _ _ _ _ HXS.out (row_ext HQ.out (by repeat (first | with_reducible exact Ext.refl _ | with_reducible refine Ext.drew ?_)))).mono ?_; rintro r u2 ⟨ra, rc, rfl, hr, hy⟩; have Z2 : Ext u1 u2 := Ext.trans (by repeat (first | with_reducible exact Ext.refl _ | with_reducible refine Ext.drew ?_)) hy; have HR2 := hid hr)
      | (go_at_call 119; with_reducible refine (HMK.out ra nk rc _).mono ?_; rintro r u3 ⟨b, rfl, hbb, hnb, hy⟩; have Z3 : Ext u1 u3 := Ext.trans (by repeat (first | with_reducible exact Z2 | with_reducible refine Ext.drew ?_)) hy; have ZY3 := hy)
      | (go_at_call 125; with_reducible refine (hold_gen 275 bareEc _ _).mono ?_; rintro r u4 ⟨rfl, hhd, hy⟩; have Z4 : Ext u1 u4 := Ext.trans (by repeat (first | with_reducible exact Z3 | with_reducible refine Ext.drew ?_)) hy; have ZY4 := hy))
  all_goals
    go_wp2_with fail
    go_ret
    exact ⟨u3.heap.size, rfl, ⟨b, ra, rc, hhd, hnb.later ZY4, row_base (row_ext (row_ext HR2.out ZY3) ZY4) (Nat.le_trans (XM.out.trans (XV.out.trans Z1.out)).size (Nat.le_refl _)), Nat.le_trans (XM.out.trans (XV.out.trans (Z1.out.trans Z2))).size hbb, (XM.out.trans (XV.out.trans (Z1.out.trans Z3))).size⟩, XM.out.trans (XV.out.trans (Z1.out.trans Z4))⟩

end Go.Proofs.YtnmcmjgfnncdmaaGreatDoor.Nd
