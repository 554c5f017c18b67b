/-
  kit.odd of a node whose abilities are its row's: nothing is odd; by contracts.
-/
import Derived.Test.YtnmcmjgfnncdmabGreatDoorBMake
import Derived.Test.YtnmcmjgfnncdmabGreatDoorKOrd
import Derived.Deep.RegionHeld3
import Derived.Deep.Cut
import Derived.Deep.CutRange
namespace Go.Proofs.YtnmcmjgfnncdmabGreatDoor.Nd
open Go.RowKit
/-- Is a text among these? -/
def inS (x : ByteArray) (xs : List ByteArray) : Bool := xs.any (fun y => decide (x = y))
theorem inS_no {x : ByteArray} {xs : List ByteArray} (h : ∀ j, (hj : j < xs.length) → x ≠ xs[j]) : inS x xs = false := by
  unfold inS
  rw [List.any_eq_false]
  intro y hy
  obtain ⟨j, hj, rfl⟩ := List.getElem_of_mem hy
  simpa using h j hj
theorem inS_yes {x : ByteArray} {xs : List ByteArray} (j : Nat) (hj : j < xs.length) (h : x = xs[j]) : inS x xs = true := by
  unfold inS
  rw [List.any_eq_true]
  exact ⟨xs[j], List.getElem_mem hj, by simpa using h⟩
def IxR (w : World) (b : Bool) (e : Ending) (w' : World) : Prop := ∃ i : Int, e = .returned (.int .i64 i) ∧ decide (0 ≤ i) = b ∧ w' = w
set_option maxRecDepth 100000 in
set_option maxHeartbeats 1000000 in
theorem indexS_any (a : Option Addr) (c : Nat) (xs : List ByteArray) (x : ByteArray) (w : World) (hn : xs.length ≤ 1000) (h : TRow w a xs) : Calls Tryz.prog 111 #[.slice a xs.length c, .string x] w (IxR w (inS x xs)) := by
  have HT := hid h
  have HY := hid (fun j hj h => inS_yes (x := x) (xs := xs) j hj h)
  have HN := hid (fun h => inS_no (x := x) (xs := xs) h)
  obtain ⟨b, hb⟩ : ∃ b, inS x xs = b := ⟨_, rfl⟩
  rw [hb] at HY HN ⊢
  clear hb
  obtain ⟨n, hne⟩ : ∃ n, xs.length = n := ⟨_, rfl⟩
  have HNE := hid hne
  rw [hne] at hn ⊢
  have hn' : (n : Int) ≤ 1000 := by omega
  clear h hne
  go_enter Tryz.func111, Tryz.ntmps111
  go_wp2_with fail
  go_loopw [8] (fun q8 wr => ∃ j : Nat, j ≤ n ∧ q8 = .int .i64 j ∧ (∀ i, (h : i < xs.length) → i < j → x ≠ xs[i]) ∧ wr = w) (fun q8 _ => n - (intOf q8).toNat)
  case atStart => exact ⟨0, Nat.zero_le _, rfl, fun _ _ h => absurd h (Nat.not_lt_zero _), rfl⟩
  case round =>
    obtain ⟨j, hj, rfl, hno, rfl⟩ := hrel
    have HNO := hid hno
    clear hno
    by_cases hlt : j < n
    · have hlt' : (j : Int) < n := by omega
      have hjx : j < xs.length := by rw [HNE.out]; exact hlt
      rcases HT.out with e0 | ⟨g, off, rfl, hc⟩
      · rw [e0] at hjx; exact absurd hjx (Nat.not_lt_zero _)
      have hcell := hc j hjx
      have hgl := lt_of_cell hcell
      by_cases he : x = xs[j]
      · have HB := hid (HY.out j hjx he)
        have e1 : (x.toList == xs[j].toList) = true := by rw [← he]; exact beq_self_eq_true _
        clear hc
        generalize xs[j] = y at *
        go_wp2_with fail
        go_ret
        exact ⟨j, rfl, by rw [HB.out]; exact decide_eq_true (by omega), rfl⟩
      · have e1 : (x.toList == xs[j].toList) = false := by rw [beq_eq_false_iff_ne]; exact fun e => he (toList_inj e)
        have HE := hid he
        clear hc
        generalize hy : xs[j] = y at *
        have HYY := hid hy
        clear hy
        go_wp2_with fail
        go_roundw
        case rel => exact ⟨j + 1, hlt, by go_num, fun i hi h => by
          rcases Nat.lt_succ_iff_lt_or_eq.1 h with h | rfl
          · exact HNO.out i hi h
          · rw [HYY.out]; exact HE.out, by trivial⟩
        case measure => simp [intOf]; omega
    · have HB := hid (HN.out (fun i hi => HNO.out i hi (by have := HNE.out; omega)))
      have hlt3 : ¬ (j : Int) < n := by omega
      go_wp2_with fail
      go_ret
      exact ⟨-1, rfl, by rw [HB.out]; rfl, rfl⟩
theorem contains_any (a : Option Addr) (c : Nat) (xs : List ByteArray) (x : ByteArray) (w : World) (hn : xs.length ≤ 1000) (h : TRow w a xs) : Calls Tryz.prog 70 #[.slice a xs.length c, .string x] w fun e w' => e = .returned (.bool (inS x xs)) ∧ w' = w := by
  have HI := hid (indexS_any a c xs x w hn h)
  clear h
  generalize inS x xs = b at *
  generalize xs.length = n at *
  go_enter Tryz.func70, Tryz.ntmps70
  go_wp2_with fail
  refine HI.out.mono ?_
  rintro e w1 ⟨i, rfl, hi, hw⟩
  have HW := hid hw
  have HI2 := hid hi
  clear hi hw
  go_wp2_with fail
  go_ret
  exact ⟨by rw [← HI2.out]; rfl, HW.out⟩
theorem enterQ0 (a : Array Value) (w : World) : (callFunc 97 a).run Tryz.prog w = .ok (.enter 97 a) w := by simp [callFunc, go_sem, Tryz.func97]; rfl
theorem enterQ1 (a : Array Value) (w : World) : (callFunc 98 a).run Tryz.prog w = .ok (.enter 98 a) w := by simp [callFunc, go_sem, Tryz.func98]; rfl
theorem enterQ2 (a : Array Value) (w : World) : (callFunc 99 a).run Tryz.prog w = .ok (.enter 99 a) w := by simp [callFunc, go_sem, Tryz.func99]; rfl
theorem enterQ3 (a : Array Value) (w : World) : (callFunc 100 a).run Tryz.prog w = .ok (.enter 100 a) w := by simp [callFunc, go_sem, Tryz.func100]; rfl
theorem enterQ4 (a : Array Value) (w : World) : (callFunc 101 a).run Tryz.prog w = .ok (.enter 101 a) w := by simp [callFunc, go_sem, Tryz.func101]; rfl
theorem enterQ5 (a : Array Value) (w : World) : (callFunc 102 a).run Tryz.prog w = .ok (.enter 102 a) w := by simp [callFunc, go_sem, Tryz.func102]; rfl
theorem enterQ6 (a : Array Value) (w : World) : (callFunc 103 a).run Tryz.prog w = .ok (.enter 103 a) w := by simp [callFunc, go_sem, Tryz.func103]; rfl
theorem enterQ7 (a : Array Value) (w : World) : (callFunc 104 a).run Tryz.prog w = .ok (.enter 104 a) w := by simp [callFunc, go_sem, Tryz.func104]; rfl
theorem enterQ8 (a : Array Value) (w : World) : (callFunc 105 a).run Tryz.prog w = .ok (.enter 105 a) w := by simp [callFunc, go_sem, Tryz.func105]; rfl
theorem enterQ9 (a : Array Value) (w : World) : (callFunc 106 a).run Tryz.prog w = .ok (.enter 106 a) w := by simp [callFunc, go_sem, Tryz.func106]; rfl
theorem enterQ10 (a : Array Value) (w : World) : (callFunc 107 a).run Tryz.prog w = .ok (.enter 107 a) w := by simp [callFunc, go_sem, Tryz.func107]; rfl
theorem enterQ11 (a : Array Value) (w : World) : (callFunc 108 a).run Tryz.prog w = .ok (.enter 108 a) w := by simp [callFunc, go_sem, Tryz.func108]; rfl
theorem enterQ12 (a : Array Value) (w : World) : (callFunc 109 a).run Tryz.prog w = .ok (.enter 109 a) w := by simp [callFunc, go_sem, Tryz.func109]; rfl
theorem enterQ13 (a : Array Value) (w : World) : (callFunc 110 a).run Tryz.prog w = .ok (.enter 110 a) w := by simp [callFunc, go_sem, Tryz.func110]; rfl
theorem enterQ : ∀ j, j < 14 → ∀ (a : Array Value) (w : World), (callFunc (fnQ j) a).run Tryz.prog w = .ok (.enter (fnQ j) a) w
  | 0, _ => enterQ0
  | 1, _ => enterQ1
  | 2, _ => enterQ2
  | 3, _ => enterQ3
  | 4, _ => enterQ4
  | 5, _ => enterQ5
  | 6, _ => enterQ6
  | 7, _ => enterQ7
  | 8, _ => enterQ8
  | 9, _ => enterQ9
  | 10, _ => enterQ10
  | 11, _ => enterQ11
  | 12, _ => enterQ12
  | 13, _ => enterQ13
  | n + 14, h => absurd h (by omega)
def hasRs : Nat → Bool
  | 0 => false
  | 1 => true
  | 2 => false
  | 3 => false
  | 4 => false
  | 5 => false
  | 6 => false
  | 7 => false
  | 8 => true
  | 9 => false
  | 10 => false
  | 11 => false
  | 12 => false
  | 13 => false
  | _ => false
theorem ofRs0 (v : Value) (w : World) : Calls Tryz.prog 97 #[.iface 131 v] w fun e w' => e = .returned (.bool false) ∧ w' = w := by
  have h := isRsLiteral v
  go_enter Tryz.func97, Tryz.ntmps97
  go_wp2_with fail
  go_ret
  exact ⟨rfl, rfl⟩
theorem ofRs1 (v : Value) (w : World) : Calls Tryz.prog 98 #[.iface 131 v] w fun e w' => e = .returned (.bool true) ∧ w' = w := by
  have h := isRsStrict v
  go_enter Tryz.func98, Tryz.ntmps98
  go_wp2_with fail
  go_ret
  exact ⟨rfl, rfl⟩
theorem ofRs2 (v : Value) (w : World) : Calls Tryz.prog 99 #[.iface 131 v] w fun e w' => e = .returned (.bool false) ∧ w' = w := by
  have h := isRsLazy v
  go_enter Tryz.func99, Tryz.ntmps99
  go_wp2_with fail
  go_ret
  exact ⟨rfl, rfl⟩
theorem ofRs3 (v : Value) (w : World) : Calls Tryz.prog 100 #[.iface 131 v] w fun e w' => e = .returned (.bool false) ∧ w' = w := by
  have h := isRsBinder v
  go_enter Tryz.func100, Tryz.ntmps100
  go_wp2_with fail
  go_ret
  exact ⟨rfl, rfl⟩
theorem ofRs4 (v : Value) (w : World) : Calls Tryz.prog 101 #[.iface 131 v] w fun e w' => e = .returned (.bool false) ∧ w' = w := by
  have h := isRsUser v
  go_enter Tryz.func101, Tryz.ntmps101
  go_wp2_with fail
  go_ret
  exact ⟨rfl, rfl⟩
theorem ofRs5 (v : Value) (w : World) : Calls Tryz.prog 102 #[.iface 131 v] w fun e w' => e = .returned (.bool false) ∧ w' = w := by
  have h := isRsCaller v
  go_enter Tryz.func102, Tryz.ntmps102
  go_wp2_with fail
  go_ret
  exact ⟨rfl, rfl⟩
theorem ofRs6 (v : Value) (w : World) : Calls Tryz.prog 103 #[.iface 131 v] w fun e w' => e = .returned (.bool false) ∧ w' = w := by
  have h := isRsPure v
  go_enter Tryz.func103, Tryz.ntmps103
  go_wp2_with fail
  go_ret
  exact ⟨rfl, rfl⟩
theorem ofRs7 (v : Value) (w : World) : Calls Tryz.prog 104 #[.iface 131 v] w fun e w' => e = .returned (.bool false) ∧ w' = w := by
  have h := isRsTotal v
  go_enter Tryz.func104, Tryz.ntmps104
  go_wp2_with fail
  go_ret
  exact ⟨rfl, rfl⟩
theorem ofRs8 (v : Value) (w : World) : Calls Tryz.prog 105 #[.iface 131 v] w fun e w' => e = .returned (.bool true) ∧ w' = w := by
  have h := isRsSorted v
  go_enter Tryz.func105, Tryz.ntmps105
  go_wp2_with fail
  go_ret
  exact ⟨rfl, rfl⟩
theorem ofRs9 (v : Value) (w : World) : Calls Tryz.prog 106 #[.iface 131 v] w fun e w' => e = .returned (.bool false) ∧ w' = w := by
  have h := isRsSugar v
  go_enter Tryz.func106, Tryz.ntmps106
  go_wp2_with fail
  go_ret
  exact ⟨rfl, rfl⟩
theorem ofRs10 (v : Value) (w : World) : Calls Tryz.prog 107 #[.iface 131 v] w fun e w' => e = .returned (.bool false) ∧ w' = w := by
  have h := isRsFramed v
  go_enter Tryz.func107, Tryz.ntmps107
  go_wp2_with fail
  go_ret
  exact ⟨rfl, rfl⟩
theorem ofRs11 (v : Value) (w : World) : Calls Tryz.prog 108 #[.iface 131 v] w fun e w' => e = .returned (.bool false) ∧ w' = w := by
  have h := isRsWrapped v
  go_enter Tryz.func108, Tryz.ntmps108
  go_wp2_with fail
  go_ret
  exact ⟨rfl, rfl⟩
theorem ofRs12 (v : Value) (w : World) : Calls Tryz.prog 109 #[.iface 131 v] w fun e w' => e = .returned (.bool false) ∧ w' = w := by
  have h := isRsOrigin v
  go_enter Tryz.func109, Tryz.ntmps109
  go_wp2_with fail
  go_ret
  exact ⟨rfl, rfl⟩
theorem ofRs13 (v : Value) (w : World) : Calls Tryz.prog 110 #[.iface 131 v] w fun e w' => e = .returned (.bool false) ∧ w' = w := by
  have h := isRsOpaque v
  go_enter Tryz.func110, Tryz.ntmps110
  go_wp2_with fail
  go_ret
  exact ⟨rfl, rfl⟩
theorem ofRs (v : Value) (w : World) : ∀ j, j < 14 → Calls Tryz.prog (fnQ j) #[.iface 131 v] w fun e w' => e = .returned (.bool (hasRs j)) ∧ w' = w
  | 0, _ => ofRs0 v w
  | 1, _ => ofRs1 v w
  | 2, _ => ofRs2 v w
  | 3, _ => ofRs3 v w
  | 4, _ => ofRs4 v w
  | 5, _ => ofRs5 v w
  | 6, _ => ofRs6 v w
  | 7, _ => ofRs7 v w
  | 8, _ => ofRs8 v w
  | 9, _ => ofRs9 v w
  | 10, _ => ofRs10 v w
  | 11, _ => ofRs11 v w
  | 12, _ => ofRs12 v w
  | 13, _ => ofRs13 v w
  | n + 14, h => absurd h (by omega)
set_option maxRecDepth 100000 in
set_option maxHeartbeats 4000000 in
theorem odd_Rs (a : Option Addr) (c : Nat) (xs : List ByteArray) (v : Value) (w : World) (hn : xs.length ≤ 1000) (h : TRow w a xs) (hall : ∀ j, j < 14 → hasRs j = inS (nmQ j) xs) : Calls Tryz.prog 49 #[.iface 131 v, .slice a xs.length c] w fun e w' => e = .returned (.tuple #[.string ⟨#[]⟩, .bool false]) ∧ Ext w w' := by
  have HC := hid (fun x w1 (hx : Ext w w1) => contains_any a c xs x w1 hn (h.later hx))
  have HALL := hid hall
  clear h hall
  generalize xs.length = xn at *
  go_enter Tryz.func49, Tryz.ntmps49
  go_wp2_with fail
  refine (abilQ_any w).mono ?_
  rintro e w1 ⟨rfl, hw1⟩
  have X1 := hid (show Ext w w1 from hw1 ▸ Ext.alloc _ _)
  have HA := hid (show w1.heap[w.heap.size]? = some (.cells abQ 170) from hw1 ▸ blk0 _ _)
  clear hw1
  go_wp2_with fail
  go_loopw [10] (fun q10 wr => ∃ j : Nat, j ≤ 14 ∧ q10 = .int .i64 j ∧ Ext w1 wr) (fun q10 _ => 14 - (intOf q10).toNat)
  case atStart => exact ⟨0, Nat.zero_le _, rfl, Ext.refl _⟩
  case round =>
    obtain ⟨j, hj, rfl, hx⟩ := hrel
    have HX := hid hx
    clear hx
    by_cases hlt : j < 14
    · have hlt' : (j : Int) < 14 := by omega
      obtain ⟨a0, a1, a2⟩ := abQ_at j hlt
      have p0 := cell_of (HX.out.block HA.out) a0
      have p1 := cell_of (HX.out.block HA.out) a1
      have p2 := cell_of (HX.out.block HA.out) a2
      have hgl := lt_of_cell p0
      have HOF := hid (fun w1 => ofRs v w1 j hlt)
      have henter := enterQ j hlt
      have HBQ := hid (HALL.out j hlt)
      clear a0 a1 a2
      generalize nmQ j = nj at *
      generalize tdQ j = tj at *
      generalize fnQ j = fj at *
      generalize hasRs j = bj at *
      obtain ⟨M, hM⟩ : ∃ M, wr.alloc (.cells #[.string nj, .bool tj, .func (.func fj) #[] #[]] 170) = M := ⟨_, rfl⟩
      have XM := hid (show Ext wr M from hM ▸ Ext.alloc _ _)
      have HM0 := hid (show M.heap[wr.heap.size]? = some (.cells #[.string nj, .bool tj, .func (.func fj) #[] #[]] 170) from hM ▸ blk0 _ _)
      have HSK := hid (show ∀ W', Ext M W' → (W'.cell? ⟨wr.heap.size, 0, none⟩ = some (.string nj) ∧ W'.cell? ⟨wr.heap.size, 2, none⟩ = some (.func (.func fj) #[] #[])) from fun W' X => ⟨cell_of (X.block HM0.out) rfl, cell_of (X.block HM0.out) rfl⟩)
      have HCN := hid (fun w1 (hx1 : Ext M w1) => HC.out nj w1 (X1.out.trans (HX.out.trans (XM.out.trans hx1))))
      rw [← HBQ.out] at HCN
      clear HBQ
      go_upto_region 4 with fail
      first | rw [hM] | skip
      clear hM p0 p1 p2
      go_cut [22] from 14 to 22 (fun s22 wx => s22 = .bool false ∧ Ext M wx)
      case first =>
        go_region_held3 (fun W' => W'.cell? ⟨wr.heap.size, 0, none⟩ = some (.string nj) ∧ W'.cell? ⟨wr.heap.size, 2, none⟩ = some (.func (.func fj) #[] #[]))
          (first | with_reducible exact HSK.out _ (Ext.refl _) | with_reducible exact HSK.out _ (Ext.refl _).drew | go_keep)
          (first
            | (go_at_call 70; refine (HCN.out _ (by repeat (first | with_reducible exact Ext.refl _ | with_reducible refine Ext.drew ?_))).mono ?_; rintro r u1 ⟨rfl, rfl⟩)
            | (refine (HOF.out _).mono ?_; rintro r u1 ⟨rfl, rfl⟩))
        all_goals
          go_wp2_with fail
          go_meet
          case rel => exact ⟨by simp, (by repeat (first | with_reducible exact Ext.refl _ | with_reducible refine Ext.drew ?_))⟩
      case rest =>
        obtain ⟨rfl, hxc⟩ := hcut
        have XC := hid hxc
        clear hxc
        go_wp2_with fail
        go_roundw
        case rel => exact ⟨j + 1, by omega, by go_num, HX.out.trans (XM.out.trans XC.out)⟩
        case measure => simp [intOf]; omega
    · obtain rfl : j = 14 := by omega
      go_wp2_with fail
      go_ret2
      exact ⟨rfl, X1.out.trans HX.out⟩
def hasCt : Nat → Bool
  | 0 => false
  | 1 => false
  | 2 => true
  | 3 => true
  | 4 => false
  | 5 => false
  | 6 => true
  | 7 => true
  | 8 => true
  | 9 => false
  | 10 => false
  | 11 => false
  | 12 => false
  | 13 => false
  | _ => false
theorem ofCt0 (v : Value) (w : World) : Calls Tryz.prog 97 #[.iface 142 v] w fun e w' => e = .returned (.bool false) ∧ w' = w := by
  have h := isCtLiteral v
  go_enter Tryz.func97, Tryz.ntmps97
  go_wp2_with fail
  go_ret
  exact ⟨rfl, rfl⟩
theorem ofCt1 (v : Value) (w : World) : Calls Tryz.prog 98 #[.iface 142 v] w fun e w' => e = .returned (.bool false) ∧ w' = w := by
  have h := isCtStrict v
  go_enter Tryz.func98, Tryz.ntmps98
  go_wp2_with fail
  go_ret
  exact ⟨rfl, rfl⟩
theorem ofCt2 (v : Value) (w : World) : Calls Tryz.prog 99 #[.iface 142 v] w fun e w' => e = .returned (.bool true) ∧ w' = w := by
  have h := isCtLazy v
  go_enter Tryz.func99, Tryz.ntmps99
  go_wp2_with fail
  go_ret
  exact ⟨rfl, rfl⟩
theorem ofCt3 (v : Value) (w : World) : Calls Tryz.prog 100 #[.iface 142 v] w fun e w' => e = .returned (.bool true) ∧ w' = w := by
  have h := isCtBinder v
  go_enter Tryz.func100, Tryz.ntmps100
  go_wp2_with fail
  go_ret
  exact ⟨rfl, rfl⟩
theorem ofCt4 (v : Value) (w : World) : Calls Tryz.prog 101 #[.iface 142 v] w fun e w' => e = .returned (.bool false) ∧ w' = w := by
  have h := isCtUser v
  go_enter Tryz.func101, Tryz.ntmps101
  go_wp2_with fail
  go_ret
  exact ⟨rfl, rfl⟩
theorem ofCt5 (v : Value) (w : World) : Calls Tryz.prog 102 #[.iface 142 v] w fun e w' => e = .returned (.bool false) ∧ w' = w := by
  have h := isCtCaller v
  go_enter Tryz.func102, Tryz.ntmps102
  go_wp2_with fail
  go_ret
  exact ⟨rfl, rfl⟩
theorem ofCt6 (v : Value) (w : World) : Calls Tryz.prog 103 #[.iface 142 v] w fun e w' => e = .returned (.bool true) ∧ w' = w := by
  have h := isCtPure v
  go_enter Tryz.func103, Tryz.ntmps103
  go_wp2_with fail
  go_ret
  exact ⟨rfl, rfl⟩
theorem ofCt7 (v : Value) (w : World) : Calls Tryz.prog 104 #[.iface 142 v] w fun e w' => e = .returned (.bool true) ∧ w' = w := by
  have h := isCtTotal v
  go_enter Tryz.func104, Tryz.ntmps104
  go_wp2_with fail
  go_ret
  exact ⟨rfl, rfl⟩
theorem ofCt8 (v : Value) (w : World) : Calls Tryz.prog 105 #[.iface 142 v] w fun e w' => e = .returned (.bool true) ∧ w' = w := by
  have h := isCtSorted v
  go_enter Tryz.func105, Tryz.ntmps105
  go_wp2_with fail
  go_ret
  exact ⟨rfl, rfl⟩
theorem ofCt9 (v : Value) (w : World) : Calls Tryz.prog 106 #[.iface 142 v] w fun e w' => e = .returned (.bool false) ∧ w' = w := by
  have h := isCtSugar v
  go_enter Tryz.func106, Tryz.ntmps106
  go_wp2_with fail
  go_ret
  exact ⟨rfl, rfl⟩
theorem ofCt10 (v : Value) (w : World) : Calls Tryz.prog 107 #[.iface 142 v] w fun e w' => e = .returned (.bool false) ∧ w' = w := by
  have h := isCtFramed v
  go_enter Tryz.func107, Tryz.ntmps107
  go_wp2_with fail
  go_ret
  exact ⟨rfl, rfl⟩
theorem ofCt11 (v : Value) (w : World) : Calls Tryz.prog 108 #[.iface 142 v] w fun e w' => e = .returned (.bool false) ∧ w' = w := by
  have h := isCtWrapped v
  go_enter Tryz.func108, Tryz.ntmps108
  go_wp2_with fail
  go_ret
  exact ⟨rfl, rfl⟩
theorem ofCt12 (v : Value) (w : World) : Calls Tryz.prog 109 #[.iface 142 v] w fun e w' => e = .returned (.bool false) ∧ w' = w := by
  have h := isCtOrigin v
  go_enter Tryz.func109, Tryz.ntmps109
  go_wp2_with fail
  go_ret
  exact ⟨rfl, rfl⟩
theorem ofCt13 (v : Value) (w : World) : Calls Tryz.prog 110 #[.iface 142 v] w fun e w' => e = .returned (.bool false) ∧ w' = w := by
  have h := isCtOpaque v
  go_enter Tryz.func110, Tryz.ntmps110
  go_wp2_with fail
  go_ret
  exact ⟨rfl, rfl⟩
theorem ofCt (v : Value) (w : World) : ∀ j, j < 14 → Calls Tryz.prog (fnQ j) #[.iface 142 v] w fun e w' => e = .returned (.bool (hasCt j)) ∧ w' = w
  | 0, _ => ofCt0 v w
  | 1, _ => ofCt1 v w
  | 2, _ => ofCt2 v w
  | 3, _ => ofCt3 v w
  | 4, _ => ofCt4 v w
  | 5, _ => ofCt5 v w
  | 6, _ => ofCt6 v w
  | 7, _ => ofCt7 v w
  | 8, _ => ofCt8 v w
  | 9, _ => ofCt9 v w
  | 10, _ => ofCt10 v w
  | 11, _ => ofCt11 v w
  | 12, _ => ofCt12 v w
  | 13, _ => ofCt13 v w
  | n + 14, h => absurd h (by omega)
set_option maxRecDepth 100000 in
set_option maxHeartbeats 4000000 in
theorem odd_Ct (a : Option Addr) (c : Nat) (xs : List ByteArray) (v : Value) (w : World) (hn : xs.length ≤ 1000) (h : TRow w a xs) (hall : ∀ j, j < 14 → hasCt j = inS (nmQ j) xs) : Calls Tryz.prog 49 #[.iface 142 v, .slice a xs.length c] w fun e w' => e = .returned (.tuple #[.string ⟨#[]⟩, .bool false]) ∧ Ext w w' := by
  have HC := hid (fun x w1 (hx : Ext w w1) => contains_any a c xs x w1 hn (h.later hx))
  have HALL := hid hall
  clear h hall
  generalize xs.length = xn at *
  go_enter Tryz.func49, Tryz.ntmps49
  go_wp2_with fail
  refine (abilQ_any w).mono ?_
  rintro e w1 ⟨rfl, hw1⟩
  have X1 := hid (show Ext w w1 from hw1 ▸ Ext.alloc _ _)
  have HA := hid (show w1.heap[w.heap.size]? = some (.cells abQ 170) from hw1 ▸ blk0 _ _)
  clear hw1
  go_wp2_with fail
  go_loopw [10] (fun q10 wr => ∃ j : Nat, j ≤ 14 ∧ q10 = .int .i64 j ∧ Ext w1 wr) (fun q10 _ => 14 - (intOf q10).toNat)
  case atStart => exact ⟨0, Nat.zero_le _, rfl, Ext.refl _⟩
  case round =>
    obtain ⟨j, hj, rfl, hx⟩ := hrel
    have HX := hid hx
    clear hx
    by_cases hlt : j < 14
    · have hlt' : (j : Int) < 14 := by omega
      obtain ⟨a0, a1, a2⟩ := abQ_at j hlt
      have p0 := cell_of (HX.out.block HA.out) a0
      have p1 := cell_of (HX.out.block HA.out) a1
      have p2 := cell_of (HX.out.block HA.out) a2
      have hgl := lt_of_cell p0
      have HOF := hid (fun w1 => ofCt v w1 j hlt)
      have henter := enterQ j hlt
      have HBQ := hid (HALL.out j hlt)
      clear a0 a1 a2
      generalize nmQ j = nj at *
      generalize tdQ j = tj at *
      generalize fnQ j = fj at *
      generalize hasCt j = bj at *
      obtain ⟨M, hM⟩ : ∃ M, wr.alloc (.cells #[.string nj, .bool tj, .func (.func fj) #[] #[]] 170) = M := ⟨_, rfl⟩
      have XM := hid (show Ext wr M from hM ▸ Ext.alloc _ _)
      have HM0 := hid (show M.heap[wr.heap.size]? = some (.cells #[.string nj, .bool tj, .func (.func fj) #[] #[]] 170) from hM ▸ blk0 _ _)
      have HSK := hid (show ∀ W', Ext M W' → (W'.cell? ⟨wr.heap.size, 0, none⟩ = some (.string nj) ∧ W'.cell? ⟨wr.heap.size, 2, none⟩ = some (.func (.func fj) #[] #[])) from fun W' X => ⟨cell_of (X.block HM0.out) rfl, cell_of (X.block HM0.out) rfl⟩)
      have HCN := hid (fun w1 (hx1 : Ext M w1) => HC.out nj w1 (X1.out.trans (HX.out.trans (XM.out.trans hx1))))
      rw [← HBQ.out] at HCN
      clear HBQ
      go_upto_region 4 with fail
      first | rw [hM] | skip
      clear hM p0 p1 p2
      go_cut [22] from 14 to 22 (fun s22 wx => s22 = .bool false ∧ Ext M wx)
      case first =>
        go_region_held3 (fun W' => W'.cell? ⟨wr.heap.size, 0, none⟩ = some (.string nj) ∧ W'.cell? ⟨wr.heap.size, 2, none⟩ = some (.func (.func fj) #[] #[]))
          (first | with_reducible exact HSK.out _ (Ext.refl _) | with_reducible exact HSK.out _ (Ext.refl _).drew | go_keep)
          (first
            | (go_at_call 70; refine (HCN.out _ (by repeat (first | with_reducible exact Ext.refl _ | with_reducible refine Ext.drew ?_))).mono ?_; rintro r u1 ⟨rfl, rfl⟩)
            | (refine (HOF.out _).mono ?_; rintro r u1 ⟨rfl, rfl⟩))
        all_goals
          go_wp2_with fail
          go_meet
          case rel => exact ⟨by simp, (by repeat (first | with_reducible exact Ext.refl _ | with_reducible refine Ext.drew ?_))⟩
      case rest =>
        obtain ⟨rfl, hxc⟩ := hcut
        have XC := hid hxc
        clear hxc
        go_wp2_with fail
        go_roundw
        case rel => exact ⟨j + 1, by omega, by go_num, HX.out.trans (XM.out.trans XC.out)⟩
        case measure => simp [intOf]; omega
    · obtain rfl : j = 14 := by omega
      go_wp2_with fail
      go_ret2
      exact ⟨rfl, X1.out.trans HX.out⟩

end Go.Proofs.YtnmcmjgfnncdmabGreatDoor.Nd
