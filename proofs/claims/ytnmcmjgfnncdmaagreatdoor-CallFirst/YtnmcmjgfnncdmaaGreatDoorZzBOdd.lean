/-
  kit.odd of a node whose abilities are its row's: nothing is odd; by contracts.
-/
import Derived.Test.YtnmcmjgfnncdmaaGreatDoorZzBFacts
import Derived.Test.YtnmcmjgfnncdmaaGreatDoorZzKAbil
import Derived.Deep.RegionHeld3
import Derived.Deep.Cut
import Derived.Deep.CutRange
namespace Go.Proofs.YtnmcmjgfnncdmaaGreatDoor.Nd
open Go.RowKit
/-- Is a text among these? -/
def inS (x : ByteArray) (xs : List ByteArray) : Bool := xs.any (fun y => decide (x = y))
theorem inS_no {x : ByteArray} {xs : List ByteArray} (h : ∀ j, (hj : j < xs.length) → x ≠ xs[j]) : inS x xs = false := by
  unfold inS
  rw [List.any_eq_false]
  intro y hy
  obtain ⟨j, hj, rfl⟩ := List.getElem_of_mem hy
  simpa using h j hj
theorem inS_yes {x : ByteArray} {xs : List ByteArray} (j : Nat) (hj : j < xs.length) (h : x = xs[j]) : inS x xs = true := by
  unfold inS
  rw [List.any_eq_true]
  exact ⟨xs[j], List.getElem_mem hj, by simpa using h⟩
def IxR (w : World) (b : Bool) (e : Ending) (w' : World) : Prop := ∃ i : Int, e = .returned (.int .i64 i) ∧ decide (0 ≤ i) = b ∧ w' = w
set_option maxRecDepth 100000 in
set_option maxHeartbeats 1000000 in
theorem indexS_any (a : Option Addr) (c : Nat) (xs : List ByteArray) (x : ByteArray) (w : World) (hn : xs.length ≤ 1000) (h : TRow w a xs) : Calls Tryz.prog 199 #[.slice a xs.length c, .string x] w (IxR w (inS x xs)) := by
  have HT := hid h
  have HY := hid (fun j hj h => inS_yes (x := x) (xs := xs) j hj h)
  have HN := hid (fun h => inS_no (x := x) (xs := xs) h)
  obtain ⟨b, hb⟩ : ∃ b, inS x xs = b := ⟨_, rfl⟩
  rw [hb] at HY HN ⊢
  clear hb
  obtain ⟨n, hne⟩ : ∃ n, xs.length = n := ⟨_, rfl⟩
  have HNE := hid hne
  rw [hne] at hn ⊢
  have hn' : (n : Int) ≤ 1000 := by omega
  clear h hne
  go_enter Tryz.func199, Tryz.ntmps199
  go_wp2_with fail
  go_loopw [8] (fun q8 wr => ∃ j : Nat, j ≤ n ∧ q8 = .int .i64 j ∧ (∀ i, (h : i < xs.length) → i < j → x ≠ xs[i]) ∧ wr = w) (fun q8 _ => n - (intOf q8).toNat)
  case atStart => exact ⟨0, Nat.zero_le _, rfl, fun _ _ h => absurd h (Nat.not_lt_zero _), rfl⟩
  case round =>
    obtain ⟨j, hj, rfl, hno, rfl⟩ := hrel
    have HNO := hid hno
    clear hno
    by_cases hlt : j < n
    · have hlt' : (j : Int) < n := by omega
      have hjx : j < xs.length := by rw [HNE.out]; exact hlt
      rcases HT.out with e0 | ⟨g, off, rfl, hc⟩
      · rw [e0] at hjx; exact absurd hjx (Nat.not_lt_zero _)
      have hcell := hc j hjx
      have hgl := lt_of_cell hcell
      by_cases he : x = xs[j]
      · have HB := hid (HY.out j hjx he)
        have e1 : (x.toList == xs[j].toList) = true := by rw [← he]; exact beq_self_eq_true _
        clear hc
        generalize xs[j] = y at *
        go_wp2_with fail
        go_ret
        exact ⟨j, rfl, by rw [HB.out]; exact decide_eq_true (by omega), rfl⟩
      · have e1 : (x.toList == xs[j].toList) = false := by rw [beq_eq_false_iff_ne]; exact fun e => he (toList_inj e)
        have HE := hid he
        clear hc
        generalize hy : xs[j] = y at *
        have HYY := hid hy
        clear hy
        go_wp2_with fail
        go_roundw
        case rel => exact ⟨j + 1, hlt, by go_num, fun i hi h => by
          rcases Nat.lt_succ_iff_lt_or_eq.1 h with h | rfl
          · exact HNO.out i hi h
          · rw [HYY.out]; exact HE.out, by trivial⟩
        case measure => simp [intOf]; omega
    · have HB := hid (HN.out (fun i hi => HNO.out i hi (by have := HNE.out; omega)))
      have hlt3 : ¬ (j : Int) < n := by omega
      go_wp2_with fail
      go_ret
      exact ⟨-1, rfl, by rw [HB.out]; rfl, rfl⟩
theorem contains_any (a : Option Addr) (c : Nat) (xs : List ByteArray) (x : ByteArray) (w : World) (hn : xs.length ≤ 1000) (h : TRow w a xs) : Calls Tryz.prog 135 #[.slice a xs.length c, .string x] w fun e w' => e = .returned (.bool (inS x xs)) ∧ w' = w := by
  have HI := hid (indexS_any a c xs x w hn h)
  clear h
  generalize inS x xs = b at *
  generalize xs.length = n at *
  go_enter Tryz.func135, Tryz.ntmps135
  go_wp2_with fail
  refine HI.out.mono ?_
  rintro e w1 ⟨i, rfl, hi, hw⟩
  have HW := hid hw
  have HI2 := hid hi
  clear hi hw
  go_wp2_with fail
  go_ret
  exact ⟨by rw [← HI2.out]; rfl, HW.out⟩
theorem enterQ0 (a : Array Value) (w : World) : (callFunc 185 a).run Tryz.prog w = .ok (.enter 185 a) w := by simp [callFunc, go_sem, Tryz.func185]; rfl
theorem enterQ1 (a : Array Value) (w : World) : (callFunc 186 a).run Tryz.prog w = .ok (.enter 186 a) w := by simp [callFunc, go_sem, Tryz.func186]; rfl
theorem enterQ2 (a : Array Value) (w : World) : (callFunc 187 a).run Tryz.prog w = .ok (.enter 187 a) w := by simp [callFunc, go_sem, Tryz.func187]; rfl
theorem enterQ3 (a : Array Value) (w : World) : (callFunc 188 a).run Tryz.prog w = .ok (.enter 188 a) w := by simp [callFunc, go_sem, Tryz.func188]; rfl
theorem enterQ4 (a : Array Value) (w : World) : (callFunc 189 a).run Tryz.prog w = .ok (.enter 189 a) w := by simp [callFunc, go_sem, Tryz.func189]; rfl
theorem enterQ5 (a : Array Value) (w : World) : (callFunc 190 a).run Tryz.prog w = .ok (.enter 190 a) w := by simp [callFunc, go_sem, Tryz.func190]; rfl
theorem enterQ6 (a : Array Value) (w : World) : (callFunc 191 a).run Tryz.prog w = .ok (.enter 191 a) w := by simp [callFunc, go_sem, Tryz.func191]; rfl
theorem enterQ7 (a : Array Value) (w : World) : (callFunc 192 a).run Tryz.prog w = .ok (.enter 192 a) w := by simp [callFunc, go_sem, Tryz.func192]; rfl
theorem enterQ8 (a : Array Value) (w : World) : (callFunc 193 a).run Tryz.prog w = .ok (.enter 193 a) w := by simp [callFunc, go_sem, Tryz.func193]; rfl
theorem enterQ9 (a : Array Value) (w : World) : (callFunc 194 a).run Tryz.prog w = .ok (.enter 194 a) w := by simp [callFunc, go_sem, Tryz.func194]; rfl
theorem enterQ10 (a : Array Value) (w : World) : (callFunc 195 a).run Tryz.prog w = .ok (.enter 195 a) w := by simp [callFunc, go_sem, Tryz.func195]; rfl
theorem enterQ11 (a : Array Value) (w : World) : (callFunc 196 a).run Tryz.prog w = .ok (.enter 196 a) w := by simp [callFunc, go_sem, Tryz.func196]; rfl
theorem enterQ12 (a : Array Value) (w : World) : (callFunc 197 a).run Tryz.prog w = .ok (.enter 197 a) w := by simp [callFunc, go_sem, Tryz.func197]; rfl
theorem enterQ13 (a : Array Value) (w : World) : (callFunc 198 a).run Tryz.prog w = .ok (.enter 198 a) w := by simp [callFunc, go_sem, Tryz.func198]; rfl
theorem enterQ : ∀ j, j < 14 → ∀ (a : Array Value) (w : World), (callFunc (fnQ j) a).run Tryz.prog w = .ok (.enter (fnQ j) a) w
  | 0, _ => enterQ0
  | 1, _ => enterQ1
  | 2, _ => enterQ2
  | 3, _ => enterQ3
  | 4, _ => enterQ4
  | 5, _ => enterQ5
  | 6, _ => enterQ6
  | 7, _ => enterQ7
  | 8, _ => enterQ8
  | 9, _ => enterQ9
  | 10, _ => enterQ10
  | 11, _ => enterQ11
  | 12, _ => enterQ12
  | 13, _ => enterQ13
  | n + 14, h => absurd h (by omega)
def hasBy : Nat → Bool
  | 0 => false
  | 1 => false
  | 2 => false
  | 3 => true
  | 4 => false
  | 5 => true
  | 6 => false
  | 7 => false
  | 8 => false
  | 9 => false
  | 10 => false
  | 11 => false
  | 12 => false
  | 13 => false
  | _ => false
theorem ofBy0 (v : Value) (w : World) : Calls Tryz.prog 185 #[.iface 289 v] w fun e w' => e = .returned (.bool false) ∧ w' = w := by
  have h := isByLiteral v
  go_enter Tryz.func185, Tryz.ntmps185
  go_wp2_with fail
  go_ret
  exact ⟨rfl, rfl⟩
theorem ofBy1 (v : Value) (w : World) : Calls Tryz.prog 186 #[.iface 289 v] w fun e w' => e = .returned (.bool false) ∧ w' = w := by
  have h := isByStrict v
  go_enter Tryz.func186, Tryz.ntmps186
  go_wp2_with fail
  go_ret
  exact ⟨rfl, rfl⟩
theorem ofBy2 (v : Value) (w : World) : Calls Tryz.prog 187 #[.iface 289 v] w fun e w' => e = .returned (.bool false) ∧ w' = w := by
  have h := isByLazy v
  go_enter Tryz.func187, Tryz.ntmps187
  go_wp2_with fail
  go_ret
  exact ⟨rfl, rfl⟩
theorem ofBy3 (v : Value) (w : World) : Calls Tryz.prog 188 #[.iface 289 v] w fun e w' => e = .returned (.bool true) ∧ w' = w := by
  have h := isByBinder v
  go_enter Tryz.func188, Tryz.ntmps188
  go_wp2_with fail
  go_ret
  exact ⟨rfl, rfl⟩
theorem ofBy4 (v : Value) (w : World) : Calls Tryz.prog 189 #[.iface 289 v] w fun e w' => e = .returned (.bool false) ∧ w' = w := by
  have h := isByUser v
  go_enter Tryz.func189, Tryz.ntmps189
  go_wp2_with fail
  go_ret
  exact ⟨rfl, rfl⟩
theorem ofBy5 (v : Value) (w : World) : Calls Tryz.prog 190 #[.iface 289 v] w fun e w' => e = .returned (.bool true) ∧ w' = w := by
  have h := isByCaller v
  go_enter Tryz.func190, Tryz.ntmps190
  go_wp2_with fail
  go_ret
  exact ⟨rfl, rfl⟩
theorem ofBy6 (v : Value) (w : World) : Calls Tryz.prog 191 #[.iface 289 v] w fun e w' => e = .returned (.bool false) ∧ w' = w := by
  have h := isByPure v
  go_enter Tryz.func191, Tryz.ntmps191
  go_wp2_with fail
  go_ret
  exact ⟨rfl, rfl⟩
theorem ofBy7 (v : Value) (w : World) : Calls Tryz.prog 192 #[.iface 289 v] w fun e w' => e = .returned (.bool false) ∧ w' = w := by
  have h := isByTotal v
  go_enter Tryz.func192, Tryz.ntmps192
  go_wp2_with fail
  go_ret
  exact ⟨rfl, rfl⟩
theorem ofBy8 (v : Value) (w : World) : Calls Tryz.prog 193 #[.iface 289 v] w fun e w' => e = .returned (.bool false) ∧ w' = w := by
  have h := isBySorted v
  go_enter Tryz.func193, Tryz.ntmps193
  go_wp2_with fail
  go_ret
  exact ⟨rfl, rfl⟩
theorem ofBy9 (v : Value) (w : World) : Calls Tryz.prog 194 #[.iface 289 v] w fun e w' => e = .returned (.bool false) ∧ w' = w := by
  have h := isBySugar v
  go_enter Tryz.func194, Tryz.ntmps194
  go_wp2_with fail
  go_ret
  exact ⟨rfl, rfl⟩
theorem ofBy10 (v : Value) (w : World) : Calls Tryz.prog 195 #[.iface 289 v] w fun e w' => e = .returned (.bool false) ∧ w' = w := by
  have h := isByFramed v
  go_enter Tryz.func195, Tryz.ntmps195
  go_wp2_with fail
  go_ret
  exact ⟨rfl, rfl⟩
theorem ofBy11 (v : Value) (w : World) : Calls Tryz.prog 196 #[.iface 289 v] w fun e w' => e = .returned (.bool false) ∧ w' = w := by
  have h := isByWrapped v
  go_enter Tryz.func196, Tryz.ntmps196
  go_wp2_with fail
  go_ret
  exact ⟨rfl, rfl⟩
theorem ofBy12 (v : Value) (w : World) : Calls Tryz.prog 197 #[.iface 289 v] w fun e w' => e = .returned (.bool false) ∧ w' = w := by
  have h := isByOrigin v
  go_enter Tryz.func197, Tryz.ntmps197
  go_wp2_with fail
  go_ret
  exact ⟨rfl, rfl⟩
theorem ofBy13 (v : Value) (w : World) : Calls Tryz.prog 198 #[.iface 289 v] w fun e w' => e = .returned (.bool false) ∧ w' = w := by
  have h := isByOpaque v
  go_enter Tryz.func198, Tryz.ntmps198
  go_wp2_with fail
  go_ret
  exact ⟨rfl, rfl⟩
theorem ofBy (v : Value) (w : World) : ∀ j, j < 14 → Calls Tryz.prog (fnQ j) #[.iface 289 v] w fun e w' => e = .returned (.bool (hasBy j)) ∧ w' = w
  | 0, _ => ofBy0 v w
  | 1, _ => ofBy1 v w
  | 2, _ => ofBy2 v w
  | 3, _ => ofBy3 v w
  | 4, _ => ofBy4 v w
  | 5, _ => ofBy5 v w
  | 6, _ => ofBy6 v w
  | 7, _ => ofBy7 v w
  | 8, _ => ofBy8 v w
  | 9, _ => ofBy9 v w
  | 10, _ => ofBy10 v w
  | 11, _ => ofBy11 v w
  | 12, _ => ofBy12 v w
  | 13, _ => ofBy13 v w
  | n + 14, h => absurd h (by omega)
set_option maxRecDepth 100000 in
set_option maxHeartbeats 4000000 in
theorem odd_By (a : Option Addr) (c : Nat) (xs : List ByteArray) (v : Value) (w : World) (hn : xs.length ≤ 1000) (h : TRow w a xs) (hall : ∀ j, j < 14 → hasBy j = inS (nmQ j) xs) : Calls Tryz.prog 69 #[.iface 289 v, .slice a xs.length c] w fun e w' => e = .returned (.tuple #[.string ⟨#[]⟩, .bool false]) ∧ Ext w w' := by
  have HC := hid (fun x w1 (hx : Ext w w1) => contains_any a c xs x w1 hn (h.later hx))
  have HALL := hid hall
  clear h hall
  generalize xs.length = xn at *
  go_enter Tryz.func69, Tryz.ntmps69
  go_wp2_with fail
  refine (abilQ_any w).mono ?_
  rintro e w1 ⟨rfl, hw1⟩
  have X1 := hid (show Ext w w1 from hw1 ▸ Ext.alloc _ _)
  have HA := hid (show w1.heap[w.heap.size]? = some (.cells abQ 211) from hw1 ▸ blk0 _ _)
  clear hw1
  go_wp2_with fail
  go_loopw [10] (fun q10 wr => ∃ j : Nat, j ≤ 14 ∧ q10 = .int .i64 j ∧ Ext w1 wr) (fun q10 _ => 14 - (intOf q10).toNat)
  case atStart => exact ⟨0, Nat.zero_le _, rfl, Ext.refl _⟩
  case round =>
    obtain ⟨j, hj, rfl, hx⟩ := hrel
    have HX := hid hx
    clear hx
    by_cases hlt : j < 14
    · have hlt' : (j : Int) < 14 := by omega
      obtain ⟨a0, a1, a2⟩ := abQ_at j hlt
      have p0 := cell_of (HX.out.block HA.out) a0
      have p1 := cell_of (HX.out.block HA.out) a1
      have p2 := cell_of (HX.out.block HA.out) a2
      have hgl := lt_of_cell p0
      have HOF := hid (fun w1 => ofBy v w1 j hlt)
      have henter := enterQ j hlt
      have HBQ := hid (HALL.out j hlt)
      clear a0 a1 a2
      generalize nmQ j = nj at *
      generalize tdQ j = tj at *
      generalize fnQ j = fj at *
      generalize hasBy j = bj at *
      obtain ⟨M, hM⟩ : ∃ M, wr.alloc (.cells #[.string nj, .bool tj, .func (.func fj) #[] #[]] 211) = M := ⟨_, rfl⟩
      have XM := hid (show Ext wr M from hM ▸ Ext.alloc _ _)
      have HM0 := hid (show M.heap[wr.heap.size]? = some (.cells #[.string nj, .bool tj, .func (.func fj) #[] #[]] 211) from hM ▸ blk0 _ _)
      have HSK := hid (show ∀ W', Ext M W' → (W'.cell? ⟨wr.heap.size, 0, none⟩ = some (.string nj) ∧ W'.cell? ⟨wr.heap.size, 2, none⟩ = some (.func (.func fj) #[] #[])) from fun W' X => ⟨cell_of (X.block HM0.out) rfl, cell_of (X.block HM0.out) rfl⟩)
      have HCN := hid (fun w1 (hx1 : Ext M w1) => HC.out nj w1 (X1.out.trans (HX.out.trans (XM.out.trans hx1))))
      rw [← HBQ.out] at HCN
      clear HBQ
      go_upto_region 4 with fail
      first | rw [hM] | skip
      clear hM p0 p1 p2
      go_cut [22] from 14 to 22 (fun s22 wx => s22 = .bool false ∧ Ext M wx)
      case first =>
        go_region_held3 (fun W' => W'.cell? ⟨wr.heap.size, 0, none⟩ = some (.string nj) ∧ W'.cell? ⟨wr.heap.size, 2, none⟩ = some (.func (.func fj) #[] #[]))
          (first | with_reducible exact HSK.out _ (Ext.refl _) | with_reducible exact HSK.out _ (Ext.refl _).drew | go_keep)
          (first
            | (go_at_call 135; refine (HCN.out _ (by repeat (first | with_reducible exact Ext.refl _ | with_reducible refine Ext.drew ?_))).mono ?_; rintro r u1 ⟨rfl, rfl⟩)
            | (refine (HOF.out _).mono ?_; rintro r u1 ⟨rfl, rfl⟩))
        all_goals
          go_wp2_with fail
          go_meet
          case rel => exact ⟨by simp, (by repeat (first | with_reducible exact Ext.refl _ | with_reducible refine Ext.drew ?_))⟩
      case rest =>
        obtain ⟨rfl, hxc⟩ := hcut
        have XC := hid hxc
        clear hxc
        go_wp2_with fail
        go_roundw
        case rel => exact ⟨j + 1, by omega, by go_num, HX.out.trans (XM.out.trans XC.out)⟩
        case measure => simp [intOf]; omega
    · obtain rfl : j = 14 := by omega
      go_wp2_with fail
      go_ret2
      exact ⟨rfl, X1.out.trans HX.out⟩
def hasTo : Nat → Bool
  | 0 => false
  | 1 => false
  | 2 => false
  | 3 => false
  | 4 => false
  | 5 => true
  | 6 => false
  | 7 => false
  | 8 => false
  | 9 => false
  | 10 => false
  | 11 => false
  | 12 => false
  | 13 => false
  | _ => false
theorem ofTo0 (v : Value) (w : World) : Calls Tryz.prog 185 #[.iface 286 v] w fun e w' => e = .returned (.bool false) ∧ w' = w := by
  have h := isToLiteral v
  go_enter Tryz.func185, Tryz.ntmps185
  go_wp2_with fail
  go_ret
  exact ⟨rfl, rfl⟩
theorem ofTo1 (v : Value) (w : World) : Calls Tryz.prog 186 #[.iface 286 v] w fun e w' => e = .returned (.bool false) ∧ w' = w := by
  have h := isToStrict v
  go_enter Tryz.func186, Tryz.ntmps186
  go_wp2_with fail
  go_ret
  exact ⟨rfl, rfl⟩
theorem ofTo2 (v : Value) (w : World) : Calls Tryz.prog 187 #[.iface 286 v] w fun e w' => e = .returned (.bool false) ∧ w' = w := by
  have h := isToLazy v
  go_enter Tryz.func187, Tryz.ntmps187
  go_wp2_with fail
  go_ret
  exact ⟨rfl, rfl⟩
theorem ofTo3 (v : Value) (w : World) : Calls Tryz.prog 188 #[.iface 286 v] w fun e w' => e = .returned (.bool false) ∧ w' = w := by
  have h := isToBinder v
  go_enter Tryz.func188, Tryz.ntmps188
  go_wp2_with fail
  go_ret
  exact ⟨rfl, rfl⟩
theorem ofTo4 (v : Value) (w : World) : Calls Tryz.prog 189 #[.iface 286 v] w fun e w' => e = .returned (.bool false) ∧ w' = w := by
  have h := isToUser v
  go_enter Tryz.func189, Tryz.ntmps189
  go_wp2_with fail
  go_ret
  exact ⟨rfl, rfl⟩
theorem ofTo5 (v : Value) (w : World) : Calls Tryz.prog 190 #[.iface 286 v] w fun e w' => e = .returned (.bool true) ∧ w' = w := by
  have h := isToCaller v
  go_enter Tryz.func190, Tryz.ntmps190
  go_wp2_with fail
  go_ret
  exact ⟨rfl, rfl⟩
theorem ofTo6 (v : Value) (w : World) : Calls Tryz.prog 191 #[.iface 286 v] w fun e w' => e = .returned (.bool false) ∧ w' = w := by
  have h := isToPure v
  go_enter Tryz.func191, Tryz.ntmps191
  go_wp2_with fail
  go_ret
  exact ⟨rfl, rfl⟩
theorem ofTo7 (v : Value) (w : World) : Calls Tryz.prog 192 #[.iface 286 v] w fun e w' => e = .returned (.bool false) ∧ w' = w := by
  have h := isToTotal v
  go_enter Tryz.func192, Tryz.ntmps192
  go_wp2_with fail
  go_ret
  exact ⟨rfl, rfl⟩
theorem ofTo8 (v : Value) (w : World) : Calls Tryz.prog 193 #[.iface 286 v] w fun e w' => e = .returned (.bool false) ∧ w' = w := by
  have h := isToSorted v
  go_enter Tryz.func193, Tryz.ntmps193
  go_wp2_with fail
  go_ret
  exact ⟨rfl, rfl⟩
theorem ofTo9 (v : Value) (w : World) : Calls Tryz.prog 194 #[.iface 286 v] w fun e w' => e = .returned (.bool false) ∧ w' = w := by
  have h := isToSugar v
  go_enter Tryz.func194, Tryz.ntmps194
  go_wp2_with fail
  go_ret
  exact ⟨rfl, rfl⟩
theorem ofTo10 (v : Value) (w : World) : Calls Tryz.prog 195 #[.iface 286 v] w fun e w' => e = .returned (.bool false) ∧ w' = w := by
  have h := isToFramed v
  go_enter Tryz.func195, Tryz.ntmps195
  go_wp2_with fail
  go_ret
  exact ⟨rfl, rfl⟩
theorem ofTo11 (v : Value) (w : World) : Calls Tryz.prog 196 #[.iface 286 v] w fun e w' => e = .returned (.bool false) ∧ w' = w := by
  have h := isToWrapped v
  go_enter Tryz.func196, Tryz.ntmps196
  go_wp2_with fail
  go_ret
  exact ⟨rfl, rfl⟩
theorem ofTo12 (v : Value) (w : World) : Calls Tryz.prog 197 #[.iface 286 v] w fun e w' => e = .returned (.bool false) ∧ w' = w := by
  have h := isToOrigin v
  go_enter Tryz.func197, Tryz.ntmps197
  go_wp2_with fail
  go_ret
  exact ⟨rfl, rfl⟩
theorem ofTo13 (v : Value) (w : World) : Calls Tryz.prog 198 #[.iface 286 v] w fun e w' => e = .returned (.bool false) ∧ w' = w := by
  have h := isToOpaque v
  go_enter Tryz.func198, Tryz.ntmps198
  go_wp2_with fail
  go_ret
  exact ⟨rfl, rfl⟩
theorem ofTo (v : Value) (w : World) : ∀ j, j < 14 → Calls Tryz.prog (fnQ j) #[.iface 286 v] w fun e w' => e = .returned (.bool (hasTo j)) ∧ w' = w
  | 0, _ => ofTo0 v w
  | 1, _ => ofTo1 v w
  | 2, _ => ofTo2 v w
  | 3, _ => ofTo3 v w
  | 4, _ => ofTo4 v w
  | 5, _ => ofTo5 v w
  | 6, _ => ofTo6 v w
  | 7, _ => ofTo7 v w
  | 8, _ => ofTo8 v w
  | 9, _ => ofTo9 v w
  | 10, _ => ofTo10 v w
  | 11, _ => ofTo11 v w
  | 12, _ => ofTo12 v w
  | 13, _ => ofTo13 v w
  | n + 14, h => absurd h (by omega)
set_option maxRecDepth 100000 in
set_option maxHeartbeats 4000000 in
theorem odd_To (a : Option Addr) (c : Nat) (xs : List ByteArray) (v : Value) (w : World) (hn : xs.length ≤ 1000) (h : TRow w a xs) (hall : ∀ j, j < 14 → hasTo j = inS (nmQ j) xs) : Calls Tryz.prog 69 #[.iface 286 v, .slice a xs.length c] w fun e w' => e = .returned (.tuple #[.string ⟨#[]⟩, .bool false]) ∧ Ext w w' := by
  have HC := hid (fun x w1 (hx : Ext w w1) => contains_any a c xs x w1 hn (h.later hx))
  have HALL := hid hall
  clear h hall
  generalize xs.length = xn at *
  go_enter Tryz.func69, Tryz.ntmps69
  go_wp2_with fail
  refine (abilQ_any w).mono ?_
  rintro e w1 ⟨rfl, hw1⟩
  have X1 := hid (show Ext w w1 from hw1 ▸ Ext.alloc _ _)
  have HA := hid (show w1.heap[w.heap.size]? = some (.cells abQ 211) from hw1 ▸ blk0 _ _)
  clear hw1
  go_wp2_with fail
  go_loopw [10] (fun q10 wr => ∃ j : Nat, j ≤ 14 ∧ q10 = .int .i64 j ∧ Ext w1 wr) (fun q10 _ => 14 - (intOf q10).toNat)
  case atStart => exact ⟨0, Nat.zero_le _, rfl, Ext.refl _⟩
  case round =>
    obtain ⟨j, hj, rfl, hx⟩ := hrel
    have HX := hid hx
    clear hx
    by_cases hlt : j < 14
    · have hlt' : (j : Int) < 14 := by omega
      obtain ⟨a0, a1, a2⟩ := abQ_at j hlt
      have p0 := cell_of (HX.out.block HA.out) a0
      have p1 := cell_of (HX.out.block HA.out) a1
      have p2 := cell_of (HX.out.block HA.out) a2
      have hgl := lt_of_cell p0
      have HOF := hid (fun w1 => ofTo v w1 j hlt)
      have henter := enterQ j hlt
      have HBQ := hid (HALL.out j hlt)
      clear a0 a1 a2
      generalize nmQ j = nj at *
      generalize tdQ j = tj at *
      generalize fnQ j = fj at *
      generalize hasTo j = bj at *
      obtain ⟨M, hM⟩ : ∃ M, wr.alloc (.cells #[.string nj, .bool tj, .func (.func fj) #[] #[]] 211) = M := ⟨_, rfl⟩
      have XM := hid (show Ext wr M from hM ▸ Ext.alloc _ _)
      have HM0 := hid (show M.heap[wr.heap.size]? = some (.cells #[.string nj, .bool tj, .func (.func fj) #[] #[]] 211) from hM ▸ blk0 _ _)
      have HSK := hid (show ∀ W', Ext M W' → (W'.cell? ⟨wr.heap.size, 0, none⟩ = some (.string nj) ∧ W'.cell? ⟨wr.heap.size, 2, none⟩ = some (.func (.func fj) #[] #[])) from fun W' X => ⟨cell_of (X.block HM0.out) rfl, cell_of (X.block HM0.out) rfl⟩)
      have HCN := hid (fun w1 (hx1 : Ext M w1) => HC.out nj w1 (X1.out.trans (HX.out.trans (XM.out.trans hx1))))
      rw [← HBQ.out] at HCN
      clear HBQ
      go_upto_region 4 with fail
      first | rw [hM] | skip
      clear hM p0 p1 p2
      go_cut [22] from 14 to 22 (fun s22 wx => s22 = .bool false ∧ Ext M wx)
      case first =>
        go_region_held3 (fun W' => W'.cell? ⟨wr.heap.size, 0, none⟩ = some (.string nj) ∧ W'.cell? ⟨wr.heap.size, 2, none⟩ = some (.func (.func fj) #[] #[]))
          (first | with_reducible exact HSK.out _ (Ext.refl _) | with_reducible exact HSK.out _ (Ext.refl _).drew | go_keep)
          (first
            | (go_at_call 135; refine (HCN.out _ (by repeat (first | with_reducible exact Ext.refl _ | with_reducible refine Ext.drew ?_))).mono ?_; rintro r u1 ⟨rfl, rfl⟩)
            | (refine (HOF.out _).mono ?_; rintro r u1 ⟨rfl, rfl⟩))
        all_goals
          go_wp2_with fail
          go_meet
          case rel => exact ⟨by simp, (by repeat (first | with_reducible exact Ext.refl _ | with_reducible refine Ext.drew ?_))⟩
      case rest =>
        obtain ⟨rfl, hxc⟩ := hcut
        have XC := hid hxc
        clear hxc
        go_wp2_with fail
        go_roundw
        case rel => exact ⟨j + 1, by omega, by go_num, HX.out.trans (XM.out.trans XC.out)⟩
        case measure => simp [intOf]; omega
    · obtain rfl : j = 14 := by omega
      go_wp2_with fail
      go_ret2
      exact ⟨rfl, X1.out.trans HX.out⟩
def hasLz : Nat → Bool
  | 0 => false
  | 1 => false
  | 2 => true
  | 3 => false
  | 4 => false
  | 5 => false
  | 6 => true
  | 7 => true
  | 8 => true
  | 9 => false
  | 10 => false
  | 11 => false
  | 12 => false
  | 13 => false
  | _ => false
theorem ofLz0 (v : Value) (w : World) : Calls Tryz.prog 185 #[.iface 351 v] w fun e w' => e = .returned (.bool false) ∧ w' = w := by
  have h := isLzLiteral v
  go_enter Tryz.func185, Tryz.ntmps185
  go_wp2_with fail
  go_ret
  exact ⟨rfl, rfl⟩
theorem ofLz1 (v : Value) (w : World) : Calls Tryz.prog 186 #[.iface 351 v] w fun e w' => e = .returned (.bool false) ∧ w' = w := by
  have h := isLzStrict v
  go_enter Tryz.func186, Tryz.ntmps186
  go_wp2_with fail
  go_ret
  exact ⟨rfl, rfl⟩
theorem ofLz2 (v : Value) (w : World) : Calls Tryz.prog 187 #[.iface 351 v] w fun e w' => e = .returned (.bool true) ∧ w' = w := by
  have h := isLzLazy v
  go_enter Tryz.func187, Tryz.ntmps187
  go_wp2_with fail
  go_ret
  exact ⟨rfl, rfl⟩
theorem ofLz3 (v : Value) (w : World) : Calls Tryz.prog 188 #[.iface 351 v] w fun e w' => e = .returned (.bool false) ∧ w' = w := by
  have h := isLzBinder v
  go_enter Tryz.func188, Tryz.ntmps188
  go_wp2_with fail
  go_ret
  exact ⟨rfl, rfl⟩
theorem ofLz4 (v : Value) (w : World) : Calls Tryz.prog 189 #[.iface 351 v] w fun e w' => e = .returned (.bool false) ∧ w' = w := by
  have h := isLzUser v
  go_enter Tryz.func189, Tryz.ntmps189
  go_wp2_with fail
  go_ret
  exact ⟨rfl, rfl⟩
theorem ofLz5 (v : Value) (w : World) : Calls Tryz.prog 190 #[.iface 351 v] w fun e w' => e = .returned (.bool false) ∧ w' = w := by
  have h := isLzCaller v
  go_enter Tryz.func190, Tryz.ntmps190
  go_wp2_with fail
  go_ret
  exact ⟨rfl, rfl⟩
theorem ofLz6 (v : Value) (w : World) : Calls Tryz.prog 191 #[.iface 351 v] w fun e w' => e = .returned (.bool true) ∧ w' = w := by
  have h := isLzPure v
  go_enter Tryz.func191, Tryz.ntmps191
  go_wp2_with fail
  go_ret
  exact ⟨rfl, rfl⟩
theorem ofLz7 (v : Value) (w : World) : Calls Tryz.prog 192 #[.iface 351 v] w fun e w' => e = .returned (.bool true) ∧ w' = w := by
  have h := isLzTotal v
  go_enter Tryz.func192, Tryz.ntmps192
  go_wp2_with fail
  go_ret
  exact ⟨rfl, rfl⟩
theorem ofLz8 (v : Value) (w : World) : Calls Tryz.prog 193 #[.iface 351 v] w fun e w' => e = .returned (.bool true) ∧ w' = w := by
  have h := isLzSorted v
  go_enter Tryz.func193, Tryz.ntmps193
  go_wp2_with fail
  go_ret
  exact ⟨rfl, rfl⟩
theorem ofLz9 (v : Value) (w : World) : Calls Tryz.prog 194 #[.iface 351 v] w fun e w' => e = .returned (.bool false) ∧ w' = w := by
  have h := isLzSugar v
  go_enter Tryz.func194, Tryz.ntmps194
  go_wp2_with fail
  go_ret
  exact ⟨rfl, rfl⟩
theorem ofLz10 (v : Value) (w : World) : Calls Tryz.prog 195 #[.iface 351 v] w fun e w' => e = .returned (.bool false) ∧ w' = w := by
  have h := isLzFramed v
  go_enter Tryz.func195, Tryz.ntmps195
  go_wp2_with fail
  go_ret
  exact ⟨rfl, rfl⟩
theorem ofLz11 (v : Value) (w : World) : Calls Tryz.prog 196 #[.iface 351 v] w fun e w' => e = .returned (.bool false) ∧ w' = w := by
  have h := isLzWrapped v
  go_enter Tryz.func196, Tryz.ntmps196
  go_wp2_with fail
  go_ret
  exact ⟨rfl, rfl⟩
theorem ofLz12 (v : Value) (w : World) : Calls Tryz.prog 197 #[.iface 351 v] w fun e w' => e = .returned (.bool false) ∧ w' = w := by
  have h := isLzOrigin v
  go_enter Tryz.func197, Tryz.ntmps197
  go_wp2_with fail
  go_ret
  exact ⟨rfl, rfl⟩
theorem ofLz13 (v : Value) (w : World) : Calls Tryz.prog 198 #[.iface 351 v] w fun e w' => e = .returned (.bool false) ∧ w' = w := by
  have h := isLzOpaque v
  go_enter Tryz.func198, Tryz.ntmps198
  go_wp2_with fail
  go_ret
  exact ⟨rfl, rfl⟩
theorem ofLz (v : Value) (w : World) : ∀ j, j < 14 → Calls Tryz.prog (fnQ j) #[.iface 351 v] w fun e w' => e = .returned (.bool (hasLz j)) ∧ w' = w
  | 0, _ => ofLz0 v w
  | 1, _ => ofLz1 v w
  | 2, _ => ofLz2 v w
  | 3, _ => ofLz3 v w
  | 4, _ => ofLz4 v w
  | 5, _ => ofLz5 v w
  | 6, _ => ofLz6 v w
  | 7, _ => ofLz7 v w
  | 8, _ => ofLz8 v w
  | 9, _ => ofLz9 v w
  | 10, _ => ofLz10 v w
  | 11, _ => ofLz11 v w
  | 12, _ => ofLz12 v w
  | 13, _ => ofLz13 v w
  | n + 14, h => absurd h (by omega)
set_option maxRecDepth 100000 in
set_option maxHeartbeats 4000000 in
theorem odd_Lz (a : Option Addr) (c : Nat) (xs : List ByteArray) (v : Value) (w : World) (hn : xs.length ≤ 1000) (h : TRow w a xs) (hall : ∀ j, j < 14 → hasLz j = inS (nmQ j) xs) : Calls Tryz.prog 69 #[.iface 351 v, .slice a xs.length c] w fun e w' => e = .returned (.tuple #[.string ⟨#[]⟩, .bool false]) ∧ Ext w w' := by
  have HC := hid (fun x w1 (hx : Ext w w1) => contains_any a c xs x w1 hn (h.later hx))
  have HALL := hid hall
  clear h hall
  generalize xs.length = xn at *
  go_enter Tryz.func69, Tryz.ntmps69
  go_wp2_with fail
  refine (abilQ_any w).mono ?_
  rintro e w1 ⟨rfl, hw1⟩
  have X1 := hid (show Ext w w1 from hw1 ▸ Ext.alloc _ _)
  have HA := hid (show w1.heap[w.heap.size]? = some (.cells abQ 211) from hw1 ▸ blk0 _ _)
  clear hw1
  go_wp2_with fail
  go_loopw [10] (fun q10 wr => ∃ j : Nat, j ≤ 14 ∧ q10 = .int .i64 j ∧ Ext w1 wr) (fun q10 _ => 14 - (intOf q10).toNat)
  case atStart => exact ⟨0, Nat.zero_le _, rfl, Ext.refl _⟩
  case round =>
    obtain ⟨j, hj, rfl, hx⟩ := hrel
    have HX := hid hx
    clear hx
    by_cases hlt : j < 14
    · have hlt' : (j : Int) < 14 := by omega
      obtain ⟨a0, a1, a2⟩ := abQ_at j hlt
      have p0 := cell_of (HX.out.block HA.out) a0
      have p1 := cell_of (HX.out.block HA.out) a1
      have p2 := cell_of (HX.out.block HA.out) a2
      have hgl := lt_of_cell p0
      have HOF := hid (fun w1 => ofLz v w1 j hlt)
      have henter := enterQ j hlt
      have HBQ := hid (HALL.out j hlt)
      clear a0 a1 a2
      generalize nmQ j = nj at *
      generalize tdQ j = tj at *
      generalize fnQ j = fj at *
      generalize hasLz j = bj at *
      obtain ⟨M, hM⟩ : ∃ M, wr.alloc (.cells #[.string nj, .bool tj, .func (.func fj) #[] #[]] 211) = M := ⟨_, rfl⟩
      have XM := hid (show Ext wr M from hM ▸ Ext.alloc _ _)
      have HM0 := hid (show M.heap[wr.heap.size]? = some (.cells #[.string nj, .bool tj, .func (.func fj) #[] #[]] 211) from hM ▸ blk0 _ _)
      have HSK := hid (show ∀ W', Ext M W' → (W'.cell? ⟨wr.heap.size, 0, none⟩ = some (.string nj) ∧ W'.cell? ⟨wr.heap.size, 2, none⟩ = some (.func (.func fj) #[] #[])) from fun W' X => ⟨cell_of (X.block HM0.out) rfl, cell_of (X.block HM0.out) rfl⟩)
      have HCN := hid (fun w1 (hx1 : Ext M w1) => HC.out nj w1 (X1.out.trans (HX.out.trans (XM.out.trans hx1))))
      rw [← HBQ.out] at HCN
      clear HBQ
      go_upto_region 4 with fail
      first | rw [hM] | skip
      clear hM p0 p1 p2
      go_cut [22] from 14 to 22 (fun s22 wx => s22 = .bool false ∧ Ext M wx)
      case first =>
        go_region_held3 (fun W' => W'.cell? ⟨wr.heap.size, 0, none⟩ = some (.string nj) ∧ W'.cell? ⟨wr.heap.size, 2, none⟩ = some (.func (.func fj) #[] #[]))
          (first | with_reducible exact HSK.out _ (Ext.refl _) | with_reducible exact HSK.out _ (Ext.refl _).drew | go_keep)
          (first
            | (go_at_call 135; refine (HCN.out _ (by repeat (first | with_reducible exact Ext.refl _ | with_reducible refine Ext.drew ?_))).mono ?_; rintro r u1 ⟨rfl, rfl⟩)
            | (refine (HOF.out _).mono ?_; rintro r u1 ⟨rfl, rfl⟩))
        all_goals
          go_wp2_with fail
          go_meet
          case rel => exact ⟨by simp, (by repeat (first | with_reducible exact Ext.refl _ | with_reducible refine Ext.drew ?_))⟩
      case rest =>
        obtain ⟨rfl, hxc⟩ := hcut
        have XC := hid hxc
        clear hxc
        go_wp2_with fail
        go_roundw
        case rel => exact ⟨j + 1, by omega, by go_num, HX.out.trans (XM.out.trans XC.out)⟩
        case measure => simp [intOf]; omega
    · obtain rfl : j = 14 := by omega
      go_wp2_with fail
      go_ret2
      exact ⟨rfl, X1.out.trans HX.out⟩
def hasEc : Nat → Bool
  | 0 => false
  | 1 => false
  | 2 => true
  | 3 => true
  | 4 => false
  | 5 => false
  | 6 => true
  | 7 => false
  | 8 => true
  | 9 => false
  | 10 => false
  | 11 => false
  | 12 => false
  | 13 => false
  | _ => false
theorem ofEc0 (v : Value) (w : World) : Calls Tryz.prog 185 #[.iface 275 v] w fun e w' => e = .returned (.bool false) ∧ w' = w := by
  have h := isEcLiteral v
  go_enter Tryz.func185, Tryz.ntmps185
  go_wp2_with fail
  go_ret
  exact ⟨rfl, rfl⟩
theorem ofEc1 (v : Value) (w : World) : Calls Tryz.prog 186 #[.iface 275 v] w fun e w' => e = .returned (.bool false) ∧ w' = w := by
  have h := isEcStrict v
  go_enter Tryz.func186, Tryz.ntmps186
  go_wp2_with fail
  go_ret
  exact ⟨rfl, rfl⟩
theorem ofEc2 (v : Value) (w : World) : Calls Tryz.prog 187 #[.iface 275 v] w fun e w' => e = .returned (.bool true) ∧ w' = w := by
  have h := isEcLazy v
  go_enter Tryz.func187, Tryz.ntmps187
  go_wp2_with fail
  go_ret
  exact ⟨rfl, rfl⟩
theorem ofEc3 (v : Value) (w : World) : Calls Tryz.prog 188 #[.iface 275 v] w fun e w' => e = .returned (.bool true) ∧ w' = w := by
  have h := isEcBinder v
  go_enter Tryz.func188, Tryz.ntmps188
  go_wp2_with fail
  go_ret
  exact ⟨rfl, rfl⟩
theorem ofEc4 (v : Value) (w : World) : Calls Tryz.prog 189 #[.iface 275 v] w fun e w' => e = .returned (.bool false) ∧ w' = w := by
  have h := isEcUser v
  go_enter Tryz.func189, Tryz.ntmps189
  go_wp2_with fail
  go_ret
  exact ⟨rfl, rfl⟩
theorem ofEc5 (v : Value) (w : World) : Calls Tryz.prog 190 #[.iface 275 v] w fun e w' => e = .returned (.bool false) ∧ w' = w := by
  have h := isEcCaller v
  go_enter Tryz.func190, Tryz.ntmps190
  go_wp2_with fail
  go_ret
  exact ⟨rfl, rfl⟩
theorem ofEc6 (v : Value) (w : World) : Calls Tryz.prog 191 #[.iface 275 v] w fun e w' => e = .returned (.bool true) ∧ w' = w := by
  have h := isEcPure v
  go_enter Tryz.func191, Tryz.ntmps191
  go_wp2_with fail
  go_ret
  exact ⟨rfl, rfl⟩
theorem ofEc7 (v : Value) (w : World) : Calls Tryz.prog 192 #[.iface 275 v] w fun e w' => e = .returned (.bool false) ∧ w' = w := by
  have h := isEcTotal v
  go_enter Tryz.func192, Tryz.ntmps192
  go_wp2_with fail
  go_ret
  exact ⟨rfl, rfl⟩
theorem ofEc8 (v : Value) (w : World) : Calls Tryz.prog 193 #[.iface 275 v] w fun e w' => e = .returned (.bool true) ∧ w' = w := by
  have h := isEcSorted v
  go_enter Tryz.func193, Tryz.ntmps193
  go_wp2_with fail
  go_ret
  exact ⟨rfl, rfl⟩
theorem ofEc9 (v : Value) (w : World) : Calls Tryz.prog 194 #[.iface 275 v] w fun e w' => e = .returned (.bool false) ∧ w' = w := by
  have h := isEcSugar v
  go_enter Tryz.func194, Tryz.ntmps194
  go_wp2_with fail
  go_ret
  exact ⟨rfl, rfl⟩
theorem ofEc10 (v : Value) (w : World) : Calls Tryz.prog 195 #[.iface 275 v] w fun e w' => e = .returned (.bool false) ∧ w' = w := by
  have h := isEcFramed v
  go_enter Tryz.func195, Tryz.ntmps195
  go_wp2_with fail
  go_ret
  exact ⟨rfl, rfl⟩
theorem ofEc11 (v : Value) (w : World) : Calls Tryz.prog 196 #[.iface 275 v] w fun e w' => e = .returned (.bool false) ∧ w' = w := by
  have h := isEcWrapped v
  go_enter Tryz.func196, Tryz.ntmps196
  go_wp2_with fail
  go_ret
  exact ⟨rfl, rfl⟩
theorem ofEc12 (v : Value) (w : World) : Calls Tryz.prog 197 #[.iface 275 v] w fun e w' => e = .returned (.bool false) ∧ w' = w := by
  have h := isEcOrigin v
  go_enter Tryz.func197, Tryz.ntmps197
  go_wp2_with fail
  go_ret
  exact ⟨rfl, rfl⟩
theorem ofEc13 (v : Value) (w : World) : Calls Tryz.prog 198 #[.iface 275 v] w fun e w' => e = .returned (.bool false) ∧ w' = w := by
  have h := isEcOpaque v
  go_enter Tryz.func198, Tryz.ntmps198
  go_wp2_with fail
  go_ret
  exact ⟨rfl, rfl⟩
theorem ofEc (v : Value) (w : World) : ∀ j, j < 14 → Calls Tryz.prog (fnQ j) #[.iface 275 v] w fun e w' => e = .returned (.bool (hasEc j)) ∧ w' = w
  | 0, _ => ofEc0 v w
  | 1, _ => ofEc1 v w
  | 2, _ => ofEc2 v w
  | 3, _ => ofEc3 v w
  | 4, _ => ofEc4 v w
  | 5, _ => ofEc5 v w
  | 6, _ => ofEc6 v w
  | 7, _ => ofEc7 v w
  | 8, _ => ofEc8 v w
  | 9, _ => ofEc9 v w
  | 10, _ => ofEc10 v w
  | 11, _ => ofEc11 v w
  | 12, _ => ofEc12 v w
  | 13, _ => ofEc13 v w
  | n + 14, h => absurd h (by omega)
set_option maxRecDepth 100000 in
set_option maxHeartbeats 4000000 in
theorem odd_Ec (a : Option Addr) (c : Nat) (xs : List ByteArray) (v : Value) (w : World) (hn : xs.length ≤ 1000) (h : TRow w a xs) (hall : ∀ j, j < 14 → hasEc j = inS (nmQ j) xs) : Calls Tryz.prog 69 #[.iface 275 v, .slice a xs.length c] w fun e w' => e = .returned (.tuple #[.string ⟨#[]⟩, .bool false]) ∧ Ext w w' := by
  have HC := hid (fun x w1 (hx : Ext w w1) => contains_any a c xs x w1 hn (h.later hx))
  have HALL := hid hall
  clear h hall
  generalize xs.length = xn at *
  go_enter Tryz.func69, Tryz.ntmps69
  go_wp2_with fail
  refine (abilQ_any w).mono ?_
  rintro e w1 ⟨rfl, hw1⟩
  have X1 := hid (show Ext w w1 from hw1 ▸ Ext.alloc _ _)
  have HA := hid (show w1.heap[w.heap.size]? = some (.cells abQ 211) from hw1 ▸ blk0 _ _)
  clear hw1
  go_wp2_with fail
  go_loopw [10] (fun q10 wr => ∃ j : Nat, j ≤ 14 ∧ q10 = .int .i64 j ∧ Ext w1 wr) (fun q10 _ => 14 - (intOf q10).toNat)
  case atStart => exact ⟨0, Nat.zero_le _, rfl, Ext.refl _⟩
  case round =>
    obtain ⟨j, hj, rfl, hx⟩ := hrel
    have HX := hid hx
    clear hx
    by_cases hlt : j < 14
    · have hlt' : (j : Int) < 14 := by omega
      obtain ⟨a0, a1, a2⟩ := abQ_at j hlt
      have p0 := cell_of (HX.out.block HA.out) a0
      have p1 := cell_of (HX.out.block HA.out) a1
      have p2 := cell_of (HX.out.block HA.out) a2
      have hgl := lt_of_cell p0
      have HOF := hid (fun w1 => ofEc v w1 j hlt)
      have henter := enterQ j hlt
      have HBQ := hid (HALL.out j hlt)
      clear a0 a1 a2
      generalize nmQ j = nj at *
      generalize tdQ j = tj at *
      generalize fnQ j = fj at *
      generalize hasEc j = bj at *
      obtain ⟨M, hM⟩ : ∃ M, wr.alloc (.cells #[.string nj, .bool tj, .func (.func fj) #[] #[]] 211) = M := ⟨_, rfl⟩
      have XM := hid (show Ext wr M from hM ▸ Ext.alloc _ _)
      have HM0 := hid (show M.heap[wr.heap.size]? = some (.cells #[.string nj, .bool tj, .func (.func fj) #[] #[]] 211) from hM ▸ blk0 _ _)
      have HSK := hid (show ∀ W', Ext M W' → (W'.cell? ⟨wr.heap.size, 0, none⟩ = some (.string nj) ∧ W'.cell? ⟨wr.heap.size, 2, none⟩ = some (.func (.func fj) #[] #[])) from fun W' X => ⟨cell_of (X.block HM0.out) rfl, cell_of (X.block HM0.out) rfl⟩)
      have HCN := hid (fun w1 (hx1 : Ext M w1) => HC.out nj w1 (X1.out.trans (HX.out.trans (XM.out.trans hx1))))
      rw [← HBQ.out] at HCN
      clear HBQ
      go_upto_region 4 with fail
      first | rw [hM] | skip
      clear hM p0 p1 p2
      go_cut [22] from 14 to 22 (fun s22 wx => s22 = .bool false ∧ Ext M wx)
      case first =>
        go_region_held3 (fun W' => W'.cell? ⟨wr.heap.size, 0, none⟩ = some (.string nj) ∧ W'.cell? ⟨wr.heap.size, 2, none⟩ = some (.func (.func fj) #[] #[]))
          (first | with_reducible exact HSK.out _ (Ext.refl _) | with_reducible exact HSK.out _ (Ext.refl _).drew | go_keep)
          (first
            | (go_at_call 135; refine (HCN.out _ (by repeat (first | with_reducible exact Ext.refl _ | with_reducible refine Ext.drew ?_))).mono ?_; rintro r u1 ⟨rfl, rfl⟩)
            | (refine (HOF.out _).mono ?_; rintro r u1 ⟨rfl, rfl⟩))
        all_goals
          go_wp2_with fail
          go_meet
          case rel => exact ⟨by simp, (by repeat (first | with_reducible exact Ext.refl _ | with_reducible refine Ext.drew ?_))⟩
      case rest =>
        obtain ⟨rfl, hxc⟩ := hcut
        have XC := hid hxc
        clear hxc
        go_wp2_with fail
        go_roundw
        case rel => exact ⟨j + 1, by omega, by go_num, HX.out.trans (XM.out.trans XC.out)⟩
        case measure => simp [intOf]; omega
    · obtain rfl : j = 14 := by omega
      go_wp2_with fail
      go_ret2
      exact ⟨rfl, X1.out.trans HX.out⟩

end Go.Proofs.YtnmcmjgfnncdmaaGreatDoor.Nd
