/-
  The abilities of package kit; whether a row may name abilities in an order: by contracts.
-/
import Derived.Test.YtaafcmmmkalgjaaGreatDoorBKind
import Derived.Deep.LoopGhost
namespace Go.Proofs.YtaafcmmmkalgjaaGreatDoor
open Go.RowKit
def nmQ : Nat → ByteArray
  | 0 => ⟨#[76, 105, 116, 101, 114, 97, 108]⟩
  | 1 => ⟨#[83, 116, 114, 105, 99, 116]⟩
  | 2 => ⟨#[76, 97, 122, 121]⟩
  | 3 => ⟨#[66, 105, 110, 100, 101, 114]⟩
  | 4 => ⟨#[85, 115, 101, 114]⟩
  | 5 => ⟨#[67, 97, 108, 108, 101, 114]⟩
  | 6 => ⟨#[80, 117, 114, 101]⟩
  | 7 => ⟨#[84, 111, 116, 97, 108]⟩
  | 8 => ⟨#[83, 111, 114, 116, 101, 100]⟩
  | 9 => ⟨#[83, 117, 103, 97, 114]⟩
  | 10 => ⟨#[70, 114, 97, 109, 101, 100]⟩
  | 11 => ⟨#[87, 114, 97, 112, 112, 101, 100]⟩
  | 12 => ⟨#[79, 114, 105, 103, 105, 110]⟩
  | 13 => ⟨#[79, 112, 97, 113, 117, 101]⟩
  | _ => ⟨#[]⟩
def tdQ : Nat → Bool
  | 0 => true
  | 1 => true
  | 2 => true
  | 3 => true
  | 4 => true
  | 5 => true
  | 6 => true
  | 7 => true
  | 8 => true
  | 9 => true
  | 10 => true
  | 11 => false
  | 12 => false
  | 13 => false
  | _ => false
def fnQ : Nat → Nat
  | 0 => 123
  | 1 => 124
  | 2 => 125
  | 3 => 126
  | 4 => 127
  | 5 => 128
  | 6 => 129
  | 7 => 130
  | 8 => 131
  | 9 => 132
  | 10 => 133
  | 11 => 134
  | 12 => 135
  | 13 => 136
  | _ => 0
def abQ : Array Value := #[.string ⟨#[76, 105, 116, 101, 114, 97, 108]⟩, .bool true, .func (.func 123) #[] #[], .string ⟨#[83, 116, 114, 105, 99, 116]⟩, .bool true, .func (.func 124) #[] #[], .string ⟨#[76, 97, 122, 121]⟩, .bool true, .func (.func 125) #[] #[], .string ⟨#[66, 105, 110, 100, 101, 114]⟩, .bool true, .func (.func 126) #[] #[], .string ⟨#[85, 115, 101, 114]⟩, .bool true, .func (.func 127) #[] #[], .string ⟨#[67, 97, 108, 108, 101, 114]⟩, .bool true, .func (.func 128) #[] #[], .string ⟨#[80, 117, 114, 101]⟩, .bool true, .func (.func 129) #[] #[], .string ⟨#[84, 111, 116, 97, 108]⟩, .bool true, .func (.func 130) #[] #[], .string ⟨#[83, 111, 114, 116, 101, 100]⟩, .bool true, .func (.func 131) #[] #[], .string ⟨#[83, 117, 103, 97, 114]⟩, .bool true, .func (.func 132) #[] #[], .string ⟨#[70, 114, 97, 109, 101, 100]⟩, .bool true, .func (.func 133) #[] #[], .string ⟨#[87, 114, 97, 112, 112, 101, 100]⟩, .bool false, .func (.func 134) #[] #[], .string ⟨#[79, 114, 105, 103, 105, 110]⟩, .bool false, .func (.func 135) #[] #[], .string ⟨#[79, 112, 97, 113, 117, 101]⟩, .bool false, .func (.func 136) #[] #[]]
theorem abQ_at : ∀ j, j < 14 → abQ[j * 3]? = some (.string (nmQ j)) ∧ abQ[j * 3 + 1]? = some (.bool (tdQ j)) ∧ abQ[j * 3 + 2]? = some (.func (.func (fnQ j)) #[] #[])
  | 0, _ => ⟨rfl, rfl, rfl⟩
  | 1, _ => ⟨rfl, rfl, rfl⟩
  | 2, _ => ⟨rfl, rfl, rfl⟩
  | 3, _ => ⟨rfl, rfl, rfl⟩
  | 4, _ => ⟨rfl, rfl, rfl⟩
  | 5, _ => ⟨rfl, rfl, rfl⟩
  | 6, _ => ⟨rfl, rfl, rfl⟩
  | 7, _ => ⟨rfl, rfl, rfl⟩
  | 8, _ => ⟨rfl, rfl, rfl⟩
  | 9, _ => ⟨rfl, rfl, rfl⟩
  | 10, _ => ⟨rfl, rfl, rfl⟩
  | 11, _ => ⟨rfl, rfl, rfl⟩
  | 12, _ => ⟨rfl, rfl, rfl⟩
  | 13, _ => ⟨rfl, rfl, rfl⟩
  | n + 14, h => absurd h (by omega)

theorem abilQ_any (w : World) : Calls Tryz.prog 96 #[] w fun e w' => e = .returned (.slice (some ⟨w.heap.size, 0, none⟩) 14 14) ∧ w' = w.alloc (.cells abQ 197) := by
  have hmf : ∀ (fn : Fn) (first cap : Array Value) (w : World), (Instr.makeFunc fn first cap).run Tryz.prog w = .ok (.func fn first cap) w := fun _ _ _ _ => rfl
  go_enter Tryz.func96, Tryz.ntmps96
  go_wp2_with fail
  go_ret
  exact ⟨rfl, rfl⟩
/-- An ability that a row may name, by its name. -/
def hitQ (name : ByteArray) (j : Nat) : Bool := tdQ j && decide (nmQ j = name)
/-- The first of them from l on; 14: there is none. -/
def nextQ (name : ByteArray) : Nat → Nat → Nat
  | 0, _ => 14
  | f + 1, l => if hitQ name l = true then l else nextQ name f (l + 1)
set_option maxRecDepth 100000 in
theorem ord1_any (nm : ByteArray) (td : Bool) (fn : Nat) (p : Nat) (name : ByteArray) (w : World) (h : w.cell? ⟨p, 0, none⟩ = some (.string name)) : Calls Tryz.prog 154 #[.agg #[.string nm, .bool td, .func (.func fn) #[] #[]], .pointer (some ⟨p, 0, none⟩)] w fun e w' => e = .returned (.bool (td && decide (nm = name))) ∧ Ext w w' := by
  have heq := str_eqb nm name
  have hpl : p < w.heap.size := lt_of_cell h
  cases td with
  | true =>
    go_enter Tryz.func154, Tryz.ntmps154
    go_wp2_with fail
    go_ret
    exact ⟨ret_bool (by simp), Ext.alloc _ _⟩
  | false =>
    go_enter Tryz.func154, Tryz.ntmps154
    go_wp2_with fail
    go_ret
    exact ⟨ret_bool (by simp), Ext.alloc _ _⟩
/-- What IndexFunc tells of it. -/
def ixQ (i l : Nat) : Int := if i < 14 then (i : Int) - l else -1
theorem ixQ_in {i l : Nat} (h : i < 14) : ixQ i l = (i : Int) - l := if_pos h
theorem ixQ_out {i l : Nat} (h : ¬ i < 14) : ixQ i l = -1 := if_neg h
theorem nextQ_hit {name : ByteArray} {f l : Nat} (h : hitQ name l = true) : nextQ name (f + 1) l = l := if_pos h
theorem nextQ_miss {name : ByteArray} {f l : Nat} (h : hitQ name l = false) : nextQ name (f + 1) l = nextQ name f (l + 1) := if_neg (by rw [h]; decide)
set_option maxRecDepth 100000 in
set_option maxHeartbeats 1000000 in
theorem index_any (g l c p : Nat) (name : ByteArray) (w : World) (hl : l ≤ 14) (hg : w.heap[g]? = some (.cells abQ 197)) (hp : w.cell? ⟨p, 0, none⟩ = some (.string name)) :
    Calls Tryz.prog 153 #[.slice (some ⟨g, l * 3, none⟩) (14 - l) c, .func (.func 154) #[] #[.pointer (some ⟨p, 0, none⟩)]] w fun e w' => e = .returned (.int .i64 (ixQ (nextQ name (14 - l) l) l)) ∧ Ext w w' := by
  obtain ⟨n, hn⟩ : ∃ n, 14 - l = n := ⟨_, rfl⟩
  have HN := hid hn
  have hn14 : n ≤ 14 := by omega
  have HG := hid hg
  have HP := hid hp
  have HR := hid (show nextQ name (14 - l) l = nextQ name n l by rw [hn])
  rw [HR.out, hn]
  clear hn hg hp HR
  go_enter Tryz.func153, Tryz.ntmps153
  go_wp2_with fail
  go_loopw [5, 8] (fun _ q8 wr => ∃ j : Nat, j ≤ n ∧ q8 = .int .i64 j ∧ nextQ name n l = nextQ name (n - j) (l + j) ∧ Ext w wr) (fun _ q8 _ => n - (intOf q8).toNat)
  case atStart => exact ⟨0, Nat.zero_le _, rfl, rfl, Ext.refl _⟩
  case round =>
    obtain ⟨j, hj, rfl, hnx, hx⟩ := hrel
    have HX := hid hx
    have HNX := hid hnx
    clear hx hnx
    by_cases hlt : j < n
    · have hlt' : (j : Int) < n := by omega
      obtain ⟨a0, a1, a2⟩ := abQ_at (l + j) (by have := HN.out; omega)
      have hbl := HX.out.block HG.out
      have e3 : (l + j) * 3 = l * 3 + j * 3 := by omega
      rw [e3] at a0 a1 a2
      have p0 : wr.cell? ⟨g, l * 3 + j * 3, none⟩ = some (.string (nmQ (l + j))) := cell_of hbl a0
      have p1 : wr.cell? ⟨g, l * 3 + j * 3 + 1, none⟩ = some (.bool (tdQ (l + j))) := cell_of hbl a1
      have p2 : wr.cell? ⟨g, l * 3 + j * 3 + 2, none⟩ = some (.func (.func (fnQ (l + j))) #[] #[]) := cell_of hbl a2
      have hpc := HP.out
      have HPC := hid ((Below.cell HX.out (lt_of_cell hpc)).trans hpc)
      clear a0 a1 a2 hbl e3 hpc
      have HH := hid (show hitQ name (l + j) = (tdQ (l + j) && decide (nmQ (l + j) = name)) from rfl)
      have HM := hid (show hitQ name (l + j) = false → nextQ name n l = nextQ name (n - (j + 1)) (l + (j + 1)) from fun h => by
        rw [HNX.out, show n - j = (n - (j + 1)) + 1 by omega, nextQ_miss h]; rfl)
      have HT := hid (show hitQ name (l + j) = true → nextQ name n l = l + j from fun h => by
        rw [HNX.out, show n - j = (n - (j + 1)) + 1 by omega, nextQ_hit h])
      generalize nmQ (l + j) = nj at *
      generalize tdQ (l + j) = tj at *
      generalize fnQ (l + j) = fj at *
      go_wp2_with fail
      refine (ord1_any nj tj fj p name _ HPC.out).mono ?_
      rintro e w2 ⟨rfl, hx2⟩
      have HX2 := hid (HX.out.trans hx2)
      clear hx2
      obtain ⟨hb, hhb⟩ : ∃ b, (tj && decide (nj = name)) = b := ⟨_, rfl⟩
      rw [hhb] at HH ⊢
      clear hhb
      cases hb with
      | true =>
        have HV := hid (show nextQ name n l = l + j from HT.out HH.out)
        go_wp2_with fail
        go_ret
        exact ⟨ret_int (by rw [HV.out, ixQ_in (by have := HN.out; omega)]; omega), HX2.out⟩
      | false =>
        have HV := hid (HM.out HH.out)
        go_wp2_with fail
        go_roundw
        case rel => exact ⟨j + 1, by omega, by go_num, HV.out, HX2.out⟩
        case measure => simp [intOf]; omega
    · have hje : j = n := by omega
      have hlt2 : decide ((j : Int) < n) = false := decide_eq_false (by omega)
      have hlt3 : ¬ (j : Int) < n := by omega
      have HV := hid (show nextQ name n l = 14 by rw [HNX.out, show n - j = 0 by omega]; rfl)
      clear hje
      go_wp2_with fail
      go_ret
      exact ⟨ret_int (by rw [HV.out, ixQ_out (by omega)]), HX.out⟩
theorem tdQ_lt : ∀ j, tdQ j = true → j < 11
  | 0, _ => by decide
  | 1, _ => by decide
  | 2, _ => by decide
  | 3, _ => by decide
  | 4, _ => by decide
  | 5, _ => by decide
  | 6, _ => by decide
  | 7, _ => by decide
  | 8, _ => by decide
  | 9, _ => by decide
  | 10, _ => by decide
  | 11, h => by cases h
  | 12, h => by cases h
  | 13, h => by cases h

  | n + 14, h => by cases h
theorem nextQ_lt {name : ByteArray} : ∀ {f l : Nat}, nextQ name f l < 14 → nextQ name f l < 11 ∧ l ≤ nextQ name f l
  | 0, l, h => absurd h (by simp [nextQ])
  | f + 1, l, h => by
    by_cases hh : hitQ name l = true
    · rw [nextQ_hit hh] at h ⊢
      unfold hitQ at hh
      simp only [Bool.and_eq_true] at hh
      exact ⟨tdQ_lt l hh.1, Nat.le_refl _⟩
    · have hh' : hitQ name l = false := by simpa using hh
      rw [nextQ_miss hh'] at h ⊢
      have := nextQ_lt h
      exact ⟨this.1, by omega⟩
def totalB : ByteArray := ⟨#[84, 111, 116, 97, 108]⟩
def pureB : ByteArray := ⟨#[80, 117, 114, 101]⟩
/-- May a row name these abilities, in this order? -/
def ordQ : Nat → Bool → List ByteArray → Bool
  | _, _, [] => true
  | l, pure, n :: r => if nextQ n (14 - l) l < 14 then (if (decide (n = totalB) && !pure) = true then false else ordQ (nextQ n (14 - l) l + 1) (pure || decide (n = pureB)) r) else false
theorem ordQ_cons (l : Nat) (pure : Bool) (n : ByteArray) (r : List ByteArray) : ordQ l pure (n :: r) = if nextQ n (14 - l) l < 14 then (if (decide (n = totalB) && !pure) = true then false else ordQ (nextQ n (14 - l) l + 1) (pure || decide (n = pureB)) r) else false := rfl
/-- Texts in a row. -/
def TRow (w : World) (a : Option Addr) (xs : List ByteArray) : Prop := xs = [] ∨ ∃ g off, a = some ⟨g, off, none⟩ ∧ ∀ j, (h : j < xs.length) → w.cell? ⟨g, off + j, none⟩ = some (.string xs[j])
theorem TRow.later {w w' : World} {a : Option Addr} {xs : List ByteArray} (h : TRow w a xs) (hx : Ext w w') : TRow w' a xs := by
  rcases h with h | ⟨g, off, ha, h⟩
  · exact .inl h
  · exact .inr ⟨g, off, ha, fun j hj => (Below.cell hx (lt_of_cell (h j hj))).trans (h j hj)⟩
end Go.Proofs.YtaafcmmmkalgjaaGreatDoor
/-
  kit.ordered by a contract.
-/
namespace Go.Proofs.YtaafcmmmkalgjaaGreatDoor
open Go.RowKit
set_option maxRecDepth 100000 in
set_option maxHeartbeats 2000000 in
theorem ordered_any (a : Option Addr) (c : Nat) (xs : List ByteArray) (w : World) (hn : xs.length ≤ 100000000) (hr : TRow w a xs) : Calls Tryz.prog 146 #[.slice a xs.length c] w fun e w' => e = .returned (.bool (ordQ 0 false xs)) ∧ Ext w w' := by
  obtain ⟨n, hne⟩ : ∃ n, xs.length = n := ⟨_, rfl⟩
  have HNE := hid hne
  have HR := hid hr
  rw [hne] at hn ⊢
  clear hr hne
  go_enter Tryz.func146, Tryz.ntmps146
  go_wp2_with fail
  refine (abilQ_any w).mono ?_
  rintro e w1 ⟨rfl, hw1⟩
  have HB := hid (show w1.heap[w.heap.size]? = some (.cells abQ 197) from hw1 ▸ blk0 _ _)
  have X1 := hid (show Ext w w1 from hw1 ▸ Ext.alloc _ _)
  clear hw1
  generalize w.heap.size = g at HB ⊢
  go_wp2_with fail
  go_loopw [3, 4, 11] (fun q3 q4 q11 wr => ∃ (j l : Nat) (pure : Bool), j ≤ n ∧ q11 = .int .i64 j ∧ q3 = .slice (some ⟨g, l * 3, none⟩) (14 - l) (14 - l) ∧ q4 = .bool pure ∧ l ≤ 11 ∧ ordQ 0 false xs = ordQ l pure (xs.drop j) ∧ Ext w1 wr) (fun _ _ q11 _ => n - (intOf q11).toNat)
  case atStart => exact ⟨0, 0, false, Nat.zero_le _, rfl, rfl, rfl, Nat.zero_le _, rfl, Ext.refl _⟩
  case round =>
    obtain ⟨j, l, pure, hj, rfl, rfl, rfl, hl, hrec, hx⟩ := hrel
    have HX := hid hx
    have HRC := hid hrec
    clear hx hrec
    by_cases hlt : j < n
    · have hlt' : (j : Int) < n := by omega
      have hjx : j < xs.length := by rw [HNE.out]; exact hlt
      rcases HR.out with e0 | ⟨gs, off, rfl, hcells⟩
      · rw [e0] at hjx; exact absurd hjx (Nat.not_lt_zero _)
      have hc0 := hcells j hjx
      have hc1 : wr.cell? ⟨gs, off + j, none⟩ = some (.string xs[j]) := (Below.cell (X1.out.trans HX.out) (lt_of_cell hc0)).trans hc0
      have HRC2 := hid (HRC.out.trans (by rw [List.drop_eq_getElem_cons hjx]))
      generalize xs[j] = x at *
      clear hcells hc0 hjx
      have HIX := hid (fun w2 h1 h2 => index_any g l (14 - l) wr.heap.size x w2 (by omega) h1 h2)
      obtain ⟨i, hi⟩ : ∃ i, nextQ x (14 - l) l = i := ⟨_, rfl⟩
      have HLT := hid (fun h => nextQ_lt (name := x) (f := 14 - l) (l := l) h)
      have HO := hid (show ordQ 0 false xs = if i < 14 then (if (decide (x = totalB) && !pure) = true then false else ordQ (i + 1) (pure || decide (x = pureB)) (xs.drop (j + 1))) else false by rw [HRC2.out, ordQ_cons, hi])
      rw [hi] at HIX HLT
      clear hi HRC HRC2
      go_wp2_with fail
      refine (HIX.out _ ((HX.out.trans (Ext.alloc _ _)).block HB.out) (cell_of (blk0 _ _) rfl)).mono ?_
      rintro e w2 ⟨rfl, hx2⟩
      have HX2 := hid (HX.out.trans ((Ext.alloc _ _).trans hx2))
      have hnc : w2.cell? ⟨wr.heap.size, 0, none⟩ = some (.string x) := cell_of (hx2.block (blk0 _ _)) rfl
      clear hx2
      by_cases hi14 : i < 14
      · obtain ⟨hi11, hli⟩ := HLT.out hi14
        obtain ⟨k, rfl⟩ : ∃ k, i = l + k := ⟨i - l, by omega⟩
        have HIV := hid (show ixQ (l + k) l = (k : Int) by rw [ixQ_in hi14]; omega)
        have hk11 : (k : Int) ≤ 11 := by omega
        have hqt : (x.toList == [84, 111, 116, 97, 108]) = decide (x = totalB) := by rw [← str_eqb x totalB, show totalB.toList = [84, 111, 116, 97, 108] by rw [ByteArray.toList_eq]; rfl]
        have hqp : (x.toList == [80, 117, 114, 101]) = decide (x = pureB) := by rw [← str_eqb x pureB, show pureB.toList = [80, 117, 114, 101] by rw [ByteArray.toList_eq]; rfl]
        rw [HIV.out]
        rw [if_pos hi14] at HO
        cases pure with
        | true =>
          have HO2 := hid (show ordQ 0 false xs = ordQ (l + k + 1) true (xs.drop (j + 1)) by rw [HO.out]; simp)
          obtain ⟨bt, hbt⟩ : ∃ b, decide (x = totalB) = b := ⟨_, rfl⟩
          rw [hbt] at hqt
          clear hbt
          cases bt
          · go_wp2_with fail
            all_goals exact ⟨⟨j + 1, l + k + 1, true, by omega, by go_num, by rw [show (l + k + 1) * 3 = l * 3 + (k + 1) * 3 by omega, show 14 - (l + k + 1) = 14 - l - (k + 1) by omega], rfl, by omega, HO2.out, HX2.out⟩, by simp [intOf]; omega⟩
          · go_wp2_with fail
            all_goals exact ⟨⟨j + 1, l + k + 1, true, by omega, by go_num, by rw [show (l + k + 1) * 3 = l * 3 + (k + 1) * 3 by omega, show 14 - (l + k + 1) = 14 - l - (k + 1) by omega], rfl, by omega, HO2.out, HX2.out⟩, by simp [intOf]; omega⟩
        | false =>
          by_cases hxt : x = totalB
          · have HO2 := hid (show ordQ 0 false xs = false by rw [HO.out, decide_eq_true hxt]; rfl)
            rw [decide_eq_true hxt] at hqt
            clear hxt
            go_wp2_with fail
            go_ret
            exact ⟨ret_bool (by rw [HO2.out]), X1.out.trans HX2.out⟩
          · rw [decide_eq_false hxt] at hqt
            by_cases hxp : x = pureB
            · have HO2 := hid (show ordQ 0 false xs = ordQ (l + k + 1) true (xs.drop (j + 1)) by rw [HO.out, decide_eq_false hxt, decide_eq_true hxp]; rfl)
              rw [decide_eq_true hxp] at hqp
              clear hxt hxp
              go_wp2_with fail
              all_goals exact ⟨⟨j + 1, l + k + 1, true, by omega, by go_num, by rw [show (l + k + 1) * 3 = l * 3 + (k + 1) * 3 by omega, show 14 - (l + k + 1) = 14 - l - (k + 1) by omega], rfl, by omega, HO2.out, HX2.out⟩, by simp [intOf]; omega⟩
            · have HO2 := hid (show ordQ 0 false xs = ordQ (l + k + 1) false (xs.drop (j + 1)) by rw [HO.out, decide_eq_false hxt, decide_eq_false hxp]; rfl)
              rw [decide_eq_false hxp] at hqp
              clear hxt hxp
              go_wp2_with fail
              all_goals exact ⟨⟨j + 1, l + k + 1, false, by omega, by go_num, by rw [show (l + k + 1) * 3 = l * 3 + (k + 1) * 3 by omega, show 14 - (l + k + 1) = 14 - l - (k + 1) by omega], rfl, by omega, HO2.out, HX2.out⟩, by simp [intOf]; omega⟩
      · have HIV := hid (ixQ_out (l := l) hi14)
        rw [HIV.out]
        rw [if_neg hi14] at HO
        go_wp2_with fail
        go_ret
        exact ⟨ret_bool (by rw [HO.out]), X1.out.trans HX2.out⟩
    · have hje : j = n := by omega
      have hlt2 : decide ((j : Int) < n) = false := decide_eq_false (by omega)
      have hlt3 : ¬ (j : Int) < n := by omega
      have HV := hid (show ordQ 0 false xs = true by rw [HRC.out, List.drop_of_length_le (by have := HNE.out; omega)]; rfl)
      clear hje
      go_wp2_with fail
      go_ret
      exact ⟨ret_bool (by rw [HV.out]), X1.out.trans HX.out⟩
end Go.Proofs.YtaafcmmmkalgjaaGreatDoor
