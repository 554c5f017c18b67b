/-
  Abilities that rise: the document's way of telling it and the program's are one.
-/
import Derived.Test.YtaodkfchmaendaaGreatDoorKOrdB
import Derived.Test.YtaodkfchmaendaaGreatDoorJMay
import Derived.Test.YtaodkfchmaendaaGreatDoorRefN
namespace Go.Proofs.YtaodkfchmaendaaGreatDoor.Nd
open Go.RowKit
/-- An ability's place among those that a row may name. -/
def idxO (a : ByteArray) : Option Nat := (List.range 11).find? (fun j => decide (nmQ j = a))
def idxQ (a : ByteArray) : Int := match idxO a with
  | some j => j
  | none => -1
theorem nmQ_inj : ∀ i, i < 14 → ∀ j, j < 14 → nmQ i = nmQ j → i = j := by decide
theorem idxO_some {a : ByteArray} {j : Nat} (h : idxO a = some j) : j < 11 ∧ nmQ j = a := by
  unfold idxO at h
  rw [List.find?_range_eq_some] at h
  exact ⟨by simpa using h.2.1, by simpa using h.1⟩
theorem idxO_at {a : ByteArray} {j : Nat} (hj : j < 11) (h : nmQ j = a) : idxO a = some j := by
  unfold idxO
  rw [List.find?_range_eq_some]
  refine ⟨by simpa using h, by simpa using hj, fun i hi => ?_⟩
  have : nmQ i ≠ a := fun e => by
    have := nmQ_inj i (by omega) j (by omega) (e.trans h.symm)
    omega
  simpa using this
theorem idxO_none {a : ByteArray} (h : ∀ j, j < 11 → nmQ j ≠ a) : idxO a = none := by
  unfold idxO
  rw [List.find?_eq_none]
  intro x hx
  simpa using h x (by simpa using hx)
theorem td_iff : ∀ j, j < 14 → tdQ j = decide (j < 11) := by decide
theorem hit_iff {a : ByteArray} {j : Nat} (hj : j < 14) : hitQ a j = decide (idxO a = some j) := by
  unfold hitQ
  rw [td_iff j hj]
  by_cases h : j < 11
  · rw [decide_eq_true h, Bool.true_and]
    by_cases e : nmQ j = a
    · rw [decide_eq_true e, decide_eq_true (idxO_at h e)]
    · rw [decide_eq_false e, decide_eq_false (fun h' => e (idxO_some h').2)]
  · rw [decide_eq_false h, Bool.false_and, decide_eq_false (fun h' => h (idxO_some h').1)]
theorem next_at {a : ByteArray} {j : Nat} (h : idxO a = some j) : ∀ f l, l + f = 14 → l ≤ j → nextQ a f l = j
  | 0, l, h1, h2 => by have := (idxO_some h).1; omega
  | f + 1, l, h1, h2 => by
    by_cases e : l = j
    · subst e
      exact nextQ_hit (by rw [hit_iff (by omega), decide_eq_true h])
    · rw [nextQ_miss (by rw [hit_iff (by omega)]; exact decide_eq_false (fun h' => e (Option.some.inj (h'.symm.trans h))))]
      exact next_at h f (l + 1) (by omega) (by omega)
theorem next_no {a : ByteArray} : ∀ f l, l + f = 14 → (∀ j, idxO a = some j → j < l) → nextQ a f l = 14
  | 0, l, h1, h2 => rfl
  | f + 1, l, h1, h2 => by
    rw [nextQ_miss (by rw [hit_iff (by omega)]; exact decide_eq_false (fun h' => by have := h2 l h'; omega))]
    exact next_no f (l + 1) (by omega) (fun j hj => by have := h2 j hj; omega)
/-- Do they rise, Total with Pure? -/
def riseQ : Int → Bool → Bool → List ByteArray → Bool
  | _, pure, total, [] => pure || !total
  | last, pure, total, a :: r => if idxQ a ≤ last then false else riseQ (idxQ a) (pure || decide (a = pureB)) (total || decide (a = totalB)) r
theorem idx_pure : idxQ pureB = 6 := by decide
theorem idx_total : idxQ totalB = 7 := by decide
theorem rise_bad : ∀ (r : List ByteArray) (last : Int), 7 ≤ last → riseQ last false true r = false
  | [], _, _ => rfl
  | a :: r, last, h => by
    unfold riseQ
    by_cases hi : idxQ a ≤ last
    · rw [if_pos hi]
    · rw [if_neg hi]
      have hp : ¬ a = pureB := fun e => by rw [e, idx_pure] at hi; omega
      rw [decide_eq_false hp, Bool.true_or]
      exact rise_bad r (idxQ a) (by omega)
theorem rise_ord : ∀ (r : List ByteArray) (l : Nat) (pure total : Bool), l ≤ 14 → (total = true → pure = true) → riseQ ((l : Int) - 1) pure total r = ordQ l pure r
  | [], l, pure, total, _, h => by
    unfold riseQ ordQ
    cases total with
    | false => simp
    | true => rw [h rfl]; rfl
  | a :: r, l, pure, total, hl, h => by
    rw [ordQ_cons]
    unfold riseQ
    cases hx : idxO a with
    | none =>
      have e1 : idxQ a = -1 := by unfold idxQ; rw [hx]
      rw [e1, if_pos (by omega), next_no (14 - l) l (by omega) (fun j hj => by rw [hx] at hj; cases hj), if_neg (by decide)]
    | some j =>
      have e1 : idxQ a = j := by unfold idxQ; rw [hx]
      have hj := idxO_some hx
      by_cases hle : l ≤ j
      · rw [e1, if_neg (by omega), next_at hx (14 - l) l (by omega) hle, if_pos (by omega)]
        by_cases ht : a = totalB
        · cases pure with
          | false =>
            rw [decide_eq_true ht, if_pos (by rfl)]
            have hp : ¬ a = pureB := fun e => by rw [ht] at e; exact absurd e (by decide)
            rw [decide_eq_false hp, Bool.or_true, Bool.or_false]
            have : idxQ a = 7 := by rw [ht, idx_total]
            exact rise_bad r j (by omega)
          | true =>
            rw [if_neg (by simp)]
            have := rise_ord r (j + 1) (true || decide (a = pureB)) (total || decide (a = totalB)) (by omega) (fun _ => rfl)
            rw [← this]
            congr 1
            omega
        · rw [decide_eq_false ht, Bool.false_and, if_neg (by decide)]
          have := rise_ord r (j + 1) (pure || decide (a = pureB)) (total || decide (a = totalB)) (by omega) (fun h2 => by
            rw [decide_eq_false ht, Bool.or_false] at h2
            rw [h h2]; rfl)
          rw [decide_eq_false ht] at this
          rw [← this]
          congr 1
          omega
      · rw [e1, if_pos (by omega), next_no (14 - l) l (by omega) (fun i hi => by rw [hx] at hi; have := Option.some.inj hi; omega), if_neg (by decide)]
theorem rise_eq (xs : List ByteArray) : riseQ (-1) false false xs = ordQ 0 false xs := rise_ord xs 0 false false (by decide) (fun h => by cases h)
end Go.Proofs.YtaodkfchmaendaaGreatDoor.Nd
/-
  espalierref7's Order, Index, Rising, text, May and Fits: what the program tells; by contracts.
-/
namespace Go.Proofs.YtaodkfchmaendaaGreatDoor.Nd
open Go.RowKit
def ordC : Array Value := #[.string ⟨#[76, 105, 116, 101, 114, 97, 108]⟩, .string ⟨#[83, 116, 114, 105, 99, 116]⟩, .string ⟨#[76, 97, 122, 121]⟩, .string ⟨#[66, 105, 110, 100, 101, 114]⟩, .string ⟨#[85, 115, 101, 114]⟩, .string ⟨#[67, 97, 108, 108, 101, 114]⟩, .string ⟨#[80, 117, 114, 101]⟩, .string ⟨#[84, 111, 116, 97, 108]⟩, .string ⟨#[83, 111, 114, 116, 101, 100]⟩, .string ⟨#[83, 117, 103, 97, 114]⟩, .string ⟨#[70, 114, 97, 109, 101, 100]⟩]
theorem ordC_at : ∀ j, j < 11 → ordC[j]? = some (.string (nmQ j))
  | 0, _ => rfl
  | 1, _ => rfl
  | 2, _ => rfl
  | 3, _ => rfl
  | 4, _ => rfl
  | 5, _ => rfl
  | 6, _ => rfl
  | 7, _ => rfl
  | 8, _ => rfl
  | 9, _ => rfl
  | 10, _ => rfl
  | n + 11, h => absurd h (by omega)

theorem order_any (w : World) : Calls Tryz.prog 122 #[] w fun e w' => e = .returned (.slice (some ⟨w.heap.size, 0, none⟩) 11 11) ∧ w' = w.alloc (.cells ordC 9) := by
  go_enter Tryz.func122, Tryz.ntmps122
  go_wp2_with fail
  go_ret
  exact ⟨rfl, rfl⟩
theorem idx_hit {a : ByteArray} {j : Nat} (hj : j < 11) (h : nmQ j = a) : idxQ a = j := by unfold idxQ; rw [idxO_at hj h]
theorem idx_miss {a : ByteArray} (h : ∀ j, j < 11 → nmQ j ≠ a) : idxQ a = -1 := by unfold idxQ; rw [idxO_none h]
theorem idx_le (a : ByteArray) : -1 ≤ idxQ a ∧ idxQ a ≤ 10 := by
  unfold idxQ
  split
  · rename_i j h; have := (idxO_some h).1; omega
  · omega
set_option maxRecDepth 100000 in
set_option maxHeartbeats 1000000 in
theorem rindex_any (a : ByteArray) (w : World) : Calls Tryz.prog 73 #[.string a] w fun e w' => e = .returned (.int .i64 (idxQ a)) ∧ Ext w w' := by
  go_enter Tryz.func73, Tryz.ntmps73
  go_wp2_with fail
  refine (order_any w).mono ?_
  rintro e w1 ⟨rfl, hw1⟩
  have X1 := hid (show Ext w w1 from hw1 ▸ Ext.alloc _ _)
  have HB := hid (show w1.heap[w.heap.size]? = some (.cells ordC 9) from hw1 ▸ blk0 _ _)
  clear hw1
  generalize w.heap.size = g at *
  go_wp2_with fail
  go_loopw [4] (fun q4 wr => ∃ j : Nat, j ≤ 11 ∧ q4 = .int .i64 j ∧ (∀ i, i < j → nmQ i ≠ a) ∧ wr = w1) (fun q4 _ => 11 - (intOf q4).toNat)
  case atStart => exact ⟨0, Nat.zero_le _, rfl, fun i h => absurd h (Nat.not_lt_zero _), rfl⟩
  case round =>
    obtain ⟨j, hj, rfl, hno, hw⟩ := hrel
    rw [hw]
    clear hw
    have HNO := hid hno
    clear hno
    by_cases hlt : j < 11
    · have hlt' : (j : Int) < 11 := by omega
      have p0 : w1.cell? ⟨g, j, none⟩ = some (.string (nmQ j)) := cell_of HB.out (ordC_at j hlt)
      have heq := str_eqb (nmQ j) a
      have HH := hid (fun h => idx_hit (a := a) hlt h)
      have HS := hid (show nmQ j ≠ a → ∀ i, i < j + 1 → nmQ i ≠ a from fun h i hi => by
        rcases Nat.lt_succ_iff_lt_or_eq.1 hi with hi | rfl
        · exact HNO.out i hi
        · exact h)
      generalize nmQ j = nj at *
      by_cases he : nj = a
      · rw [decide_eq_true he] at heq
        have HV := hid (HH.out he)
        clear he
        go_wp2_with fail
        go_ret
        exact ⟨by rw [HV.out]; try rfl, X1.out⟩
      · rw [decide_eq_false he] at heq
        have HNX := hid (HS.out he)
        clear he
        go_wp2_with fail
        go_roundw
        case rel => exact ⟨j + 1, by omega, by go_num, HNX.out, by trivial⟩
        case measure => simp [intOf]; omega
    · obtain rfl : j = 11 := by omega
      have HV := hid (idx_miss HNO.out)
      go_wp2_with fail
      go_ret
      exact ⟨by rw [HV.out]; try rfl, X1.out⟩
set_option maxRecDepth 100000 in
set_option maxHeartbeats 4000000 in
theorem rising_any (a : Option Addr) (c : Nat) (xs : List ByteArray) (w : World) (hn : xs.length ≤ 140737488351232) (hr : TRow w a xs) : Calls Tryz.prog 47 #[.slice a xs.length c] w fun e w' => e = .returned (.bool (ordQ 0 false xs)) ∧ Ext w w' := by
  obtain ⟨n, hne⟩ : ∃ n, xs.length = n := ⟨_, rfl⟩
  have HNE := hid hne
  have HR := hid hr
  have HRO := hid (rise_eq xs)
  rw [hne] at hn ⊢
  have hn' : (n : Int) ≤ 140737488351232 := by omega
  clear hr hne
  go_enter Tryz.func47, Tryz.ntmps47
  go_wp2_with fail
  go_loopw [3, 4, 5, 6] (fun q3 q4 q5 q6 wr => ∃ (j : Nat) (last : Int) (pure total : Bool), j ≤ n ∧ q6 = .int .i64 j ∧ q3 = .int .i64 last ∧ q4 = .bool pure ∧ q5 = .bool total ∧ riseQ (-1) false false xs = riseQ last pure total (xs.drop j) ∧ Ext w wr) (fun _ _ _ q6 _ => n - (intOf q6).toNat)
  case atStart => exact ⟨0, -1, false, false, Nat.zero_le _, rfl, rfl, rfl, rfl, rfl, Ext.refl _⟩
  case round =>
    obtain ⟨j, last, pure, total, hj, rfl, rfl, rfl, rfl, hrec, hx⟩ := hrel
    have HX := hid hx
    have HRC := hid hrec
    clear hx hrec
    by_cases hlt : j < n
    · have hlt' : (j : Int) < n := by omega
      have hjx : j < xs.length := by rw [HNE.out]; exact hlt
      rcases HR.out with e0 | ⟨gs, off, rfl, hcells⟩
      · rw [e0] at hjx; exact absurd hjx (Nat.not_lt_zero _)
      have hc0 := hcells j hjx
      have HC1 := hid (show ∀ W', Ext wr W' → W'.cell? ⟨gs, off + j, none⟩ = some (.string xs[j]) from fun W' X => (Below.cell (HX.out.trans X) (lt_of_cell hc0)).trans hc0)
      have HRC2 := hid (HRC.out.trans (by rw [List.drop_eq_getElem_cons hjx]))
      generalize xs[j] = x at *
      have HIX := hid (fun w => rindex_any x w)
      have HI := hid (idx_le x)
      have HO := hid (show riseQ (-1) false false xs = if idxQ x ≤ last then false else riseQ (idxQ x) (pure || decide (x = pureB)) (total || decide (x = totalB)) (xs.drop (j + 1)) from HRC2.out)
      have hqt : (x.toList == [84, 111, 116, 97, 108]) = decide (x = totalB) := by rw [← str_eqb x totalB, show totalB.toList = [84, 111, 116, 97, 108] by rw [ByteArray.toList_eq]; rfl]
      have hqp : (x.toList == [80, 117, 114, 101]) = decide (x = pureB) := by rw [← str_eqb x pureB, show pureB.toList = [80, 117, 114, 101] by rw [ByteArray.toList_eq]; rfl]
      generalize decide (x = totalB) = bt at *
      generalize decide (x = pureB) = bp at *
      generalize idxQ x = i at *
      clear hcells hc0 hjx HRC HRC2
      have c1 := HC1.out _ (Ext.refl _)
      have hgl := lt_of_cell c1
      go_wp2_with fail
      refine (HIX.out _).mono ?_
      rintro e w2 ⟨rfl, hx2⟩
      have HX2 := hid (HX.out.trans hx2)
      have c2 := HC1.out _ hx2
      have hgl2 := lt_of_cell c2
      clear hx2 c1 hgl
      by_cases hle : i ≤ last
      · have HV := hid (show ordQ 0 false xs = false by rw [← HRO.out, HO.out, if_pos hle])
        go_wp2_with fail
        go_ret
        exact ⟨by rw [HV.out]; try rfl, HX2.out⟩
      · have HV := hid (show riseQ (-1) false false xs = riseQ i (pure || bp) (total || bt) (xs.drop (j + 1)) by rw [HO.out, if_neg hle])
        clear HO
        cases pure <;> cases total <;> cases bp <;> cases bt
        all_goals
          go_wp2_with fail
          go_roundw
          case rel => exact ⟨j + 1, i, _, _, by omega, by go_num, rfl, rfl, rfl, HV.out, HX2.out⟩
          case measure => simp [intOf]; omega
    · have hlt3 : ¬ (j : Int) < n := by omega
      have HV := hid (show ordQ 0 false xs = (pure || !total) by rw [← HRO.out, HRC.out, List.drop_of_length_le (by have := HNE.out; omega)]; rfl)
      cases pure <;> cases total
      all_goals
        go_wp2_with fail
        go_ret
        exact ⟨by rw [HV.out]; rfl, HX.out⟩
theorem kind_refd (s : ByteArray) (w : World) (hb : s.size ≤ 140737488355328) : Calls Tryz.prog 46 #[.string s] w fun e w' => (∃ a b : ByteArray, e = .returned (.tuple #[.string a, .string b, .bool (kindOkB s.data.toList)])) ∧ Ext w w' := by
  rcases parts_of s.data.toList 46 with h | ⟨pre, post, hs, h⟩
  · refine (kind_ref_none s w hb h).mono ?_
    rintro e w' ⟨rfl, hx⟩
    rw [kindOk_none h]
    exact ⟨⟨_, _, rfl⟩, hx⟩
  · refine (kind_ref_found s pre post w hs h hb).mono ?_
    rintro e w' ⟨rfl, hx⟩
    rw [hs, kindOk_found h]
    unfold kindV
    by_cases hh : (speltB wordI 16 pre && speltB wordI 16 post) = true
    · rw [if_pos hh, hh]
      exact ⟨⟨_, _, rfl⟩, hx⟩
    · rw [if_neg hh, show (speltB wordI 16 pre && speltB wordI 16 post) = false by simpa using hh]
      exact ⟨⟨_, _, rfl⟩, hx⟩
theorem use_refd (x : ByteArray) (w : World) : Calls Tryz.prog 76 #[.string x] w fun e w' => e = .returned (.bool (useQ x)) ∧ w' = w := by
  refine (use_ref x w).mono ?_
  rintro e w' ⟨h | h, hx⟩
  · exact ⟨by rw [h.1]; unfold useQ; exact congrArg (fun b => Ending.returned (.bool b)) (@decide_eq_true _ (Classical.propDecidable _) h.2).symm, hx⟩
  · exact ⟨by rw [h.1]; unfold useQ; exact congrArg (fun b => Ending.returned (.bool b)) (@decide_eq_false _ (Classical.propDecidable _) h.2).symm, hx⟩
end Go.Proofs.YtaodkfchmaendaaGreatDoor.Nd
/-
  espalierref7's text, May and Fits: what the program tells; by contracts.
-/
namespace Go.Proofs.YtaodkfchmaendaaGreatDoor.Nd
open Go.RowKit
set_option maxRecDepth 100000 in
set_option maxHeartbeats 1000000 in
theorem rtext_any (r : Rw) (ra : Option Addr) (rc : Nat) (x : ByteArray) (nk : Nat) (w : World) (ht : 0 ≤ r.text ∧ r.text ≤ 4) (hx : x.size ≤ 16384) (hnk : nk ≤ 140737488355328) : Calls Tryz.prog 48 #[r.val ra rc, .string x, .int .i64 nk] w fun e w' => e = .returned (.bool (takesR r.text x nk)) ∧ Ext w w' := by
  have hnk' : (nk : Int) ≤ 140737488355328 := by omega
  have HV0 := hid (show takesR r.text x nk = if r.text = 1 then true else if r.text = 2 then speltB nameI 32 x.data.toList else if r.text = 3 then namesQ x (nk - 1) else if r.text = 4 then useQ x else decide (x.size = 0) from rfl)
  generalize takesR r.text x nk = V at *
  unfold Rw.val
  obtain ⟨rk, mn, mx, bj, tx, abs⟩ := r
  dsimp only at *
  generalize abs.length = al at *
  have HM0 := hid (blk0 w (.cells #[.string rk, .int .i64 mn, .int .i64 mx, .bool bj, .int .i64 tx, .slice ra al rc] 37))
  have XM := hid (Ext.alloc w (.cells #[.string rk, .int .i64 mn, .int .i64 mx, .bool bj, .int .i64 tx, .slice ra al rc] 37))
  obtain ⟨r0, r1, r2, r3, r4, r5⟩ := jsix_of HM0.out
  obtain ⟨ht1, ht2⟩ := ht
  by_cases h0 : tx = 0
  · have HV := hid (show V = decide (x.size = 0) by rw [HV0.out, if_neg (by omega), if_neg (by omega), if_neg (by omega), if_neg (by omega)])
    subst h0
    clear HV0 ht1 ht2
    by_cases h : x.size = 0
    · obtain rfl := empty_of h
      clear h
      go_enter Tryz.func48, Tryz.ntmps48
      go_wp2_with fail
      go_ret
      exact ⟨by rw [HV.out]; rfl, XM.out⟩
    · rw [decide_eq_false h] at HV
      have h2 := not_empty h
      have h3 : ¬ x = ByteArray.empty := fun e => h (by rw [e]; rfl)
      clear h
      go_enter Tryz.func48, Tryz.ntmps48
      go_wp2_with fail
      go_ret
      exact ⟨by rw [HV.out]; rfl, XM.out⟩
  by_cases h1 : tx = 1
  · have HV := hid (HV0.out.trans (if_pos h1))
    subst h1
    clear HV0 ht1 ht2 h0
    go_enter Tryz.func48, Tryz.ntmps48
    go_wp2_with fail
    go_ret
    exact ⟨by rw [HV.out]; rfl, XM.out⟩
  by_cases h2 : tx = 2
  · have HV := hid (show V = speltB nameI 32 x.data.toList by rw [HV0.out, if_neg h1, if_pos h2])
    have HN := hid (fun w => name_ref x w)
    have hnb : nameB x.data.toList = speltB nameI 32 x.data.toList := rfl
    rw [hnb] at HN
    subst h2
    clear HV0 ht1 ht2 h0 h1 hnb
    generalize speltB nameI 32 x.data.toList = b at *
    go_enter Tryz.func48, Tryz.ntmps48
    go_wp2_with fail
    refine (HN.out _).mono ?_
    rintro e w1 ⟨rfl, hw⟩
    rw [hw]
    clear hw w1
    go_wp2_with fail
    go_ret
    exact ⟨by rw [HV.out]; try rfl, XM.out⟩
  by_cases h3 : tx = 3
  · have HV := hid (show V = namesQ x (nk - 1) by rw [HV0.out, if_neg h1, if_neg h2, if_pos h3])
    have HN := hid (fun w => names_ref x w (by omega))
    have HB := hid (fun l h => names_big (x := x) (l := l) h)
    have HY := hid (fun l h => namesQ_yes (x := x) (l := l) ((nk : Int) - 1) h)
    have HO := hid (fun h => namesQ_no (x := x) ((nk : Int) - 1) h)
    subst h3
    clear HV0 ht1 ht2 h0 h1 h2
    go_enter Tryz.func48, Tryz.ntmps48
    go_wp2_with fail
    refine (HN.out _).mono ?_
    rintro e w1 ⟨he, hy⟩
    have HX := hid (XM.out.trans hy)
    clear hy
    rcases he with ⟨l, v, rfl, hl, ho⟩ | ⟨rfl, hno⟩
    · obtain ⟨va, vc, rfl⟩ := ownsRow_slice ho
      have HL := hid (HY.out l hl)
      have hb := HB.out l hl
      have hb' : (l.length : Int) ≤ 16385 := by omega
      clear hl ho hb
      generalize l.length = m at *
      go_wp2_with fail
      go_ret
      exact ⟨ret_bool (by rw [HV.out, HL.out]), HX.out⟩
    · have HL := hid (HO.out hno)
      clear hno
      go_wp2_with fail
      go_ret
      exact ⟨ret_bool (by rw [HV.out, HL.out]), HX.out⟩
  have h4 : tx = 4 := by omega
  have HV := hid (show V = useQ x by rw [HV0.out, if_neg h1, if_neg h2, if_neg h3, if_pos h4])
  have HU := hid (fun w => use_refd x w)
  subst h4
  clear HV0 ht1 ht2 h0 h1 h2 h3
  generalize useQ x = b at *
  go_enter Tryz.func48, Tryz.ntmps48
  go_wp2_with fail
  refine (HU.out _).mono ?_
  rintro e w1 ⟨rfl, hw⟩
  rw [hw]
  clear hw w1
  go_wp2_with fail
  go_ret
  exact ⟨by rw [HV.out]; try rfl, XM.out⟩
set_option maxRecDepth 100000 in
set_option maxHeartbeats 4000000 in
theorem rMay_any (r : Rw) (a : Option Addr) (c : Nat) (w : World) (hk : r.kind.size ≤ 140737488355328) (hl : r.abs.length ≤ 140737488351232) (hr : TRow w a r.abs) : Calls Tryz.prog 16 #[r.val a c] w fun e w' => e = .returned (.int .i64 (mayR r)) ∧ Ext w w' := by
  have HK := hid (fun w => kind_refd r.kind w hk)
  have HO := hid (fun w1 (hx : Ext w w1) => rising_any a c r.abs w1 hl (hr.later hx))
  have HV := hid (show mayR r = if kindOkB r.kind.data.toList = false then 10 else if r.min < 0 ∨ (r.max ≠ -1 ∧ (r.max < r.min ∨ 1023 < r.max)) then 11 else if r.text < 0 ∨ 4 < r.text ∨ (r.text = 3 ∧ r.min = 0) then 1 else if ordQ 0 false r.abs = true then 0 else 1 from rfl)
  clear hk hl hr
  generalize mayR r = V at *
  unfold Rw.val
  obtain ⟨k, mn, mx, nm, tx, abs⟩ := r
  dsimp only at *
  generalize abs.length = l at *
  generalize ordQ 0 false abs = ob at *
  generalize kindOkB k.data.toList = kb at *
  obtain ⟨M, hM⟩ : ∃ M, w.alloc (.cells #[.string k, .int .i64 mn, .int .i64 mx, .bool nm, .int .i64 tx, .slice a l c] 37) = M := ⟨_, rfl⟩
  have XM := hid (show Ext w M from hM ▸ Ext.alloc _ _)
  have HM0 := hid (show M.heap[w.heap.size]? = some (.cells #[.string k, .int .i64 mn, .int .i64 mx, .bool nm, .int .i64 tx, .slice a l c] 37) from hM ▸ blk0 _ _)
  obtain ⟨z0, z1, z2, z3, z4, z5⟩ := six_of HM0.out
  cases kb with
  | false =>
    have HW := hid (show V = 10 by rw [HV.out, if_pos rfl])
    clear HV HO
    go_enter Tryz.func16, Tryz.ntmps16
    go_wp2_with fail
    clear hM
    refine (HK.out _).mono ?_
    rintro e w1 ⟨⟨ka, kc, rfl⟩, hx1⟩
    have X1 := hid (XM.out.trans hx1)
    obtain ⟨y0, y1, y2, y3, y4, y5⟩ := six_of (hx1.block HM0.out)
    clear hx1 z0 z1 z2 z3 z4 z5
    go_wp2_with fail
    go_ret
    exact ⟨by rw [HW.out]; rfl, X1.out⟩
  | true =>
    by_cases n1 : mn < 0
    · have HW := hid (show V = 11 by rw [HV.out, if_neg (by decide), if_pos (.inl n1)])
      clear HV HO
      go_enter Tryz.func16, Tryz.ntmps16
      go_wp2_with fail
      clear hM
      refine (HK.out _).mono ?_
      rintro e w1 ⟨⟨ka, kc, rfl⟩, hx1⟩
      have X1 := hid (XM.out.trans hx1)
      obtain ⟨y0, y1, y2, y3, y4, y5⟩ := six_of (hx1.block HM0.out)
      clear hx1 z0 z1 z2 z3 z4 z5
      go_wp2_with fail
      go_ret
      exact ⟨by rw [HW.out]; rfl, X1.out⟩
    by_cases m0 : mx = -1
    · subst m0
      have HN2 := hid (show ¬ (mn < 0 ∨ ((-1 : Int) ≠ -1 ∧ ((-1 : Int) < mn ∨ (1023 : Int) < -1))) by omega)
      by_cases t1 : tx < 0
      · have HW := hid (show V = 1 by rw [HV.out, if_neg (by decide), if_neg HN2.out, if_pos (.inl t1)])
        clear HV HO
        go_enter Tryz.func16, Tryz.ntmps16
        go_wp2_with fail
        clear hM
        refine (HK.out _).mono ?_
        rintro e w1 ⟨⟨ka, kc, rfl⟩, hx1⟩
        have X1 := hid (XM.out.trans hx1)
        obtain ⟨y0, y1, y2, y3, y4, y5⟩ := six_of (hx1.block HM0.out)
        clear hx1 z0 z1 z2 z3 z4 z5
        go_wp2_with fail
        go_ret
        exact ⟨by rw [HW.out]; rfl, X1.out⟩
      by_cases t2 : 4 < tx
      · have HW := hid (show V = 1 by rw [HV.out, if_neg (by decide), if_neg HN2.out, if_pos (.inr (.inl t2))])
        clear HV HO
        go_enter Tryz.func16, Tryz.ntmps16
        go_wp2_with fail
        clear hM
        refine (HK.out _).mono ?_
        rintro e w1 ⟨⟨ka, kc, rfl⟩, hx1⟩
        have X1 := hid (XM.out.trans hx1)
        obtain ⟨y0, y1, y2, y3, y4, y5⟩ := six_of (hx1.block HM0.out)
        clear hx1 z0 z1 z2 z3 z4 z5
        go_wp2_with fail
        go_ret
        exact ⟨by rw [HW.out]; rfl, X1.out⟩
      by_cases t3 : tx = 3
      · subst t3
        by_cases t4 : mn = 0
        · have HW := hid (show V = 1 by rw [HV.out, if_neg (by decide), if_neg HN2.out, if_pos (.inr (.inr ⟨rfl, t4⟩))])
          subst t4
          clear HV HO
          go_enter Tryz.func16, Tryz.ntmps16
          go_wp2_with fail
          clear hM
          refine (HK.out _).mono ?_
          rintro e w1 ⟨⟨ka, kc, rfl⟩, hx1⟩
          have X1 := hid (XM.out.trans hx1)
          obtain ⟨y0, y1, y2, y3, y4, y5⟩ := six_of (hx1.block HM0.out)
          clear hx1 z0 z1 z2 z3 z4 z5
          go_wp2_with fail
          go_ret
          exact ⟨by rw [HW.out]; rfl, X1.out⟩
        have t5 : (mn == 0) = false := by rw [beq_eq_false_iff_ne]; exact t4
        have HN3 := hid (show ¬ ((3 : Int) < 0 ∨ (4 : Int) < 3 ∨ ((3 : Int) = 3 ∧ mn = 0)) by omega)
        clear t4
        go_enter Tryz.func16, Tryz.ntmps16
        go_wp2_with fail
        clear hM
        refine (HK.out _).mono ?_
        rintro e w1 ⟨⟨ka, kc, rfl⟩, hx1⟩
        have X1 := hid (XM.out.trans hx1)
        obtain ⟨y0, y1, y2, y3, y4, y5⟩ := six_of (hx1.block HM0.out)
        clear hx1 z0 z1 z2 z3 z4 z5
        go_wp2_with fail
        refine (HO.out _ X1.out).mono ?_
        rintro e w2 ⟨rfl, hx2⟩
        have X2 := hid (X1.out.trans hx2)
        clear hx2
        cases ob with
        | true =>
          have HW := hid (show V = 0 by rw [HV.out, if_neg (by decide), if_neg HN2.out, if_neg HN3.out]; rfl)
          clear HV
          go_wp2_with fail
          go_ret
          exact ⟨by rw [HW.out]; rfl, X2.out⟩
        | false =>
          have HW := hid (show V = 1 by rw [HV.out, if_neg (by decide), if_neg HN2.out, if_neg HN3.out]; rfl)
          clear HV
          go_wp2_with fail
          go_ret
          exact ⟨by rw [HW.out]; rfl, X2.out⟩
      have t5 : (tx == 3) = false := by rw [beq_eq_false_iff_ne]; exact t3
      have HN3 := hid (show ¬ (tx < 0 ∨ 4 < tx ∨ (tx = 3 ∧ mn = 0)) by omega)
      clear t3
      go_enter Tryz.func16, Tryz.ntmps16
      go_wp2_with fail
      clear hM
      refine (HK.out _).mono ?_
      rintro e w1 ⟨⟨ka, kc, rfl⟩, hx1⟩
      have X1 := hid (XM.out.trans hx1)
      obtain ⟨y0, y1, y2, y3, y4, y5⟩ := six_of (hx1.block HM0.out)
      clear hx1 z0 z1 z2 z3 z4 z5
      go_wp2_with fail
      refine (HO.out _ X1.out).mono ?_
      rintro e w2 ⟨rfl, hx2⟩
      have X2 := hid (X1.out.trans hx2)
      clear hx2
      cases ob with
      | true =>
        have HW := hid (show V = 0 by rw [HV.out, if_neg (by decide), if_neg HN2.out, if_neg HN3.out]; rfl)
        clear HV
        go_wp2_with fail
        go_ret
        exact ⟨by rw [HW.out]; rfl, X2.out⟩
      | false =>
        have HW := hid (show V = 1 by rw [HV.out, if_neg (by decide), if_neg HN2.out, if_neg HN3.out]; rfl)
        clear HV
        go_wp2_with fail
        go_ret
        exact ⟨by rw [HW.out]; rfl, X2.out⟩
    have m1 : (mx == -1) = false := by rw [beq_eq_false_iff_ne]; exact m0
    have m2 : (mx != -1) = true := by unfold bne; rw [m1]; rfl
    by_cases m3 : mx < mn
    · have HW := hid (show V = 11 by rw [HV.out, if_neg (by decide), if_pos (.inr ⟨m0, .inl m3⟩)])
      clear HV HO m0
      go_enter Tryz.func16, Tryz.ntmps16
      go_wp2_with fail
      clear hM
      refine (HK.out _).mono ?_
      rintro e w1 ⟨⟨ka, kc, rfl⟩, hx1⟩
      have X1 := hid (XM.out.trans hx1)
      obtain ⟨y0, y1, y2, y3, y4, y5⟩ := six_of (hx1.block HM0.out)
      clear hx1 z0 z1 z2 z3 z4 z5
      go_wp2_with fail
      go_ret
      exact ⟨by rw [HW.out]; rfl, X1.out⟩
    by_cases m4 : 1023 < mx
    · have HW := hid (show V = 11 by rw [HV.out, if_neg (by decide), if_pos (.inr ⟨m0, .inr m4⟩)])
      clear HV HO m0
      go_enter Tryz.func16, Tryz.ntmps16
      go_wp2_with fail
      clear hM
      refine (HK.out _).mono ?_
      rintro e w1 ⟨⟨ka, kc, rfl⟩, hx1⟩
      have X1 := hid (XM.out.trans hx1)
      obtain ⟨y0, y1, y2, y3, y4, y5⟩ := six_of (hx1.block HM0.out)
      clear hx1 z0 z1 z2 z3 z4 z5
      go_wp2_with fail
      go_ret
      exact ⟨by rw [HW.out]; rfl, X1.out⟩
    have HN2 := hid (show ¬ (mn < 0 ∨ (mx ≠ -1 ∧ (mx < mn ∨ 1023 < mx))) by omega)
    clear m0
    by_cases t1 : tx < 0
    · have HW := hid (show V = 1 by rw [HV.out, if_neg (by decide), if_neg HN2.out, if_pos (.inl t1)])
      clear HV HO
      go_enter Tryz.func16, Tryz.ntmps16
      go_wp2_with fail
      clear hM
      refine (HK.out _).mono ?_
      rintro e w1 ⟨⟨ka, kc, rfl⟩, hx1⟩
      have X1 := hid (XM.out.trans hx1)
      obtain ⟨y0, y1, y2, y3, y4, y5⟩ := six_of (hx1.block HM0.out)
      clear hx1 z0 z1 z2 z3 z4 z5
      go_wp2_with fail
      go_ret
      exact ⟨by rw [HW.out]; rfl, X1.out⟩
    by_cases t2 : 4 < tx
    · have HW := hid (show V = 1 by rw [HV.out, if_neg (by decide), if_neg HN2.out, if_pos (.inr (.inl t2))])
      clear HV HO
      go_enter Tryz.func16, Tryz.ntmps16
      go_wp2_with fail
      clear hM
      refine (HK.out _).mono ?_
      rintro e w1 ⟨⟨ka, kc, rfl⟩, hx1⟩
      have X1 := hid (XM.out.trans hx1)
      obtain ⟨y0, y1, y2, y3, y4, y5⟩ := six_of (hx1.block HM0.out)
      clear hx1 z0 z1 z2 z3 z4 z5
      go_wp2_with fail
      go_ret
      exact ⟨by rw [HW.out]; rfl, X1.out⟩
    by_cases t3 : tx = 3
    · subst t3
      by_cases t4 : mn = 0
      · have HW := hid (show V = 1 by rw [HV.out, if_neg (by decide), if_neg HN2.out, if_pos (.inr (.inr ⟨rfl, t4⟩))])
        subst t4
        clear HV HO
        go_enter Tryz.func16, Tryz.ntmps16
        go_wp2_with fail
        clear hM
        refine (HK.out _).mono ?_
        rintro e w1 ⟨⟨ka, kc, rfl⟩, hx1⟩
        have X1 := hid (XM.out.trans hx1)
        obtain ⟨y0, y1, y2, y3, y4, y5⟩ := six_of (hx1.block HM0.out)
        clear hx1 z0 z1 z2 z3 z4 z5
        go_wp2_with fail
        go_ret
        exact ⟨by rw [HW.out]; rfl, X1.out⟩
      have t5 : (mn == 0) = false := by rw [beq_eq_false_iff_ne]; exact t4
      have HN3 := hid (show ¬ ((3 : Int) < 0 ∨ (4 : Int) < 3 ∨ ((3 : Int) = 3 ∧ mn = 0)) by omega)
      clear t4
      go_enter Tryz.func16, Tryz.ntmps16
      go_wp2_with fail
      clear hM
      refine (HK.out _).mono ?_
      rintro e w1 ⟨⟨ka, kc, rfl⟩, hx1⟩
      have X1 := hid (XM.out.trans hx1)
      obtain ⟨y0, y1, y2, y3, y4, y5⟩ := six_of (hx1.block HM0.out)
      clear hx1 z0 z1 z2 z3 z4 z5
      go_wp2_with fail
      refine (HO.out _ X1.out).mono ?_
      rintro e w2 ⟨rfl, hx2⟩
      have X2 := hid (X1.out.trans hx2)
      clear hx2
      cases ob with
      | true =>
        have HW := hid (show V = 0 by rw [HV.out, if_neg (by decide), if_neg HN2.out, if_neg HN3.out]; rfl)
        clear HV
        go_wp2_with fail
        go_ret
        exact ⟨by rw [HW.out]; rfl, X2.out⟩
      | false =>
        have HW := hid (show V = 1 by rw [HV.out, if_neg (by decide), if_neg HN2.out, if_neg HN3.out]; rfl)
        clear HV
        go_wp2_with fail
        go_ret
        exact ⟨by rw [HW.out]; rfl, X2.out⟩
    have t5 : (tx == 3) = false := by rw [beq_eq_false_iff_ne]; exact t3
    have HN3 := hid (show ¬ (tx < 0 ∨ 4 < tx ∨ (tx = 3 ∧ mn = 0)) by omega)
    clear t3
    go_enter Tryz.func16, Tryz.ntmps16
    go_wp2_with fail
    clear hM
    refine (HK.out _).mono ?_
    rintro e w1 ⟨⟨ka, kc, rfl⟩, hx1⟩
    have X1 := hid (XM.out.trans hx1)
    obtain ⟨y0, y1, y2, y3, y4, y5⟩ := six_of (hx1.block HM0.out)
    clear hx1 z0 z1 z2 z3 z4 z5
    go_wp2_with fail
    refine (HO.out _ X1.out).mono ?_
    rintro e w2 ⟨rfl, hx2⟩
    have X2 := hid (X1.out.trans hx2)
    clear hx2
    cases ob with
    | true =>
      have HW := hid (show V = 0 by rw [HV.out, if_neg (by decide), if_neg HN2.out, if_neg HN3.out]; rfl)
      clear HV
      go_wp2_with fail
      go_ret
      exact ⟨by rw [HW.out]; rfl, X2.out⟩
    | false =>
      have HW := hid (show V = 1 by rw [HV.out, if_neg (by decide), if_neg HN2.out, if_neg HN3.out]; rfl)
      clear HV
      go_wp2_with fail
      go_ret
      exact ⟨by rw [HW.out]; rfl, X2.out⟩

theorem may_text {r : Rw} (h : mayR r = 0) : 0 ≤ r.text ∧ r.text ≤ 4 := by
  unfold mayR at h
  by_cases h1 : kindOkB r.kind.data.toList = false
  · rw [if_pos h1] at h; cases h
  rw [if_neg h1] at h
  by_cases h2 : r.min < 0 ∨ (r.max ≠ -1 ∧ (r.max < r.min ∨ 1023 < r.max))
  · rw [if_pos h2] at h; cases h
  rw [if_neg h2] at h
  by_cases h3 : r.text < 0 ∨ 4 < r.text ∨ (r.text = 3 ∧ r.min = 0)
  · rw [if_pos h3] at h; cases h
  omega
set_option maxRecDepth 100000 in
set_option maxHeartbeats 2000000 in
theorem rFits_any (r : Rw) (ra : Option Addr) (rc : Nat) (k x : ByteArray) (n : Int) (nk : Nat) (w : World) (hk : r.kind.size ≤ 140737488355328) (hl : r.abs.length ≤ 140737488351232) (hr : TRow w ra r.abs) (hx : x.size ≤ 140737488355328) (hnk : nk ≤ 140737488355328) : Calls Tryz.prog 18 #[r.val ra rc, .string k, .int .i64 n, .string x, .int .i64 nk] w fun e w' => e = .returned (.int .i64 (fitsV r k n x nk)) ∧ Ext w w' := by
  have HMY := hid (fun w1 (hx : Ext w w1) => rMay_any r ra rc w1 hk hl (hr.later hx))
  have HVV := hid (show fitsV r k n x nk = if mayR r = 0 then fitsR r k n x nk else mayR r from rfl)
  have HTXT := hid (show mayR r = 0 → 0 ≤ r.text ∧ r.text ≤ 4 from may_text)
  clear hk hl hr
  have HT := hid (fun ht h w => rtext_any r ra rc x nk w ht h hnk)
  have HV := hid (show fitsR r k n x nk = if k = r.kind then (if (nk : Int) < r.min ∨ (r.max ≠ -1 ∧ r.max < (nk : Int)) then 11 else if 16384 < x.size then 2 else if n ≠ 0 ∧ r.num = false then 12 else if takesR r.text x nk = true then 0 else 12) else 10 from rfl)
  have hx' : (x.size : Int) ≤ 140737488355328 := by omega
  have hnk' : (nk : Int) ≤ 140737488355328 := by omega
  clear hx hnk
  generalize fitsR r k n x nk = V at *
  generalize fitsV r k n x nk = U at *
  generalize mayR r = VM at *
  unfold Rw.val at *
  obtain ⟨rk, mn, mx, bj, tj, abs⟩ := r
  dsimp only at *
  generalize abs.length = al at *
  generalize takesR tj x nk = b at *
  obtain ⟨M, hM⟩ : ∃ M, w.alloc (.cells #[.string rk, .int .i64 mn, .int .i64 mx, .bool bj, .int .i64 tj, .slice ra al rc] 37) = M := ⟨_, rfl⟩
  have XM := hid (show Ext w M from hM ▸ Ext.alloc _ _)
  have HM0 := hid (show M.heap[w.heap.size]? = some (.cells #[.string rk, .int .i64 mn, .int .i64 mx, .bool bj, .int .i64 tj, .slice ra al rc] 37) from hM ▸ blk0 _ _)
  obtain ⟨z0, z1, z2, z3, z4, z5⟩ := jsix_of HM0.out
  by_cases h0 : VM = 0
  case neg =>
    have HW := hid (HVV.out.trans (if_neg h0))
    have g1 : (VM == 0) = false := by rw [beq_eq_false_iff_ne]; exact h0
    have g2 : (VM != 0) = true := by unfold bne; rw [g1]; rfl
    clear h0 HV HT
    go_enter Tryz.func18, Tryz.ntmps18
    go_wp2_with fail
    clear hM
    refine (HMY.out _ XM.out).mono ?_
    rintro e w1 ⟨rfl, hx1⟩
    have X1 := hid (XM.out.trans hx1)
    clear hx1
    go_wp2_with fail
    go_ret
    exact ⟨by rw [HW.out]; try rfl, X1.out⟩
  have HU := hid (HVV.out.trans (if_pos h0))
  have ht4 := HTXT.out h0
  subst h0
  clear HVV HTXT
  by_cases hk : k = rk
  case neg =>
    have HW := hid (show V = 10 by rw [HV.out, if_neg hk])
    have e1 : (k.toList == rk.toList) = false := by rw [beq_eq_false_iff_ne]; exact fun e => hk (toList_inj e)
    have e1' : (k.toList != rk.toList) = true := by unfold bne; rw [e1]; rfl
    clear hk HV HT
    go_enter Tryz.func18, Tryz.ntmps18
    go_wp2_with fail
    clear hM
    refine (HMY.out _ XM.out).mono ?_
    rintro e w1 ⟨rfl, hx1⟩
    have X1 := hid (XM.out.trans hx1)
    obtain ⟨r0, r1, r2, r3, r4, r5⟩ := jsix_of (hx1.block HM0.out)
    clear hx1 z0 z1 z2 z3 z4 z5
    go_wp2_with fail
    go_ret
    exact ⟨by rw [HU.out, HW.out]; try rfl, X1.out⟩
  have HV := hid (HV.out.trans (if_pos hk))
  have e1 : (k.toList == rk.toList) = true := by rw [hk]; exact beq_self_eq_true _
  have e1' : (k.toList != rk.toList) = false := by unfold bne; rw [e1]; rfl
  clear hk
  by_cases h1 : (nk : Int) < mn
  · have HW := hid (show V = 11 by rw [HV.out, if_pos (.inl h1)])
    clear HV HT
    go_enter Tryz.func18, Tryz.ntmps18
    go_wp2_with fail
    clear hM
    refine (HMY.out _ XM.out).mono ?_
    rintro e w1 ⟨rfl, hx1⟩
    have X1 := hid (XM.out.trans hx1)
    obtain ⟨r0, r1, r2, r3, r4, r5⟩ := jsix_of (hx1.block HM0.out)
    clear hx1 z0 z1 z2 z3 z4 z5
    go_wp2_with fail
    go_ret
    exact ⟨by rw [HU.out, HW.out]; rfl, X1.out⟩
  by_cases hm : mx = -1
  · subst hm
    have HNO := hid (show ¬ ((nk : Int) < mn ∨ ((-1 : Int) ≠ -1 ∧ (-1 : Int) < (nk : Int))) by omega)
    by_cases h3 : 16384 < x.size
    · have HW := hid (show V = 2 by rw [HV.out, if_neg HNO.out, if_pos h3])
      have h3q : (16384 : Int) < x.size := by omega
      go_enter Tryz.func18, Tryz.ntmps18
      go_wp2_with fail
      clear hM
      refine (HMY.out _ XM.out).mono ?_
      rintro e w1 ⟨rfl, hx1⟩
      have X1 := hid (XM.out.trans hx1)
      obtain ⟨r0, r1, r2, r3, r4, r5⟩ := jsix_of (hx1.block HM0.out)
      clear hx1 z0 z1 z2 z3 z4 z5
      go_wp2_with fail
      go_ret
      exact ⟨by rw [HU.out, HW.out]; rfl, X1.out⟩
    have h3q : ¬ (16384 : Int) < x.size := by omega
    by_cases h4 : n = 0
    · subst h4
      go_enter Tryz.func18, Tryz.ntmps18
      go_wp2_with fail
      clear hM
      refine (HMY.out _ XM.out).mono ?_
      rintro e w1 ⟨rfl, hx1⟩
      have X1 := hid (XM.out.trans hx1)
      obtain ⟨r0, r1, r2, r3, r4, r5⟩ := jsix_of (hx1.block HM0.out)
      clear hx1 z0 z1 z2 z3 z4 z5
      go_wp2_with fail
      refine (HT.out ht4 (by omega) _).mono ?_
      rintro e w2 ⟨rfl, hx2⟩
      have X2 := hid (X1.out.trans hx2)
      clear hx2
      cases b with
      | true =>
        have HW := hid (show V = 0 by rw [HV.out, if_neg HNO.out, if_neg h3, if_neg (fun h => h.1 rfl)]; rfl)
        clear HV
        go_wp2_with fail
        go_ret
        exact ⟨by rw [HU.out, HW.out]; rfl, X2.out⟩
      | false =>
        have HW := hid (show V = 12 by rw [HV.out, if_neg HNO.out, if_neg h3, if_neg (fun h => h.1 rfl)]; rfl)
        clear HV
        go_wp2_with fail
        go_ret
        exact ⟨by rw [HU.out, HW.out]; rfl, X2.out⟩
    have h4q : (n == 0) = false := by rw [beq_eq_false_iff_ne]; exact h4
    have h4r : (n != 0) = true := by unfold bne; rw [h4q]; rfl
    cases bj with
    | true =>
      go_enter Tryz.func18, Tryz.ntmps18
      go_wp2_with fail
      clear hM
      refine (HMY.out _ XM.out).mono ?_
      rintro e w1 ⟨rfl, hx1⟩
      have X1 := hid (XM.out.trans hx1)
      obtain ⟨r0, r1, r2, r3, r4, r5⟩ := jsix_of (hx1.block HM0.out)
      clear hx1 z0 z1 z2 z3 z4 z5
      go_wp2_with fail
      refine (HT.out ht4 (by omega) _).mono ?_
      rintro e w2 ⟨rfl, hx2⟩
      have X2 := hid (X1.out.trans hx2)
      clear hx2
      cases b with
      | true =>
        have HW := hid (show V = 0 by rw [HV.out, if_neg HNO.out, if_neg h3, if_neg (fun h => by cases h.2)]; rfl)
        clear HV
        go_wp2_with fail
        go_ret
        exact ⟨by rw [HU.out, HW.out]; rfl, X2.out⟩
      | false =>
        have HW := hid (show V = 12 by rw [HV.out, if_neg HNO.out, if_neg h3, if_neg (fun h => by cases h.2)]; rfl)
        clear HV
        go_wp2_with fail
        go_ret
        exact ⟨by rw [HU.out, HW.out]; rfl, X2.out⟩
    | false =>
      have HW := hid (show V = 12 by rw [HV.out, if_neg HNO.out, if_neg h3, if_pos ⟨h4, rfl⟩])
      clear h4
      go_enter Tryz.func18, Tryz.ntmps18
      go_wp2_with fail
      clear hM
      refine (HMY.out _ XM.out).mono ?_
      rintro e w1 ⟨rfl, hx1⟩
      have X1 := hid (XM.out.trans hx1)
      obtain ⟨r0, r1, r2, r3, r4, r5⟩ := jsix_of (hx1.block HM0.out)
      clear hx1 z0 z1 z2 z3 z4 z5
      go_wp2_with fail
      go_ret
      exact ⟨by rw [HU.out, HW.out]; rfl, X1.out⟩
  have m1 : (mx == -1) = false := by rw [beq_eq_false_iff_ne]; exact hm
  have m2 : (mx != -1) = true := by unfold bne; rw [m1]; rfl
  by_cases h2 : mx < (nk : Int)
  · have HW := hid (show V = 11 by rw [HV.out, if_pos (.inr ⟨hm, h2⟩)])
    clear HV HT hm
    go_enter Tryz.func18, Tryz.ntmps18
    go_wp2_with fail
    clear hM
    refine (HMY.out _ XM.out).mono ?_
    rintro e w1 ⟨rfl, hx1⟩
    have X1 := hid (XM.out.trans hx1)
    obtain ⟨r0, r1, r2, r3, r4, r5⟩ := jsix_of (hx1.block HM0.out)
    clear hx1 z0 z1 z2 z3 z4 z5
    go_wp2_with fail
    go_ret
    exact ⟨by rw [HU.out, HW.out]; rfl, X1.out⟩
  have HNO := hid (show ¬ ((nk : Int) < mn ∨ (mx ≠ -1 ∧ mx < (nk : Int))) by omega)
  by_cases h3 : 16384 < x.size
  · have HW := hid (show V = 2 by rw [HV.out, if_neg HNO.out, if_pos h3])
    have h3q : (16384 : Int) < x.size := by omega
    go_enter Tryz.func18, Tryz.ntmps18
    go_wp2_with fail
    clear hM
    refine (HMY.out _ XM.out).mono ?_
    rintro e w1 ⟨rfl, hx1⟩
    have X1 := hid (XM.out.trans hx1)
    obtain ⟨r0, r1, r2, r3, r4, r5⟩ := jsix_of (hx1.block HM0.out)
    clear hx1 z0 z1 z2 z3 z4 z5
    go_wp2_with fail
    go_ret
    exact ⟨by rw [HU.out, HW.out]; rfl, X1.out⟩
  have h3q : ¬ (16384 : Int) < x.size := by omega
  by_cases h4 : n = 0
  · subst h4
    go_enter Tryz.func18, Tryz.ntmps18
    go_wp2_with fail
    clear hM
    refine (HMY.out _ XM.out).mono ?_
    rintro e w1 ⟨rfl, hx1⟩
    have X1 := hid (XM.out.trans hx1)
    obtain ⟨r0, r1, r2, r3, r4, r5⟩ := jsix_of (hx1.block HM0.out)
    clear hx1 z0 z1 z2 z3 z4 z5
    go_wp2_with fail
    refine (HT.out ht4 (by omega) _).mono ?_
    rintro e w2 ⟨rfl, hx2⟩
    have X2 := hid (X1.out.trans hx2)
    clear hx2
    cases b with
    | true =>
      have HW := hid (show V = 0 by rw [HV.out, if_neg HNO.out, if_neg h3, if_neg (fun h => h.1 rfl)]; rfl)
      clear HV
      go_wp2_with fail
      go_ret
      exact ⟨by rw [HU.out, HW.out]; rfl, X2.out⟩
    | false =>
      have HW := hid (show V = 12 by rw [HV.out, if_neg HNO.out, if_neg h3, if_neg (fun h => h.1 rfl)]; rfl)
      clear HV
      go_wp2_with fail
      go_ret
      exact ⟨by rw [HU.out, HW.out]; rfl, X2.out⟩
  have h4q : (n == 0) = false := by rw [beq_eq_false_iff_ne]; exact h4
  have h4r : (n != 0) = true := by unfold bne; rw [h4q]; rfl
  cases bj with
  | true =>
    go_enter Tryz.func18, Tryz.ntmps18
    go_wp2_with fail
    clear hM
    refine (HMY.out _ XM.out).mono ?_
    rintro e w1 ⟨rfl, hx1⟩
    have X1 := hid (XM.out.trans hx1)
    obtain ⟨r0, r1, r2, r3, r4, r5⟩ := jsix_of (hx1.block HM0.out)
    clear hx1 z0 z1 z2 z3 z4 z5
    go_wp2_with fail
    refine (HT.out ht4 (by omega) _).mono ?_
    rintro e w2 ⟨rfl, hx2⟩
    have X2 := hid (X1.out.trans hx2)
    clear hx2
    cases b with
    | true =>
      have HW := hid (show V = 0 by rw [HV.out, if_neg HNO.out, if_neg h3, if_neg (fun h => by cases h.2)]; rfl)
      clear HV
      go_wp2_with fail
      go_ret
      exact ⟨by rw [HU.out, HW.out]; rfl, X2.out⟩
    | false =>
      have HW := hid (show V = 12 by rw [HV.out, if_neg HNO.out, if_neg h3, if_neg (fun h => by cases h.2)]; rfl)
      clear HV
      go_wp2_with fail
      go_ret
      exact ⟨by rw [HU.out, HW.out]; rfl, X2.out⟩
  | false =>
    have HW := hid (show V = 12 by rw [HV.out, if_neg HNO.out, if_neg h3, if_pos ⟨h4, rfl⟩])
    clear h4
    go_enter Tryz.func18, Tryz.ntmps18
    go_wp2_with fail
    clear hM
    refine (HMY.out _ XM.out).mono ?_
    rintro e w1 ⟨rfl, hx1⟩
    have X1 := hid (XM.out.trans hx1)
    obtain ⟨r0, r1, r2, r3, r4, r5⟩ := jsix_of (hx1.block HM0.out)
    clear hx1 z0 z1 z2 z3 z4 z5
    go_wp2_with fail
    go_ret
    exact ⟨by rw [HU.out, HW.out]; rfl, X1.out⟩

end Go.Proofs.YtaodkfchmaendaaGreatDoor.Nd
