/-
  Has of the document's packages, and asked: what is amiss with a call of Work, but for sorts; by contracts.
-/
import Derived.Test.YtecabbifkcnbeaaGreatDoorWKLaw
import Derived.Deep.LoopGhost
import Derived.Test.YtecabbifkcnbeaaGreatDoorCVals
namespace Go.Proofs.YtecabbifkcnbeaaGreatDoor
open Go.RowKit
def hasS (x : ByteArray) (xs : List ByteArray) : Bool := xs.any (fun y => decide (y = x))
theorem hasS_no {x : ByteArray} {xs : List ByteArray} (h : ∀ j, (hj : j < xs.length) → xs[j] ≠ x) : hasS x xs = false := by
  unfold hasS
  rw [List.any_eq_false]
  intro y hy
  obtain ⟨j, hj, rfl⟩ := List.getElem_of_mem hy
  simpa using h j hj
theorem hasS_yes {x : ByteArray} {xs : List ByteArray} (j : Nat) (hj : j < xs.length) (h : xs[j] = x) : hasS x xs = true := by
  unfold hasS
  rw [List.any_eq_true]
  exact ⟨xs[j], List.getElem_mem hj, by simpa using h⟩
set_option maxRecDepth 100000 in
set_option maxHeartbeats 1000000 in
theorem has_any (a : Option Addr) (c : Nat) (xs : List ByteArray) (x : ByteArray) (w : World) (hn : xs.length ≤ 1000) (h : TRow w a xs) : Calls Tryz.prog 59 #[.slice a xs.length c, .string x] w fun e w' => e = .returned (.bool (hasS x xs)) ∧ w' = w := by
  have HT := hid h
  have HY := hid (fun j hj h => hasS_yes (x := x) (xs := xs) j hj h)
  have HN := hid (fun h => hasS_no (x := x) (xs := xs) h)
  obtain ⟨b, hb⟩ : ∃ b, hasS x xs = b := ⟨_, rfl⟩
  rw [hb] at HY HN ⊢
  clear hb
  obtain ⟨n, hne⟩ : ∃ n, xs.length = n := ⟨_, rfl⟩
  have HNE := hid hne
  rw [hne] at hn ⊢
  have hn' : (n : Int) ≤ 1000 := by omega
  clear h hne
  go_enter Tryz.func59, Tryz.ntmps59
  go_wp2_with fail
  go_loopw [5] (fun q5 wr => ∃ j : Nat, j ≤ n ∧ q5 = .int .i64 j ∧ (∀ i, (h : i < xs.length) → i < j → xs[i] ≠ x) ∧ wr = w) (fun q5 _ => n - (intOf q5).toNat)
  case atStart => exact ⟨0, Nat.zero_le _, rfl, fun _ _ h => absurd h (Nat.not_lt_zero _), rfl⟩
  case round =>
    obtain ⟨j, hj, rfl, hno, rfl⟩ := hrel
    have HNO := hid hno
    clear hno
    by_cases hlt : j < n
    · have hlt' : (j : Int) < n := by omega
      have hjx : j < xs.length := by rw [HNE.out]; exact hlt
      rcases HT.out with e0 | ⟨g, off, rfl, hc⟩
      · rw [e0] at hjx; exact absurd hjx (Nat.not_lt_zero _)
      have hcell := hc j hjx
      have hgl := lt_of_cell hcell
      by_cases he : xs[j] = x
      · have HB := hid (HY.out j hjx he)
        have e1 : (xs[j].toList == x.toList) = true := by rw [he]; exact beq_self_eq_true _
        clear hc
        generalize xs[j] = y at *
        go_wp2_with fail
        go_ret
        exact ⟨by rw [HB.out]; rfl, rfl⟩
      · have e1 : (xs[j].toList == x.toList) = false := by rw [beq_eq_false_iff_ne]; exact fun e => he (toList_inj e)
        have HE := hid he
        clear hc
        generalize hy : xs[j] = y at *
        have HYY := hid hy
        clear hy
        go_wp2_with fail
        go_roundw
        case rel => exact ⟨j + 1, hlt, by go_num, fun i hi h => by
          rcases Nat.lt_succ_iff_lt_or_eq.1 h with h | rfl
          · exact HNO.out i hi h
          · rw [HYY.out]; exact HE.out, by trivial⟩
        case measure => simp [intOf]; omega
    · have HB := hid (HN.out (fun i hi => HNO.out i hi (by have := HNE.out; omega)))
      have hlt3 : ¬ (j : Int) < n := by omega
      go_wp2_with fail
      go_ret
      exact ⟨by rw [HB.out]; rfl, rfl⟩
/-- What is amiss with a call, but for sorts. -/
def strictR (op : ByteArray) (r : Rw) : Bool := decide (r.kind = op) && hasS ⟨#[83, 116, 114, 105, 99, 116]⟩ r.abs
def askI (rs : List Rw) (op : ByteArray) (ts : List T) : Int := match rs.find? (strictR op) with
  | none => 1
  | some r => if (ts.length : Int) < r.min ∨ r.max < (ts.length : Int) then 11 else if ∀ t ∈ ts, t.may then 0 else 1
theorem find_first {α : Type} {p : α → Bool} {l : List α} {j : Nat} (hj : j < l.length) (h : p l[j] = true) (hn : ∀ i, (hi : i < l.length) → i < j → p l[i] = false) : l.find? p = some l[j] := by
  rw [List.find?_eq_some_iff_getElem]
  exact ⟨h, j, hj, rfl, fun i hi => by rw [hn i (by omega) hi]; rfl⟩
theorem find_nothing {α : Type} {p : α → Bool} {l : List α} (hn : ∀ i, (hi : i < l.length) → p l[i] = false) : l.find? p = none := by
  rw [List.find?_eq_none]
  intro x hx
  obtain ⟨i, hi, rfl⟩ := List.getElem_of_mem hx
  rw [hn i hi]; decide
set_option maxRecDepth 100000 in
set_option maxHeartbeats 4000000 in
theorem askedW_any {K : Nat → Prop} {d : Nat} (rs : List Rw) (op : ByteArray) (a : Option Addr) (c : Nat) (ts : List T) (w : World) (hrs : rs.length ≤ 1000) (hab : ∀ r ∈ rs, r.abs.length ≤ 100) (HRows : ∀ w, Calls Tryz.prog 58 #[] w (RowsR w rs)) (h : RdL K w d a ts) : Calls Tryz.prog 31 #[.string op, .slice a ts.length c] w fun e w' => e = .returned (.int .i64 (askI rs op ts)) ∧ Ext w w' := by
  have HK := hid h
  have HAB := hid hab
  have HRR := hid HRows
  have hts : (ts.length : Int) ≤ 140737488351232 := by have := h.1; omega
  have HA := hid (show ∀ j, (hj : j < rs.length) → strictR op rs[j] = true → (∀ i, (hi : i < rs.length) → i < j → strictR op rs[i] = false) → askI rs op ts = if (ts.length : Int) < rs[j].min ∨ rs[j].max < (ts.length : Int) then 11 else if ∀ t ∈ ts, t.may then 0 else 1 from fun j hj h1 h2 => by unfold askI; rw [find_first hj h1 h2])
  have HB := hid (show (∀ i, (hi : i < rs.length) → strictR op rs[i] = false) → askI rs op ts = 1 from fun h1 => by unfold askI; rw [find_nothing h1])
  obtain ⟨V, hV⟩ : ∃ V, askI rs op ts = V := ⟨_, rfl⟩
  rw [hV] at HA HB ⊢
  clear hV
  obtain ⟨n, hne⟩ : ∃ n, rs.length = n := ⟨_, rfl⟩
  have HNE := hid hne
  obtain ⟨m, hme⟩ : ∃ m, ts.length = m := ⟨_, rfl⟩
  have HME := hid hme
  rw [hme] at HA hts ⊢
  rw [hne] at hrs
  have hn' : (n : Int) ≤ 1000 := by omega
  clear h hne hme hab HRows
  go_enter Tryz.func31, Tryz.ntmps31
  go_wp2_with fail
  refine (HRR.out _).mono ?_
  rintro e w1 ⟨ao, c1, rfl, hit, hx1⟩
  have HIT := hid hit
  have HX1 := hid hx1
  rw [HNE.out] at HIT
  rw [HNE.out]
  clear hit hx1
  go_wp2_with fail
  go_loopw [6] (fun q6 wr => ∃ j : Nat, j ≤ n ∧ q6 = .int .i64 j ∧ (∀ i, (h : i < rs.length) → i < j → strictR op rs[i] = false) ∧ Ext w1 wr) (fun q6 _ => n - (intOf q6).toNat)
  case atStart => exact ⟨0, Nat.zero_le _, rfl, fun _ _ h => absurd h (Nat.not_lt_zero _), Ext.refl _⟩
  case round =>
    obtain ⟨j, hj, rfl, hno, hx⟩ := hrel
    have HNO := hid hno
    have HX := hid hx
    clear hno hx
    by_cases hlt : j < n
    · have hlt' : (j : Int) < n := by omega
      have hjr : j < rs.length := by rw [HNE.out]; exact hlt
      obtain ⟨g, cap, a2, c2, hlv, ⟨p0, p1, p2, p3, p4, p5⟩, htb⟩ := (HIT.out.later HX.out).read j hjr
      obtain ⟨rfl, hnn, rfl⟩ := Value.slice.inj hlv
      clear hnn hlv
      have HTB := hid htb
      have hgl := lt_of_cell p0
      have HS := hid (show strictR op rs[j] = (decide (rs[j].kind = op) && hasS ⟨#[83, 116, 114, 105, 99, 116]⟩ rs[j].abs) from rfl)
      have HAJ := hid (HA.out j hjr)
      have HH := hid (fun W (hx2 : Ext wr W) => has_any a2 c2 rs[j].abs ⟨#[83, 116, 114, 105, 99, 116]⟩ W (Nat.le_trans (HAB.out _ (List.getElem_mem hjr)) (by decide)) (HTB.out.row.later hx2))
      have HRJ := hid (show ∀ b, strictR op rs[j] = b → b = false → ∀ i, (h : i < rs.length) → i < j + 1 → strictR op rs[i] = false from fun b e1 e2 i hi h => by
        rcases Nat.lt_succ_iff_lt_or_eq.1 h with h | rfl
        · exact HNO.out i hi h
        · rw [e1, e2])
      clear htb
      generalize rs[j] = r at *
      obtain ⟨rk, rmin, rmax, rnum, rtext, rabs⟩ := r
      dsimp only at *
      generalize rabs.length = rl at *
      by_cases hk : rk = op
      · have e1 : (rk.toList == op.toList) = true := by rw [hk]; exact beq_self_eq_true _
        obtain ⟨bs, hbs⟩ : ∃ bs, hasS ⟨#[83, 116, 114, 105, 99, 116]⟩ rabs = bs := ⟨_, rfl⟩
        rw [hbs] at HH HS
        rw [decide_eq_true hk, Bool.true_and] at HS
        clear hk hbs
        cases bs with
        | false =>
          go_wp2_with fail
          refine (HH.out _ (Ext.refl _)).mono ?_
          rintro e w2 ⟨rfl, rfl⟩
          go_wp2_with fail
          go_roundw
          case rel => exact ⟨j + 1, hlt, by go_num, HRJ.out _ HS.out rfl, HX.out⟩
          case measure => simp [intOf]; omega
        | true =>
          have HV := hid (HAJ.out HS.out HNO.out)
          by_cases q1 : (m : Int) < rmin
          · have HV2 := hid (show V = 11 by rw [HV.out, if_pos (.inl q1)])
            go_wp2_with fail
            refine (HH.out _ (Ext.refl _)).mono ?_
            rintro e w2 ⟨rfl, rfl⟩
            go_wp2_with fail
            go_ret
            exact ⟨by rw [HV2.out]; rfl, HX1.out.trans HX.out⟩
          by_cases q2 : rmax < (m : Int)
          · have HV2 := hid (show V = 11 by rw [HV.out, if_pos (.inr q2)])
            go_wp2_with fail
            refine (HH.out _ (Ext.refl _)).mono ?_
            rintro e w2 ⟨rfl, rfl⟩
            go_wp2_with fail
            go_ret
            exact ⟨by rw [HV2.out]; rfl, HX1.out.trans HX.out⟩
          have HV2 := hid (show V = if ∀ t ∈ ts, t.may then 0 else 1 by rw [HV.out, if_neg (fun h => h.elim q1 q2)])
          clear HV HAJ
          go_wp2_with fail
          refine (HH.out _ (Ext.refl _)).mono ?_
          rintro e w2 ⟨rfl, rfl⟩
          go_wp2_with fail
          clear p0 p1 p2 p3 p4 p5 hgl e1
          go_loopw [7] (fun q7 wr2 => ∃ i : Nat, i ≤ m ∧ q7 = .int .i64 i ∧ (∀ x, (h : x < ts.length) → x < i → ts[x].may) ∧ Ext w1 wr2) (fun q7 _ => m - (intOf q7).toNat)
          case atStart => exact ⟨0, Nat.zero_le _, rfl, fun _ _ h => absurd h (Nat.not_lt_zero _), HX.out⟩
          case round =>
            obtain ⟨i, hi, rfl, hall, hx2⟩ := hrel
            have HALL := hid hall
            have HX2 := hid (HX1.out.trans hx2)
            have HX6 := hid hx2
            clear hall hx2
            by_cases hlt2 : i < m
            · have hlt2' : (i : Int) < m := by omega
              have hit2 : i < ts.length := by rw [HME.out]; exact hlt2
              obtain ⟨g2, off2, k', n', x', a', l', c', rfl, hg2, h4, hrd⟩ := HK.out.kid hit2
              obtain ⟨o0, o1, o2, o3⟩ := Four.keep h4 (HX2.out.kp K) hg2
              have hgl2 := lt_of_cell o0
              have HM := hid (rmay_any _ (hrd.later HX2.out))
              have HNO2 := hid (show ¬ ts[i].may → V = 1 from fun hn => by rw [HV2.out, if_neg (fun h => hn (h _ (List.getElem_mem hit2)))])
              have HYES := hid (show ts[i].may → ∀ x, (h : x < ts.length) → x < i + 1 → ts[x].may from fun hy x hx h => by
                rcases Nat.lt_succ_iff_lt_or_eq.1 h with h | rfl
                · exact HALL.out x hx h
                · exact hy)
              clear h4 hrd
              generalize ts[i] = t at *
              clear hit2
              by_cases hmay : t.may
              · rw [decide_eq_true hmay] at HM
                have HY := hid (HYES.out hmay)
                clear hmay
                go_wp2_with fail
                refine HM.out.mono ?_
                rintro e w4 ⟨rfl, hx4⟩
                have HX5 := hid (HX6.out.trans hx4)
                clear hx4 o0 o1 o2 o3
                go_wp2_with fail
                go_roundw
                case rel => exact ⟨i + 1, hlt2, by go_num, HY.out, HX5.out⟩
                case measure => simp [intOf]; omega
              · rw [decide_eq_false hmay] at HM
                have HY := hid (HNO2.out hmay)
                clear hmay
                go_wp2_with fail
                refine HM.out.mono ?_
                rintro e w4 ⟨rfl, hx4⟩
                have HX4 := hid (HX2.out.trans hx4)
                clear hx4 o0 o1 o2 o3
                go_wp2_with fail
                go_ret
                exact ⟨by rw [HY.out]; rfl, HX4.out⟩
            · have HY := hid (show V = 0 by
                rw [HV2.out, if_pos]
                intro t ht
                obtain ⟨x, hx, rfl⟩ := List.getElem_of_mem ht
                exact HALL.out x hx (by have := HME.out; omega))
              have hlt3 : ¬ (i : Int) < m := by omega
              go_wp2_with fail
              go_ret
              exact ⟨by rw [HY.out]; rfl, HX2.out⟩
      · have e1 : (rk.toList == op.toList) = false := by rw [beq_eq_false_iff_ne]; exact fun e => hk (toList_inj e)
        rw [decide_eq_false hk, Bool.false_and] at HS
        clear hk
        go_wp2_with fail
        go_roundw
        case rel => exact ⟨j + 1, hlt, by go_num, HRJ.out _ HS.out rfl, HX.out⟩
        case measure => simp [intOf]; omega
    · have HV := hid (HB.out (fun i hi => HNO.out i hi (by have := HNE.out; omega)))
      have hlt3 : ¬ (j : Int) < n := by omega
      go_wp2_with fail
      go_ret
      exact ⟨by rw [HV.out]; rfl, HX1.out.trans HX.out⟩

end Go.Proofs.YtecabbifkcnbeaaGreatDoor
/-
  espalierref10's row and Rows by contracts: the rows of the kit words.
-/
namespace Go.Proofs.YtecabbifkcnbeaaGreatDoor
open Go.RowKit
theorem refrowW_any (k : ByteArray) (mn mx tx : Int) (a : Option Addr) (n c : Nat) (w : World) : Calls Tryz.prog 111 #[.string k, .int .i64 mn, .int .i64 mx, .int .i64 tx, .slice a n c] w fun e w' => e = .returned (.agg #[.string k, .int .i64 mn, .int .i64 mx, .bool false, .int .i64 tx, .slice a n c]) ∧ Ext w w' := by
  go_enter Tryz.func111, Tryz.ntmps111
  go_wp2_with fail
  obtain ⟨q0, q1, q2, q3, q4, q5⟩ := six_of (blk0 w (.cells #[.string k, .int .i64 mn, .int .i64 mx, .bool false, .int .i64 tx, .slice a n c] 118))
  refine bodyPost_ret (v := .agg #[.string k, .int .i64 mn, .int .i64 mx, .bool false, .int .i64 tx, .slice a n c]) (by simp [results, Tryz.results111, go_sem, q0, q1, q2, q3, q4, q5]) rfl ?_
  exact ⟨rfl, Ext.alloc _ _⟩
/-- The rows of the kit words. -/
def wordsR : List Rw := [
  ⟨⟨#[119, 111, 114, 100, 115, 46, 106, 111, 105, 110]⟩, 2, 2, false, 0, [⟨#[83, 116, 114, 105, 99, 116]⟩, ⟨#[80, 117, 114, 101]⟩, ⟨#[83, 111, 114, 116, 101, 100]⟩]⟩,
  ⟨⟨#[119, 111, 114, 100, 115, 46, 115, 105, 122, 101]⟩, 1, 1, false, 0, [⟨#[83, 116, 114, 105, 99, 116]⟩, ⟨#[80, 117, 114, 101]⟩, ⟨#[84, 111, 116, 97, 108]⟩, ⟨#[83, 111, 114, 116, 101, 100]⟩]⟩,
  ⟨⟨#[119, 111, 114, 100, 115, 46, 99, 117, 116]⟩, 3, 3, false, 0, [⟨#[83, 116, 114, 105, 99, 116]⟩, ⟨#[80, 117, 114, 101]⟩, ⟨#[83, 111, 114, 116, 101, 100]⟩]⟩,
  ⟨⟨#[119, 111, 114, 100, 115, 46, 102, 105, 110, 100]⟩, 2, 2, false, 0, [⟨#[83, 116, 114, 105, 99, 116]⟩, ⟨#[80, 117, 114, 101]⟩, ⟨#[84, 111, 116, 97, 108]⟩, ⟨#[83, 111, 114, 116, 101, 100]⟩]⟩,
  ⟨⟨#[119, 111, 114, 100, 115, 46, 114, 101, 112]⟩, 2, 2, false, 0, [⟨#[83, 116, 114, 105, 99, 116]⟩, ⟨#[80, 117, 114, 101]⟩, ⟨#[83, 111, 114, 116, 101, 100]⟩]⟩,
  ⟨⟨#[119, 111, 114, 100, 115, 46, 108, 101, 115, 115]⟩, 2, 2, false, 0, [⟨#[83, 116, 114, 105, 99, 116]⟩, ⟨#[80, 117, 114, 101]⟩, ⟨#[84, 111, 116, 97, 108]⟩, ⟨#[83, 111, 114, 116, 101, 100]⟩]⟩,
  ⟨⟨#[119, 111, 114, 100, 115, 46, 111, 102]⟩, 1, 1, false, 0, [⟨#[83, 116, 114, 105, 99, 116]⟩, ⟨#[80, 117, 114, 101]⟩, ⟨#[84, 111, 116, 97, 108]⟩, ⟨#[83, 111, 114, 116, 101, 100]⟩]⟩,
  ⟨⟨#[119, 111, 114, 100, 115, 46, 110, 117, 109]⟩, 1, 1, false, 0, [⟨#[83, 116, 114, 105, 99, 116]⟩, ⟨#[80, 117, 114, 101]⟩, ⟨#[83, 111, 114, 116, 101, 100]⟩]⟩,
  ⟨⟨#[119, 111, 114, 100, 115, 46, 97, 108, 108]⟩, 0, -1, false, 0, [⟨#[80, 117, 114, 101]⟩, ⟨#[83, 111, 114, 116, 101, 100]⟩, ⟨#[83, 117, 103, 97, 114]⟩]⟩]
theorem wordsR_eq : wordsK.map kdRow = wordsR := by kernel_rfl
set_option maxRecDepth 100000 in
set_option maxHeartbeats 4000000 in
theorem refRowsW_any (w : World) : Calls Tryz.prog 58 #[] w (RowsR w wordsR) := by
  go_enter Tryz.func58, Tryz.ntmps58
  go_wp2_with fail
  refine (refrowW_any _ _ _ _ _ _ _ _).mono ?_
  rintro e w1 ⟨rfl, hx1⟩
  have T0 := hid (show TB w1 (some ⟨w.heap.size, 0, none⟩) [⟨#[83, 116, 114, 105, 99, 116]⟩, ⟨#[80, 117, 114, 101]⟩, ⟨#[83, 111, 114, 116, 101, 100]⟩] from (tb_new (blk0 _ _) rfl).later hx1)
  have Y1 := hid ((Ext.alloc _ _).trans hx1)
  have X1 := hid (Y1.out)
  clear hx1
  go_wp2_with fail
  refine (refrowW_any _ _ _ _ _ _ _ _).mono ?_
  rintro e w2 ⟨rfl, hx2⟩
  have T1 := hid (show TB w2 (some ⟨w1.heap.size, 0, none⟩) [⟨#[83, 116, 114, 105, 99, 116]⟩, ⟨#[80, 117, 114, 101]⟩, ⟨#[84, 111, 116, 97, 108]⟩, ⟨#[83, 111, 114, 116, 101, 100]⟩] from (tb_new (blk0 _ _) rfl).later hx2)
  have Y2 := hid ((Ext.alloc _ _).trans hx2)
  have X2 := hid (X1.out.trans Y2.out)
  clear hx2
  go_wp2_with fail
  refine (refrowW_any _ _ _ _ _ _ _ _).mono ?_
  rintro e w3 ⟨rfl, hx3⟩
  have T2 := hid (show TB w3 (some ⟨w2.heap.size, 0, none⟩) [⟨#[83, 116, 114, 105, 99, 116]⟩, ⟨#[80, 117, 114, 101]⟩, ⟨#[83, 111, 114, 116, 101, 100]⟩] from (tb_new (blk0 _ _) rfl).later hx3)
  have Y3 := hid ((Ext.alloc _ _).trans hx3)
  have X3 := hid (X2.out.trans Y3.out)
  clear hx3
  go_wp2_with fail
  refine (refrowW_any _ _ _ _ _ _ _ _).mono ?_
  rintro e w4 ⟨rfl, hx4⟩
  have T3 := hid (show TB w4 (some ⟨w3.heap.size, 0, none⟩) [⟨#[83, 116, 114, 105, 99, 116]⟩, ⟨#[80, 117, 114, 101]⟩, ⟨#[84, 111, 116, 97, 108]⟩, ⟨#[83, 111, 114, 116, 101, 100]⟩] from (tb_new (blk0 _ _) rfl).later hx4)
  have Y4 := hid ((Ext.alloc _ _).trans hx4)
  have X4 := hid (X3.out.trans Y4.out)
  clear hx4
  go_wp2_with fail
  refine (refrowW_any _ _ _ _ _ _ _ _).mono ?_
  rintro e w5 ⟨rfl, hx5⟩
  have T4 := hid (show TB w5 (some ⟨w4.heap.size, 0, none⟩) [⟨#[83, 116, 114, 105, 99, 116]⟩, ⟨#[80, 117, 114, 101]⟩, ⟨#[83, 111, 114, 116, 101, 100]⟩] from (tb_new (blk0 _ _) rfl).later hx5)
  have Y5 := hid ((Ext.alloc _ _).trans hx5)
  have X5 := hid (X4.out.trans Y5.out)
  clear hx5
  go_wp2_with fail
  refine (refrowW_any _ _ _ _ _ _ _ _).mono ?_
  rintro e w6 ⟨rfl, hx6⟩
  have T5 := hid (show TB w6 (some ⟨w5.heap.size, 0, none⟩) [⟨#[83, 116, 114, 105, 99, 116]⟩, ⟨#[80, 117, 114, 101]⟩, ⟨#[84, 111, 116, 97, 108]⟩, ⟨#[83, 111, 114, 116, 101, 100]⟩] from (tb_new (blk0 _ _) rfl).later hx6)
  have Y6 := hid ((Ext.alloc _ _).trans hx6)
  have X6 := hid (X5.out.trans Y6.out)
  clear hx6
  go_wp2_with fail
  refine (refrowW_any _ _ _ _ _ _ _ _).mono ?_
  rintro e w7 ⟨rfl, hx7⟩
  have T6 := hid (show TB w7 (some ⟨w6.heap.size, 0, none⟩) [⟨#[83, 116, 114, 105, 99, 116]⟩, ⟨#[80, 117, 114, 101]⟩, ⟨#[84, 111, 116, 97, 108]⟩, ⟨#[83, 111, 114, 116, 101, 100]⟩] from (tb_new (blk0 _ _) rfl).later hx7)
  have Y7 := hid ((Ext.alloc _ _).trans hx7)
  have X7 := hid (X6.out.trans Y7.out)
  clear hx7
  go_wp2_with fail
  refine (refrowW_any _ _ _ _ _ _ _ _).mono ?_
  rintro e w8 ⟨rfl, hx8⟩
  have T7 := hid (show TB w8 (some ⟨w7.heap.size, 0, none⟩) [⟨#[83, 116, 114, 105, 99, 116]⟩, ⟨#[80, 117, 114, 101]⟩, ⟨#[83, 111, 114, 116, 101, 100]⟩] from (tb_new (blk0 _ _) rfl).later hx8)
  have Y8 := hid ((Ext.alloc _ _).trans hx8)
  have X8 := hid (X7.out.trans Y8.out)
  clear hx8
  go_wp2_with fail
  refine (refrowW_any _ _ _ _ _ _ _ _).mono ?_
  rintro e w9 ⟨rfl, hx9⟩
  have T8 := hid (show TB w9 (some ⟨w8.heap.size, 0, none⟩) [⟨#[80, 117, 114, 101]⟩, ⟨#[83, 111, 114, 116, 101, 100]⟩, ⟨#[83, 117, 103, 97, 114]⟩] from (tb_new (blk0 _ _) rfl).later hx9)
  have Y9 := hid ((Ext.alloc _ _).trans hx9)
  have X9 := hid (X8.out.trans Y9.out)
  clear hx9
  go_wp2_with fail
  go_ret
  refine ⟨some ⟨w9.heap.size, 0, none⟩, 9, rfl, ?_, X9.out.trans (Ext.alloc _ _)⟩
  show RItems _ _ (.slice (some ⟨w9.heap.size, 0, none⟩) 9 9) wordsR
  refine ritems_new (n := 9) rfl X9.out.size (blk0 _ _) rfl (by decide) ?_
  intro j hj
  have hl : wordsR.length = 9 := rfl
  rw [hl] at hj
  match j, hj with
  | 0, _ => exact ⟨_, _, ⟨rfl, rfl, rfl, rfl, rfl, rfl⟩, T0.out.later (Y2.out.trans (Y3.out.trans (Y4.out.trans (Y5.out.trans (Y6.out.trans (Y7.out.trans (Y8.out.trans (Y9.out.trans (Ext.alloc _ _)))))))))⟩
  | 1, _ => exact ⟨_, _, ⟨rfl, rfl, rfl, rfl, rfl, rfl⟩, T1.out.later (Y3.out.trans (Y4.out.trans (Y5.out.trans (Y6.out.trans (Y7.out.trans (Y8.out.trans (Y9.out.trans (Ext.alloc _ _))))))))⟩
  | 2, _ => exact ⟨_, _, ⟨rfl, rfl, rfl, rfl, rfl, rfl⟩, T2.out.later (Y4.out.trans (Y5.out.trans (Y6.out.trans (Y7.out.trans (Y8.out.trans (Y9.out.trans (Ext.alloc _ _)))))))⟩
  | 3, _ => exact ⟨_, _, ⟨rfl, rfl, rfl, rfl, rfl, rfl⟩, T3.out.later (Y5.out.trans (Y6.out.trans (Y7.out.trans (Y8.out.trans (Y9.out.trans (Ext.alloc _ _))))))⟩
  | 4, _ => exact ⟨_, _, ⟨rfl, rfl, rfl, rfl, rfl, rfl⟩, T4.out.later (Y6.out.trans (Y7.out.trans (Y8.out.trans (Y9.out.trans (Ext.alloc _ _)))))⟩
  | 5, _ => exact ⟨_, _, ⟨rfl, rfl, rfl, rfl, rfl, rfl⟩, T5.out.later (Y7.out.trans (Y8.out.trans (Y9.out.trans (Ext.alloc _ _))))⟩
  | 6, _ => exact ⟨_, _, ⟨rfl, rfl, rfl, rfl, rfl, rfl⟩, T6.out.later (Y8.out.trans (Y9.out.trans (Ext.alloc _ _)))⟩
  | 7, _ => exact ⟨_, _, ⟨rfl, rfl, rfl, rfl, rfl, rfl⟩, T7.out.later (Y9.out.trans (Ext.alloc _ _))⟩
  | 8, _ => exact ⟨_, _, ⟨rfl, rfl, rfl, rfl, rfl, rfl⟩, T8.out.later (Ext.alloc _ _)⟩
  | n + 9, h => exact absurd h (by omega)

end Go.Proofs.YtecabbifkcnbeaaGreatDoor
