/-
  espalierref3.cut, Names, each by a contract.
-/
import Derived.Test.YtaodkfchmaendaaGreatDoorRefK
import Derived.Test.YtaodkfchmaendaaGreatDoorPartsMath
namespace Go.Proofs.YtaodkfchmaendaaGreatDoor
open Go.RowKit Go.Shelf
def joinC (c : UInt8) : List (List UInt8) → List UInt8
  | [] => []
  | [x] => x
  | x :: y :: r => x ++ c :: joinC c (y :: r)
def joinCp (c : UInt8) : List (List UInt8) → List UInt8
  | [] => []
  | x :: r => x ++ c :: joinCp c r
theorem joinCp_snoc (c : UInt8) (xs : List (List UInt8)) (n : List UInt8) : joinCp c (xs ++ [n]) = joinCp c xs ++ (n ++ [c]) := by
  induction xs with
  | nil => simp [joinCp]
  | cons x xs ih => simp [joinCp, ih]
theorem joinCp_len (c : UInt8) (xs : List (List UInt8)) : xs.length ≤ (joinCp c xs).length := by
  induction xs with
  | nil => simp
  | cons x xs ih => simp [joinCp]; omega
theorem joinC_last (c : UInt8) (xs : List (List UInt8)) (n : List UInt8) : joinC c (xs ++ [n]) = joinCp c xs ++ n := by
  induction xs with
  | nil => rfl
  | cons x xs ih =>
    cases xs with
    | nil => simp [joinC, joinCp]
    | cons y r =>
      show x ++ c :: joinC c (y :: r ++ [n]) = _
      rw [ih]; simp [joinCp]
theorem joinS_C : ∀ xs : List (List UInt8), joinS xs = joinC 32 xs
  | [] => rfl
  | [x] => rfl
  | x :: y :: r => by show x ++ 32 :: joinS (y :: r) = _; rw [joinS_C (y :: r)]; rfl
/-- What cut tells of a text. -/
def CutTold (l : List UInt8) (c : UInt8) (base : Nat) (e : Ending) (w' : World) : Prop :=
  ∃ ns v, e = .returned v ∧ ns ≠ [] ∧ (∀ x ∈ ns, c ∉ x) ∧ joinC c ns = l ∧ w'.ownsRow base 9 1 v ns.length (strCells' ns)
theorem seg_no {l : List UInt8} {c : UInt8} {at0 i : Nat} (h : ∀ k, at0 ≤ k → k < i → l[k]? ≠ some c) : c ∉ (l.drop at0).take (i - at0) := fun hm => by
  obtain ⟨k, hk, e⟩ := List.getElem_of_mem hm
  have h1 : ((l.drop at0).take (i - at0))[k]? = some c := by rw [List.getElem?_eq_getElem hk, e]
  rw [List.length_take] at hk
  rw [List.getElem?_take_of_lt (by omega), List.getElem?_drop] at h1
  exact h (at0 + k) (by omega) (by omega) h1
theorem seg_join {l : List UInt8} {c : UInt8} {at0 i : Nat} {xs : List (List UInt8)} (hx : joinCp c xs = l.take at0) (h1 : at0 ≤ i) (h2 : l[i]? = some c) : joinCp c (xs ++ [(l.drop at0).take (i - at0)]) = l.take (i + 1) := by
  rw [joinCp_snoc, hx, ← List.append_assoc, ← List.take_add, show at0 + (i - at0) = i by omega]
  obtain ⟨hi, e⟩ := List.getElem?_eq_some_iff.1 h2
  rw [← e, List.take_append_getElem]
theorem extract_seg (s : ByteArray) (a b : Nat) : s.extract a b = ⟨((s.data.toList.drop a).take (b - a)).toArray⟩ := data_inj (by rw [Lib.extract_data])
set_option maxRecDepth 100000 in
set_option maxHeartbeats 4000000 in
theorem cut_ref (s : ByteArray) (c : UInt8) (cI : Int) (hcI : cI = (c.toNat : Int)) (w : World) (hb : s.size ≤ 1099511627776) :
    Calls Tryz.prog 123 #[.string s, .int .u8 cI] w fun e w' => CutTold s.data.toList c w.heap.size e w' ∧ Ext w w' := by
  obtain ⟨i0, hi0, hz0, hz1, hz2⟩ := info_parts strInfo
  have HCI := hid hcI
  clear hcI
  have hsl : (s.size : Int) ≤ 1099511627776 := by omega
  go_enter Tryz.func123, Tryz.ntmps123
  go_wp2
  go_loopg [5, 6, 7] s.size (fun g t5 t6 t7 wr => ∃ (i at0 : Nat) (xs : List (List UInt8)), t6 = .int .i64 at0 ∧ t7 = .int .i64 i ∧ i + g = s.size ∧ at0 ≤ i ∧ wr.ownsRow w.heap.size 9 1 t5 xs.length (strCells' xs) ∧ Ext w wr ∧
    joinCp c xs = s.data.toList.take at0 ∧ (∀ x ∈ xs, c ∉ x) ∧ (∀ k, at0 ≤ k → k < i → s.data.toList[k]? ≠ some c))
  case atStart => exact ⟨0, 0, [], rfl, rfl, by simp, Nat.le_refl _, World.ownsRow_nil _ _ _ _, Ext.refl _, by simp [joinCp], by simp, fun k _ h => absurd h (Nat.not_lt_zero _)⟩
  case round =>
    obtain ⟨i, at0, xs, rfl, rfl, hig, hai, hown, hx, hj, hnc, hno⟩ := hrel
    obtain ⟨a, c5, rfl⟩ := ownsRow_slice hown
    have hxl : xs.length ≤ s.size := by
      have := joinCp_len c xs
      rw [hj, List.length_take, size_list] at this
      omega
    have hxb : (xs.length : Int) ≤ 1099511627776 := by omega
    have HO := hid hown
    have HX := hid hx
    have HJ := hid hj
    have HNC := hid hnc
    have HNO := hid hno
    have HIG := hid hig
    have hai' : (at0 : Int) ≤ i := by omega
    have hil : (i : Int) ≤ s.size := by omega
    clear hown hx hj hnc hno hig
    by_cases hlt : i < s.size
    · have hlt' : (i : Int) < s.size := by omega
      obtain ⟨hq, hc⟩ := at_list s i hlt
      clear hc
      by_cases hci : s.data.toList[i] = c
      · have hz : (((s.data[i]'hlt).toNat : Int) == cI) = true := by rw [HCI.out]; exact is_sign hlt hq hci
        have hz' : (((s[i]'hlt).toNat : Int) == cI) = true := hz
        have HE := hid (extract_seg s at0 i)
        have HSJ := hid (seg_join HJ.out hai (by rw [List.getElem?_eq_getElem hq, hci]))
        have HSN := hid (seg_no HNO.out)
        clear hci
        have HO2 := hid (show (wr.alloc (.cells #[.string (s.extract at0 i)] 9)).ownsRow w.heap.size 9 1 (.slice a xs.length c5) xs.length (strCells' xs) from HO.out.alloc _)
        go_wp2_with (at_builtin; refine wpList_append_own _ rfl _ _ 35 rfl w.heap.size 9 i0 (.string ⟨#[]⟩) 1 16 Tryz.underlying35 hi0 hz0 hz1 hz2 rfl (by decide) _ _ _ rfl HO2.out ⟨wr.heap.size, 0, none⟩ 1 1 [.string (s.extract at0 i)] rfl rfl ?c1 ?c2 ?c3 ?c4 ?c5 ?_)
        case c1 =>
          intro j u hj
          match j, hj with
          | 0, hj => simp at hj; subst hj; simp [Addr.add]
        case c2 => intro u hu; simp at hu; subst hu; rfl
        case c3 => unfold maxLen; omega
        case c4 => omega
        case c5 => have := HX.out.size; simp; omega
        intro v' w3 hown' hgrow _
        have HO' := hid (show w3.ownsRow w.heap.size 9 1 v' (xs ++ [(s.data.toList.drop at0).take (i - at0)]).length (strCells' (xs ++ [(s.data.toList.drop at0).take (i - at0)])) by rw [strCells'_snoc, strV, ← HE.out]; simpa using hown')
        have HX' := hid (show Ext w w3 from (HX.out.more _).grown hgrow (by have := HX.out.size; simp; omega) (fun k hk => (HO2.out.lt k hk).1))
        clear hown' hgrow
        go_wp2
        go_roundg (s.size - (i + 1))
        case measure => have := HIG.out; omega
        case rel => exact ⟨i + 1, i + 1, _, by go_num, by go_num, by omega, Nat.le_refl _, HO'.out, HX'.out, HSJ.out, fun x hx => by
            rcases List.mem_append.1 hx with h | h
            · exact HNC.out x h
            · simp only [List.mem_singleton] at h; rw [h]; exact HSN.out, fun k h1 h2 => by omega⟩
      · have hz : (((s.data[i]'hlt).toNat : Int) == cI) = false := by rw [HCI.out]; exact not_sign hlt hq hci
        have hz' : (((s[i]'hlt).toNat : Int) == cI) = false := hz
        have HCN := hid (show s.data.toList[i]? ≠ some c by rw [List.getElem?_eq_getElem hq]; exact fun e => hci (Option.some.inj e))
        clear hci
        go_wp2
        go_roundg (s.size - (i + 1))
        case measure => have := HIG.out; omega
        case rel => exact ⟨i + 1, at0, xs, rfl, by go_num, by omega, by omega, HO.out, HX.out, HJ.out, HNC.out, fun k h1 h2 => by
            rcases Nat.lt_or_eq_of_le (Nat.le_of_lt_succ h2) with h | h
            · exact HNO.out k h1 h
            · rw [h]; exact HCN.out⟩
    · have HE := hid (show s.extract at0 s.size = ⟨(s.data.toList.drop at0).toArray⟩ from data_inj (Lib.extract_to_end s at0))
      have his : s.size ≤ i := by omega
      have has : (at0 : Int) ≤ s.size := by omega
      have HSN := hid (show c ∉ s.data.toList.drop at0 by
        have := seg_no (l := s.data.toList) (c := c) (at0 := at0) (i := i) HNO.out
        rwa [List.take_of_length_le (by rw [List.length_drop, size_list]; omega)] at this)
      have HSJ := hid (show joinC c (xs ++ [s.data.toList.drop at0]) = s.data.toList by rw [joinC_last, HJ.out, List.take_append_drop])
      have HO2 := hid (show (wr.alloc (.cells #[.string (s.extract at0 s.size)] 9)).ownsRow w.heap.size 9 1 (.slice a xs.length c5) xs.length (strCells' xs) from HO.out.alloc _)
      go_wp2_with (at_builtin; refine wpList_append_own _ rfl _ _ 35 rfl w.heap.size 9 i0 (.string ⟨#[]⟩) 1 16 Tryz.underlying35 hi0 hz0 hz1 hz2 rfl (by decide) _ _ _ rfl HO2.out ⟨wr.heap.size, 0, none⟩ 1 1 [.string (s.extract at0 s.size)] rfl rfl ?c1 ?c2 ?c3 ?c4 ?c5 ?_)
      case c1 =>
        intro j u hj
        match j, hj with
        | 0, hj => simp at hj; subst hj; simp [Addr.add]
      case c2 => intro u hu; simp at hu; subst hu; rfl
      case c3 => unfold maxLen; omega
      case c4 => omega
      case c5 => have := HX.out.size; simp; omega
      intro v' w3 hown' hgrow _
      have HO' := hid (show w3.ownsRow w.heap.size 9 1 v' (xs ++ [s.data.toList.drop at0]).length (strCells' (xs ++ [s.data.toList.drop at0])) by rw [strCells'_snoc, strV, ← HE.out]; simpa using hown')
      have HX' := hid (show Ext w w3 from (HX.out.more _).grown hgrow (by have := HX.out.size; simp; omega) (fun k hk => (HO2.out.lt k hk).1))
      clear hown' hgrow
      go_wp2
      go_ret
      exact ⟨⟨_, _, rfl, by simp, fun x hx => by
        rcases List.mem_append.1 hx with h | h
        · exact HNC.out x h
        · simp only [List.mem_singleton] at h; rw [h]; exact HSN.out, HSJ.out, HO'.out⟩, HX'.out⟩
end Go.Proofs.YtaodkfchmaendaaGreatDoor
