/-
  espalierref3.ReadPath by a contract.
-/
import Derived.Test.YtfafnmfgiclanaaDoorRefT
import Derived.Deep.LoopGhost
namespace Go.Proofs.YtfafnmfgiclanaaDoor
open Go.RowKit Go.Shelf
theorem joinC_inj (c : UInt8) : ∀ (p q : List (List UInt8)), p ≠ [] → q ≠ [] → (∀ x ∈ p, c ∉ x) → (∀ x ∈ q, c ∉ x) → joinC c p = joinC c q → p = q
  | [], _, hp, _, _, _, _ => absurd rfl hp
  | _, [], _, hq, _, _, _ => absurd rfl hq
  | [x], [y], _, _, _, _, h => by have h' : x = y := h; rw [h']
  | [x], y :: z :: r, _, _, bp, _, h => by
    have h' : x = y ++ c :: joinC c (z :: r) := h
    exact absurd (show c ∈ x by rw [h']; simp) (bp x (by simp))
  | x :: z :: r, [y], _, _, _, bq, h => by
    have h' : x ++ c :: joinC c (z :: r) = y := h
    exact absurd (show c ∈ y by rw [← h']; simp) (bq y (by simp))
  | x :: z :: r, y :: u :: t, _, _, bp, bq, h => by
    have h' : x ++ c :: joinC c (z :: r) = y ++ c :: joinC c (u :: t) := h
    obtain ⟨e1, e2⟩ := split58 (bp x (by simp)) (bq y (by simp)) h'
    rw [e1, joinC_inj c (z :: r) (u :: t) (by simp) (by simp) (fun v hv => bp v (List.mem_cons_of_mem _ hv)) (fun v hv => bq v (List.mem_cons_of_mem _ hv)) e2]
theorem joinP_C : ∀ p : List Nat, joinP p = joinC 46 (p.map Lib.decDigits)
  | [] => rfl
  | [x] => rfl
  | x :: y :: r => by
    show Lib.decDigits x ++ 46 :: joinP (y :: r) = Lib.decDigits x ++ 46 :: joinC 46 ((y :: r).map Lib.decDigits)
    rw [joinP_C (y :: r)]
theorem joinP_le5 : ∀ (p : List Nat), (∀ x ∈ p, x ≤ 1022) → (joinP p).length ≤ 5 * p.length
  | [], _ => by simp [joinP]
  | [x], h => by have := dd_four (n := x) (by have := h x (by simp); omega); simp [joinP]; omega
  | x :: y :: r, h => by
    have h1 := dd_four (n := x) (by have := h x (by simp); omega)
    have h3 := joinP_le5 (y :: r) (fun z hz => h z (List.mem_cons_of_mem _ hz))
    simp only [joinP, List.length_append, List.length_cons] at h3 ⊢
    omega
theorem pathOf_le {l : List UInt8} {p : List Nat} (h : PathOf l p) : l.length ≤ 400 := by
  have h3 := (pathB_ints p).1 h.1
  rw [← h.2]
  unfold pathText
  split
  · simp
  · have := joinP_le5 p h3.2; omega
/-- The parts of a path's text are its numbers. -/
theorem path_parts {l : List UInt8} {ns : List (List UInt8)} {q : List Nat} (hl : l ≠ [45]) (hne : ns ≠ []) (hno : ∀ x ∈ ns, (46 : UInt8) ∉ x) (hj : joinC 46 ns = l) (hq : PathOf l q) : ns = q.map Lib.decDigits ∧ q.length ≤ 63 ∧ ∀ x ∈ q, x ≤ 1022 := by
  have hn := nums_pathOf hq hl
  refine ⟨joinC_inj 46 ns (q.map Lib.decDigits) hne (by simpa using hn.1) hno ?_ (by rw [hj, ← joinP_C, hn.2.1]), hn.2.2.1, hn.2.2.2⟩
  intro x hx
  obtain ⟨y, _, rfl⟩ := List.mem_map.1 hx
  exact dd_no46 y
theorem part_at {ns : List (List UInt8)} {q : List Nat} (h : ns = q.map Lib.decDigits) {k : Nat} (hk : k < ns.length) : ∃ n ∈ q, ns[k] = Lib.decDigits n := by
  subst h
  have hk' : k < q.length := by simpa using hk
  exact ⟨q[k], List.getElem_mem hk', by simp⟩
set_option maxRecDepth 100000 in
set_option maxHeartbeats 4000000 in
theorem readPath_ref (s : ByteArray) (w : World) (hb : s.size ≤ 140737488355328) :
    Calls Tryd.prog 25 #[.string s] w fun e w' => PathTold s.data.toList w.heap.size e w' ∧ Ext w w' := by
  obtain ⟨i0, hi0, hz0, hz1, hz2⟩ := info_parts intInfo
  by_cases hm : s.data.toList = [45]
  · obtain rfl : s = ⟨#[45]⟩ := bytes_of s [45] hm
    go_enter Tryd.func25, Tryd.ntmps25
    go_wp2
    go_ret2
    exact ⟨.inl ⟨[], _, rfl, pathOf_none, World.ownsRow_nil _ _ _ _⟩, Ext.refl _⟩
  have hm' : (s.toList == [45]) = false := by rw [beq_eq_false_iff_ne]; exact fun e => hm ((minus_iff s).1 e)
  have HM := hid hm
  clear hm
  by_cases h4 : 400 < s.size
  · have h4' : 400 < (s.size : Int) := by omega
    have HF := hid (show ∀ p, ¬ PathOf s.data.toList p from fun p hp => by have := pathOf_le hp; rw [size_list] at this; omega)
    go_enter Tryd.func25, Tryd.ntmps25
    go_wp2
    go_ret2
    exact ⟨.inr ⟨rfl, HF.out⟩, Ext.refl _⟩
  have h4' : ¬ 400 < (s.size : Int) := by omega
  go_enter Tryd.func25, Tryd.ntmps25
  go_wp2_with fail
  refine (cut_ref s 46 46 rfl _ (by omega)).mono ?_
  rintro e w1 ⟨⟨ns, v, rfl, hne, hbl, hj, ho⟩, hx⟩
  obtain ⟨a, c, rfl⟩ := ownsRow_slice ho
  have HV := hid (strs_at (show Vals w1 (.slice a ns.length c) (strCells' ns) from Vals.own (by simp [strCells']) ho))
  have HX := hid hx
  have hnl : ns.length ≤ 401 := by
    have h1 := joinC_len 46 ns
    rw [hj, size_list] at h1
    omega
  have hnl' : (ns.length : Int) ≤ 401 := by omega
  have HPP := hid (fun q (hq : PathOf s.data.toList q) => path_parts HM.out hne hbl hj hq)
  have HJ := hid hj
  have HNE := hid hne
  have hw1 := hx.size
  clear hne hbl hj ho hx
  go_wp2_with fail
  go_loopg [5, 6, 7] ns.length (fun g t5 t6 _ wr => ∃ (i : Nat) (p : List Nat), t6 = .int .i64 i ∧ i + g = ns.length ∧ p.length = i ∧ ns.take i = p.map Lib.decDigits ∧ (∀ x ∈ p, x ≤ 1022) ∧ i ≤ 63 ∧ wr.ownsRow w1.heap.size 3 1 t5 p.length (numCells p) ∧ Ext w1 wr)
  case atStart => exact ⟨0, [], rfl, by simp, rfl, by simp, by simp, by omega, World.ownsRow_nil _ _ _ _, Ext.refl _⟩
  case round =>
    obtain ⟨i, p, rfl, hig, hpl, htk, hpm, hi63, hown, hx⟩ := hrel
    obtain ⟨a5, c5, rfl⟩ := ownsRow_slice hown
    have HIG := hid hig
    have HPL := hid hpl
    have HTK := hid htk
    have HPM := hid hpm
    have HO := hid hown
    have HX1 := hid hx
    have hi' : (i : Int) ≤ 63 := by omega
    have hpl' : (p.length : Int) ≤ 63 := by omega
    clear hig hpl htk hpm hown hx
    by_cases hlt : i < ns.length
    · have hlt' : (i : Int) < ns.length := by omega
      obtain ⟨g, off, rfl, hc0⟩ := HV.out i hlt
      have hc : wr.cell? ⟨g, off + i, none⟩ = some (.string ⟨ns[i].toArray⟩) := (Below.cell HX1.out (lt_of_cell hc0)).trans hc0
      obtain ⟨X, hX⟩ : ∃ X : ByteArray, (⟨ns[i].toArray⟩ : ByteArray) = X := ⟨_, rfl⟩
      rw [hX] at hc
      have HXL := hid (show X.data.toList = ns[i] by rw [← hX])
      clear hX hc0
      go_wp2_with fail
      refine (number_ref X _).mono ?_
      rintro e w2 ⟨r, rfl, hr, hw⟩
      subst hw
      obtain ⟨wr, rfl⟩ : ∃ wr, wr = w2 := ⟨w2, rfl⟩
      rw [HXL.out] at hr
      rcases hr with ⟨n, hn9, hnn, rfl⟩ | ⟨rfl, hno⟩
      · have hn9' : (n : Int) ≤ 9999 := by omega
        have HNN := hid hnn
        clear hnn
        by_cases hn2 : 1022 < n
        · have hn2' : 1022 < (n : Int) := by omega
          have HF := hid (show ∀ q, ¬ PathOf s.data.toList q from fun q hq => by
            obtain ⟨h1, h2, h3⟩ := HPP.out q hq
            obtain ⟨m, hm, e⟩ := part_at h1 hlt
            have := dd_inj (HNN.out.symm.trans e)
            have := h3 m hm
            omega)
          go_wp2
          go_ret2
          exact ⟨.inr ⟨rfl, HF.out⟩, HX.out.trans HX1.out⟩
        · have hn2' : ¬ 1022 < (n : Int) := by omega
          by_cases h63 : 63 ≤ i
          · have h63' : decide (63 ≤ (i : Int)) = true := by simp; omega
            have HF := hid (show ∀ q, ¬ PathOf s.data.toList q from fun q hq => by
              obtain ⟨h1, h2, h3⟩ := HPP.out q hq
              have := congrArg List.length h1
              rw [List.length_map] at this
              omega)
            go_wp2
            go_ret2
            exact ⟨.inr ⟨rfl, HF.out⟩, HX.out.trans HX1.out⟩
          · have h63' : decide (63 ≤ (i : Int)) = false := by simp; omega
            have HO2 := hid (show (wr.alloc (.cells #[.int .i64 (n : Int)] 3)).ownsRow w1.heap.size 3 1 (.slice a5 p.length c5) p.length (numCells p) from HO.out.alloc _)
            have HTN := hid (show ns.take (i + 1) = (p ++ [n]).map Lib.decDigits by rw [take_snoc hlt, HTK.out, HNN.out]; simp)
            go_wp2_with (at_builtin; refine wpList_append_own _ rfl _ _ 25 rfl w1.heap.size 3 i0 (.int .i64 0) 1 8 Tryd.underlying25 hi0 hz0 hz1 hz2 rfl (by decide) _ _ _ rfl HO2.out ⟨wr.heap.size, 0, none⟩ 1 1 [.int .i64 (n : Int)] rfl rfl ?c1 ?c2 ?c3 ?c4 ?c5 ?_)
            case c1 =>
              intro j u hj
              match j, hj with
              | 0, hj => simp at hj; subst hj; simp [Addr.add]
            case c2 => intro u hu; simp at hu; subst hu; rfl
            case c3 => unfold maxLen; omega
            case c4 => omega
            case c5 => have := HX1.out.size; simp; omega
            intro v' w3 hown' hgrow _
            have HO' := hid (show w3.ownsRow w1.heap.size 3 1 v' (p ++ [n]).length (numCells (p ++ [n])) by rw [numCells_snoc]; simpa using hown')
            have HX' := hid (show Ext w1 w3 from (HX1.out.more _).grown hgrow (by have := HX1.out.size; simp; omega) (fun k hk => (HO2.out.lt k hk).1))
            clear hown' hgrow
            go_wp2
            go_roundg (ns.length - (i + 1))
            case measure => have := HIG.out; omega
            case rel => exact ⟨i + 1, p ++ [n], by go_num, by omega, by simp [HPL.out], HTN.out, fun x hx => by
                rcases List.mem_append.1 hx with h | h
                · exact HPM.out x h
                · simp only [List.mem_singleton] at h; omega, by omega, HO'.out, HX'.out⟩
      · have HF := hid (show ∀ q, ¬ PathOf s.data.toList q from fun q hq => by
          obtain ⟨h1, h2, h3⟩ := HPP.out q hq
          obtain ⟨m, hm, e⟩ := part_at h1 hlt
          exact hno m (by have := h3 m hm; omega) e)
        clear hno
        go_wp2
        go_ret2
        exact ⟨.inr ⟨rfl, HF.out⟩, HX.out.trans HX1.out⟩
    · obtain rfl : i = ns.length := by have := HIG.out; omega
      have HR := hid (show PathOf s.data.toList p by
        have e : ns = p.map Lib.decDigits := by have := HTK.out; rwa [List.take_length] at this
        have hp0 : p ≠ [] := fun e0 => HNE.out (by rw [e, e0]; rfl)
        refine ⟨(pathB_ints p).2 ⟨by rw [HPL.out]; exact hi63, HPM.out⟩, ?_⟩
        unfold pathText
        rw [if_neg hp0, joinP_C, ← e, HJ.out])
      have hd : decide ((ns.length : Int) < ns.length) = false := by simp
      go_wp2
      go_ret2
      exact ⟨.inl ⟨p, _, rfl, HR.out, row_mono HO.out hw1⟩, HX.out.trans HX1.out⟩
end Go.Proofs.YtfafnmfgiclanaaDoor
