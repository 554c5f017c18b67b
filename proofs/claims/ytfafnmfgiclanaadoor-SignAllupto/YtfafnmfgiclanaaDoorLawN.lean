/-
  espalierlaw3.ints, names, each by a contract: what sign tells is what the document says.
-/
import Derived.Test.YtfafnmfgiclanaaDoorRefL
import Derived.Test.YtfafnmfgiclanaaDoorRefX
import Derived.Test.YtfafnmfgiclanaaDoorOrdAid
import Derived.Deep.RegionHeld3
namespace Go.Proofs.YtfafnmfgiclanaaDoor
open Go.RowKit Go.Shelf
set_option maxRecDepth 100000 in
set_option maxHeartbeats 1000000 in
theorem ints_same (a1 a2 : Option Addr) (c1 c2 : Nat) (xs : List Int) (w : World) (hb : xs.length ≤ 1099511627776) (h1 : Ints w (.slice a1 xs.length c1) xs) (h2 : Ints w (.slice a2 xs.length c2) xs) :
    Calls Tryd.prog 26 #[.slice a1 xs.length c1, .slice a2 xs.length c2] w fun r w' => r = .returned (.bool true) ∧ Ext w w' := by
  have H1 := hid h1.cell.2
  have H2 := hid h2.cell.2
  clear h1 h2
  have hbn : (xs.length : Int) ≤ 1099511627776 := by omega
  have hnn : ((xs.length : Int) != (xs.length : Int)) = false := by simp
  go_enter Tryd.func26, Tryd.ntmps26
  go_wp2
  go_loopw [5] (fun i wr => ∃ k : Nat, k ≤ xs.length ∧ i = .int .i64 k ∧ Ext w wr) (fun i _ => xs.length - (intOf i).toNat)
  case atStart => exact ⟨0, Nat.zero_le _, rfl, Ext.refl _⟩
  case round =>
    obtain ⟨k, hk, rfl, hx⟩ := hrel
    have HX := hid hx
    clear hx
    by_cases hlt : k < xs.length
    · obtain ⟨g1, o1, rfl, e1⟩ := H1.out k hlt
      obtain ⟨g2, o2, rfl, e2⟩ := H2.out k hlt
      have cx := (Below.cell HX.out (lt_of_cell e1)).trans e1
      have cy := (Below.cell HX.out (lt_of_cell e2)).trans e2
      have hlt' : (k : Int) < xs.length := by omega
      clear e1 e2
      generalize xs[k] = x at cx cy
      go_wp2
      go_quiet (fail)
      go_wp2
      go_roundw
      case rel => exact ⟨k + 1, hlt, by go_num, HX.out.drewN _⟩
      case measure => simp [intOf]; omega
    · go_wp2
      go_ret
      exact ⟨rfl, HX.out⟩
theorem names_len : ∀ ns : List (List UInt8), (∀ n ∈ ns, nameB n = true) → ns.length ≤ (joinS ns).length
  | [], _ => by simp
  | [x], h => by
    have hx : x ≠ [] := fun e => by have := h x (by simp); rw [e] at this; cases this
    have := List.length_pos_iff.2 hx
    show 1 ≤ x.length
    omega
  | x :: y :: r, h => by
    have := names_len (y :: r) (fun n hn => h n (List.mem_cons_of_mem _ hn))
    simp only [joinS, List.length_append, List.length_cons] at this ⊢
    omega
theorem kindV_shape (a b : List UInt8) : ∃ (k1 k2 : ByteArray) (o : Bool), kindV a b = .tuple #[.string k1, .string k2, .bool o] := by
  unfold kindV
  split
  · exact ⟨_, _, _, rfl⟩
  · exact ⟨_, _, _, rfl⟩
theorem kind_same (s : ByteArray) (hb : s.size ≤ 140737488355328) : ∃ (k1 k2 : ByteArray) (o : Bool),
    (∀ w, Calls Tryd.prog 14 #[.string s] w fun e w' => e = .returned (.tuple #[.string k1, .string k2, .bool o]) ∧ Ext w w') ∧ (∀ w, Calls Tryd.prog 38 #[.string s] w fun e w' => e = .returned (.tuple #[.string k1, .string k2, .bool o]) ∧ Ext w w') := by
  rcases parts_of s.data.toList 46 with h | ⟨pre, post, hs, h⟩
  · exact ⟨_, _, _, fun w => kind_none s w h, fun w => kind_ref_none s w hb h⟩
  · obtain ⟨k1, k2, o, e⟩ := kindV_shape pre post
    refine ⟨k1, k2, o, fun w => ?_, fun w => ?_⟩
    · rw [← e]; exact kind_found s pre post w hs h hb
    · rw [← e]; exact kind_ref_found s pre post w hs h hb
theorem use_same (s : ByteArray) (hb : s.size ≤ 140737488355328) : ∃ (o : Bool),
    (∀ w, Calls Tryd.prog 17 #[.string s] w fun e w' => e = .returned (.bool o) ∧ Ext w w') ∧ (∀ w, Calls Tryd.prog 41 #[.string s] w fun e w' => e = .returned (.bool o) ∧ Ext w w') := by
  by_cases h : useB s.data.toList
  · refine ⟨true, fun w => (use_any s w hb).mono ?_, fun w => (use_ref s w).mono ?_⟩
    · rintro e w' ⟨h', hx⟩
      rcases h' with ⟨h', _⟩ | ⟨_, h'⟩
      · exact ⟨h', hx⟩
      · exact absurd h h'
    · rintro e w' ⟨h', rfl⟩
      rcases h' with ⟨h', _⟩ | ⟨_, h'⟩
      · exact ⟨h', Ext.refl _⟩
      · exact absurd h h'
  · refine ⟨false, fun w => (use_any s w hb).mono ?_, fun w => (use_ref s w).mono ?_⟩
    · rintro e w' ⟨h', hx⟩
      rcases h' with ⟨_, h'⟩ | ⟨h', _⟩
      · exact absurd h' h
      · exact ⟨h', hx⟩
    · rintro e w' ⟨h', rfl⟩
      rcases h' with ⟨_, h'⟩ | ⟨h', _⟩
      · exact absurd h' h
      · exact ⟨h', Ext.refl _⟩

set_option maxRecDepth 100000 in
set_option maxHeartbeats 4000000 in
theorem names_true (kd : Int) (S f1 : ByteArray) (a1 : Option Addr) (n1 c1 : Nat) (f2 : ByteArray) (a2 : Option Addr) (n2 c2 : Nat) (w : World) (hb : S.size ≤ 1099511627776) :
    Calls Tryd.prog 21 #[.agg #[.int .i64 kd, .string S, .string f1, .slice a1 n1 c1, .string f2, .slice a2 n2 c2]] w fun r w' => r = .returned (.bool true) ∧ Ext w w' := by
  by_cases h1 : kd = 1
  · subst h1
    obtain ⟨x1, x2, o, hA, hB⟩ := kind_same S (by omega)
    have HA := hid hA
    have HBB := hid hB
    clear hA hB
    go_enter Tryd.func21, Tryd.ntmps21
    obtain ⟨V, hV⟩ : ∃ V, w.alloc (.cells #[.int .i64 1, .string S, .string f1, .slice a1 n1 c1, .string f2, .slice a2 n2 c2] 29) = V := ⟨_, rfl⟩
    have HXV := hid (show Ext w V from hV ▸ Ext.alloc _ _)
    have HB := hid (show V.heap[w.heap.size]? = some (.cells #[.int .i64 1, .string S, .string f1, .slice a1 n1 c1, .string f2, .slice a2 n2 c2] 29) from hV ▸ blk0 w _)
    have k0 := cell_of (i := 0) HB.out rfl
    have k1 := cell_of (i := 1) HB.out rfl
    simp only [List.getElem_toArray, List.getElem_cons_zero, List.getElem_cons_succ] at k0 k1
    go_wp2_with fail
    try rw [hV]
    clear hV
    refine (HA.out _).mono ?_
    rintro r w1 ⟨rfl, hx1⟩
    have X1 := hid hx1
    have j1 := cell_of (i := 1) (hx1.block HB.out) rfl
    simp only [List.getElem_toArray, List.getElem_cons_zero, List.getElem_cons_succ] at j1
    clear hx1
    go_wp2_with fail
    refine (HBB.out _).mono ?_
    rintro r w2 ⟨rfl, hx2⟩
    have X2 := hid (HXV.out.trans (X1.out.trans hx2))
    clear hx2
    go_wp2
    go_ret
    exact ⟨ret_bool (by cases o <;> rfl), X2.out⟩
  have e1 : (kd == 1) = false := by simpa using h1
  by_cases h2 : kd = 2
  · subst h2
    obtain ⟨o, ho⟩ : ∃ o, speltB wordI 16 S.data.toList = o := ⟨_, rfl⟩
    have CA : Hid (∀ w, Calls Tryd.prog 15 #[.string S] w fun e w' => e = .returned (.bool o) ∧ Ext w w') := fun w => by rw [← ho]; exact word_any S w
    have CB : Hid (∀ w, Calls Tryd.prog 39 #[.string S] w fun e w' => e = .returned (.bool o) ∧ Ext w w') := fun w => by rw [← ho]; exact (word_ref S w).mono (by rintro e w' ⟨rfl, rfl⟩; exact ⟨rfl, Ext.refl _⟩)
    clear ho e1

    go_enter Tryd.func21, Tryd.ntmps21
    obtain ⟨V, hV⟩ : ∃ V, w.alloc (.cells #[.int .i64 2, .string S, .string f1, .slice a1 n1 c1, .string f2, .slice a2 n2 c2] 29) = V := ⟨_, rfl⟩
    have HXV := hid (show Ext w V from hV ▸ Ext.alloc _ _)
    have HB := hid (show V.heap[w.heap.size]? = some (.cells #[.int .i64 2, .string S, .string f1, .slice a1 n1 c1, .string f2, .slice a2 n2 c2] 29) from hV ▸ blk0 w _)
    have k0 := cell_of (i := 0) HB.out rfl
    have k1 := cell_of (i := 1) HB.out rfl
    simp only [List.getElem_toArray, List.getElem_cons_zero, List.getElem_cons_succ] at k0 k1
    go_wp2_with fail
    try rw [hV]
    clear hV
    go_region_held3 (fun w' => w'.cell? ⟨w.heap.size, 1, none⟩ = some (.string S)) (first | exact j2 | exact j1 | exact k1 | go_keep) (first | (go_at_call 15; (fail_if_success (have g1 := s1)); refine (CA.out _).mono ?_; rintro r v1 ⟨rfl, hv1⟩; have Y1 : Ext V v1 := Ext.trans (Ext.drew (Ext.refl V)) hv1; have s1 : True := trivial; have j1 := cell_of (i := 1) (Y1.block HB.out) rfl; simp only [List.getElem_toArray, List.getElem_cons_zero, List.getElem_cons_succ] at j1) | (go_at_call 39; have g1 := s1; (fail_if_success (have g2 := s2)); refine (CB.out _).mono ?_; rintro r v2 ⟨rfl, hv2⟩; have Y2 : Ext V v2 := Ext.trans Y1 hv2; have s2 : True := trivial; have j2 := cell_of (i := 1) (Y2.block HB.out) rfl; simp only [List.getElem_toArray, List.getElem_cons_zero, List.getElem_cons_succ] at j2))
    all_goals
      have hXX : Ext w v2 := HXV.out.trans Y2
      go_wp2
      go_ret
      exact ⟨ret_bool (by cases o <;> rfl), hXX⟩
  have e2 : (kd == 2) = false := by simpa using h2
  by_cases h3 : kd = 3
  · subst h3
    obtain ⟨o, ho⟩ : ∃ o, nameB S.data.toList = o := ⟨_, rfl⟩
    have CA : Hid (∀ w, Calls Tryd.prog 16 #[.string S] w fun e w' => e = .returned (.bool o) ∧ Ext w w') := fun w => by rw [← ho]; exact name_any S w
    have CB : Hid (∀ w, Calls Tryd.prog 40 #[.string S] w fun e w' => e = .returned (.bool o) ∧ Ext w w') := fun w => by rw [← ho]; exact (name_ref S w).mono (by rintro e w' ⟨rfl, rfl⟩; exact ⟨rfl, Ext.refl _⟩)
    clear ho e1 e2

    go_enter Tryd.func21, Tryd.ntmps21
    obtain ⟨V, hV⟩ : ∃ V, w.alloc (.cells #[.int .i64 3, .string S, .string f1, .slice a1 n1 c1, .string f2, .slice a2 n2 c2] 29) = V := ⟨_, rfl⟩
    have HXV := hid (show Ext w V from hV ▸ Ext.alloc _ _)
    have HB := hid (show V.heap[w.heap.size]? = some (.cells #[.int .i64 3, .string S, .string f1, .slice a1 n1 c1, .string f2, .slice a2 n2 c2] 29) from hV ▸ blk0 w _)
    have k0 := cell_of (i := 0) HB.out rfl
    have k1 := cell_of (i := 1) HB.out rfl
    simp only [List.getElem_toArray, List.getElem_cons_zero, List.getElem_cons_succ] at k0 k1
    go_wp2_with fail
    try rw [hV]
    clear hV
    go_region_held3 (fun w' => w'.cell? ⟨w.heap.size, 1, none⟩ = some (.string S)) (first | exact j2 | exact j1 | exact k1 | go_keep) (first | (go_at_call 16; (fail_if_success (have g1 := s1)); refine (CA.out _).mono ?_; rintro r v1 ⟨rfl, hv1⟩; have Y1 : Ext V v1 := Ext.trans (Ext.drew (Ext.refl V)) hv1; have s1 : True := trivial; have j1 := cell_of (i := 1) (Y1.block HB.out) rfl; simp only [List.getElem_toArray, List.getElem_cons_zero, List.getElem_cons_succ] at j1) | (go_at_call 40; have g1 := s1; (fail_if_success (have g2 := s2)); refine (CB.out _).mono ?_; rintro r v2 ⟨rfl, hv2⟩; have Y2 : Ext V v2 := Ext.trans Y1 hv2; have s2 : True := trivial; have j2 := cell_of (i := 1) (Y2.block HB.out) rfl; simp only [List.getElem_toArray, List.getElem_cons_zero, List.getElem_cons_succ] at j2))
    all_goals
      have hXX : Ext w v2 := HXV.out.trans Y2
      go_wp2
      go_ret
      exact ⟨ret_bool (by cases o <;> rfl), hXX⟩
  have e3 : (kd == 3) = false := by simpa using h3
  by_cases h4 : kd = 4
  · subst h4
    obtain ⟨o, hA, hB⟩ := use_same S (by omega)
    have CA := hid hA
    have CB := hid hB
    clear hA hB e1 e2 e3

    go_enter Tryd.func21, Tryd.ntmps21
    obtain ⟨V, hV⟩ : ∃ V, w.alloc (.cells #[.int .i64 4, .string S, .string f1, .slice a1 n1 c1, .string f2, .slice a2 n2 c2] 29) = V := ⟨_, rfl⟩
    have HXV := hid (show Ext w V from hV ▸ Ext.alloc _ _)
    have HB := hid (show V.heap[w.heap.size]? = some (.cells #[.int .i64 4, .string S, .string f1, .slice a1 n1 c1, .string f2, .slice a2 n2 c2] 29) from hV ▸ blk0 w _)
    have k0 := cell_of (i := 0) HB.out rfl
    have k1 := cell_of (i := 1) HB.out rfl
    simp only [List.getElem_toArray, List.getElem_cons_zero, List.getElem_cons_succ] at k0 k1
    go_wp2_with fail
    try rw [hV]
    clear hV
    go_region_held3 (fun w' => w'.cell? ⟨w.heap.size, 1, none⟩ = some (.string S)) (first | exact j2 | exact j1 | exact k1 | go_keep) (first | (go_at_call 17; (fail_if_success (have g1 := s1)); refine (CA.out _).mono ?_; rintro r v1 ⟨rfl, hv1⟩; have Y1 : Ext V v1 := Ext.trans (Ext.drew (Ext.refl V)) hv1; have s1 : True := trivial; have j1 := cell_of (i := 1) (Y1.block HB.out) rfl; simp only [List.getElem_toArray, List.getElem_cons_zero, List.getElem_cons_succ] at j1) | (go_at_call 41; have g1 := s1; (fail_if_success (have g2 := s2)); refine (CB.out _).mono ?_; rintro r v2 ⟨rfl, hv2⟩; have Y2 : Ext V v2 := Ext.trans Y1 hv2; have s2 : True := trivial; have j2 := cell_of (i := 1) (Y2.block HB.out) rfl; simp only [List.getElem_toArray, List.getElem_cons_zero, List.getElem_cons_succ] at j2))
    all_goals
      have hXX : Ext w v2 := HXV.out.trans Y2
      go_wp2
      go_ret
      exact ⟨ret_bool (by cases o <;> rfl), hXX⟩
  have e4 : (kd == 4) = false := by simpa using h4
  have HNA := hid (fun W => names_any S.data.toList W (by rw [size_list]; exact hb))
  rw [← bytes_of S _ rfl] at HNA
  have HNR := hid (fun W => names_ref S W hb)
  clear h1 h2 h3 h4
  go_enter Tryd.func21, Tryd.ntmps21
  obtain ⟨V, hV⟩ : ∃ V, w.alloc (.cells #[.int .i64 kd, .string S, .string f1, .slice a1 n1 c1, .string f2, .slice a2 n2 c2] 29) = V := ⟨_, rfl⟩
  have HXV := hid (show Ext w V from hV ▸ Ext.alloc _ _)
  have HB := hid (show V.heap[w.heap.size]? = some (.cells #[.int .i64 kd, .string S, .string f1, .slice a1 n1 c1, .string f2, .slice a2 n2 c2] 29) from hV ▸ blk0 w _)
  have k0 := cell_of (i := 0) HB.out rfl
  have k1 := cell_of (i := 1) HB.out rfl
  simp only [List.getElem_toArray, List.getElem_cons_zero, List.getElem_cons_succ] at k0 k1
  go_wp2_with fail
  try rw [hV]
  clear hV
  refine (HNA.out _).mono ?_
  rintro r w1 ⟨ht1, hx1⟩
  have X1 := hid hx1
  have j1 := cell_of (i := 1) (hx1.block HB.out) rfl
  simp only [List.getElem_toArray, List.getElem_cons_zero, List.getElem_cons_succ] at j1
  clear hx1
  rcases ht1 with ⟨ns, v, rfl, hn, ho⟩ | ⟨rfl, hno⟩
  · obtain ⟨b1, d1, rfl⟩ := ownsRow_slice ho
    have HO1 := hid (show Vals w1 (.slice b1 ns.length d1) (strCells' ns) from Vals.own (by simp [strCells']) ho)
    have HN := hid hn
    clear hn ho
    go_wp2_with fail
    refine (HNR.out _).mono ?_
    rintro r w2 ⟨ht2, hx2⟩
    have X2 := hid (X1.out.trans hx2)
    have HO3 := hid (HO1.out.later hx2)
    clear hx2
    rcases ht2 with ⟨ms, v, rfl, hm, ho⟩ | ⟨rfl, hno⟩
    · obtain rfl := NamesOf.one HN.out hm
      obtain ⟨b2, d2, rfl⟩ := ownsRow_slice ho
      have HO2 := hid (show Vals w2 (.slice b2 ns.length d2) (strCells' ns) from Vals.own (by simp [strCells']) ho)
      have hnl : ns.length ≤ 1099511627776 := by
        have h1 := HN.out
        rcases h1 with ⟨_, rfl⟩ | ⟨_, h1, h2⟩
        · simp
        · have h3 := congrArg List.length h1
          rw [size_list] at h3
          have h4 := names_len ns h2
          omega
      clear hm ho
      go_wp2_with fail
      refine (texts_same b1 b2 d1 d2 ns _ hnl HO3.out HO2.out).mono ?_
      rintro r w3 ⟨rfl, hx3⟩
      have X3 := hid (HXV.out.trans (X2.out.trans hx3))
      clear hx3
      go_wp2
      go_ret
      exact ⟨rfl, X3.out⟩
    · exact absurd HN.out (hno ns)
  · go_wp2_with fail
    refine (HNR.out _).mono ?_
    rintro r w2 ⟨ht2, hx2⟩
    have X2 := hid (X1.out.trans hx2)
    clear hx2
    rcases ht2 with ⟨ms, v, rfl, hm, ho⟩ | ⟨rfl, _⟩
    · exact absurd hm (hno ms)
    · clear hno
      go_wp2_with fail
      refine (texts_same none none 0 0 [] _ (by simp) (.inl ⟨rfl, rfl⟩) (.inl ⟨rfl, rfl⟩)).mono ?_
      rintro r w3 ⟨rfl, hx3⟩
      have X3 := hid (HXV.out.trans (X2.out.trans hx3))
      clear hx3
      go_wp2
      go_ret
      exact ⟨rfl, X3.out⟩


end Go.Proofs.YtfafnmfgiclanaaDoor
