/-
  espalierref3.Names, path, Place, each by a contract.
-/
import Derived.Test.YtaodkfchmaendaaGreatDoorRefC
namespace Go.Proofs.YtaodkfchmaendaaGreatDoor
open Go.RowKit Go.Shelf
theorem joinC_len (c : UInt8) : ∀ xs : List (List UInt8), xs.length ≤ (joinC c xs).length + 1
  | [] => by simp
  | [x] => by simp
  | x :: y :: r => by
    have := joinC_len c (y :: r)
    simp only [joinC, List.length_append, List.length_cons] at this ⊢
    omega
theorem name_ref_list (l : List UInt8) (w : World) : Calls Tryz.prog 74 #[.string ⟨l.toArray⟩] w fun e w' => e = .returned (.bool (nameB l)) ∧ w' = w := by
  have := name_ref ⟨l.toArray⟩ w
  simpa using this
set_option maxRecDepth 100000 in
set_option maxHeartbeats 2000000 in
theorem names_ref (s : ByteArray) (w : World) (hb : s.size ≤ 1099511627776) : Calls Tryz.prog 75 #[.string s] w fun e w' => NamesTold s.data.toList w.heap.size e w' ∧ Ext w w' := by
  by_cases h0 : s.data.toList = []
  · have h0' : s.toList.isEmpty = true := by rw [ByteArray.toList_eq, h0]; rfl
    have H0 := hid h0
    clear h0
    go_enter Tryz.func75, Tryz.ntmps75
    go_wp2
    go_ret2
    exact ⟨.inl ⟨[], _, rfl, .inl ⟨H0.out, rfl⟩, World.ownsRow_nil _ _ _ _⟩, Ext.refl _⟩
  · have h0' : s.toList.isEmpty = false := by
      rw [ByteArray.toList_eq]
      cases hl : s.data.toList with
      | nil => exact absurd hl h0
      | cons x l => rfl
    have H0 := hid h0
    clear h0
    go_enter Tryz.func75, Tryz.ntmps75
    go_wp2_with fail
    refine (cut_ref s 32 32 rfl _ hb).mono ?_
    rintro e w1 ⟨⟨ns, v, rfl, hne, hbl, hj, ho⟩, hx⟩
    obtain ⟨a, c, rfl⟩ := ownsRow_slice ho
    have HV := hid (strs_at (show Vals w1 (.slice a ns.length c) (strCells' ns) from Vals.own (by simp [strCells']) ho))
    have HO := hid ho
    have HX := hid hx
    have hnl : ns.length ≤ 1099511627777 := by
      have h1 := joinC_len 32 ns
      rw [hj, size_list] at h1
      omega
    have hnl' : (ns.length : Int) ≤ 1099511627777 := by omega
    have HJ := hid (show joinS ns = s.data.toList by rw [joinS_C, hj])
    have HBL := hid hbl
    have HNE := hid hne
    clear hne hbl hj ho hx
    go_wp2_with fail
    go_loop [5] (fun i => ∃ k : Nat, k ≤ ns.length ∧ i = .int .i64 k ∧ ∀ j, (h : j < ns.length) → j < k → nameB ns[j] = true) (fun i => ns.length - (intOf i).toNat)
    case atStart => exact ⟨0, Nat.zero_le _, rfl, fun j _ h => absurd h (Nat.not_lt_zero _)⟩
    case round =>
      obtain ⟨k, hk, rfl, hall⟩ := hrel
      have HA := hid hall
      clear hall
      by_cases hlt : k < ns.length
      · have hlt' : (k : Int) < ns.length := by omega
        obtain ⟨g, off, rfl, hc⟩ := HV.out k hlt
        replace hc : w1.cell? ⟨g, off + k, none⟩ = some (.string ⟨ns[k].toArray⟩) := hc
        have HN := hid (fun w => name_ref_list ns[k] w)
        by_cases hn : nameB ns[k] = true
        · rw [hn] at HN
          have HNK := hid hn
          clear hn
          generalize (⟨ns[k].toArray⟩ : ByteArray) = x at hc HN
          go_wp2_with fail
          refine (HN.out _).mono ?_
          rintro e w2 ⟨rfl, rfl⟩
          go_wp2
          go_round
          case rel => exact ⟨k + 1, hlt, by go_num, fun j h hj => by
              rcases Nat.lt_or_eq_of_le (Nat.le_of_lt_succ hj) with h' | h'
              · exact HA.out j h h'
              · subst h'; exact HNK.out⟩
          case measure => simp [intOf]; omega
        · have hn' : nameB ns[k] = false := by simpa using hn
          rw [hn'] at HN
          have HF := hid (show ∀ ms, ¬ NamesOf s.data.toList ms from fun ms hm => by
            have h3 := hm.resolve_left (fun h => H0.out h.1)
            have e : ms = ns := joinS_inj h3.1 HNE.out (fun x hx => no32_name (h3.2.2 x hx)) HBL.out (h3.2.1.trans HJ.out.symm)
            subst e
            exact hn (h3.2.2 _ (List.getElem_mem hlt)))
          clear hn hn'
          generalize (⟨ns[k].toArray⟩ : ByteArray) = x at hc HN
          go_wp2_with fail
          refine (HN.out _).mono ?_
          rintro e w2 ⟨rfl, rfl⟩
          go_wp2
          go_ret2
          exact ⟨.inr ⟨rfl, HF.out⟩, HX.out⟩
      · have HF := hid (show NamesOf s.data.toList ns from .inr ⟨HNE.out, HJ.out, fun n hn => by
          obtain ⟨j, hj, e⟩ := List.getElem_of_mem hn
          rw [← e]; exact HA.out j hj (by omega)⟩)
        go_wp2
        go_ret2
        exact ⟨.inl ⟨ns, _, rfl, HF.out, HO.out⟩, HX.out⟩
end Go.Proofs.YtaodkfchmaendaaGreatDoor
