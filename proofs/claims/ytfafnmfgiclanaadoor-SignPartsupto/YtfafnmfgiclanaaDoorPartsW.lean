/-
  The walk of espalierlaw3.SignParts: it returns true, in whatever memory in which the table of tens is laid, for texts that are not too great together.
-/
import Derived.Test.YtfafnmfgiclanaaDoorBegun
import Derived.Test.YtfafnmfgiclanaaDoorPartsMath
import Derived.WalkMore
import Derived.LoopTactic
import Derived.Deep.LoopGhost
import Derived.Deep.Cut
import Derived.Deep.CutRange
import Derived.Deep.CutBlock
namespace Go.Proofs.YtfafnmfgiclanaaDoor
open Go.RowKit Go.Shelf
theorem kind_shape (s u : ByteArray) : ∃ (k1 k2 : ByteArray) (b : Bool), kindV s.data.toList u.data.toList = .tuple #[.string k1, .string k2, .bool b] ∧
    ((speltB wordI 16 s.data.toList = true ∧ speltB wordI 16 u.data.toList = true ∧ k1 = s ∧ k2 = u ∧ b = true) ∨ (speltB wordI 16 s.data.toList = true ∧ speltB wordI 16 u.data.toList = false ∧ k1 = ⟨#[]⟩ ∧ k2 = ⟨#[]⟩ ∧ b = false) ∨ (speltB wordI 16 s.data.toList = false ∧ k1 = ⟨#[]⟩ ∧ k2 = ⟨#[]⟩ ∧ b = false)) := by
  cases h1 : speltB wordI 16 s.data.toList with
  | false => exact ⟨_, _, _, by simp [kindV, h1], .inr (.inr ⟨rfl, rfl, rfl, rfl⟩)⟩
  | true =>
    cases h2 : speltB wordI 16 u.data.toList with
    | false => exact ⟨_, _, _, by simp [kindV, h1, h2], .inr (.inl ⟨rfl, rfl, rfl, rfl, rfl⟩)⟩
    | true => exact ⟨s, u, true, by simp [kindV, h1, h2], .inl ⟨rfl, rfl, rfl, rfl, rfl⟩⟩

set_option maxRecDepth 100000 in
set_option maxHeartbeats 4000000 in
theorem parts_true (s u : ByteArray) (a : Option Addr) (c : Nat) (ss : List (List UInt8)) (w : World) (hG : Laid w) (hs : s.size ≤ 1048576) (hu : u.size ≤ 1048576) (ht : tot ss ≤ 2097152) (hV : Vals w (.slice a ss.length c) (strCells' ss)) :
    Calls Tryd.prog 6 #[.string s, .string u, .slice a ss.length c] w fun r w' => r = .returned (.bool true) ∧ Ext w w' := by
  have HG := hid hG
  have HVL := hid hV
  have HTOT := hid ht
  have hn := Nat.le_trans (tot_len ss) ht
  have hn' : (ss.length : Int) ≤ 2097152 := by omega
  have hj0 := joinS_tot ss
  clear hG hV
  go_enter Tryd.func6, Tryd.ntmps6
  go_wp2_with fail
  refine (begun_true _ HG.out).mono ?_
  rintro r V ⟨rfl, hx⟩
  have HV := hid hx
  clear hx
  obtain ⟨k1, k2, b, hkv, hcase⟩ := kind_shape s u
  have HC := hid hcase
  clear hcase
  go_wp2_with fail
  refine (kind_joined s u _ (by simp only [ByteArray.size_append]; show s.size + 1 + u.size ≤ _; omega)).mono ?_
  rw [hkv]
  clear hkv
  rintro r W1 ⟨rfl, hx⟩
  have X1 := hid (HV.out.trans hx)
  clear hx
  go_upto_region 4 with fail
  go_cut [59] from 16 (fun s59 wx => s59 = .bool false ∧ Ext w wx)
  case first =>
    rcases HC.out with ⟨hws, hwu, rfl, rfl, rfl⟩ | ⟨hws, hwu, rfl, rfl, rfl⟩ | ⟨hws, rfl, rfl, rfl⟩
    · go_wp2_with fail
      refine (word_any _ _).mono ?_
      rintro r W2 ⟨rfl, hx2⟩
      go_wp2_with fail
      refine (word_any _ _).mono ?_
      rintro r W3 ⟨rfl, hx3⟩
      go_wp2_with fail
      go_meet
      case rel => exact ⟨rfl, X1.out.trans (hx2.trans hx3)⟩
    · go_wp2_with fail
      refine (word_any _ _).mono ?_
      rintro r W2 ⟨rfl, hx2⟩
      go_wp2_with fail
      refine (word_any _ _).mono ?_
      rintro r W3 ⟨rfl, hx3⟩
      go_wp2_with fail
      go_meet
      case rel => exact ⟨rfl, X1.out.trans (hx2.trans hx3)⟩
    · go_wp2_with fail
      refine (word_any _ _).mono ?_
      rintro r W2 ⟨rfl, hx2⟩
      go_wp2_with fail
      go_meet
      case rel => exact ⟨rfl, X1.out.trans hx2⟩
  case rest =>
    obtain ⟨rfl, hxc⟩ := hcut
    obtain ⟨W2, rfl⟩ : ∃ W2, W2 = wc := ⟨wc, rfl⟩
    have X2 := hid hxc
    clear hxc HC
    go_upto_region 6 with fail
    go_cut [66] from 16 (fun s66 wx => s66 = .bool false ∧ Ext w wx)
    case first =>
      have HNA := hid (show ∀ w, Calls Tryd.prog 16 #[.string s] w fun e w' => e = .returned (.bool (nameB s.data.toList)) ∧ Ext w w' from fun w => name_any s w)
      by_cases hnb : nameB s.data.toList = true
      · have HU := hid (fun w => use_name s w (by omega) hnb)
        rw [hnb] at HNA
        go_wp2_with fail
        refine (HNA.out _).mono ?_
        rintro r W3 ⟨rfl, hx3⟩
        go_wp2_with fail
        refine (HU.out _).mono ?_
        rintro r W4 ⟨rfl, hx4⟩
        go_wp2_with fail
        go_meet
        case rel => exact ⟨rfl, X2.out.trans (hx3.trans hx4)⟩
      · have hnb' : nameB s.data.toList = false := by simpa using hnb
        rw [hnb'] at HNA
        clear hnb
        go_wp2_with fail
        refine (HNA.out _).mono ?_
        rintro r W3 ⟨rfl, hx3⟩
        go_wp2_with fail
        go_meet
        case rel => exact ⟨rfl, X2.out.trans hx3⟩
    case rest =>
      obtain ⟨rfl, hxc⟩ := hcut
      obtain ⟨W3, rfl⟩ : ∃ W3, W3 = wc := ⟨wc, rfl⟩
      have X3 := hid hxc
      clear hxc
      go_wp2_with fail
      go_loopg [10, 11, 12] ss.length (fun g t10 t11 t12 wr => ∃ (i : Nat) (t : ByteArray), t10 = .string t ∧ t12 = .int .i64 i ∧ i + g = ss.length ∧ t.data.toList = joinS (ss.take i) ∧ t11 = .bool ((ss.take i).all nameB) ∧ (∀ x ∈ ss.take i, (32 : UInt8) ∉ x) ∧ Ext w wr)
      case atStart => exact ⟨0, ⟨#[]⟩, rfl, rfl, by simp, by simp [joinS], by simp, by simp, X3.out⟩
      case round =>
        obtain ⟨i, t, rfl, rfl, hig, htt, rfl, hbl, hx⟩ := hrel
        have HIG := hid hig
        have HTT := hid htt
        have HBL := hid hbl
        have HX := hid hx
        have hts : t.size ≤ 2097152 := by
          rw [← size_list, htt]
          exact Nat.le_trans (joinS_tot _) (Nat.le_trans (tot_take _ _) ht)
        have hi' : (i : Int) ≤ 2097152 := by omega
        generalize hB : (ss.take i).all nameB = b
        have HB := hid hB
        clear hig htt hbl hx hB
        by_cases hlt : i < ss.length
        · have hlt' : (i : Int) < ss.length := by omega
          obtain ⟨ga, oa, rfl, e1⟩ := strs_at HVL.out i hlt
          have hcx := (Below.cell HX.out (lt_of_cell e1)).trans e1
          have HTK := hid (take_snoc hlt)
          have HMX := hid (List.getElem_mem hlt)
          obtain ⟨X, hX⟩ : ∃ X : ByteArray, (⟨ss[i].toArray⟩ : ByteArray) = X := ⟨_, rfl⟩
          have hXs : X.size ≤ 2097152 := by
            rw [← hX]
            show ss[i].toArray.size ≤ _
            have := tot_mem (List.getElem_mem hlt)
            simp only [List.size_toArray]; omega
          have HXL := hid (show X.data.toList = ss[i] by rw [← hX])
          replace hcx : wr.cell? ⟨ga, oa + i, none⟩ = some (.string X) := by rw [← hX]; exact hcx
          have hgl : ga < wr.heap.size := lt_of_cell hcx
          clear e1 hX
          have HNX := hid (fun w => name_any X w)
          obtain ⟨wo, rfl⟩ : ∃ wo, wo = wr := ⟨wr, rfl⟩
          obtain ⟨go, rfl⟩ : ∃ go, go = gk := ⟨gk, rfl⟩
          go_upto_if 74 with fail
          go_cut [10] from 67 to 106 (fun s10 wx => ∃ t' : ByteArray, s10 = .string t' ∧ t'.data.toList ++ ss[i] = joinS (ss.take (i + 1)) ∧ t'.size ≤ 2097153 ∧ wx = wo)
          case first =>
            by_cases hi0 : i = 0
            · subst hi0
              have HR := hid (show t.data.toList ++ ss[0] = joinS (ss.take (0 + 1)) by rw [HTT.out, HTK.out]; rfl)
              go_wp2_with fail
              go_meet
              case rel => exact ⟨t, rfl, HR.out, by omega, rfl⟩
            · have hi1 : (0 : Int) < i := by omega
              have HR := hid (show (t ++ ⟨#[32]⟩).data.toList ++ ss[i] = joinS (ss.take (i + 1)) by
                rw [HTK.out, joinS_snoc _ _ (by intro e; have := congrArg List.length e; rw [List.length_take, List.length_nil] at this; omega), ← HTT.out]
                simp [ByteArray.data_append])
              have hts2 : (t ++ ⟨#[32]⟩).size ≤ 2097153 := by rw [ByteArray.size_append]; show t.size + 1 ≤ _; omega
              clear hi0
              go_wp2_with fail
              go_meet
              case rel => exact ⟨_, rfl, HR.out, hts2, rfl⟩
          case rest =>
            obtain ⟨t', rfl, ht', hts', hwc⟩ := hcut
            subst hwc
            obtain ⟨wo, rfl⟩ : ∃ wo, wo = wc := ⟨wc, rfl⟩
            have HT' := hid (show (t' ++ X).data.toList = joinS (ss.take (i + 1)) by rw [ByteArray.data_append, Array.toList_append, HXL.out]; exact ht')
            have hsz' : (t' ++ X).size ≤ 4194305 := by rw [ByteArray.size_append]; omega
            clear ht'
            go_upto_region 16 with fail
            go_cut [11] from 67 to 106 (fun s11 wx => s11 = .bool (b && nameB ss[i]) ∧ Ext wo wx)
            case first =>
              cases b with
              | false =>
                go_wp2_with fail
                go_meet
                case rel => exact ⟨rfl, Ext.refl _⟩
              | true =>
                go_wp2_with fail
                refine (HNX.out _).mono ?_
                rw [HXL.out]
                rintro r W4 ⟨rfl, hx4⟩
                go_wp2_with fail
                go_meet
                case rel => exact ⟨rfl, hx4⟩
            case rest =>
              obtain ⟨rfl, hxc⟩ := hcut
              obtain ⟨W5, rfl⟩ : ∃ W5, W5 = wc := ⟨wc, rfl⟩
              have X5 := hid (HX.out.trans hxc)
              have hcx5 := (Below.cell hxc (p := ⟨ga, oa + i, none⟩) hgl).trans hcx
              clear hxc hcx
              go_wp2_with fail
              go_loopg [13] X.size (fun h t13 wi => ∃ j : Nat, t13 = .int .i64 j ∧ j + h = X.size ∧ (∀ k, k < j → X.data.toList[k]? ≠ some 32) ∧ wi = W5)
              case atStart => exact ⟨0, rfl, by simp, fun k h => absurd h (Nat.not_lt_zero _), rfl⟩
              case round =>
                obtain ⟨j, rfl, hjh, hj, rfl⟩ := hrel
                have HJH := hid hjh
                have HJ := hid hj
                have hj' : (j : Int) ≤ 2097152 := by omega
                clear hjh hj
                by_cases hlj : j < X.size
                · have hlj' : (j : Int) < X.size := by omega
                  obtain ⟨hq, hc⟩ := at_list X j hlj
                  by_cases h32 : (X[j]'hlj) = 32
                  · have hz : (((X.data[j]'hlj).toNat : Int) == 32) = true := by
                      have e : X.data[j]'hlj = 32 := h32
                      rw [e]; rfl
                    have hz' : (((X[j]'hlj).toNat : Int) == 32) = true := hz
                    clear h32 hc
                    go_wp2
                    go_ret
                    exact ⟨rfl, X5.out⟩
                  · have hz : ((((X.data[j]'hlj).toNat : Int)) == 32) = false := by
                      rw [beq_eq_false_iff_ne]
                      intro e
                      refine h32 (show X.data[j]'hlj = 32 from ?_)
                      exact (UInt8.toNat_inj.1 (by have e' : (32 : UInt8).toNat = 32 := rfl; omega))
                    have hz' : (((X[j]'hlj).toNat : Int) == 32) = false := hz
                    have HN32 := hid (show X.data.toList[j]? ≠ some 32 by
                      rw [List.getElem?_eq_getElem hq, ← hc]
                      intro e
                      exact h32 (Option.some.inj e))
                    clear h32 hc
                    go_wp2
                    go_roundg (X.size - (j + 1))
                    case measure => have := HJH.out; omega
                    case rel => exact ⟨j + 1, by go_num, by omega, fun k hk => by
                        rcases Nat.lt_or_eq_of_le (Nat.le_of_lt_succ hk) with h | h
                        · exact HJ.out k h
                        · rw [h]; exact HN32.out, rfl⟩
                · have HN := hid (show (32 : UInt8) ∉ ss[i] from fun hm => by
                    obtain ⟨k, hk, e⟩ := List.getElem_of_mem hm
                    have hk' : k < X.size := by rw [← size_list, HXL.out]; exact hk
                    refine HJ.out k (by omega) ?_
                    rw [HXL.out, List.getElem?_eq_getElem hk, e])
                  go_wp2
                  go_roundg (ss.length - (i + 1))
                  case measure => have := HIG.out; omega
                  case rel => exact ⟨i + 1, t' ++ X, rfl, by go_num, by omega, HT'.out, by rw [HTK.out, List.all_append, HB.out]; simp, fun y hy => by
                      rw [HTK.out] at hy
                      rcases List.mem_append.1 hy with h | h
                      · exact HBL.out y h
                      · simp at h; rw [h]; exact HN.out, X5.out⟩
        · have hil : i = ss.length := by have := HIG.out; omega
          subst hil
          have hta : ss.take ss.length = ss := List.take_length
          rw [hta] at HTT HBL HB
          clear hta
          obtain rfl : t = ⟨(joinS ss).toArray⟩ := bytes_of t _ HTT.out
          have hd : decide ((ss.length : Int) < ss.length) = false := by simp
          go_wp2_with fail
          refine (names_any (joinS ss) _ (by omega)).mono ?_
          rintro r W6 ⟨hr, hx6⟩
          have X6 := hid (HX.out.trans hx6)
          clear hx6 hj0
          obtain ⟨T, hT⟩ : ∃ T : ByteArray, (⟨(joinS ss).toArray⟩ : ByteArray) = T := ⟨_, rfl⟩
          rw [hT]
          have HTL := hid (show T.toList = joinS ss by rw [ByteArray.toList_eq, ← hT])
          clear hT
          rcases hr with ⟨ns, v, rfl, hns, ho⟩ | ⟨rfl, hns⟩
          · obtain ⟨a6, c6, rfl⟩ := ownsRow_slice ho
            have HO6 := hid (show Vals W6 (.slice a6 ns.length c6) (strCells' ns) from Vals.own (by simp [strCells']) ho)
            clear ho
            by_cases h0 : joinS ss = []
            · have hT0 : T.toList.isEmpty = true := by rw [HTL.out, h0]; rfl
              obtain rfl : ns = [] := NamesOf.one hns (.inl ⟨h0, rfl⟩)
              clear h0 hns
              go_wp2
              go_ret
              exact ⟨rfl, X6.out⟩
            · have hT0 : T.toList.isEmpty = false := by
                rw [HTL.out]
                cases hl : joinS ss with
                | nil => exact absurd hl h0
                | cons x l => rfl
              have hn3 := hns.resolve_left (fun h => h0 h.1)
              obtain rfl : ns = ss := joinS_inj hn3.1 (joinS_empty h0) (fun x hx => no32_name (hn3.2.2 x hx)) HBL.out hn3.2.1
              have hb : b = true := by
                rw [← HB.out, List.all_eq_true]; exact hn3.2.2
              subst hb
              have HTS := hid (fun W (h : Ext W6 W) => texts_same a6 _ c6 c ns W (by omega) (HO6.out.later h) (HVL.out.later (X6.out.trans h)))
              clear h0 hns hn3
              go_wp2_with fail
              refine (HTS.out _ (Ext.refl _)).mono ?_
              rintro r W7 ⟨rfl, hx7⟩
              have X7 := hid (X6.out.trans hx7)
              clear hx7
              go_wp2
              go_ret
              exact ⟨rfl, X7.out⟩
          · have h0 : joinS ss ≠ [] := fun h => hns [] (.inl ⟨h, rfl⟩)
            have hT0 : T.toList.isEmpty = false := by
              rw [HTL.out]
              cases hl : joinS ss with
              | nil => exact absurd hl h0
              | cons x l => rfl
            have hb : b = false := by
              cases b with
              | false => rfl
              | true =>
                exfalso
                exact hns ss (.inr ⟨joinS_empty h0, rfl, List.all_eq_true.1 HB.out⟩)
            subst hb
            clear h0 hns
            go_wp2
            go_ret
            exact ⟨rfl, X6.out⟩


end Go.Proofs.YtfafnmfgiclanaaDoor
