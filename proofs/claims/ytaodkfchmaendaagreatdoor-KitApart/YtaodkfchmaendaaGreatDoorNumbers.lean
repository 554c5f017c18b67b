/-
  sign.numbers by a contract: it cuts out the numbers of a text, or says that the text is of none.
-/
import Derived.Test.YtaodkfchmaendaaGreatDoorCut
import Derived.Test.YtaodkfchmaendaaGreatDoorNums
import Derived.Lib.IndexBytes
import Derived.WalkMore
import Derived.Deep.LoopGhost
namespace Go.Proofs.YtaodkfchmaendaaGreatDoor
open Go.RowKit

def sliceLen : Value → Nat | .slice _ n _ => n | _ => 0
/-- Numbers as cells. -/
def numCells (xs : List Nat) : List Value := xs.map (fun (n : Nat) => Value.int .i64 (n : Int))
theorem numCells_len (xs : List Nat) : (numCells xs).length = xs.length := by simp [numCells]
theorem numCells_snoc (xs : List Nat) (n : Nat) : numCells (xs ++ [n]) = numCells xs ++ [.int .i64 (n : Int)] := by simp [numCells]
theorem digI_iff (c : UInt8) : digI (c.toNat : Int) = true ↔ isDg c := by
  unfold digI isDg; rw [decide_eq_true_iff]; omega
/-- What sign.numbers tells of a text. -/
def NumsTold (l : List UInt8) (count most : Nat) (base : Nat) (e : Ending) (w' : World) : Prop :=
  (∃ p v, e = .returned (.tuple #[v, .bool true]) ∧ NumsOf l count most p ∧ w'.ownsRow base 3 1 v p.length (numCells p)) ∨ (e = .returned (.tuple #[.slice none 0 0, .bool false]) ∧ ∀ p, ¬ NumsOf l count most p)
set_option maxRecDepth 100000 in
set_option maxHeartbeats 4000000 in
theorem numbers_any (s : ByteArray) (count most : Nat) (w : World) (hcnt : count ≤ 1000) (hmost : most ≤ 100000) (hb : s.size ≤ 140737488355328) :
    Calls Tryz.prog 132 #[.string s, .int .i64 count, .int .i64 most] w fun e w' => NumsTold s.data.toList count most w.heap.size e w' ∧ Ext w w' := by
  obtain ⟨i0, hi0, hz0, hz1, hz2⟩ := info_parts intInfo
  have hcnt' : (count : Int) ≤ 1000 := by omega
  have hmost' : (most : Int) ≤ 100000 := by omega
  go_enter Tryz.func132, Tryz.ntmps132
  go_wp2
  go_step3
  go_wp2
  go_step3
  go_wp2
  go_loopg [0, 8] count (fun g t0 t8 wr => ∃ (S : ByteArray) (xs : List Nat), t0 = .string S ∧ wr.ownsRow w.heap.size 3 1 t8 xs.length (numCells xs) ∧ s.data.toList = joinDot xs ++ S.data.toList ∧ xs.length + g = count ∧ (∀ x ∈ xs, x ≤ most) ∧ S.size ≤ 140737488355328 ∧ Ext w wr)
  case atStart => exact ⟨s, [], rfl, World.ownsRow_nil _ _ _ _, rfl, by simp, fun x h => absurd h (List.not_mem_nil), hb, Ext.refl _⟩
  case round =>
    obtain ⟨S, xs, rfl, hown, hl, hxc, hxm, hSb, hx⟩ := hrel
    obtain ⟨wo, rfl⟩ : ∃ wo, wo = wr := ⟨wr, rfl⟩
    obtain ⟨go, rfl⟩ : ∃ go, go = gk := ⟨gk, rfl⟩
    obtain ⟨a, c8, rfl⟩ := ownsRow_slice hown
    have HO := hid hown
    have HL := hid hl
    have HXM := hid hxm
    have HX := hid hx
    have HXC := hid hxc
    have hxs : (xs.length : Int) ≤ 1000 := by omega
    clear hown hl hxm hx
    by_cases hlt : xs.length < count
    · have hlt' : (xs.length : Int) < count := by omega
      clear hxc
      go_wp2
      go_loopg [0, 8, 9] S.size (fun h t0 t8 t9 wi => ∃ i n : Nat, t0 = .string S ∧ t8 = .slice a xs.length c8 ∧ t9 = .int .i64 n ∧ wi = wo.iter S i ∧ i + h = S.size ∧ Under S.data.toList i n ∧ n ≤ most)
      case atStart => exact ⟨0, 0, rfl, rfl, rfl, rfl, by simp, .inl ⟨rfl, rfl⟩, Nat.zero_le _⟩
      case round =>
        obtain ⟨i, n, rfl, rfl, rfl, rfl, hih, hu, hnm⟩ := hrel
        have HU := hid hu
        have HIH := hid hih
        have hn' : (n : Int) ≤ 100000 := by omega
        clear hu hih
        by_cases hp : i < S.size
        · obtain ⟨hp', hc⟩ := at_list S i hp
          have hi' : (i : Int) ≤ 140737488355328 := by omega
          by_cases ha : (S[i]'hp).toNat < 128
          · have hnx : ∀ ty, (Instr.next (.pointer (some ⟨wo.heap.size, 0, none⟩)) true ty).run Tryz.prog (wo.iter S i) = _ := fun ty => run_next_ascii wo S i ty hp ha
            have HC := hid (congrArg UInt8.toNat hc)
            generalize (S[i]'hp).toNat = c at hnx HC ha
            clear hc
            by_cases h46 : c = 46
            · subst h46
              have HC46 := hid (show S.data.toList[i] = 46 from UInt8.toNat_inj.1 HC.out.symm)
              by_cases hi0' : 0 < i
              · have hi1 : (0 : Int) < i := by omega
                have hi2 : (i : Int) + 1 ≤ S.size := by omega
                have HD := hid (step_dot HL.out HU.out hp' hi0' HC46.out)
                have HE := hid (Lib.extract_to_end S (i + 1))
                have HO2 := hid (show ((wo.iter S (i + 1)).alloc (.cells #[.int .i64 (n : Int)] 3)).ownsRow w.heap.size 3 1 (.slice a xs.length c8) xs.length (numCells xs) from (HO.out.alloc _).alloc _)
                go_wp2_with (at_builtin; refine wpList_append_own _ rfl _ _ 98 rfl w.heap.size 3 i0 (.int .i64 0) 1 8 Tryz.underlying98 hi0 hz0 hz1 hz2 rfl (by decide) _ _ _ rfl HO2.out ⟨(wo.iter S (i + 1)).heap.size, 0, none⟩ 1 1 [.int .i64 (n : Int)] rfl rfl ?c1 ?c2 ?c3 ?c4 ?c5 ?_)
                case c1 =>
                  intro j u hj
                  match j, hj with
                  | 0, hj => simp at hj; subst hj; simp [Addr.add]
                case c2 => intro u hu; simp at hu; subst hu; rfl
                case c3 => unfold maxLen; omega
                case c4 => omega
                case c5 => have := HX.out.size; simp [World.iter]; omega
                intro v' w2 hown' hgrow _
                have HO' := hid (show w2.ownsRow w.heap.size 3 1 v' (xs ++ [n]).length (numCells (xs ++ [n])) by rw [numCells_snoc]; simpa using hown')
                have HX' := hid (show Ext w w2 from ((HX.out.more _).more _).grown hgrow (by have := HX.out.size; simp; omega) (fun k hk => (HO2.out.lt k hk).1))
                clear hown' hgrow
                go_wp2
                go_roundg (count - (xs.length + 1))
                case measure => have := HXC.out; omega
                case rel => exact ⟨_, xs ++ [n], rfl, HO'.out, by rw [HE.out]; exact HD.out, by simp; omega, fun x hx => by
                    rcases List.mem_append.1 hx with h | h
                    · exact HXM.out x h
                    · simp at h; omega, by simp; omega, HX'.out⟩
              · have hz : i = 0 := by omega
                subst hz
                have hd' : digI (46 : Int) = false := by decide
                have HF := hid (fail_sign (count := count) (most := most) HL.out HU.out hp' (fun h => no46 h HC46.out) (by omega))
                go_wp2_with (go_at_call 125; refine (digit_any _ _).mono ?_; rintro e w' ⟨rfl, rfl⟩)
                try rw [Exit.noGoto_ret]
                go_ret2
                exact ⟨.inr ⟨rfl, HF.out⟩, HX.out.more _⟩
            · have hc46 : ((c : Int) == 46) = false := by simp; omega
              have HC46 := hid (show S.data.toList[i] ≠ 46 from fun e => h46 (by rw [HC.out, e]; rfl))
              clear h46
              by_cases hd : digI (c : Int) = true
              · have HDG := hid ((digI_iff S.data.toList[i]).1 (by rw [← HC.out]; exact hd))
                by_cases hi0' : 0 < i
                · have hi1 : (0 : Int) < i := by omega
                  by_cases hn0 : n = 0
                  · subst hn0
                    have HF := hid (fail_nought (count := count) (most := most) HL.out HU.out hp' hi0' HC46.out)
                    go_wp2_with (go_at_call 125; refine (digit_any _ _).mono ?_; rintro e w' ⟨rfl, rfl⟩)
                    try rw [Exit.noGoto_ret]
                    go_ret2
                    exact ⟨.inr ⟨rfl, HF.out⟩, HX.out.more _⟩
                  · have hn1 : ((n : Int) == 0) = false := by simp; omega
                    have hdd : 48 ≤ (c : Int) ∧ (c : Int) ≤ 57 := by unfold digI at hd; simpa using hd
                    obtain ⟨hd1, hd2⟩ := hdd
                    have HS := hid (show S.data.toList.take (i + 1) = Lib.decDigits (10 * n + (c - 48)) by
                      have := step_digit HU.out hp' HDG.out (fun h => hn0 h.2)
                      rw [← HC.out] at this
                      exact this)
                    by_cases hgr : most < 10 * n + (c - 48)
                    · have hgr' : (most : Int) < (n : Int) * 10 + ((c : Int) - 48) := by omega
                      have HF := hid (fail_great (count := count) HL.out hp' HS.out hgr)
                      go_wp2_with (go_at_call 125; refine (digit_any _ _).mono ?_; rintro e w' ⟨rfl, rfl⟩)
                      try rw [Exit.noGoto_ret]
                      go_ret2
                      exact ⟨.inr ⟨rfl, HF.out⟩, HX.out.more _⟩
                    · have hgr' : (n : Int) * 10 + ((c : Int) - 48) ≤ most := by omega
                      go_wp2_with (go_at_call 125; refine (digit_any _ _).mono ?_; rintro e w' ⟨rfl, rfl⟩)
                      go_roundg (S.size - (i + 1))
                      case measure => have := HIH.out; omega
                      case rel => exact ⟨i + 1, 10 * n + (c - 48), rfl, rfl, by first | rfl | (congr 1; omega), rfl, by omega, .inr ⟨by omega, HS.out⟩, by omega⟩
                · have hz : i = 0 := by omega
                  subst hz
                  have HN := hid (show n = 0 by
                    rcases HU.out with ⟨_, h⟩ | ⟨h, _⟩
                    · exact h
                    · omega)
                  have hn0 : ¬ (0 < 0 ∧ n = 0) := by omega
                  have hdd : 48 ≤ (c : Int) ∧ (c : Int) ≤ 57 := by unfold digI at hd; simpa using hd
                  obtain ⟨hd1, hd2⟩ := hdd
                  have HS := hid (show S.data.toList.take (0 + 1) = Lib.decDigits (10 * n + (c - 48)) by
                    have := step_digit HU.out hp' HDG.out hn0
                    rw [← HC.out] at this
                    exact this)
                  by_cases hgr : most < 10 * n + (c - 48)
                  · have hgr' : (most : Int) < (n : Int) * 10 + ((c : Int) - 48) := by omega
                    have HF := hid (fail_great (count := count) HL.out hp' HS.out hgr)
                    go_wp2_with (go_at_call 125; refine (digit_any _ _).mono ?_; rintro e w' ⟨rfl, rfl⟩)
                    try rw [Exit.noGoto_ret]
                    go_ret2
                    exact ⟨.inr ⟨rfl, HF.out⟩, HX.out.more _⟩
                  · have hgr' : (n : Int) * 10 + ((c : Int) - 48) ≤ most := by omega
                    go_wp2_with (go_at_call 125; refine (digit_any _ _).mono ?_; rintro e w' ⟨rfl, rfl⟩)
                    go_roundg (S.size - (0 + 1))
                    case measure => have := HIH.out; omega
                    case rel => exact ⟨0 + 1, 10 * n + (c - 48), rfl, rfl, by first | rfl | (congr 1; omega), rfl, by omega, .inr ⟨by omega, HS.out⟩, by omega⟩
              · have hd' : digI (c : Int) = false := by simpa using hd
                clear hd
                have HF := hid (fail_sign (count := count) (most := most) HL.out HU.out hp' (fun h => by have := (digI_iff _).2 h; rw [← HC.out, hd'] at this; cases this) (fun h => HC46.out h.1))
                go_wp2_with (go_at_call 125; refine (digit_any _ _).mono ?_; rintro e w' ⟨rfl, rfl⟩)
                all_goals
                  try rw [Exit.noGoto_ret]
                  go_ret2
                  exact ⟨.inr ⟨rfl, HF.out⟩, HX.out.more _⟩
          · have hhi := (decode_high S i hp (by omega)).1
            have hnx : ∀ ty, (Instr.next (.pointer (some ⟨wo.heap.size, 0, none⟩)) true ty).run Tryz.prog (wo.iter S i) = _ := fun ty => run_next_any wo S i ty hp
            have HC := hid (congrArg UInt8.toNat hc)
            have HF := hid (fail_sign (count := count) (most := most) HL.out HU.out hp' (fun h => by unfold isDg at h; rw [← HC.out] at h; omega) (fun h => by have := HC.out; rw [h.1] at this; have e : (46 : UInt8).toNat = 46 := rfl; omega))
            generalize (Utf8.decode S i).1 = r at hnx hhi
            have hd' : digI (r : Int) = false := high_digI (by omega)
            have hc46 : ((r : Int) == 46) = false := by simp; omega
            clear hhi ha hc
            go_wp2_with (go_at_call 125; refine (digit_any _ _).mono ?_; rintro e w' ⟨rfl, rfl⟩)
            all_goals
              try rw [Exit.noGoto_ret]
              go_ret2
              exact ⟨.inr ⟨rfl, HF.out⟩, HX.out.more _⟩
        · have hnx : ∀ ty, (Instr.next (.pointer (some ⟨wo.heap.size, 0, none⟩)) true ty).run Tryz.prog (wo.iter S i) = _ := fun ty => run_next_end wo S i ty hp
          by_cases h0 : S.toList.isEmpty = true
          · have HF := hid (fail_empty (count := count) (most := most) (l := s.data.toList) (xs := xs) (by rw [HL.out, ← ByteArray.toList_eq, List.isEmpty_iff.1 h0]))
            go_wp2
            try rw [Exit.noGoto_ret]
            go_ret2
            exact ⟨.inr ⟨rfl, HF.out⟩, HX.out.more _⟩
          · have h0' : S.toList.isEmpty = false := by simpa using h0
            have HF := hid (step_end (count := count) (most := most) HL.out HU.out (by rw [size_list]; have := HIH.out; omega) (fun e => h0 (by rw [ByteArray.toList_eq, e]; rfl)) hlt HXM.out hnm)
            clear h0
            have HO2 := hid (show ((wo.iter S i).alloc (.cells #[.int .i64 (n : Int)] 3)).ownsRow w.heap.size 3 1 (.slice a xs.length c8) xs.length (numCells xs) from (HO.out.alloc _).alloc _)
            go_wp2_with (at_builtin; refine wpList_append_own _ rfl _ _ 98 rfl w.heap.size 3 i0 (.int .i64 0) 1 8 Tryz.underlying98 hi0 hz0 hz1 hz2 rfl (by decide) _ _ _ rfl HO2.out ⟨(wo.iter S i).heap.size, 0, none⟩ 1 1 [.int .i64 (n : Int)] rfl rfl ?c1 ?c2 ?c3 ?c4 ?c5 ?_)
            case c1 =>
              intro j u hj
              match j, hj with
              | 0, hj => simp at hj; subst hj; simp [Addr.add]
            case c2 => intro u hu; simp at hu; subst hu; rfl
            case c3 => unfold maxLen; omega
            case c4 => omega
            case c5 => have := HX.out.size; simp [World.iter]; omega
            intro v' w2 hown' hgrow _
            have HO' := hid (show w2.ownsRow w.heap.size 3 1 v' (xs ++ [n]).length (numCells (xs ++ [n])) by rw [numCells_snoc]; simpa using hown')
            have HX' := hid (show Ext w w2 from ((HX.out.more _).more _).grown hgrow (by have := HX.out.size; simp; omega) (fun k hk => (HO2.out.lt k hk).1))
            clear hown' hgrow
            go_wp2
            try rw [Exit.noGoto_ret]
            go_ret2
            exact ⟨.inl ⟨_, _, rfl, HF.out, HO'.out⟩, HX'.out⟩
    · have HF := hid (fail_many (most := most) HL.out (Nat.le_of_not_lt hlt))
      have hlt' : (count : Int) ≤ xs.length := by omega
      go_wp2
      try rw [Exit.noGoto_ret]
      go_ret2
      exact ⟨.inr ⟨rfl, HF.out⟩, HX.out⟩
end Go.Proofs.YtaodkfchmaendaaGreatDoor
