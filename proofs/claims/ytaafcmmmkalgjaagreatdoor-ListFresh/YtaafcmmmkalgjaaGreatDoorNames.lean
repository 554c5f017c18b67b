/-
  sign.numbers by a contract: it cuts out the numbers of a text, or says that the text is of none.
-/
import Derived.Test.YtaafcmmmkalgjaaGreatDoorCut
import Derived.Test.YtaafcmmmkalgjaaGreatDoorNums
import Derived.Lib.IndexBytes
import Derived.WalkMore
import Derived.Deep.LoopGhost
namespace Go.Proofs.YtaafcmmmkalgjaaGreatDoor
open Go.RowKit

def sliceLen : Value → Nat | .slice _ n _ => n | _ => 0
/-- Numbers as cells. -/
def numCells (xs : List Nat) : List Value := xs.map (fun (n : Nat) => Value.int .i64 (n : Int))
theorem numCells_len (xs : List Nat) : (numCells xs).length = xs.length := by simp [numCells]
theorem numCells_snoc (xs : List Nat) (n : Nat) : numCells (xs ++ [n]) = numCells xs ++ [.int .i64 (n : Int)] := by simp [numCells]
theorem digI_iff (c : UInt8) : digI (c.toNat : Int) = true ↔ isDg c := by
  unfold digI isDg; rw [decide_eq_true_iff]; omega
/-- What sign.numbers tells of a text. -/
def NumsTold (l : List UInt8) (count most : Nat) (base : Nat) (e : Ending) (w' : World) : Prop :=
  (∃ p v, e = .returned (.tuple #[v, .bool true]) ∧ NumsOf l count most p ∧ w'.ownsRow base 3 1 v p.length (numCells p)) ∨ (e = .returned (.tuple #[.slice none 0 0, .bool false]) ∧ ∀ p, ¬ NumsOf l count most p)
set_option maxRecDepth 100000 in
set_option maxHeartbeats 4000000 in
theorem numbers_any (s : ByteArray) (count most : Nat) (w : World) (hcnt : count ≤ 1000) (hmost : most ≤ 100000) (hb : s.size ≤ 140737488355328) :
    Calls Tryz.prog 148 #[.string s, .int .i64 count, .int .i64 most] w fun e w' => NumsTold s.data.toList count most w.heap.size e w' ∧ Ext w w' := by
  obtain ⟨i0, hi0, hz0, hz1, hz2⟩ := info_parts intInfo
  have hcnt' : (count : Int) ≤ 1000 := by omega
  have hmost' : (most : Int) ≤ 100000 := by omega
  go_enter Tryz.func148, Tryz.ntmps148
  go_wp2
  go_step3
  go_wp2
  go_step3
  go_wp2
  go_loopg [0, 8] count (fun g t0 t8 wr => ∃ (S : ByteArray) (xs : List Nat), t0 = .string S ∧ wr.ownsRow w.heap.size 3 1 t8 xs.length (numCells xs) ∧ s.data.toList = joinDot xs ++ S.data.toList ∧ xs.length + g = count ∧ (∀ x ∈ xs, x ≤ most) ∧ S.size ≤ 140737488355328 ∧ Ext w wr)
  case atStart => exact ⟨s, [], rfl, World.ownsRow_nil _ _ _ _, rfl, by simp, fun x h => absurd h (List.not_mem_nil), hb, Ext.refl _⟩
  case round =>
    obtain ⟨S, xs, rfl, hown, hl, hxc, hxm, hSb, hx⟩ := hrel
    obtain ⟨wo, rfl⟩ : ∃ wo, wo = wr := ⟨wr, rfl⟩
    obtain ⟨go, rfl⟩ : ∃ go, go = gk := ⟨gk, rfl⟩
    obtain ⟨a, c8, rfl⟩ := ownsRow_slice hown
    have HO := hid hown
    have HL := hid hl
    have HXM := hid hxm
    have HX := hid hx
    have HXC := hid hxc
    have hxs : (xs.length : Int) ≤ 1000 := by omega
    clear hown hl hxm hx
    by_cases hlt : xs.length < count
    · have hlt' : (xs.length : Int) < count := by omega
      clear hxc
      go_wp2
      go_loopg [0, 8, 9] S.size (fun h t0 t8 t9 wi => ∃ i n : Nat, t0 = .string S ∧ t8 = .slice a xs.length c8 ∧ t9 = .int .i64 n ∧ wi = wo.iter S i ∧ i + h = S.size ∧ Under S.data.toList i n ∧ n ≤ most)
      case atStart => exact ⟨0, 0, rfl, rfl, rfl, rfl, by simp, .inl ⟨rfl, rfl⟩, Nat.zero_le _⟩
      case round =>
        obtain ⟨i, n, rfl, rfl, rfl, rfl, hih, hu, hnm⟩ := hrel
        have HU := hid hu
        have HIH := hid hih
        have hn' : (n : Int) ≤ 100000 := by omega
        clear hu hih
        by_cases hp : i < S.size
        · obtain ⟨hp', hc⟩ := at_list S i hp
          have hi' : (i : Int) ≤ 140737488355328 := by omega
          by_cases ha : (S[i]'hp).toNat < 128
          · have hnx : ∀ ty, (Instr.next (.pointer (some ⟨wo.heap.size, 0, none⟩)) true ty).run Tryz.prog (wo.iter S i) = _ := fun ty => run_next_ascii wo S i ty hp ha
            have HC := hid (congrArg UInt8.toNat hc)
            generalize (S[i]'hp).toNat = c at hnx HC ha
            clear hc
            by_cases h46 : c = 46
            · subst h46
              have HC46 := hid (show S.data.toList[i] = 46 from UInt8.toNat_inj.1 HC.out.symm)
              by_cases hi0' : 0 < i
              · have hi1 : (0 : Int) < i := by omega
                have hi2 : (i : Int) + 1 ≤ S.size := by omega
                have HD := hid (step_dot HL.out HU.out hp' hi0' HC46.out)
                have HE := hid (Lib.extract_to_end S (i + 1))
                have HO2 := hid (show ((wo.iter S (i + 1)).alloc (.cells #[.int .i64 (n : Int)] 3)).ownsRow w.heap.size 3 1 (.slice a xs.length c8) xs.length (numCells xs) from (HO.out.alloc _).alloc _)
                go_wp2_with (at_builtin; refine wpList_append_own _ rfl _ _ 141 rfl w.heap.size 3 i0 (.int .i64 0) 1 8 Tryz.underlying141 hi0 hz0 hz1 hz2 rfl (by decide) _ _ _ rfl HO2.out ⟨(wo.iter S (i + 1)).heap.size, 0, none⟩ 1 1 [.int .i64 (n : Int)] rfl rfl ?c1 ?c2 ?c3 ?c4 ?c5 ?_)
                case c1 =>
                  intro j u hj
                  match j, hj with
                  | 0, hj => simp at hj; subst hj; simp [Addr.add]
                case c2 => intro u hu; simp at hu; subst hu; rfl
                case c3 => unfold maxLen; omega
                case c4 => omega
                case c5 => have := HX.out.size; simp [World.iter]; omega
                intro v' w2 hown' hgrow _
                have HO' := hid (show w2.ownsRow w.heap.size 3 1 v' (xs ++ [n]).length (numCells (xs ++ [n])) by rw [numCells_snoc]; simpa using hown')
                have HX' := hid (show Ext w w2 from ((HX.out.more _).more _).grown hgrow (by have := HX.out.size; simp; omega) (fun k hk => (HO2.out.lt k hk).1))
                clear hown' hgrow
                go_wp2
                go_roundg (count - (xs.length + 1))
                case measure => have := HXC.out; omega
                case rel => exact ⟨_, xs ++ [n], rfl, HO'.out, by rw [HE.out]; exact HD.out, by simp; omega, fun x hx => by
                    rcases List.mem_append.1 hx with h | h
                    · exact HXM.out x h
                    · simp at h; omega, by simp; omega, HX'.out⟩
              · have hz : i = 0 := by omega
                subst hz
                have hd' : digI (46 : Int) = false := by decide
                have HF := hid (fail_sign (count := count) (most := most) HL.out HU.out hp' (fun h => no46 h HC46.out) (by omega))
                go_wp2_with (go_at_call 145; refine (digit_any _ _).mono ?_; rintro e w' ⟨rfl, rfl⟩)
                try rw [Exit.noGoto_ret]
                go_ret2
                exact ⟨.inr ⟨rfl, HF.out⟩, HX.out.more _⟩
            · have hc46 : ((c : Int) == 46) = false := by simp; omega
              have HC46 := hid (show S.data.toList[i] ≠ 46 from fun e => h46 (by rw [HC.out, e]; rfl))
              clear h46
              by_cases hd : digI (c : Int) = true
              · have HDG := hid ((digI_iff S.data.toList[i]).1 (by rw [← HC.out]; exact hd))
                by_cases hi0' : 0 < i
                · have hi1 : (0 : Int) < i := by omega
                  by_cases hn0 : n = 0
                  · subst hn0
                    have HF := hid (fail_nought (count := count) (most := most) HL.out HU.out hp' hi0' HC46.out)
                    go_wp2_with (go_at_call 145; refine (digit_any _ _).mono ?_; rintro e w' ⟨rfl, rfl⟩)
                    try rw [Exit.noGoto_ret]
                    go_ret2
                    exact ⟨.inr ⟨rfl, HF.out⟩, HX.out.more _⟩
                  · have hn1 : ((n : Int) == 0) = false := by simp; omega
                    have hdd : 48 ≤ (c : Int) ∧ (c : Int) ≤ 57 := by unfold digI at hd; simpa using hd
                    obtain ⟨hd1, hd2⟩ := hdd
                    have HS := hid (show S.data.toList.take (i + 1) = Lib.decDigits (10 * n + (c - 48)) by
                      have := step_digit HU.out hp' HDG.out (fun h => hn0 h.2)
                      rw [← HC.out] at this
                      exact this)
                    by_cases hgr : most < 10 * n + (c - 48)
                    · have hgr' : (most : Int) < (n : Int) * 10 + ((c : Int) - 48) := by omega
                      have HF := hid (fail_great (count := count) HL.out hp' HS.out hgr)
                      go_wp2_with (go_at_call 145; refine (digit_any _ _).mono ?_; rintro e w' ⟨rfl, rfl⟩)
                      try rw [Exit.noGoto_ret]
                      go_ret2
                      exact ⟨.inr ⟨rfl, HF.out⟩, HX.out.more _⟩
                    · have hgr' : (n : Int) * 10 + ((c : Int) - 48) ≤ most := by omega
                      go_wp2_with (go_at_call 145; refine (digit_any _ _).mono ?_; rintro e w' ⟨rfl, rfl⟩)
                      go_roundg (S.size - (i + 1))
                      case measure => have := HIH.out; omega
                      case rel => exact ⟨i + 1, 10 * n + (c - 48), rfl, rfl, by first | rfl | (congr 1; omega), rfl, by omega, .inr ⟨by omega, HS.out⟩, by omega⟩
                · have hz : i = 0 := by omega
                  subst hz
                  have HN := hid (show n = 0 by
                    rcases HU.out with ⟨_, h⟩ | ⟨h, _⟩
                    · exact h
                    · omega)
                  have hn0 : ¬ (0 < 0 ∧ n = 0) := by omega
                  have hdd : 48 ≤ (c : Int) ∧ (c : Int) ≤ 57 := by unfold digI at hd; simpa using hd
                  obtain ⟨hd1, hd2⟩ := hdd
                  have HS := hid (show S.data.toList.take (0 + 1) = Lib.decDigits (10 * n + (c - 48)) by
                    have := step_digit HU.out hp' HDG.out hn0
                    rw [← HC.out] at this
                    exact this)
                  by_cases hgr : most < 10 * n + (c - 48)
                  · have hgr' : (most : Int) < (n : Int) * 10 + ((c : Int) - 48) := by omega
                    have HF := hid (fail_great (count := count) HL.out hp' HS.out hgr)
                    go_wp2_with (go_at_call 145; refine (digit_any _ _).mono ?_; rintro e w' ⟨rfl, rfl⟩)
                    try rw [Exit.noGoto_ret]
                    go_ret2
                    exact ⟨.inr ⟨rfl, HF.out⟩, HX.out.more _⟩
                  · have hgr' : (n : Int) * 10 + ((c : Int) - 48) ≤ most := by omega
                    go_wp2_with (go_at_call 145; refine (digit_any _ _).mono ?_; rintro e w' ⟨rfl, rfl⟩)
                    go_roundg (S.size - (0 + 1))
                    case measure => have := HIH.out; omega
                    case rel => exact ⟨0 + 1, 10 * n + (c - 48), rfl, rfl, by first | rfl | (congr 1; omega), rfl, by omega, .inr ⟨by omega, HS.out⟩, by omega⟩
              · have hd' : digI (c : Int) = false := by simpa using hd
                clear hd
                have HF := hid (fail_sign (count := count) (most := most) HL.out HU.out hp' (fun h => by have := (digI_iff _).2 h; rw [← HC.out, hd'] at this; cases this) (fun h => HC46.out h.1))
                go_wp2_with (go_at_call 145; refine (digit_any _ _).mono ?_; rintro e w' ⟨rfl, rfl⟩)
                all_goals
                  try rw [Exit.noGoto_ret]
                  go_ret2
                  exact ⟨.inr ⟨rfl, HF.out⟩, HX.out.more _⟩
          · have hhi := (decode_high S i hp (by omega)).1
            have hnx : ∀ ty, (Instr.next (.pointer (some ⟨wo.heap.size, 0, none⟩)) true ty).run Tryz.prog (wo.iter S i) = _ := fun ty => run_next_any wo S i ty hp
            have HC := hid (congrArg UInt8.toNat hc)
            have HF := hid (fail_sign (count := count) (most := most) HL.out HU.out hp' (fun h => by unfold isDg at h; rw [← HC.out] at h; omega) (fun h => by have := HC.out; rw [h.1] at this; have e : (46 : UInt8).toNat = 46 := rfl; omega))
            generalize (Utf8.decode S i).1 = r at hnx hhi
            have hd' : digI (r : Int) = false := high_digI (by omega)
            have hc46 : ((r : Int) == 46) = false := by simp; omega
            clear hhi ha hc
            go_wp2_with (go_at_call 145; refine (digit_any _ _).mono ?_; rintro e w' ⟨rfl, rfl⟩)
            all_goals
              try rw [Exit.noGoto_ret]
              go_ret2
              exact ⟨.inr ⟨rfl, HF.out⟩, HX.out.more _⟩
        · have hnx : ∀ ty, (Instr.next (.pointer (some ⟨wo.heap.size, 0, none⟩)) true ty).run Tryz.prog (wo.iter S i) = _ := fun ty => run_next_end wo S i ty hp
          by_cases h0 : S.toList.isEmpty = true
          · have HF := hid (fail_empty (count := count) (most := most) (l := s.data.toList) (xs := xs) (by rw [HL.out, ← ByteArray.toList_eq, List.isEmpty_iff.1 h0]))
            go_wp2
            try rw [Exit.noGoto_ret]
            go_ret2
            exact ⟨.inr ⟨rfl, HF.out⟩, HX.out.more _⟩
          · have h0' : S.toList.isEmpty = false := by simpa using h0
            have HF := hid (step_end (count := count) (most := most) HL.out HU.out (by rw [size_list]; have := HIH.out; omega) (fun e => h0 (by rw [ByteArray.toList_eq, e]; rfl)) hlt HXM.out hnm)
            clear h0
            have HO2 := hid (show ((wo.iter S i).alloc (.cells #[.int .i64 (n : Int)] 3)).ownsRow w.heap.size 3 1 (.slice a xs.length c8) xs.length (numCells xs) from (HO.out.alloc _).alloc _)
            go_wp2_with (at_builtin; refine wpList_append_own _ rfl _ _ 141 rfl w.heap.size 3 i0 (.int .i64 0) 1 8 Tryz.underlying141 hi0 hz0 hz1 hz2 rfl (by decide) _ _ _ rfl HO2.out ⟨(wo.iter S i).heap.size, 0, none⟩ 1 1 [.int .i64 (n : Int)] rfl rfl ?c1 ?c2 ?c3 ?c4 ?c5 ?_)
            case c1 =>
              intro j u hj
              match j, hj with
              | 0, hj => simp at hj; subst hj; simp [Addr.add]
            case c2 => intro u hu; simp at hu; subst hu; rfl
            case c3 => unfold maxLen; omega
            case c4 => omega
            case c5 => have := HX.out.size; simp [World.iter]; omega
            intro v' w2 hown' hgrow _
            have HO' := hid (show w2.ownsRow w.heap.size 3 1 v' (xs ++ [n]).length (numCells (xs ++ [n])) by rw [numCells_snoc]; simpa using hown')
            have HX' := hid (show Ext w w2 from ((HX.out.more _).more _).grown hgrow (by have := HX.out.size; simp; omega) (fun k hk => (HO2.out.lt k hk).1))
            clear hown' hgrow
            go_wp2
            try rw [Exit.noGoto_ret]
            go_ret2
            exact ⟨.inl ⟨_, _, rfl, HF.out, HO'.out⟩, HX'.out⟩
    · have HF := hid (fail_many (most := most) HL.out (Nat.le_of_not_lt hlt))
      have hlt' : (count : Int) ≤ xs.length := by omega
      go_wp2
      try rw [Exit.noGoto_ret]
      go_ret2
      exact ⟨.inr ⟨rfl, HF.out⟩, HX.out⟩
end Go.Proofs.YtaafcmmmkalgjaaGreatDoor
/-
  Plain mathematics: the texts of paths and places, and what they are the texts of.
-/
namespace Go.Proofs.YtaafcmmmkalgjaaGreatDoor
open Go.RowKit

def pathB (xs : List Int) : Bool := decide (xs.length ≤ 63) && xs.all (fun n => decide (0 ≤ n ∧ n ≤ 1022))
def nats (xs : List Int) : List Nat := xs.map Int.toNat
def ints (p : List Nat) : List Int := p.map (fun (n : Nat) => (n : Int))
theorem ints_len (p : List Nat) : (ints p).length = p.length := by simp [ints]
theorem nats_len (p : List Int) : (nats p).length = p.length := by simp [nats]
theorem numCells_ints (p : List Nat) : numCells p = (ints p).map (Value.int .i64) := by simp [numCells, ints]
theorem nats_ints (p : List Nat) : nats (ints p) = p := by simp [nats, ints, Function.comp_def]
theorem pathB_iff (xs : List Int) : pathB xs = true ↔ xs.length ≤ 63 ∧ ∀ n ∈ xs, 0 ≤ n ∧ n ≤ 1022 := by
  simp [pathB]
theorem ints_nats {xs : List Int} (h : pathB xs = true) : ints (nats xs) = xs := by
  have h2 := ((pathB_iff xs).1 h).2
  unfold ints nats
  rw [List.map_map]
  conv => rhs; rw [← List.map_id xs]
  refine List.map_congr_left (fun n hn => ?_)
  have := h2 n hn
  show ((n.toNat : Nat) : Int) = n
  omega
theorem pathB_ints (p : List Nat) : pathB (ints p) = true ↔ p.length ≤ 63 ∧ ∀ x ∈ p, x ≤ 1022 := by
  rw [pathB_iff, ints_len]
  unfold ints
  constructor
  · rintro ⟨h1, h2⟩
    exact ⟨h1, fun x hx => by have := (h2 x (List.mem_map.2 ⟨x, hx, rfl⟩)).2; omega⟩
  · rintro ⟨h1, h2⟩
    refine ⟨h1, fun n hn => ?_⟩
    obtain ⟨x, hx, rfl⟩ := List.mem_map.1 hn
    have := h2 x hx
    omega
/-- A path's text. -/
def pathText (p : List Nat) : List UInt8 := if p = [] then [45] else joinP p
/-- Of which path a text is. -/
def PathOf (l : List UInt8) (p : List Nat) : Prop := pathB (ints p) = true ∧ pathText p = l
theorem joinP_signs : ∀ (p : List Nat), ∀ c ∈ joinP p, isDg c ∨ c = 46
  | [], c, h => absurd h (by simp [joinP])
  | [x], c, h => .inl (dd_digits x c h)
  | x :: y :: r, c, h => by
    rcases List.mem_append.1 h with h | h
    · exact .inl (dd_digits x c h)
    · rcases List.mem_cons.1 h with h | h
      · exact .inr h
      · exact joinP_signs (y :: r) c h
theorem joinP_not45 {p : List Nat} : joinP p ≠ [45] := fun h => by
  rcases joinP_signs p 45 (by rw [h]; simp) with h | h
  · unfold isDg at h
    have e : (45 : UInt8).toNat = 45 := rfl
    omega
  · exact absurd h (by decide)
theorem pathText_no58 (p : List Nat) : (58 : UInt8) ∉ pathText p := fun h => by
  unfold pathText at h
  split at h
  · exact absurd h (by decide)
  · rcases joinP_signs p _ h with h | h
    · unfold isDg at h
      have e : (58 : UInt8).toNat = 58 := rfl
      omega
    · exact absurd h (by decide)
theorem pathOf_nums {l : List UInt8} {p : List Nat} (h : NumsOf l 63 1022 p) : PathOf l p :=
  ⟨(pathB_ints p).2 ⟨h.2.2.1, h.2.2.2⟩, by unfold pathText; rw [if_neg h.1]; exact h.2.1⟩
theorem pathOf_none : PathOf [45] [] := ⟨rfl, rfl⟩
theorem nums_pathOf {l : List UInt8} {p : List Nat} (h : PathOf l p) (hl : l ≠ [45]) : NumsOf l 63 1022 p := by
  obtain ⟨h1, h2⟩ := h
  have h3 := (pathB_ints p).1 h1
  have hp : p ≠ [] := fun e => hl (by rw [← h2, e]; rfl)
  unfold pathText at h2
  rw [if_neg hp] at h2
  exact ⟨hp, h2, h3.1, h3.2⟩
theorem PathOf.one {l : List UInt8} {p q : List Nat} (hp : PathOf l p) (hq : PathOf l q) : p = q := by
  by_cases hl : l = [45]
  · have key : ∀ p, PathOf l p → p = [] := fun p hp => by
      by_cases e : p = []
      · exact e
      · have := hp.2
        unfold pathText at this
        rw [if_neg e, hl] at this
        exact absurd this joinP_not45
    rw [key p hp, key q hq]
  · exact (nums_pathOf hp hl).one (nums_pathOf hq hl)

/-- A place's text; of which place a text is. -/
def placeText (f : List UInt8) (p : List Nat) : List UInt8 := if f = [] then pathText p else f ++ 58 :: pathText p
def nameB (f : List UInt8) : Bool := speltB nameI 32 f
def placeB (f : List UInt8) (xs : List Int) : Bool := (f.isEmpty || nameB f) && pathB xs
def PlaceOf (l f : List UInt8) (p : List Nat) : Prop := placeB f (ints p) = true ∧ placeText f p = l
theorem nameB_no {c : UInt8} (hc : nameI (c.toNat : Int) = false) {f : List UInt8} (h : nameB f = true) : c ∉ f := fun hm => by
  obtain ⟨k, hk, e⟩ := List.getElem_of_mem hm
  have := speltB_bad (f := nameI) (m := 32) (l := f) hk (by rw [e]; exact hc)
  unfold nameB at h
  rw [this] at h
  cases h
theorem no58_name {f : List UInt8} (h : nameB f = true) : (58 : UInt8) ∉ f := nameB_no (by decide) h
theorem split58 : ∀ {a a' b b' : List UInt8} {c : UInt8}, c ∉ a → c ∉ a' → a ++ c :: b = a' ++ c :: b' → a = a' ∧ b = b'
  | [], [], _, _, _, _, _, h => ⟨rfl, (List.cons.inj h).2⟩
  | [], x :: a', _, _, _, _, h2, h => absurd (List.cons.inj h).1 (fun e => h2 (by simp [e]))
  | x :: a, [], _, _, _, h1, _, h => absurd (List.cons.inj h).1 (fun e => h1 (by simp [← e]))
  | x :: a, y :: a', b, b', c, h1, h2, h => by
    have hc := List.cons.inj h
    have := split58 (fun m => h1 (List.mem_cons_of_mem _ m)) (fun m => h2 (List.mem_cons_of_mem _ m)) hc.2
    exact ⟨by rw [hc.1, this.1], this.2⟩
theorem placeOf_path {l f : List UInt8} {p : List Nat} (h : PlaceOf l f p) (h58 : (58 : UInt8) ∉ l) : f = [] ∧ PathOf l p := by
  obtain ⟨h1, h2⟩ := h
  unfold placeText at h2
  by_cases e : f = []
  · rw [if_pos e] at h2
    unfold placeB at h1
    simp only [Bool.and_eq_true] at h1
    exact ⟨e, h1.2, h2⟩
  · rw [if_neg e] at h2
    exact absurd (by rw [← h2]; simp) h58
theorem path_placeOf {l : List UInt8} {p : List Nat} (h : PathOf l p) : PlaceOf l [] p := ⟨by unfold placeB; rw [h.1]; rfl, by unfold placeText; rw [if_pos rfl]; exact h.2⟩
theorem placeOf_fun {pre post f : List UInt8} {p : List Nat} (h : PlaceOf (pre ++ 58 :: post) f p) (h58 : (58 : UInt8) ∉ pre) : f = pre ∧ nameB pre = true ∧ PathOf post p := by
  obtain ⟨h1, h2⟩ := h
  unfold placeText at h2
  unfold placeB at h1
  simp only [Bool.and_eq_true, Bool.or_eq_true, List.isEmpty_iff] at h1
  by_cases e : f = []
  · rw [if_pos e] at h2
    exact absurd (by rw [h2]; simp) (pathText_no58 p)
  · rw [if_neg e] at h2
    have hn : nameB f = true := h1.1.resolve_left e
    obtain ⟨e1, e2⟩ := split58 (no58_name hn) h58 h2
    exact ⟨e1, e1 ▸ hn, h1.2, e2⟩
theorem fun_placeOf {pre post : List UInt8} {p : List Nat} (hn : nameB pre = true) (h : PathOf post p) : PlaceOf (pre ++ 58 :: post) pre p := by
  have e : pre ≠ [] := fun e => by rw [e] at hn; cases hn
  exact ⟨by unfold placeB; rw [h.1, hn]; simp, by unfold placeText; rw [if_neg e, h.2]⟩
theorem PlaceOf.one {l f g : List UInt8} {p q : List Nat} (h : PlaceOf l f p) (k : PlaceOf l g q) : f = g ∧ p = q := by
  rcases parts_of l 58 with h58 | ⟨pre, post, rfl, h58⟩
  · obtain ⟨e1, h1⟩ := placeOf_path h h58
    obtain ⟨e2, h2⟩ := placeOf_path k h58
    exact ⟨e1.trans e2.symm, h1.one h2⟩
  · obtain ⟨e1, _, h1⟩ := placeOf_fun h h58
    obtain ⟨e2, _, h2⟩ := placeOf_fun k h58
    exact ⟨e1.trans e2.symm, h1.one h2⟩
theorem dd_le (u : Nat) : (Lib.decDigits u).length ≤ u + 1 := by
  induction u using Nat.strongRecOn with
  | _ u ih =>
    by_cases h : u < 10
    · rw [dd_small h]; simp
    · rw [dd_big h]
      have := ih (u / 10) (by omega)
      simp
      omega
theorem joinP_le : ∀ (p : List Nat), (∀ x ∈ p, x ≤ 1022) → (joinP p).length ≤ 1024 * p.length
  | [], _ => by simp [joinP]
  | [x], h => by have := dd_le x; have := h x (by simp); simp [joinP]; omega
  | x :: y :: r, h => by
    have h1 := dd_le x
    have h2 := h x (by simp)
    have h3 := joinP_le (y :: r) (fun z hz => h z (List.mem_cons_of_mem _ hz))
    simp only [joinP, List.length_append, List.length_cons] at h3 ⊢
    omega
theorem pathText_le {p : List Nat} (h : pathB (ints p) = true) : (pathText p).length ≤ 64512 := by
  have h3 := (pathB_ints p).1 h
  unfold pathText
  split
  · decide
  · have := joinP_le p h3.2
    omega
end Go.Proofs.YtaafcmmmkalgjaaGreatDoor
/-
  sign.path, sign.ReadPath, sign.Use, sign.ReadPlace, each by a contract.
-/
namespace Go.Proofs.YtaafcmmmkalgjaaGreatDoor
open Go.RowKit

theorem pathB_long {xs : List Int} (h : 63 < xs.length) : pathB xs = false := by
  have : decide (xs.length ≤ 63) = false := by simp; omega
  simp [pathB, this]
theorem pathB_bad {xs : List Int} {k : Nat} (h : k < xs.length) (hb : ¬ (0 ≤ xs[k] ∧ xs[k] ≤ 1022)) : pathB xs = false := by
  rw [Bool.eq_false_iff]
  intro hp
  exact hb (((pathB_iff xs).1 hp).2 _ (List.getElem_mem h))
/-- What sign.ReadPath tells of a text. -/
def PathTold (l : List UInt8) (base : Nat) (e : Ending) (w' : World) : Prop :=
  (∃ p v, e = .returned (.tuple #[v, .int .i64 0]) ∧ PathOf l p ∧ w'.ownsRow base 3 1 v p.length (numCells p)) ∨ (e = .returned (.tuple #[.slice none 0 0, .int .i64 5]) ∧ ∀ p, ¬ PathOf l p)
theorem minus_iff (s : ByteArray) : s.toList = [45] ↔ s.data.toList = [45] := by rw [ByteArray.toList_eq]
theorem name_list (l : List UInt8) (w : World) : Calls Tryz.prog 121 #[.string ⟨l.toArray⟩] w fun e w' => e = .returned (.bool (nameB l)) ∧ Ext w w' := by
  have := name_any ⟨l.toArray⟩ w
  unfold nameB
  simpa using this
/-- Whether a variable may be used by a text. -/
def useB (l : List UInt8) : Prop := nameB l = true ∨ ∃ n, 1 ≤ n ∧ n ≤ 64 ∧ l = Lib.decDigits n
theorem one_of {l : List UInt8} {m : Nat} {p : List Nat} (h : NumsOf l 1 m p) : ∃ n, p = [n] ∧ n ≤ m ∧ l = Lib.decDigits n := by
  obtain ⟨h1, h2, h3, h4⟩ := h
  match p, h1 with
  | [n], _ => exact ⟨n, rfl, h4 n (by simp), h2.symm⟩
  | _ :: _ :: _, _ => simp at h3
theorem row_one {w : World} {base : Nat} {e : TypeId} {v x : Value} (h : w.ownsRow base e 1 v 1 [x]) : ∃ g cap, v = .slice (some ⟨g, 0, none⟩) 1 cap ∧ w.cell? ⟨g, 0, none⟩ = some x := by
  rcases h.2 with ⟨_, h0⟩ | ⟨g, cap, cur, rfl, _, hb, h1, h2, h3, h4⟩
  · cases h0
  · refine ⟨g, cap, rfl, cell_of hb ?_⟩
    have e0 : (cur.toList.take (1 * 1))[0]? = some x := by rw [h4]; rfl
    rw [List.getElem?_take_of_lt (by omega)] at e0
    simpa using e0
set_option maxRecDepth 100000 in
theorem use_any (s : ByteArray) (w : World) (hb : s.size ≤ 140737488355328) :
    Calls Tryz.prog 120 #[.string s] w fun e w' => ((e = .returned (.bool true) ∧ useB s.data.toList) ∨ (e = .returned (.bool false) ∧ ¬ useB s.data.toList)) ∧ Ext w w' := by
  have hna : ∀ w, Calls Tryz.prog 121 #[.string s] w fun e w' => e = .returned (.bool (nameB s.data.toList)) ∧ Ext w w' := fun w => name_any s w
  have HNA := hid hna
  clear hna
  by_cases hn : nameB s.data.toList = true
  · have HN := hid hn
    go_enter Tryz.func120, Tryz.ntmps120
    go_wp2_with fail
    refine (HNA.out _).mono ?_
    rintro e w1 ⟨rfl, hx⟩
    go_wp2
    go_ret
    exact ⟨.inl ⟨rfl, .inl HN.out⟩, hx⟩
  · have hn' : nameB s.data.toList = false := by simpa using hn
    have HN := hid hn
    clear hn
    go_enter Tryz.func120, Tryz.ntmps120
    go_wp2_with fail
    refine (HNA.out _).mono ?_
    rintro e w1 ⟨rfl, hx⟩
    have HX := hid hx
    clear hx
    go_wp2_with fail
    refine (numbers_any s 1 64 _ (by decide) (by decide) hb).mono ?_
    rintro e w2 ⟨he, hx⟩
    have HX2 := hid (HX.out.trans hx)
    clear hx
    rcases he with ⟨p, v, rfl, hp, ho⟩ | ⟨rfl, hp⟩
    · obtain ⟨n, rfl, hle, hl⟩ := one_of hp
      obtain ⟨g, cap, rfl, hc⟩ := row_one ho
      have HL := hid hl
      clear ho hp hl
      by_cases h0 : n = 0
      · subst h0
        go_wp2
        go_ret
        refine ⟨.inr ⟨rfl, ?_⟩, HX2.out⟩
        rintro (h | ⟨m, h1, h2, h3⟩)
        · exact HN.out h
        · have := dd_inj (HL.out.symm.trans h3)
          omega
      · have h1 : (0 : Int) < n := by omega
        go_wp2
        go_ret
        exact ⟨.inl ⟨ret_bool (by simp only [decide_eq_true_eq]; omega), .inr ⟨n, by omega, hle, HL.out⟩⟩, HX2.out⟩
    · have HP := hid hp
      clear hp
      go_wp2
      go_ret
      refine ⟨.inr ⟨rfl, ?_⟩, HX2.out⟩
      rintro (h | ⟨m, h1, h2, h3⟩)
      · exact HN.out h
      · exact HP.out [m] ⟨by simp, h3.symm, by simp, by simpa using h2⟩
end Go.Proofs.YtaafcmmmkalgjaaGreatDoor
/-
  sign.Names by a contract: it cuts names where blanks stand, or says that the text is of none.
-/
namespace Go.Proofs.YtaafcmmmkalgjaaGreatDoor
open Go.RowKit

def joinS : List (List UInt8) → List UInt8
  | [] => []
  | [x] => x
  | x :: y :: r => x ++ 32 :: joinS (y :: r)
def joinSp : List (List UInt8) → List UInt8
  | [] => []
  | x :: r => x ++ 32 :: joinSp r
theorem joinSp_snoc (xs : List (List UInt8)) (n : List UInt8) : joinSp (xs ++ [n]) = joinSp xs ++ (n ++ [32]) := by
  induction xs with
  | nil => simp [joinSp]
  | cons x xs ih => simp [joinSp, ih]
theorem joinSp_len (xs : List (List UInt8)) : xs.length ≤ (joinSp xs).length := by
  induction xs with
  | nil => simp
  | cons x xs ih => simp [joinSp]; omega
theorem joinS_append (xs p : List (List UInt8)) (hp : p ≠ []) : joinS (xs ++ p) = joinSp xs ++ joinS p := by
  induction xs with
  | nil => rfl
  | cons x xs ih =>
    obtain ⟨y, r, e⟩ : ∃ y r, xs ++ p = y :: r := by
      cases h : xs ++ p with
      | nil => exact absurd (List.append_eq_nil_iff.1 h).2 hp
      | cons y r => exact ⟨y, r, rfl⟩
    show joinS (x :: (xs ++ p)) = _
    rw [e]
    show x ++ 32 :: joinS (y :: r) = _
    rw [← e, ih]
    simp [joinSp]
theorem joinS_head (p : List (List UInt8)) (hp : p ≠ []) : ∃ y r tail, p = y :: r ∧ joinS p = y ++ tail ∧ ((tail = [] ∧ r = []) ∨ (r ≠ [] ∧ tail = 32 :: joinS r)) := by
  match p, hp with
  | [x], _ => exact ⟨x, [], [], rfl, by simp [joinS], .inl ⟨rfl, rfl⟩⟩
  | x :: y :: r, _ => exact ⟨x, y :: r, _, rfl, rfl, .inr ⟨by simp, rfl⟩⟩
theorem joinS_begins : ∀ (xs p : List (List UInt8)) (rest : List UInt8), p ≠ [] → (∀ x ∈ xs, (32 : UInt8) ∉ x) → (∀ x ∈ p, (32 : UInt8) ∉ x) → joinS p = joinSp xs ++ rest → ∃ p', p = xs ++ p' ∧ p' ≠ [] ∧ joinS p' = rest
  | [], p, rest, hp, _, _, h => ⟨p, rfl, hp, h⟩
  | x :: xs, p, rest, hp, hx, hy, h => by
    obtain ⟨y, r, tail, rfl, hj, ht⟩ := joinS_head p hp
    rw [hj] at h
    have h' : y ++ tail = x ++ 32 :: (joinSp xs ++ rest) := by rw [h]; simp [joinSp]
    rcases ht with ⟨rfl, rfl⟩ | ⟨hr, rfl⟩
    · exfalso
      rw [List.append_nil] at h'
      exact hy y (by simp) (by rw [h']; simp)
    · obtain ⟨e1, e2⟩ := split58 (hy y (by simp)) (hx x (by simp)) h'
      obtain ⟨p', rfl, hp', hq⟩ := joinS_begins xs r rest hr (fun z hz => hx z (List.mem_cons_of_mem _ hz)) (fun z hz => hy z (List.mem_cons_of_mem _ hz)) e2
      exact ⟨p', by rw [e1]; rfl, hp', hq⟩
theorem no32_name {f : List UInt8} (h : nameB f = true) : (32 : UInt8) ∉ f := nameB_no (by decide) h
/-- The names that a text is of. -/
def NamesOf (l : List UInt8) (ns : List (List UInt8)) : Prop := (l = [] ∧ ns = []) ∨ (ns ≠ [] ∧ joinS ns = l ∧ ∀ n ∈ ns, nameB n = true)
theorem names_first {l : List UInt8} {xs : List (List UInt8)} {rest : List UInt8} (h0 : l ≠ []) (hl : l = joinSp xs ++ rest) (hx : ∀ n ∈ xs, nameB n = true) {ns : List (List UInt8)} (hn : NamesOf l ns) :
    ∃ y r tail, rest = y ++ tail ∧ nameB y = true ∧ (tail = [] ∨ ∃ t, tail = 32 :: t) ∧ ns = xs ++ y :: r := by
  rcases hn with ⟨h, _⟩ | ⟨h1, h2, h3⟩
  · exact absurd h h0
  obtain ⟨p', rfl, hp', hj⟩ := joinS_begins xs ns rest h1 (fun x h => no32_name (hx x h)) (fun x h => no32_name (h3 x h)) (h2.trans hl)
  obtain ⟨y, r, tail, rfl, hh, ht⟩ := joinS_head p' hp'
  refine ⟨y, r, tail, hj.symm.trans hh, h3 y (by simp), ?_, rfl⟩
  rcases ht with ⟨h, _⟩ | ⟨_, h⟩
  · exact .inl h
  · exact .inr ⟨_, h⟩
theorem names_fail_last {l : List UInt8} {xs : List (List UInt8)} {rest : List UInt8} (h0 : l ≠ []) (hl : l = joinSp xs ++ rest) (hx : ∀ n ∈ xs, nameB n = true) (hr : (32 : UInt8) ∉ rest) (hb : nameB rest = false) : ∀ ns, ¬ NamesOf l ns := fun ns hn => by
  obtain ⟨y, r, tail, rfl, hy, ht, _⟩ := names_first h0 hl hx hn
  rcases ht with rfl | ⟨t, rfl⟩
  · rw [List.append_nil] at hb; rw [hy] at hb; cases hb
  · exact hr (by simp)
theorem names_fail {l : List UInt8} {xs : List (List UInt8)} {pre post : List UInt8} (h0 : l ≠ []) (hl : l = joinSp xs ++ (pre ++ 32 :: post)) (hx : ∀ n ∈ xs, nameB n = true) (hr : (32 : UInt8) ∉ pre) (hb : nameB pre = false) : ∀ ns, ¬ NamesOf l ns := fun ns hn => by
  obtain ⟨y, r, tail, e, hy, ht, _⟩ := names_first h0 hl hx hn
  rcases ht with rfl | ⟨t, rfl⟩
  · rw [List.append_nil] at e; exact no32_name hy (by rw [← e]; simp)
  · obtain ⟨e1, _⟩ := split58 hr (no32_name hy) e
    rw [e1, hy] at hb; cases hb
theorem NamesOf.one {l : List UInt8} {p q : List (List UInt8)} (hp : NamesOf l p) (hq : NamesOf l q) : p = q := by
  by_cases h0 : l = []
  · have key : ∀ p, NamesOf l p → p = [] := fun p hp => by
      rcases hp with ⟨_, h⟩ | ⟨h1, h2, h3⟩
      · exact h
      · exfalso
        obtain ⟨y, r, tail, rfl, hh, _⟩ := joinS_head p h1
        rw [h2, h0] at hh
        have hy := h3 y (by simp)
        rw [(List.append_eq_nil_iff.1 hh.symm).1] at hy
        cases hy
    rw [key p hp, key q hq]
  · have hp' : p ≠ [] ∧ joinS p = l ∧ ∀ n ∈ p, nameB n = true := hp.resolve_left (fun h => h0 h.1)
    obtain ⟨p1, x, rfl⟩ : ∃ p1 x, p = p1 ++ [x] := ⟨p.dropLast, p.getLast hp'.1, (List.dropLast_concat_getLast hp'.1).symm⟩
    have hl : l = joinSp p1 ++ x := by rw [← hp'.2.1, joinS_append _ _ (by simp)]; rfl
    obtain ⟨y, r, tail, rfl, hy, ht, rfl⟩ := names_first h0 hl (fun n hn => hp'.2.2 n (by simp [hn])) hq
    rcases ht with rfl | ⟨t, rfl⟩
    · rw [List.append_nil] at hl ⊢
      have hq' : joinS (p1 ++ y :: r) = l := (hq.resolve_left (fun h => h0 h.1)).2.1
      rw [joinS_append _ _ (by simp), hl] at hq'
      have e := List.append_cancel_left hq'
      cases r with
      | nil => rfl
      | cons z r =>
        have e' : y ++ 32 :: joinS (z :: r) = y := e
        have := congrArg List.length e'
        simp at this
    · exact absurd (hp'.2.2 (y ++ 32 :: t) (by simp)) (fun h => no32_name h (by simp))

abbrev strV (l : List UInt8) : Value := .string ⟨l.toArray⟩
def strCells' (ns : List (List UInt8)) : List Value := ns.map strV
theorem strCells'_snoc (xs : List (List UInt8)) (n : List UInt8) : strCells' (xs ++ [n]) = strCells' xs ++ [strV n] := by simp [strCells']
/-- What sign.Names tells of a text. -/
def NamesTold (l : List UInt8) (base : Nat) (e : Ending) (w' : World) : Prop :=
  (∃ ns v, e = .returned (.tuple #[v, .bool true]) ∧ NamesOf l ns ∧ w'.ownsRow base 9 1 v ns.length (strCells' ns)) ∨ (e = .returned (.tuple #[.slice none 0 0, .bool false]) ∧ ∀ ns, ¬ NamesOf l ns)
set_option maxRecDepth 100000 in
set_option maxHeartbeats 4000000 in
theorem names_any (l : List UInt8) (w : World) (hb : l.length ≤ 1099511627776) :
    Calls Tryz.prog 122 #[.string ⟨l.toArray⟩] w fun e w' => NamesTold l w.heap.size e w' ∧ Ext w w' := by
  obtain ⟨i0, hi0, hz0, hz1, hz2⟩ := info_parts strInfo
  by_cases h0 : l = []
  · subst h0
    go_enter Tryz.func122, Tryz.ntmps122
    go_wp2
    refine wp_loop_rounds 1 ?_
    rw [rounds_succ]
    go_wp2
    go_ret2
    exact ⟨.inl ⟨[], _, rfl, .inl ⟨rfl, rfl⟩, World.ownsRow_nil _ _ _ _⟩, Ext.refl _⟩
  have he : l.isEmpty = false := by
    cases l with
    | nil => exact absurd rfl h0
    | cons x l => rfl
  have H0 := hid h0
  clear h0
  go_enter Tryz.func122, Tryz.ntmps122
  go_wp2
  go_loopg [0, 4, 5] (l.length + 1) (fun g t0 t4 t5 wr => ∃ (rest : List UInt8) (xs : List (List UInt8)) (more : Bool), t0 = strV rest ∧ t5 = .bool more ∧ wr.ownsRow w.heap.size 9 1 t4 xs.length (strCells' xs) ∧ Ext w wr ∧
    ((more = true ∧ l = joinSp xs ++ rest ∧ (∀ n ∈ xs, nameB n = true) ∧ g = rest.length + 1) ∨ (more = false ∧ NamesOf l xs)))
  case atStart => exact ⟨l, [], true, rfl, rfl, World.ownsRow_nil _ _ _ _, Ext.refl _, .inl ⟨rfl, rfl, fun n h => absurd h (List.not_mem_nil), rfl⟩⟩
  case round =>
    obtain ⟨rest, xs, more, rfl, rfl, hown, hx, hm⟩ := hrel
    obtain ⟨a, c4, rfl⟩ := ownsRow_slice hown
    have HO := hid hown
    have HX := hid hx
    clear hown hx
    rcases hm with ⟨rfl, hl, hxm, hg⟩ | ⟨rfl, hn⟩
    · have hlen := congrArg List.length hl
      rw [List.length_append] at hlen
      have hxl := joinSp_len xs
      have hxb : (xs.length : Int) ≤ 1099511627776 := by omega
      have hrb : (⟨rest.toArray⟩ : ByteArray).size ≤ 140737488355328 := by show rest.toArray.size ≤ _; simp; omega
      have HL := hid hl
      have HXM := hid hxm
      have HG := hid hg
      have HLN := hid hlen
      clear hl hxm hlen hg
      rcases parts_of rest 32 with h32 | ⟨pre, post, hr, h32⟩
      · have H32 := hid h32
        clear h32
        go_wp2_with fail
        refine (cut_none ⟨rest.toArray⟩ 32 _ (by simpa using H32.out)).mono ?_
        rintro e w1 ⟨rfl, hx1⟩
        have HX1 := hid (HX.out.trans hx1)
        have HO1 := hid (row_ext HO.out hx1)
        clear hx1
        go_wp2_with fail
        refine (name_list rest _).mono ?_
        rintro e w2 ⟨rfl, hx2⟩
        have HX2 := hid (HX1.out.trans hx2)
        have HO2 := hid (show (w2.alloc (.cells #[strV rest] 9)).ownsRow w.heap.size 9 1 (.slice a xs.length c4) xs.length (strCells' xs) from (row_ext HO1.out hx2).alloc _)
        clear hx2
        by_cases hn : nameB rest = true
        · go_wp2_with (at_builtin; refine wpList_append_own _ rfl _ _ 100 rfl w.heap.size 9 i0 (.string ⟨#[]⟩) 1 16 Tryz.underlying100 hi0 hz0 hz1 hz2 rfl (by decide) _ _ _ rfl HO2.out ⟨w2.heap.size, 0, none⟩ 1 1 [strV rest] rfl rfl ?c1 ?c2 ?c3 ?c4 ?c5 ?_)
          case c1 =>
            intro j u hj
            match j, hj with
            | 0, hj => simp at hj; subst hj; simp [Addr.add]
          case c2 => intro u hu; simp at hu; subst hu; rfl
          case c3 => unfold maxLen; omega
          case c4 => omega
          case c5 => have := HX2.out.size; simp; omega
          intro v' w3 hown' hgrow _
          have HO' := hid (show w3.ownsRow w.heap.size 9 1 v' (xs ++ [rest]).length (strCells' (xs ++ [rest])) by rw [strCells'_snoc]; simpa using hown')
          have HX' := hid (show Ext w w3 from (HX2.out.more _).grown hgrow (by have := HX2.out.size; simp; omega) (fun k hk => (HO2.out.lt k hk).1))
          clear hown' hgrow
          go_wp2
          go_roundg 0
          case measure => have := HG.out; omega
          case rel => exact ⟨[], xs ++ [rest], false, rfl, rfl, HO'.out, HX'.out, .inr ⟨rfl, .inr ⟨by simp, by rw [joinS_append _ _ (by simp), HL.out]; rfl, fun n h => by
              rcases List.mem_append.1 h with h | h
              · exact HXM.out n h
              · simp at h; rw [h]; exact hn⟩⟩⟩
        · have hn' : nameB rest = false := by simpa using hn
          have HF := hid (names_fail_last H0.out HL.out HXM.out H32.out hn')
          clear hn
          go_wp2
          go_ret2
          exact ⟨.inr ⟨rfl, HF.out⟩, HX2.out⟩
      · have H32 := hid h32
        have HR := hid hr
        clear h32 hr
        go_wp2_with fail
        refine (cut_found ⟨rest.toArray⟩ 32 pre post _ (by simpa using HR.out) H32.out hrb).mono ?_
        rintro e w1 ⟨rfl, hx1⟩
        have HX1 := hid (HX.out.trans hx1)
        have HO1 := hid (row_ext HO.out hx1)
        clear hx1
        go_wp2_with fail
        refine (name_list pre _).mono ?_
        rintro e w2 ⟨rfl, hx2⟩
        have HX2 := hid (HX1.out.trans hx2)
        have HO2 := hid (show (w2.alloc (.cells #[strV pre] 9)).ownsRow w.heap.size 9 1 (.slice a xs.length c4) xs.length (strCells' xs) from (row_ext HO1.out hx2).alloc _)
        clear hx2
        by_cases hn : nameB pre = true
        · go_wp2_with (at_builtin; refine wpList_append_own _ rfl _ _ 100 rfl w.heap.size 9 i0 (.string ⟨#[]⟩) 1 16 Tryz.underlying100 hi0 hz0 hz1 hz2 rfl (by decide) _ _ _ rfl HO2.out ⟨w2.heap.size, 0, none⟩ 1 1 [strV pre] rfl rfl ?c1 ?c2 ?c3 ?c4 ?c5 ?_)
          case c1 =>
            intro j u hj
            match j, hj with
            | 0, hj => simp at hj; subst hj; simp [Addr.add]
          case c2 => intro u hu; simp at hu; subst hu; rfl
          case c3 => unfold maxLen; omega
          case c4 => omega
          case c5 => have := HX2.out.size; simp; omega
          intro v' w3 hown' hgrow _
          have HO' := hid (show w3.ownsRow w.heap.size 9 1 v' (xs ++ [pre]).length (strCells' (xs ++ [pre])) by rw [strCells'_snoc]; simpa using hown')
          have HX' := hid (show Ext w w3 from (HX2.out.more _).grown hgrow (by have := HX2.out.size; simp; omega) (fun k hk => (HO2.out.lt k hk).1))
          clear hown' hgrow
          go_wp2
          go_roundg (post.length + 1)
          case measure => have := HG.out; rw [HR.out] at this; simp at this; omega
          case rel => exact ⟨post, xs ++ [pre], true, rfl, rfl, HO'.out, HX'.out, .inl ⟨rfl, by rw [joinSp_snoc, HL.out, HR.out]; simp, fun n h => by
              rcases List.mem_append.1 h with h | h
              · exact HXM.out n h
              · simp at h; rw [h]; exact hn, rfl⟩⟩
        · have hn' : nameB pre = false := by simpa using hn
          have HF := hid (names_fail H0.out (by rw [← HR.out]; exact HL.out) HXM.out H32.out hn')
          clear hn
          go_wp2
          go_ret2
          exact ⟨.inr ⟨rfl, HF.out⟩, HX2.out⟩
    · have HN := hid hn
      clear hn
      go_wp2
      go_ret2
      exact ⟨.inl ⟨xs, _, rfl, HN.out, HO.out⟩, HX.out⟩
end Go.Proofs.YtaafcmmmkalgjaaGreatDoor
